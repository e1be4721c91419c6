import Derived.Test.YtjjbgbadkbomlaaDoorCSW2
import Derived.Test.YtjjbgbadkbomlaaDoorCSP4
namespace Go.Proofs.YtjjbgbadkbomlaaDoor
open Go.RowKit Go.Maps
set_option linter.unusedVariables false
set_option linter.unusedSimpArgs false

/-- what a prog's gatherer leaves -/
def TakeC (B nb no nc : Nat) (l : List Nd) (W0 : World) (G0 : WG) (m n : Nat) : Prop := ∀ (W : World) (s : SSt) (G : WG) (k : Nat), ST B nb no nc l W0 G0 W s G → s.gat.length = n → k < s.gat.length → m < s.ms.length → (gatS s k).1 < l.length → (gatS s k).2.length < 4294967296 → (s.free.getD (gatS s k).1 []).length < 4294967296 → s.free.length = l.length →
  Calls Tryd.prog 59 #[.pointer (some ⟨G.mB m, 0, none⟩), .pointer (some ⟨G.wc k, 0, none⟩), .pointer (some ⟨G.pc k, 0, none⟩), .pointer (some ⟨G.tc k, 0, none⟩)] W fun e W' => e = .returned (.tuple #[]) ∧ ∃ G', ST B nb no nc l W0 G0 W' (takeP m s k) G' ∧ G'.wb = G.wb ∧ G'.mB = G.mB ∧ G'.gv = G.gv ∧ G'.wc = G.wc ∧ G'.pc = G.pc ∧ G'.tc = G.tc
set_option maxHeartbeats 2000000 in
set_option maxRecDepth 100000 in
theorem name_cap {B nb no nc : Nat} {l : List Nd} {W0 W : World} {s : SSt} {G0 G : WG} (i m : Nat) (h : ST B nb no nc l W0 G0 W s G) (hi : i < l.length) (hm : s.sc (ndN l i).name = some m) (hml : m < s.ms.length) (d : Nat) (hd : (mnS s m).decl = d) (hdl : d < l.length) (hk : kdN l d = 32) (hdn : (mnS s m).done < s.gat.length) :
    Calls Tryd.prog 24 #[.pointer (some ⟨G.wb, 0, none⟩), .int .i64 i] W fun e W' => e = .returned (.tuple #[]) ∧ ST B nb no nc l W0 G0 W' (refuseP l i 53 s) G := by
  have hw0 := h.rel.cw 0
  have hw1 := h.rel.cw 1
  have hw5 := h.rel.cw 5
  have hw8 := h.rel.cw 8
  have hw9 := h.rel.cw 9
  simp only [wlkC] at hw0 hw1 hw5 hw8 hw9
  simp at hw0 hw1 hw5 hw8 hw9
  obtain ⟨ka, kc, ⟨_, _, _, c3, _, _⟩⟩ := h.nds.at_ i hi
  have hmax := h.nds.max
  unfold maxLen at hmax
  have hlook := fun q => (h.drew q).rel.look (ndN l i).name (h.nds.wf i hi).name
  rw [hm] at hlook
  unfold outV ptrV at hlook
  obtain ⟨ga, gcp, hgf⟩ := row_form h.rel.hgv
  rw [hgf] at hw8
  have m0 := (h.rel.c_mn hml 0).1
  have m2 := (h.rel.c_mn hml 2).1
  simp only [mnC] at m0 m2
  simp at m0 m2
  obtain ⟨kb, kd, ⟨k0, _, _, _, _, _⟩⟩ := h.nds.at_ d hdl
  change W.cell? _ = some (.int .i64 (kdN l d)) at k0
  rw [hd] at m0
  rw [hk] at k0
  have e3 : decide (((mnS s m).done : Int) < (s.gat.length : Int)) = true := by rw [decide_eq_true_iff]; omega
  generalize (mnS s m).done = dn at *
  have HR := Bx.mk fun q => refuse_any i 53 (h.drew q) hi
  clear h
  go_enter Tryd.func24, Tryd.ntmps24
  go_wp2
  go_quiet (fail)
  go_wp2
  go_quiet (fail)
  go_wp2
  go_quiet (fail)
  go_wp2_with (first
    | (go_at_call 40; refine Calls.mono (HR.out _) ?_; rintro e W1 ⟨rfl, h1⟩))
  refine bodyPost_ret (results_none rfl _ _ _) rfl ?_
  exact ⟨rfl, h1⟩
set_option maxHeartbeats 2000000 in
set_option maxRecDepth 100000 in
theorem name_setA {B nb no nc : Nat} {l : List Nd} {W0 W : World} {s : SSt} {G0 G : WG} (i m : Nat) (h : ST B nb no nc l W0 G0 W s G) (hi : i < l.length) (hm : s.sc (ndN l i).name = some m) (hml : m < s.ms.length) (hd : (mnS s m).decl < 0) (hs : s.set = (i : Int)) :
    Calls Tryd.prog 24 #[.pointer (some ⟨G.wb, 0, none⟩), .int .i64 i] W fun e W' => e = .returned (.tuple #[]) ∧ ST B nb no nc l W0 G0 W' (refuseP l i 52 s) G := by
  have hw0 := h.rel.cw 0
  have hw1 := h.rel.cw 1
  have hw5 := h.rel.cw 5
  have hw8 := h.rel.cw 8
  have hw9 := h.rel.cw 9
  simp only [wlkC] at hw0 hw1 hw5 hw8 hw9
  simp at hw0 hw1 hw5 hw8 hw9
  obtain ⟨ka, kc, ⟨_, _, _, c3, _, _⟩⟩ := h.nds.at_ i hi
  have hmax := h.nds.max
  unfold maxLen at hmax
  have hlook := fun q => (h.drew q).rel.look (ndN l i).name (h.nds.wf i hi).name
  rw [hm] at hlook
  unfold outV ptrV at hlook
  obtain ⟨ga, gcp, hgf⟩ := row_form h.rel.hgv
  rw [hgf] at hw8
  have m0 := (h.rel.c_mn hml 0).1
  have m2 := (h.rel.c_mn hml 2).1
  simp only [mnC] at m0 m2
  simp at m0 m2
  have e1 : decide ((mnS s m).decl ≥ 0) = false := by rw [decide_eq_false_iff_not]; omega
  have e1' : decide (0 ≤ (mnS s m).decl) = false := by rw [decide_eq_false_iff_not]; omega
  rw [hs] at hw9
  generalize (mnS s m).decl = dc at *
  have HR := Bx.mk fun q => refuse_any i 52 (h.drew q) hi
  clear h
  go_enter Tryd.func24, Tryd.ntmps24
  go_wp2
  go_quiet (fail)
  go_wp2
  go_quiet (fail)
  go_wp2
  go_quiet (fail)
  go_wp2_with (first
    | (go_at_call 40; refine Calls.mono (HR.out _) ?_; rintro e W1 ⟨rfl, h1⟩))
  refine bodyPost_ret (results_none rfl _ _ _) rfl ?_
  exact ⟨rfl, h1⟩
set_option maxHeartbeats 2000000 in
set_option maxRecDepth 100000 in
theorem name_setC {B nb no nc : Nat} {l : List Nd} {W0 W : World} {s : SSt} {G0 G : WG} (i m : Nat) (h : ST B nb no nc l W0 G0 W s G) (hi : i < l.length) (hm : s.sc (ndN l i).name = some m) (hml : m < s.ms.length) (d : Nat) (hd : (mnS s m).decl = d) (hdl : d < l.length) (hk : kdN l d ≠ 32) (hs : s.set = (i : Int)) :
    Calls Tryd.prog 24 #[.pointer (some ⟨G.wb, 0, none⟩), .int .i64 i] W fun e W' => e = .returned (.tuple #[]) ∧ ST B nb no nc l W0 G0 W' (refuseP l i 52 s) G := by
  have hw0 := h.rel.cw 0
  have hw1 := h.rel.cw 1
  have hw5 := h.rel.cw 5
  have hw8 := h.rel.cw 8
  have hw9 := h.rel.cw 9
  simp only [wlkC] at hw0 hw1 hw5 hw8 hw9
  simp at hw0 hw1 hw5 hw8 hw9
  obtain ⟨ka, kc, ⟨_, _, _, c3, _, _⟩⟩ := h.nds.at_ i hi
  have hmax := h.nds.max
  unfold maxLen at hmax
  have hlook := fun q => (h.drew q).rel.look (ndN l i).name (h.nds.wf i hi).name
  rw [hm] at hlook
  unfold outV ptrV at hlook
  obtain ⟨ga, gcp, hgf⟩ := row_form h.rel.hgv
  rw [hgf] at hw8
  have m0 := (h.rel.c_mn hml 0).1
  have m2 := (h.rel.c_mn hml 2).1
  simp only [mnC] at m0 m2
  simp at m0 m2
  obtain ⟨kb, kd, ⟨k0, _, _, _, _, _⟩⟩ := h.nds.at_ d hdl
  change W.cell? _ = some (.int .i64 (kdN l d)) at k0
  rw [hd] at m0
  have e2 : (kdN l d == 32) = false := by rw [beq_eq_false_iff_ne]; exact hk
  have e2' : decide (kdN l d = 32) = false := by rw [decide_eq_false_iff_not]; exact hk
  generalize kdN l d = kd0 at *
  rw [hs] at hw9
  generalize (mnS s m).decl = dc at *
  have HR := Bx.mk fun q => refuse_any i 52 (h.drew q) hi
  clear h
  go_enter Tryd.func24, Tryd.ntmps24
  go_wp2
  go_quiet (fail)
  go_wp2
  go_quiet (fail)
  go_wp2
  go_quiet (fail)
  go_wp2_with (first
    | (go_at_call 40; refine Calls.mono (HR.out _) ?_; rintro e W1 ⟨rfl, h1⟩))
  refine bodyPost_ret (results_none rfl _ _ _) rfl ?_
  exact ⟨rfl, h1⟩
/-- the gatherers' row in memory -/
theorem SRel.c_gat {B : Nat} {lv : Value} {N : Nat} {W : World} {s : SSt} {G : WG} (h : SRel B lv N W s G) {g cap : Nat} (hg : G.gv = .slice (some ⟨g, 0, none⟩) s.gat.length cap) {j : Nat} (hj : j < s.gat.length) : W.cell? ⟨g, j, none⟩ = some (takeV G j) := by
  have hr := h.hgv
  rcases hr.2 with ⟨h1, h2⟩ | ⟨g', cap', cur, hv, _, hb, h1, h2, h3, h4⟩
  · omega
  · rw [hg] at hv
    simp only [Value.slice.injEq, Option.some.injEq, Addr.mk.injEq, true_and] at hv
    obtain ⟨⟨rfl, _⟩, rfl⟩ := hv
    rw [cell_of_row W g j cur _ _ hb]
    have e : cur.toList[j]? = ((List.range s.gat.length).map (takeV G))[j]? := by
      rw [← h4, List.getElem?_take, if_pos (by omega)]
    rw [← Array.getElem?_toList, e]
    simp [hj]
theorem gat_form {B : Nat} {lv : Value} {N : Nat} {W : World} {s : SSt} {G : WG} (h : SRel B lv N W s G) : (G.gv = .slice none 0 0 ∧ s.gat.length = 0) ∨ ∃ g cap, G.gv = .slice (some ⟨g, 0, none⟩) s.gat.length cap ∧ s.gat.length ≤ cap ∧ cap ≤ maxLen := by
  rcases h.hgv.2 with h1 | ⟨g, cap, cur, hv, _, _, h1, h2, _⟩
  · exact .inl h1
  · exact .inr ⟨g, cap, hv, h1, h2⟩
/-- where the loop of name stands -/
structure NmS (B nb no nc : Nat) (l : List Nd) (W0 : World) (G0 : WG) (G : WG) (s1 : SSt) (m dn k : Nat) (wr : World) (G' : WG) : Prop where
  st : ST B nb no nc l W0 G0 wr ((List.range' dn k).foldl (takeP m) s1) G'
  wb : G'.wb = G.wb
  mB : G'.mB = G.mB
  gv : G'.gv = G.gv
  wc : G'.wc = G.wc
  pc : G'.pc = G.pc
  tc : G'.tc = G.tc
theorem takes_snoc (m dn k : Nat) (s : SSt) : (List.range' dn (k + 1)).foldl (takeP m) s = takeP m ((List.range' dn k).foldl (takeP m) s) (dn + k) := by
  rw [List.range'_concat, List.foldl_append]; simp
set_option maxHeartbeats 2000000 in
set_option maxRecDepth 100000 in
theorem name_okA {B nb no nc : Nat} {l : List Nd} {W0 W : World} {s : SSt} {G0 G : WG} (i m : Nat) (h : ST B nb no nc l W0 G0 W s G) (hi : i < l.length) (hm : s.sc (ndN l i).name = some m) (hml : m < s.ms.length) (hd : (mnS s m).decl < 0) (hs : s.set ≠ (i : Int)) (hrl : s.ref.length = l.length) (hfl : s.free.length = l.length) (hdg : (mnS s m).done ≤ s.gat.length) (HT : Bx (TakeC B nb no nc l W0 G0 m s.gat.length)) (hap : Bx (Apart s)) (hbt : Bx (∀ k, k < s.gat.length → (gatS s k).1 < l.length ∧ (gatS s k).2.length < 4294967296 ∧ (s.free.getD (gatS s k).1 []).length < 4294967296)) :
    Calls Tryd.prog 24 #[.pointer (some ⟨G.wb, 0, none⟩), .int .i64 i] W fun e W' => e = .returned (.tuple #[]) ∧ ∃ G', ST B nb no nc l W0 G0 W' (doneP m s.gat.length ((List.range' (mnS s m).done (s.gat.length - (mnS s m).done)).foldl (takeP m) { s with ref := s.ref.set i (mnS s m).decl })) G' := by
  have hw0 := h.rel.cw 0
  have hw1 := h.rel.cw 1
  have hw5 := h.rel.cw 5
  have hw8 := h.rel.cw 8
  have hw9 := h.rel.cw 9
  simp only [wlkC] at hw0 hw1 hw5 hw8 hw9
  simp at hw0 hw1 hw5 hw8 hw9
  obtain ⟨ka, kc, ⟨_, _, _, c3, _, _⟩⟩ := h.nds.at_ i hi
  have hmax := h.nds.max
  unfold maxLen at hmax
  have hlook := fun q => (h.drew q).rel.look (ndN l i).name (h.nds.wf i hi).name
  rw [hm] at hlook
  unfold outV ptrV at hlook
  obtain ⟨ga, gcp, hgf⟩ := row_form h.rel.hgv
  rw [hgf] at hw8
  have m0 := (h.rel.c_mn hml 0).1
  have m2 := (h.rel.c_mn hml 2).1
  simp only [mnC] at m0 m2
  simp at m0 m2
  have e1 : decide ((mnS s m).decl ≥ 0) = false := by rw [decide_eq_false_iff_not]; omega
  have e1' : decide (0 ≤ (mnS s m).decl) = false := by rw [decide_eq_false_iff_not]; omega
  have e3 : ((i : Int) == s.set) = false := by rw [beq_eq_false_iff_ne]; omega
  have e3' : decide ((i : Int) = s.set) = false := by rw [decide_eq_false_iff_not]; omega
  have hri : i < s.ref.length := by rw [hrl]; exact hi
  have HK := Bx.mk fun q => (h.drew q).rel.setRef i (mnS s m).decl hri
  have HX : Bx (∀ q, ST B nb no nc l W0 G0 ((W.drewN q).setCell ⟨G.rb, i, none⟩ (.int .i64 (mnS s m).decl)) { s with ref := s.ref.set i (mnS s m).decl } G) := ⟨fun q => (h.drew q).step (HK.out q).1 (HK.out q).2⟩
  obtain ⟨cr, fr⟩ := h.rel.c_ref hri
  have hgl := gat_form h.rel
  have hs1m : Bx (mnS { s with ref := s.ref.set i (mnS s m).decl } m = mnS s m) := ⟨rfl⟩
  have hsz1 : ({ s with ref := s.ref.set i (mnS s m).decl } : SSt).gat.length = s.gat.length := rfl
  have hsz2 : ({ s with ref := s.ref.set i (mnS s m).decl } : SSt).ms = s.ms := rfl
  have hsg : Bx ((∀ k, gatS { s with ref := s.ref.set i (mnS s m).decl } k = gatS s k) ∧ ({ s with ref := s.ref.set i (mnS s m).decl } : SSt).free = s.free) := ⟨fun _ => rfl, rfl⟩
  have hne1 : G.rb ≠ G.wb := fun e => by have := h.rel.lwb; rw [← e, h.rel.lrb] at this; cases this
  have hne2 : G.rb ≠ G.mB m := fun e => by have := h.rel.lmn m hml; rw [← e, h.rel.lrb] at this; cases this
  generalize hs1 : ({ s with ref := s.ref.set i (mnS s m).decl } : SSt) = s1 at *
  generalize hdn : (mnS s m).done = dn at *
  generalize hdc : (mnS s m).decl = dc at *
  clear h HK
  go_enter Tryd.func24, Tryd.ntmps24
  go_wp2
  go_quiet (fail)
  go_wp2
  go_quiet (fail)
  go_wp2
  go_quiet (fail)
  go_wp2
  go_region_held (fun w' => w'.cell? ⟨G.wb, 1, none⟩ = some (.slice (some ⟨G.rb, 0, none⟩) l.length l.length) ∧ w'.cell? ⟨G.mB m, 0, none⟩ = some (.int .i64 dc)) (first | go_keep | (simp [*])) (fail)
  generalize hWr : (W.drewN _).setCell ⟨G.rb, i, none⟩ (.int .i64 dc) = Wr
  have HY : Bx (ST B nb no nc l W0 G0 Wr s1 G) := ⟨by rw [← hWr]; exact HX.out _⟩
  have x8 : Wr.cell? ⟨G.wb, 8, none⟩ = some G.gv := HY.out.rel.cw 8
  have x2 : Wr.cell? ⟨G.mB m, 2, none⟩ = some (.int .i64 dn) := by
    have := (HY.out.rel.c_mn (m := m) (by rw [hsz2]; exact hml) 2).1
    rw [this, hs1m.out]
    simp [mnC, hdn]
  clear HX hWr hw0 hw1 hw5 hw8 hw9 c3 m0 m2 cr fr hlook
  rcases hgl with ⟨hg0, hn0⟩ | ⟨g, cap, hg, hc1, hc2⟩
  · rw [hg0] at x8
    have hd0 : dn = 0 := by omega
    rw [hd0] at x2
    go_wp2
    go_quiet (fail)
    go_wp2
    go_loopw [97] (fun x wr => x = .int .i64 0 ∧ Bx (ST B nb no nc l W0 G0 wr s1 G)) (fun x _ => 0)
    case atStart => exact ⟨rfl, ⟨HY.out.drew _⟩⟩
    case round =>
      obtain ⟨rfl, HS⟩ := hrel
      have y8 : wr.cell? ⟨G.wb, 8, none⟩ = some (.slice none 0 0) := by rw [← hg0]; exact HS.out.rel.cw 8
      have y2 : wr.cell? ⟨G.mB m, 2, none⟩ = some (.int .i64 (mnS s1 m).done) := by simpa [mnC] using (HS.out.rel.c_mn (m := m) (by rw [hsz2]; exact hml) 2).1
      have f2 : wr.frozen? ⟨G.mB m, 2, none⟩ = false := (HS.out.rel.c_mn (m := m) (by rw [hsz2]; exact hml) 2).2
      have HD := Bx.mk (HS.out.rel.setDone m 0 (by rw [hsz2]; exact hml))
      go_wp2
      go_end0
      refine ⟨rfl, G, ?_⟩
      rw [hn0, hd0]
      exact HS.out.step HD.out.1 HD.out.2
  · rw [hg] at x8
    unfold maxLen at hc2
    have HB0 : Bx (∀ q, NmS B nb no nc l W0 G0 G s1 m dn 0 (Wr.drewN q) G) := ⟨fun q => ⟨HY.out.drew q, rfl, rfl, rfl, rfl, rfl, rfl⟩⟩
    clear HY
    by_cases hcd : cap = dn
    · go_wp2
      go_quiet (fail)
      go_wp2
      go_loopw [97] (fun x wr => ∃ (k : Nat) (G' : WG), x = .int .i64 k ∧ k ≤ s.gat.length - dn ∧ Bx (NmS B nb no nc l W0 G0 G s1 m dn k wr G')) (fun x _ => s.gat.length - dn - (intOf x).toNat)
      case atStart => exact ⟨0, G, rfl, Nat.zero_le _, ⟨HB0.out _⟩⟩
      case round =>
        obtain ⟨k, G', rfl, hk, HS⟩ := hrel
        have tk := (takes_ok m k dn s1 (by omega)).1
        have hgl' : ((List.range' dn k).foldl (takeP m) s1).gat.length = s.gat.length := by rw [tk.len, hsz1]
        have hms' : ((List.range' dn k).foldl (takeP m) s1).ms = s.ms := by rw [tk.ms, hsz2]
        have hke : k = s.gat.length - dn := by omega
        have y8 : wr.cell? ⟨G.wb, 8, none⟩ = some (.slice (some ⟨g, 0, none⟩) s.gat.length cap) := by
          have := HS.out.st.rel.cw 8
          rw [HS.out.wb] at this
          rw [this, ← hg, ← HS.out.gv]
          rfl
        have hmx : m < ((List.range' dn k).foldl (takeP m) s1).ms.length := by rw [hms']; exact hml
        have y2 := (HS.out.st.rel.c_mn hmx 2).1
        have f2 := (HS.out.st.rel.c_mn hmx 2).2
        have HD := Bx.mk (HS.out.st.rel.setDone m s.gat.length hmx)
        have HZ : Bx (ST B nb no nc l W0 G0 (wr.setCell ⟨G'.mB m, 2, none⟩ (.int .i64 s.gat.length)) (doneP m s.gat.length ((List.range' dn k).foldl (takeP m) s1)) G') := ⟨HS.out.st.step HD.out.1 HD.out.2⟩
        rw [HS.out.mB] at y2 f2 HZ
        simp only [mnC] at y2
        simp at y2
        rw [hke] at HZ
        clear HS tk hgl' hms' HD HT
        go_wp2
        go_end0
        exact ⟨rfl, G', HZ.out⟩
    · go_wp2
      go_quiet (fail)
      go_wp2
      go_loopw [97] (fun x wr => ∃ (k : Nat) (G' : WG), x = .int .i64 k ∧ k ≤ s.gat.length - dn ∧ Bx (NmS B nb no nc l W0 G0 G s1 m dn k wr G')) (fun x _ => s.gat.length - dn - (intOf x).toNat)
      case atStart => exact ⟨0, G, rfl, Nat.zero_le _, ⟨HB0.out _⟩⟩
      case round =>
        obtain ⟨k, G', rfl, hk, HS⟩ := hrel
        have tk := (takes_ok m k dn s1 (by omega)).1
        have hgl' : ((List.range' dn k).foldl (takeP m) s1).gat.length = s.gat.length := by rw [tk.len, hsz1]
        have hms' : ((List.range' dn k).foldl (takeP m) s1).ms = s.ms := by rw [tk.ms, hsz2]
        by_cases hkl : k < s.gat.length - dn
        · have hc : wr.cell? ⟨g, dn + k, none⟩ = some (.func (.func 59) #[] #[.pointer (some ⟨G.wc (dn + k), 0, none⟩), .pointer (some ⟨G.pc (dn + k), 0, none⟩), .pointer (some ⟨G.tc (dn + k), 0, none⟩)]) := by
            have := HS.out.st.rel.c_gat (g := g) (cap := cap) (by rw [HS.out.gv, hgl']; exact hg) (j := dn + k) (by rw [hgl']; omega)
            rw [this]
            unfold takeV ptrV
            rw [HS.out.wc, HS.out.pc, HS.out.tc]
          have tl := takes_len m k dn s1 (by omega) (fun j j' h1 h2 => by rw [hsg.out.1, hsg.out.1]; exact hap.out j j' h1 (by omega))
          have tg : gatS ((List.range' dn k).foldl (takeP m) s1) (dn + k) = gatS s (dn + k) := by rw [(tl.1 (dn + k)).1 (by omega), hsg.out.1]
          have tf : ((List.range' dn k).foldl (takeP m) s1).free.getD (gatS s (dn + k)).1 [] = s.free.getD (gatS s (dn + k)).1 [] := by rw [(tl.2 _).1 (fun j h1 h2 => by rw [hsg.out.1]; exact hap.out j (dn + k) (by omega) (by omega)), hsg.out.2]
          obtain ⟨tb1, tb2, tb3⟩ := hbt.out (dn + k) (by omega)
          have HC := Bx.mk (HT.out wr _ G' (dn + k) HS.out.st hgl' (by rw [hgl']; omega) (by rw [hms']; exact hml) (by rw [tg]; exact tb1) (by rw [tg]; exact tb2) (by rw [tg, tf]; exact tb3) (by rw [tk.freel, hsg.out.2]; exact hfl))
          clear tl tg tf tb1 tb2 tb3
          rw [HS.out.mB, HS.out.wc, HS.out.pc, HS.out.tc, ← takes_snoc] at HC
          have HN : Bx (∀ W1, (∃ G'', ST B nb no nc l W0 G0 W1 ((List.range' dn (k + 1)).foldl (takeP m) s1) G'' ∧ G''.wb = G'.wb ∧ G''.mB = G.mB ∧ G''.gv = G'.gv ∧ G''.wc = G.wc ∧ G''.pc = G.pc ∧ G''.tc = G.tc) → ∃ G'', NmS B nb no nc l W0 G0 G s1 m dn (k + 1) W1 G'') :=
            ⟨fun W1 ⟨G'', a, b, c, d, e, f, gg⟩ => ⟨G'', a, b.trans HS.out.wb, c, d.trans HS.out.gv, e, f, gg⟩⟩
          clear HS tk hgl' hms'
          go_wp2_with (first
            | (go_at_call 59; refine Calls.mono HC.out ?_; rintro e W1 ⟨rfl, h1⟩; obtain ⟨G2, h2⟩ := HN.out W1 h1; replace h2 := Bx.mk h2; clear h1))
          go_roundw
          case rel => exact ⟨k + 1, G2, by go_num, by omega, h2⟩
          case measure => simp [intOf]; omega
        · have hke : k = s.gat.length - dn := by omega
          have y8 : wr.cell? ⟨G.wb, 8, none⟩ = some (.slice (some ⟨g, 0, none⟩) s.gat.length cap) := by
            have := HS.out.st.rel.cw 8
            rw [HS.out.wb] at this
            rw [this, ← hg, ← HS.out.gv]
            rfl
          have hmx : m < ((List.range' dn k).foldl (takeP m) s1).ms.length := by rw [hms']; exact hml
          have y2 := (HS.out.st.rel.c_mn hmx 2).1
          have f2 := (HS.out.st.rel.c_mn hmx 2).2
          have HD := Bx.mk (HS.out.st.rel.setDone m s.gat.length hmx)
          have HZ : Bx (ST B nb no nc l W0 G0 (wr.setCell ⟨G'.mB m, 2, none⟩ (.int .i64 s.gat.length)) (doneP m s.gat.length ((List.range' dn k).foldl (takeP m) s1)) G') := ⟨HS.out.st.step HD.out.1 HD.out.2⟩
          rw [HS.out.mB] at y2 f2 HZ
          simp only [mnC] at y2
          simp at y2
          rw [hke] at HZ
          clear HS tk hgl' hms' HD HT
          go_wp2
          go_end0
          exact ⟨rfl, G', HZ.out⟩
set_option maxHeartbeats 2000000 in
set_option maxRecDepth 100000 in
theorem name_okB {B nb no nc : Nat} {l : List Nd} {W0 W : World} {s : SSt} {G0 G : WG} (i m : Nat) (h : ST B nb no nc l W0 G0 W s G) (hi : i < l.length) (hm : s.sc (ndN l i).name = some m) (hml : m < s.ms.length) (d : Nat) (hd : (mnS s m).decl = d) (hdl : d < l.length) (hk : kdN l d = 32) (hdn0 : ¬ (mnS s m).done < s.gat.length) (hrl : s.ref.length = l.length) (hfl : s.free.length = l.length) (hdg : (mnS s m).done ≤ s.gat.length) (HT : Bx (TakeC B nb no nc l W0 G0 m s.gat.length)) (hap : Bx (Apart s)) (hbt : Bx (∀ k, k < s.gat.length → (gatS s k).1 < l.length ∧ (gatS s k).2.length < 4294967296 ∧ (s.free.getD (gatS s k).1 []).length < 4294967296)) :
    Calls Tryd.prog 24 #[.pointer (some ⟨G.wb, 0, none⟩), .int .i64 i] W fun e W' => e = .returned (.tuple #[]) ∧ ∃ G', ST B nb no nc l W0 G0 W' (doneP m s.gat.length ((List.range' (mnS s m).done (s.gat.length - (mnS s m).done)).foldl (takeP m) { s with ref := s.ref.set i (mnS s m).decl })) G' := by
  have hw0 := h.rel.cw 0
  have hw1 := h.rel.cw 1
  have hw5 := h.rel.cw 5
  have hw8 := h.rel.cw 8
  have hw9 := h.rel.cw 9
  simp only [wlkC] at hw0 hw1 hw5 hw8 hw9
  simp at hw0 hw1 hw5 hw8 hw9
  obtain ⟨ka, kc, ⟨_, _, _, c3, _, _⟩⟩ := h.nds.at_ i hi
  have hmax := h.nds.max
  unfold maxLen at hmax
  have hlook := fun q => (h.drew q).rel.look (ndN l i).name (h.nds.wf i hi).name
  rw [hm] at hlook
  unfold outV ptrV at hlook
  obtain ⟨ga, gcp, hgf⟩ := row_form h.rel.hgv
  rw [hgf] at hw8
  have m0 := (h.rel.c_mn hml 0).1
  have m2 := (h.rel.c_mn hml 2).1
  simp only [mnC] at m0 m2
  simp at m0 m2
  obtain ⟨kb, kd, ⟨k0, _, _, _, _, _⟩⟩ := h.nds.at_ d hdl
  change W.cell? _ = some (.int .i64 (kdN l d)) at k0
  rw [hd] at m0
  rw [hk] at k0
  have e3 : decide (((mnS s m).done : Int) < (s.gat.length : Int)) = false := by rw [decide_eq_false_iff_not]; omega
  have hri : i < s.ref.length := by rw [hrl]; exact hi
  have HK := Bx.mk fun q => (h.drew q).rel.setRef i (mnS s m).decl hri
  have HX : Bx (∀ q, ST B nb no nc l W0 G0 ((W.drewN q).setCell ⟨G.rb, i, none⟩ (.int .i64 (mnS s m).decl)) { s with ref := s.ref.set i (mnS s m).decl } G) := ⟨fun q => (h.drew q).step (HK.out q).1 (HK.out q).2⟩
  obtain ⟨cr, fr⟩ := h.rel.c_ref hri
  have hgl := gat_form h.rel
  have hs1m : Bx (mnS { s with ref := s.ref.set i (mnS s m).decl } m = mnS s m) := ⟨rfl⟩
  have hsz1 : ({ s with ref := s.ref.set i (mnS s m).decl } : SSt).gat.length = s.gat.length := rfl
  have hsz2 : ({ s with ref := s.ref.set i (mnS s m).decl } : SSt).ms = s.ms := rfl
  have hsg : Bx ((∀ k, gatS { s with ref := s.ref.set i (mnS s m).decl } k = gatS s k) ∧ ({ s with ref := s.ref.set i (mnS s m).decl } : SSt).free = s.free) := ⟨fun _ => rfl, rfl⟩
  have hne1 : G.rb ≠ G.wb := fun e => by have := h.rel.lwb; rw [← e, h.rel.lrb] at this; cases this
  have hne2 : G.rb ≠ G.mB m := fun e => by have := h.rel.lmn m hml; rw [← e, h.rel.lrb] at this; cases this
  generalize hs1 : ({ s with ref := s.ref.set i (mnS s m).decl } : SSt) = s1 at *
  generalize hdn : (mnS s m).done = dn at *
  rw [hd] at HX
  generalize hdc : (mnS s m).decl = dc at *
  clear h HK
  go_enter Tryd.func24, Tryd.ntmps24
  go_wp2
  go_quiet (fail)
  go_wp2
  go_quiet (fail)
  go_wp2
  go_quiet (fail)
  go_wp2
  go_region_held (fun w' => w'.cell? ⟨G.wb, 1, none⟩ = some (.slice (some ⟨G.rb, 0, none⟩) l.length l.length) ∧ w'.cell? ⟨G.mB m, 0, none⟩ = some (.int .i64 d)) (first | go_keep | (simp [*])) (fail)
  generalize hWr : (W.drewN _).setCell ⟨G.rb, i, none⟩ (.int .i64 d) = Wr
  have HY : Bx (ST B nb no nc l W0 G0 Wr s1 G) := ⟨by rw [← hWr]; exact HX.out _⟩
  have x8 : Wr.cell? ⟨G.wb, 8, none⟩ = some G.gv := HY.out.rel.cw 8
  have x2 : Wr.cell? ⟨G.mB m, 2, none⟩ = some (.int .i64 dn) := by
    have := (HY.out.rel.c_mn (m := m) (by rw [hsz2]; exact hml) 2).1
    rw [this, hs1m.out]
    simp [mnC, hdn]
  clear HX hWr hw0 hw1 hw5 hw8 hw9 c3 m0 m2 cr fr hlook
  rcases hgl with ⟨hg0, hn0⟩ | ⟨g, cap, hg, hc1, hc2⟩
  · rw [hg0] at x8
    have hd0 : dn = 0 := by omega
    rw [hd0] at x2
    go_wp2
    go_quiet (fail)
    go_wp2
    go_loopw [97] (fun x wr => x = .int .i64 0 ∧ Bx (ST B nb no nc l W0 G0 wr s1 G)) (fun x _ => 0)
    case atStart => exact ⟨rfl, ⟨HY.out.drew _⟩⟩
    case round =>
      obtain ⟨rfl, HS⟩ := hrel
      have y8 : wr.cell? ⟨G.wb, 8, none⟩ = some (.slice none 0 0) := by rw [← hg0]; exact HS.out.rel.cw 8
      have y2 : wr.cell? ⟨G.mB m, 2, none⟩ = some (.int .i64 (mnS s1 m).done) := by simpa [mnC] using (HS.out.rel.c_mn (m := m) (by rw [hsz2]; exact hml) 2).1
      have f2 : wr.frozen? ⟨G.mB m, 2, none⟩ = false := (HS.out.rel.c_mn (m := m) (by rw [hsz2]; exact hml) 2).2
      have HD := Bx.mk (HS.out.rel.setDone m 0 (by rw [hsz2]; exact hml))
      go_wp2
      go_end0
      refine ⟨rfl, G, ?_⟩
      rw [hn0, hd0]
      exact HS.out.step HD.out.1 HD.out.2
  · rw [hg] at x8
    unfold maxLen at hc2
    have HB0 : Bx (∀ q, NmS B nb no nc l W0 G0 G s1 m dn 0 (Wr.drewN q) G) := ⟨fun q => ⟨HY.out.drew q, rfl, rfl, rfl, rfl, rfl, rfl⟩⟩
    clear HY
    by_cases hcd : cap = dn
    · go_wp2
      go_quiet (fail)
      go_wp2
      go_loopw [97] (fun x wr => ∃ (k : Nat) (G' : WG), x = .int .i64 k ∧ k ≤ s.gat.length - dn ∧ Bx (NmS B nb no nc l W0 G0 G s1 m dn k wr G')) (fun x _ => s.gat.length - dn - (intOf x).toNat)
      case atStart => exact ⟨0, G, rfl, Nat.zero_le _, ⟨HB0.out _⟩⟩
      case round =>
        obtain ⟨k, G', rfl, hk, HS⟩ := hrel
        have tk := (takes_ok m k dn s1 (by omega)).1
        have hgl' : ((List.range' dn k).foldl (takeP m) s1).gat.length = s.gat.length := by rw [tk.len, hsz1]
        have hms' : ((List.range' dn k).foldl (takeP m) s1).ms = s.ms := by rw [tk.ms, hsz2]
        have hke : k = s.gat.length - dn := by omega
        have y8 : wr.cell? ⟨G.wb, 8, none⟩ = some (.slice (some ⟨g, 0, none⟩) s.gat.length cap) := by
          have := HS.out.st.rel.cw 8
          rw [HS.out.wb] at this
          rw [this, ← hg, ← HS.out.gv]
          rfl
        have hmx : m < ((List.range' dn k).foldl (takeP m) s1).ms.length := by rw [hms']; exact hml
        have y2 := (HS.out.st.rel.c_mn hmx 2).1
        have f2 := (HS.out.st.rel.c_mn hmx 2).2
        have HD := Bx.mk (HS.out.st.rel.setDone m s.gat.length hmx)
        have HZ : Bx (ST B nb no nc l W0 G0 (wr.setCell ⟨G'.mB m, 2, none⟩ (.int .i64 s.gat.length)) (doneP m s.gat.length ((List.range' dn k).foldl (takeP m) s1)) G') := ⟨HS.out.st.step HD.out.1 HD.out.2⟩
        rw [HS.out.mB] at y2 f2 HZ
        simp only [mnC] at y2
        simp at y2
        rw [hke] at HZ
        clear HS tk hgl' hms' HD HT
        go_wp2
        go_end0
        exact ⟨rfl, G', HZ.out⟩
    · go_wp2
      go_quiet (fail)
      go_wp2
      go_loopw [97] (fun x wr => ∃ (k : Nat) (G' : WG), x = .int .i64 k ∧ k ≤ s.gat.length - dn ∧ Bx (NmS B nb no nc l W0 G0 G s1 m dn k wr G')) (fun x _ => s.gat.length - dn - (intOf x).toNat)
      case atStart => exact ⟨0, G, rfl, Nat.zero_le _, ⟨HB0.out _⟩⟩
      case round =>
        obtain ⟨k, G', rfl, hk, HS⟩ := hrel
        have tk := (takes_ok m k dn s1 (by omega)).1
        have hgl' : ((List.range' dn k).foldl (takeP m) s1).gat.length = s.gat.length := by rw [tk.len, hsz1]
        have hms' : ((List.range' dn k).foldl (takeP m) s1).ms = s.ms := by rw [tk.ms, hsz2]
        by_cases hkl : k < s.gat.length - dn
        · have hc : wr.cell? ⟨g, dn + k, none⟩ = some (.func (.func 59) #[] #[.pointer (some ⟨G.wc (dn + k), 0, none⟩), .pointer (some ⟨G.pc (dn + k), 0, none⟩), .pointer (some ⟨G.tc (dn + k), 0, none⟩)]) := by
            have := HS.out.st.rel.c_gat (g := g) (cap := cap) (by rw [HS.out.gv, hgl']; exact hg) (j := dn + k) (by rw [hgl']; omega)
            rw [this]
            unfold takeV ptrV
            rw [HS.out.wc, HS.out.pc, HS.out.tc]
          have tl := takes_len m k dn s1 (by omega) (fun j j' h1 h2 => by rw [hsg.out.1, hsg.out.1]; exact hap.out j j' h1 (by omega))
          have tg : gatS ((List.range' dn k).foldl (takeP m) s1) (dn + k) = gatS s (dn + k) := by rw [(tl.1 (dn + k)).1 (by omega), hsg.out.1]
          have tf : ((List.range' dn k).foldl (takeP m) s1).free.getD (gatS s (dn + k)).1 [] = s.free.getD (gatS s (dn + k)).1 [] := by rw [(tl.2 _).1 (fun j h1 h2 => by rw [hsg.out.1]; exact hap.out j (dn + k) (by omega) (by omega)), hsg.out.2]
          obtain ⟨tb1, tb2, tb3⟩ := hbt.out (dn + k) (by omega)
          have HC := Bx.mk (HT.out wr _ G' (dn + k) HS.out.st hgl' (by rw [hgl']; omega) (by rw [hms']; exact hml) (by rw [tg]; exact tb1) (by rw [tg]; exact tb2) (by rw [tg, tf]; exact tb3) (by rw [tk.freel, hsg.out.2]; exact hfl))
          clear tl tg tf tb1 tb2 tb3
          rw [HS.out.mB, HS.out.wc, HS.out.pc, HS.out.tc, ← takes_snoc] at HC
          have HN : Bx (∀ W1, (∃ G'', ST B nb no nc l W0 G0 W1 ((List.range' dn (k + 1)).foldl (takeP m) s1) G'' ∧ G''.wb = G'.wb ∧ G''.mB = G.mB ∧ G''.gv = G'.gv ∧ G''.wc = G.wc ∧ G''.pc = G.pc ∧ G''.tc = G.tc) → ∃ G'', NmS B nb no nc l W0 G0 G s1 m dn (k + 1) W1 G'') :=
            ⟨fun W1 ⟨G'', a, b, c, d, e, f, gg⟩ => ⟨G'', a, b.trans HS.out.wb, c, d.trans HS.out.gv, e, f, gg⟩⟩
          clear HS tk hgl' hms'
          go_wp2_with (first
            | (go_at_call 59; refine Calls.mono HC.out ?_; rintro e W1 ⟨rfl, h1⟩; obtain ⟨G2, h2⟩ := HN.out W1 h1; replace h2 := Bx.mk h2; clear h1))
          go_roundw
          case rel => exact ⟨k + 1, G2, by go_num, by omega, h2⟩
          case measure => simp [intOf]; omega
        · have hke : k = s.gat.length - dn := by omega
          have y8 : wr.cell? ⟨G.wb, 8, none⟩ = some (.slice (some ⟨g, 0, none⟩) s.gat.length cap) := by
            have := HS.out.st.rel.cw 8
            rw [HS.out.wb] at this
            rw [this, ← hg, ← HS.out.gv]
            rfl
          have hmx : m < ((List.range' dn k).foldl (takeP m) s1).ms.length := by rw [hms']; exact hml
          have y2 := (HS.out.st.rel.c_mn hmx 2).1
          have f2 := (HS.out.st.rel.c_mn hmx 2).2
          have HD := Bx.mk (HS.out.st.rel.setDone m s.gat.length hmx)
          have HZ : Bx (ST B nb no nc l W0 G0 (wr.setCell ⟨G'.mB m, 2, none⟩ (.int .i64 s.gat.length)) (doneP m s.gat.length ((List.range' dn k).foldl (takeP m) s1)) G') := ⟨HS.out.st.step HD.out.1 HD.out.2⟩
          rw [HS.out.mB] at y2 f2 HZ
          simp only [mnC] at y2
          simp at y2
          rw [hke] at HZ
          clear HS tk hgl' hms' HD HT
          go_wp2
          go_end0
          exact ⟨rfl, G', HZ.out⟩
set_option maxHeartbeats 2000000 in
set_option maxRecDepth 100000 in
theorem name_okC {B nb no nc : Nat} {l : List Nd} {W0 W : World} {s : SSt} {G0 G : WG} (i m : Nat) (h : ST B nb no nc l W0 G0 W s G) (hi : i < l.length) (hm : s.sc (ndN l i).name = some m) (hml : m < s.ms.length) (d : Nat) (hd : (mnS s m).decl = d) (hdl : d < l.length) (hk : kdN l d ≠ 32) (hs : s.set ≠ (i : Int)) (hrl : s.ref.length = l.length) (hfl : s.free.length = l.length) (hdg : (mnS s m).done ≤ s.gat.length) (HT : Bx (TakeC B nb no nc l W0 G0 m s.gat.length)) (hap : Bx (Apart s)) (hbt : Bx (∀ k, k < s.gat.length → (gatS s k).1 < l.length ∧ (gatS s k).2.length < 4294967296 ∧ (s.free.getD (gatS s k).1 []).length < 4294967296)) :
    Calls Tryd.prog 24 #[.pointer (some ⟨G.wb, 0, none⟩), .int .i64 i] W fun e W' => e = .returned (.tuple #[]) ∧ ∃ G', ST B nb no nc l W0 G0 W' (doneP m s.gat.length ((List.range' (mnS s m).done (s.gat.length - (mnS s m).done)).foldl (takeP m) { s with ref := s.ref.set i (mnS s m).decl })) G' := by
  have hw0 := h.rel.cw 0
  have hw1 := h.rel.cw 1
  have hw5 := h.rel.cw 5
  have hw8 := h.rel.cw 8
  have hw9 := h.rel.cw 9
  simp only [wlkC] at hw0 hw1 hw5 hw8 hw9
  simp at hw0 hw1 hw5 hw8 hw9
  obtain ⟨ka, kc, ⟨_, _, _, c3, _, _⟩⟩ := h.nds.at_ i hi
  have hmax := h.nds.max
  unfold maxLen at hmax
  have hlook := fun q => (h.drew q).rel.look (ndN l i).name (h.nds.wf i hi).name
  rw [hm] at hlook
  unfold outV ptrV at hlook
  obtain ⟨ga, gcp, hgf⟩ := row_form h.rel.hgv
  rw [hgf] at hw8
  have m0 := (h.rel.c_mn hml 0).1
  have m2 := (h.rel.c_mn hml 2).1
  simp only [mnC] at m0 m2
  simp at m0 m2
  obtain ⟨kb, kd, ⟨k0, _, _, _, _, _⟩⟩ := h.nds.at_ d hdl
  change W.cell? _ = some (.int .i64 (kdN l d)) at k0
  rw [hd] at m0
  have e2 : (kdN l d == 32) = false := by rw [beq_eq_false_iff_ne]; exact hk
  have e2' : decide (kdN l d = 32) = false := by rw [decide_eq_false_iff_not]; exact hk
  generalize kdN l d = kd0 at *
  have e3 : ((i : Int) == s.set) = false := by rw [beq_eq_false_iff_ne]; omega
  have e3' : decide ((i : Int) = s.set) = false := by rw [decide_eq_false_iff_not]; omega
  have hri : i < s.ref.length := by rw [hrl]; exact hi
  have HK := Bx.mk fun q => (h.drew q).rel.setRef i (mnS s m).decl hri
  have HX : Bx (∀ q, ST B nb no nc l W0 G0 ((W.drewN q).setCell ⟨G.rb, i, none⟩ (.int .i64 (mnS s m).decl)) { s with ref := s.ref.set i (mnS s m).decl } G) := ⟨fun q => (h.drew q).step (HK.out q).1 (HK.out q).2⟩
  obtain ⟨cr, fr⟩ := h.rel.c_ref hri
  have hgl := gat_form h.rel
  have hs1m : Bx (mnS { s with ref := s.ref.set i (mnS s m).decl } m = mnS s m) := ⟨rfl⟩
  have hsz1 : ({ s with ref := s.ref.set i (mnS s m).decl } : SSt).gat.length = s.gat.length := rfl
  have hsz2 : ({ s with ref := s.ref.set i (mnS s m).decl } : SSt).ms = s.ms := rfl
  have hsg : Bx ((∀ k, gatS { s with ref := s.ref.set i (mnS s m).decl } k = gatS s k) ∧ ({ s with ref := s.ref.set i (mnS s m).decl } : SSt).free = s.free) := ⟨fun _ => rfl, rfl⟩
  have hne1 : G.rb ≠ G.wb := fun e => by have := h.rel.lwb; rw [← e, h.rel.lrb] at this; cases this
  have hne2 : G.rb ≠ G.mB m := fun e => by have := h.rel.lmn m hml; rw [← e, h.rel.lrb] at this; cases this
  generalize hs1 : ({ s with ref := s.ref.set i (mnS s m).decl } : SSt) = s1 at *
  generalize hdn : (mnS s m).done = dn at *
  rw [hd] at HX
  generalize hdc : (mnS s m).decl = dc at *
  clear h HK
  go_enter Tryd.func24, Tryd.ntmps24
  go_wp2
  go_quiet (fail)
  go_wp2
  go_quiet (fail)
  go_wp2
  go_quiet (fail)
  go_wp2
  go_region_held (fun w' => w'.cell? ⟨G.wb, 1, none⟩ = some (.slice (some ⟨G.rb, 0, none⟩) l.length l.length) ∧ w'.cell? ⟨G.mB m, 0, none⟩ = some (.int .i64 d)) (first | go_keep | (simp [*])) (fail)
  generalize hWr : (W.drewN _).setCell ⟨G.rb, i, none⟩ (.int .i64 d) = Wr
  have HY : Bx (ST B nb no nc l W0 G0 Wr s1 G) := ⟨by rw [← hWr]; exact HX.out _⟩
  have x8 : Wr.cell? ⟨G.wb, 8, none⟩ = some G.gv := HY.out.rel.cw 8
  have x2 : Wr.cell? ⟨G.mB m, 2, none⟩ = some (.int .i64 dn) := by
    have := (HY.out.rel.c_mn (m := m) (by rw [hsz2]; exact hml) 2).1
    rw [this, hs1m.out]
    simp [mnC, hdn]
  clear HX hWr hw0 hw1 hw5 hw8 hw9 c3 m0 m2 cr fr hlook
  rcases hgl with ⟨hg0, hn0⟩ | ⟨g, cap, hg, hc1, hc2⟩
  · rw [hg0] at x8
    have hd0 : dn = 0 := by omega
    rw [hd0] at x2
    go_wp2
    go_quiet (fail)
    go_wp2
    go_loopw [97] (fun x wr => x = .int .i64 0 ∧ Bx (ST B nb no nc l W0 G0 wr s1 G)) (fun x _ => 0)
    case atStart => exact ⟨rfl, ⟨HY.out.drew _⟩⟩
    case round =>
      obtain ⟨rfl, HS⟩ := hrel
      have y8 : wr.cell? ⟨G.wb, 8, none⟩ = some (.slice none 0 0) := by rw [← hg0]; exact HS.out.rel.cw 8
      have y2 : wr.cell? ⟨G.mB m, 2, none⟩ = some (.int .i64 (mnS s1 m).done) := by simpa [mnC] using (HS.out.rel.c_mn (m := m) (by rw [hsz2]; exact hml) 2).1
      have f2 : wr.frozen? ⟨G.mB m, 2, none⟩ = false := (HS.out.rel.c_mn (m := m) (by rw [hsz2]; exact hml) 2).2
      have HD := Bx.mk (HS.out.rel.setDone m 0 (by rw [hsz2]; exact hml))
      go_wp2
      go_end0
      refine ⟨rfl, G, ?_⟩
      rw [hn0, hd0]
      exact HS.out.step HD.out.1 HD.out.2
  · rw [hg] at x8
    unfold maxLen at hc2
    have HB0 : Bx (∀ q, NmS B nb no nc l W0 G0 G s1 m dn 0 (Wr.drewN q) G) := ⟨fun q => ⟨HY.out.drew q, rfl, rfl, rfl, rfl, rfl, rfl⟩⟩
    clear HY
    by_cases hcd : cap = dn
    · go_wp2
      go_quiet (fail)
      go_wp2
      go_loopw [97] (fun x wr => ∃ (k : Nat) (G' : WG), x = .int .i64 k ∧ k ≤ s.gat.length - dn ∧ Bx (NmS B nb no nc l W0 G0 G s1 m dn k wr G')) (fun x _ => s.gat.length - dn - (intOf x).toNat)
      case atStart => exact ⟨0, G, rfl, Nat.zero_le _, ⟨HB0.out _⟩⟩
      case round =>
        obtain ⟨k, G', rfl, hk, HS⟩ := hrel
        have tk := (takes_ok m k dn s1 (by omega)).1
        have hgl' : ((List.range' dn k).foldl (takeP m) s1).gat.length = s.gat.length := by rw [tk.len, hsz1]
        have hms' : ((List.range' dn k).foldl (takeP m) s1).ms = s.ms := by rw [tk.ms, hsz2]
        have hke : k = s.gat.length - dn := by omega
        have y8 : wr.cell? ⟨G.wb, 8, none⟩ = some (.slice (some ⟨g, 0, none⟩) s.gat.length cap) := by
          have := HS.out.st.rel.cw 8
          rw [HS.out.wb] at this
          rw [this, ← hg, ← HS.out.gv]
          rfl
        have hmx : m < ((List.range' dn k).foldl (takeP m) s1).ms.length := by rw [hms']; exact hml
        have y2 := (HS.out.st.rel.c_mn hmx 2).1
        have f2 := (HS.out.st.rel.c_mn hmx 2).2
        have HD := Bx.mk (HS.out.st.rel.setDone m s.gat.length hmx)
        have HZ : Bx (ST B nb no nc l W0 G0 (wr.setCell ⟨G'.mB m, 2, none⟩ (.int .i64 s.gat.length)) (doneP m s.gat.length ((List.range' dn k).foldl (takeP m) s1)) G') := ⟨HS.out.st.step HD.out.1 HD.out.2⟩
        rw [HS.out.mB] at y2 f2 HZ
        simp only [mnC] at y2
        simp at y2
        rw [hke] at HZ
        clear HS tk hgl' hms' HD HT
        go_wp2
        go_end0
        exact ⟨rfl, G', HZ.out⟩
    · go_wp2
      go_quiet (fail)
      go_wp2
      go_loopw [97] (fun x wr => ∃ (k : Nat) (G' : WG), x = .int .i64 k ∧ k ≤ s.gat.length - dn ∧ Bx (NmS B nb no nc l W0 G0 G s1 m dn k wr G')) (fun x _ => s.gat.length - dn - (intOf x).toNat)
      case atStart => exact ⟨0, G, rfl, Nat.zero_le _, ⟨HB0.out _⟩⟩
      case round =>
        obtain ⟨k, G', rfl, hk, HS⟩ := hrel
        have tk := (takes_ok m k dn s1 (by omega)).1
        have hgl' : ((List.range' dn k).foldl (takeP m) s1).gat.length = s.gat.length := by rw [tk.len, hsz1]
        have hms' : ((List.range' dn k).foldl (takeP m) s1).ms = s.ms := by rw [tk.ms, hsz2]
        by_cases hkl : k < s.gat.length - dn
        · have hc : wr.cell? ⟨g, dn + k, none⟩ = some (.func (.func 59) #[] #[.pointer (some ⟨G.wc (dn + k), 0, none⟩), .pointer (some ⟨G.pc (dn + k), 0, none⟩), .pointer (some ⟨G.tc (dn + k), 0, none⟩)]) := by
            have := HS.out.st.rel.c_gat (g := g) (cap := cap) (by rw [HS.out.gv, hgl']; exact hg) (j := dn + k) (by rw [hgl']; omega)
            rw [this]
            unfold takeV ptrV
            rw [HS.out.wc, HS.out.pc, HS.out.tc]
          have tl := takes_len m k dn s1 (by omega) (fun j j' h1 h2 => by rw [hsg.out.1, hsg.out.1]; exact hap.out j j' h1 (by omega))
          have tg : gatS ((List.range' dn k).foldl (takeP m) s1) (dn + k) = gatS s (dn + k) := by rw [(tl.1 (dn + k)).1 (by omega), hsg.out.1]
          have tf : ((List.range' dn k).foldl (takeP m) s1).free.getD (gatS s (dn + k)).1 [] = s.free.getD (gatS s (dn + k)).1 [] := by rw [(tl.2 _).1 (fun j h1 h2 => by rw [hsg.out.1]; exact hap.out j (dn + k) (by omega) (by omega)), hsg.out.2]
          obtain ⟨tb1, tb2, tb3⟩ := hbt.out (dn + k) (by omega)
          have HC := Bx.mk (HT.out wr _ G' (dn + k) HS.out.st hgl' (by rw [hgl']; omega) (by rw [hms']; exact hml) (by rw [tg]; exact tb1) (by rw [tg]; exact tb2) (by rw [tg, tf]; exact tb3) (by rw [tk.freel, hsg.out.2]; exact hfl))
          clear tl tg tf tb1 tb2 tb3
          rw [HS.out.mB, HS.out.wc, HS.out.pc, HS.out.tc, ← takes_snoc] at HC
          have HN : Bx (∀ W1, (∃ G'', ST B nb no nc l W0 G0 W1 ((List.range' dn (k + 1)).foldl (takeP m) s1) G'' ∧ G''.wb = G'.wb ∧ G''.mB = G.mB ∧ G''.gv = G'.gv ∧ G''.wc = G.wc ∧ G''.pc = G.pc ∧ G''.tc = G.tc) → ∃ G'', NmS B nb no nc l W0 G0 G s1 m dn (k + 1) W1 G'') :=
            ⟨fun W1 ⟨G'', a, b, c, d, e, f, gg⟩ => ⟨G'', a, b.trans HS.out.wb, c, d.trans HS.out.gv, e, f, gg⟩⟩
          clear HS tk hgl' hms'
          go_wp2_with (first
            | (go_at_call 59; refine Calls.mono HC.out ?_; rintro e W1 ⟨rfl, h1⟩; obtain ⟨G2, h2⟩ := HN.out W1 h1; replace h2 := Bx.mk h2; clear h1))
          go_roundw
          case rel => exact ⟨k + 1, G2, by go_num, by omega, h2⟩
          case measure => simp [intOf]; omega
        · have hke : k = s.gat.length - dn := by omega
          have y8 : wr.cell? ⟨G.wb, 8, none⟩ = some (.slice (some ⟨g, 0, none⟩) s.gat.length cap) := by
            have := HS.out.st.rel.cw 8
            rw [HS.out.wb] at this
            rw [this, ← hg, ← HS.out.gv]
            rfl
          have hmx : m < ((List.range' dn k).foldl (takeP m) s1).ms.length := by rw [hms']; exact hml
          have y2 := (HS.out.st.rel.c_mn hmx 2).1
          have f2 := (HS.out.st.rel.c_mn hmx 2).2
          have HD := Bx.mk (HS.out.st.rel.setDone m s.gat.length hmx)
          have HZ : Bx (ST B nb no nc l W0 G0 (wr.setCell ⟨G'.mB m, 2, none⟩ (.int .i64 s.gat.length)) (doneP m s.gat.length ((List.range' dn k).foldl (takeP m) s1)) G') := ⟨HS.out.st.step HD.out.1 HD.out.2⟩
          rw [HS.out.mB] at y2 f2 HZ
          simp only [mnC] at y2
          simp at y2
          rw [hke] at HZ
          clear HS tk hgl' hms' HD HT
          go_wp2
          go_end0
          exact ⟨rfl, G', HZ.out⟩
end Go.Proofs.YtjjbgbadkbomlaaDoor
