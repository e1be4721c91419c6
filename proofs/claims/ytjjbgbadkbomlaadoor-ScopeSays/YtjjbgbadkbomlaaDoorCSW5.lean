import Derived.Test.YtjjbgbadkbomlaaDoorCSW4
import Derived.Test.YtjjbgbadkbomlaaDoorCSU
namespace Go.Proofs.YtjjbgbadkbomlaaDoor
open Go.RowKit Go.Maps
set_option linter.unusedVariables false
set_option linter.unusedSimpArgs false

/-- **name** -/
theorem name_any {B nb no nc : Nat} {l : List Nd} {W0 W : World} {s : SSt} {G0 G : WG} (i : Nat) (h : ST B nb no nc l W0 G0 W s G) (hpw : PW l s 1) (hi : i < l.length) (HT : ∀ m, TakeC B nb no nc l W0 G0 m s.gat.length) :
    Calls Tryd.prog 24 #[.pointer (some ⟨G.wb, 0, none⟩), .int .i64 i] W fun e W' => e = .returned (.tuple #[]) ∧ ∃ G', ST B nb no nc l W0 G0 W' (nameP l i s) G' := by
  unfold nameP
  have hwf := hpw.wf
  have hap := Bx.mk hpw.ap
  have hbt : Bx (∀ k, k < s.gat.length → (gatS s k).1 < l.length ∧ (gatS s k).2.length < 4294967296 ∧ (s.free.getD (gatS s k).1 []).length < 4294967296) := ⟨fun k hk => ⟨hwf.prog k hk, by have := hpw.tk k; omega, by have := hpw.fr (gatS s k).1; omega⟩⟩
  cases hm : s.sc (ndN l i).name with
  | none => exact (name_none i h hi hm).mono fun e W' ⟨a, b⟩ => ⟨a, G, b⟩
  | some m =>
    have hml := hwf.tops _ _ hm
    have hlv := hwf.lvl m (.top hm)
    have HB := Bx.mk (HT m)
    simp only []
    by_cases hneg : (mnS s m).decl < 0
    · have hv : isVarP l (mnS s m).decl = false := by unfold isVarP; rw [decide_eq_false (by omega)]; rfl
      rw [hv]
      by_cases hs : s.set = (i : Int)
      · rw [if_neg (by simp), if_pos (by simp [hs])]
        exact (name_setA i m h hi hm hml hneg hs).mono fun e W' ⟨a, b⟩ => ⟨a, G, b⟩
      · rw [if_neg (by simp), if_neg (by simp; omega)]
        exact name_okA i m h hi hm hml hneg hs hwf.refl_ hwf.freel hlv.2 HB hap hbt
    · obtain ⟨d, hd, hdl⟩ : ∃ d : Nat, (mnS s m).decl = d ∧ d < l.length := by
        rcases hwf.decl m hml with e | e | e
        · omega
        · omega
        · exact e
      by_cases hk : kdN l d = 32
      · have hv : isVarP l (mnS s m).decl = true := by unfold isVarP; rw [hd]; simp [hk]
        rw [hv]
        by_cases hdn : (mnS s m).done < s.gat.length
        · rw [if_pos (by simp [hdn])]
          exact (name_cap i m h hi hm hml d hd hdl hk hdn).mono fun e W' ⟨a, b⟩ => ⟨a, G, b⟩
        · rw [if_neg (by simp [hdn]), if_neg (by simp)]
          exact name_okB i m h hi hm hml d hd hdl hk hdn hwf.refl_ hwf.freel hlv.2 HB hap hbt
      · have hv : isVarP l (mnS s m).decl = false := by unfold isVarP; rw [hd]; simp [hk]
        rw [hv]
        by_cases hs : s.set = (i : Int)
        · rw [if_neg (by simp), if_pos (by simp [hs])]
          exact (name_setC i m h hi hm hml d hd hdl hk hs).mono fun e W' ⟨a, b⟩ => ⟨a, G, b⟩
        · rw [if_neg (by simp), if_neg (by simp; omega)]
          exact name_okC i m h hi hm hml d hd hdl hk hs hwf.refl_ hwf.freel hlv.2 HB hap hbt

/-! ### visitAll -/
/-- the open progs' gatherers keep their contract, where n progs are open -/
def TkOk (B nb no nc : Nat) (l : List Nd) (n : Nat) : Prop := ∀ W0 G0 m, TakeC B nb no nc l W0 G0 m n
/-- visit's contract, for a node: under a budget -/
def VisC (B nb no nc : Nat) (l : List Nd) (f i : Nat) : Prop := ∀ (W0 : World) (G0 : WG) (W : World) (s : SSt) (G : WG), ST B nb no nc l W0 G0 W s G → About s i → PW l s (cntF l f i) → s.blocks + 2 * f < 1099511627776 → TkOk B nb no nc l s.gat.length →
  Calls Tryd.prog 19 #[.pointer (some ⟨G.wb, 0, none⟩), .int .i64 i] W fun e W' => e = .returned (.tuple #[]) ∧ ∃ G', ST B nb no nc l W0 G0 W' (visF l f i s) G' ∧ G'.wb = G.wb
def cntL (l : List Nd) (f : Nat) (ks : List Int) : Nat := (ks.map fun k => cntF l f k.toNat).sum
theorem all_snoc (v : Nat → SSt → SSt) (ks : List Int) (k : Int) (s : SSt) : allP v (ks ++ [k]) s = v k.toNat (allP v ks s) := by simp [allP, List.foldl_append]
theorem cntL_snoc (l : List Nd) (f : Nat) (ks : List Int) (k : Int) : cntL l f (ks ++ [k]) = cntL l f ks + cntF l f k.toNat := by simp [cntL]
/-- in the midst of visitAll -/
structure VaS (B nb no nc : Nat) (l : List Nd) (W0 : World) (G0 G : WG) (f : Nat) (ks : List Int) (s : SSt) (j : Nat) (wr : World) (G' : WG) : Prop where
  st : ST B nb no nc l W0 G0 wr (allP (visF l f) (ks.take j) s) G'
  wb : G'.wb = G.wb
theorem va_part {l : List Nd} (hl : LOk l) (f : Nat) (ks : List Int) (s : SSt) (hks : ∀ k, k ∈ ks → k.toNat < l.length ∧ About s k.toNat) (h : PW l s (cntL l f ks)) (j : Nat) (hj : j < ks.length) :
    PW l (allP (visF l f) (ks.take j) s) (cntF l f (ks.getD j 0).toNat) ∧ About (allP (visF l f) (ks.take j) s) (ks.getD j 0).toNat ∧ (allP (visF l f) (ks.take j) s).blocks = s.blocks ∧ (allP (visF l f) (ks.take j) s).gat.length = s.gat.length := by
  have e : ks = ks.take j ++ (ks.getD j 0 :: ks.drop (j + 1)) := by
    rw [List.getD_eq_getElem?_getD, List.getElem?_eq_getElem hj]
    show ks = ks.take j ++ (ks[j] :: ks.drop (j + 1))
    rw [← List.drop_eq_getElem_cons hj, List.take_append_drop]
  have ec : cntL l f ks = cntL l f (ks.take j) + (cntF l f (ks.getD j 0).toNat + cntL l f (ks.drop (j + 1))) := by
    conv => lhs; rw [e]
    simp [cntL]
  rw [ec] at h
  have a := all_part hl.lt (fun i s => vis_part hl f i s) (ks.take j) s (fun k hk => hks k (List.mem_of_mem_take hk)) (h.less (by unfold cntL; omega))
  refine ⟨(h.next a).less (by omega), (hks _ (getD_mem hj)).2.of a.cnt.gat, ?_⟩
  obtain ⟨_, n, e, _⟩ := a.ok
  exact ⟨e.blocks, e.len⟩
set_option maxHeartbeats 1000000 in
set_option maxRecDepth 100000 in
theorem visitAll_any {B nb no nc : Nat} {l : List Nd} (hl : LOk l) {W0 W : World} {s : SSt} {G0 G : WG} (f : Nat) (ks : List Int) (ka : Option Addr) (kc : Nat) (h : ST B nb no nc l W0 G0 W s G) (hks : IntsV W B (.slice ka ks.length kc) ks)
    (hk : ∀ k, k ∈ ks → ∃ j : Nat, k = j ∧ j < l.length ∧ About s j ∧ VisC B nb no nc l f j) (hpw : PW l s (cntL l f ks)) (hbk : s.blocks + 2 * f < 1099511627776) (hT : TkOk B nb no nc l s.gat.length) :
    Calls Tryd.prog 29 #[.pointer (some ⟨G.wb, 0, none⟩), .slice ka ks.length kc] W fun e W' => e = .returned (.tuple #[]) ∧ ∃ G', ST B nb no nc l W0 G0 W' (allP (visF l f) ks s) G' ∧ G'.wb = G.wb := by
  obtain ⟨ka', kc', hke, hkc, hkm, hkn⟩ := hks.ex
  simp only [Value.slice.injEq, true_and] at hke
  obtain ⟨rfl, rfl⟩ := hke
  unfold maxLen at hkm
  have HV := Bx.mk fun j hj => va_part hl f ks s (fun k hk' => by obtain ⟨j, e, h1, h2, _⟩ := hk k hk'; rw [e]; exact ⟨h1, h2⟩) hpw j hj
  have HK := Bx.mk hk
  have H0 : Bx (VaS B nb no nc l W0 G0 G f ks s 0 W G) := ⟨h, rfl⟩
  have HW0 := Bx.mk h
  have HTk := Bx.mk hT
  clear h hks hk hpw hT
  go_enter Tryd.func29, Tryd.ntmps29
  go_wp2
  go_loopw [8] (fun x wr => ∃ (j : Nat) (G' : WG), x = .int .i64 j ∧ j ≤ ks.length ∧ Bx (VaS B nb no nc l W0 G0 G f ks s j wr G') ) (fun x _ => ks.length - (intOf x).toNat)
  case atStart => exact ⟨0, G, rfl, Nat.zero_le _, H0⟩
  case round =>
    obtain ⟨j, G', rfl, hj, HS⟩ := hrel
    by_cases hjl : j < ks.length
    · obtain ⟨b, o, rfl, hbB, hcell⟩ := hkn (by omega)
      obtain ⟨jn, he, hjn, hab, hv⟩ := HK.out (ks.getD j 0) (getD_mem hjl)
      have hc : wr.cell? ⟨b, o + j, none⟩ = some (.int .i64 jn) := by
        rw [HS.out.st.fr.bel.cell (p := ⟨b, o + j, none⟩) hbB, ← HW0.out.fr.bel.cell (p := ⟨b, o + j, none⟩) hbB, hcell j hjl, ← he]
        rw [List.getD_eq_getElem?_getD, List.getElem?_eq_getElem hjl]
        rfl
      obtain ⟨p1, p2, p3, p4⟩ := HV.out j hjl
      rw [he] at p1 p2
      have HCV := Bx.mk (hv W0 G0 wr _ G' HS.out.st p2 p1 (by rw [p3]; exact hbk) (by rw [p4]; exact HTk.out))
      rw [HS.out.wb] at HCV
      have HN : Bx (∀ W1, (∃ G'', ST B nb no nc l W0 G0 W1 (visF l f jn (allP (visF l f) (ks.take j) s)) G'' ∧ G''.wb = G.wb) → ∃ G'', Bx (VaS B nb no nc l W0 G0 G f ks s (j + 1) W1 G'')) := ⟨fun W1 ⟨G'', a, b'⟩ => ⟨G'', ⟨⟨by
          rw [List.take_succ_eq_append_getElem hjl, all_snoc]
          have : ks[j] = (jn : Int) := by rw [← he, List.getD_eq_getElem?_getD, List.getElem?_eq_getElem hjl]; rfl
          rw [this]
          exact a, b'⟩⟩⟩⟩
      clear HS hv p1 p2 p3 p4 hab he HK HV
      go_wp2_with (first
        | (go_at_call 19; refine Calls.mono HCV.out ?_; rintro e W1 ⟨rfl, h1⟩; obtain ⟨G2, h2⟩ := HN.out W1 h1; clear h1))
      go_roundw
      case rel => exact ⟨j + 1, G2, by go_num, by omega, h2⟩
      case measure => simp [intOf]; omega
    · have hje : j = ks.length := by omega
      have HZ : Bx (∃ G', ST B nb no nc l W0 G0 wr (allP (visF l f) ks s) G' ∧ G'.wb = G.wb) := ⟨G', by
        have := HS.out.st
        rw [hje, List.take_of_length_le (Nat.le_refl _)] at this
        exact this, HS.out.wb⟩
      clear HS HK HV
      go_wp2
      go_end0
      exact ⟨rfl, HZ.out⟩
end Go.Proofs.YtjjbgbadkbomlaaDoor
namespace Go.Proofs.YtjjbgbadkbomlaaDoor
open Go.RowKit Go.Maps
set_option linter.unusedVariables false
set_option linter.unusedSimpArgs false

/-- the names that are out of scope again -/
def outsP (s : SSt) (j : Nat) : SSt := (s.dcl.take j).foldl outP s
theorem outsP_succ (s : SSt) (j : Nat) (hj : j < s.dcl.length) : outsP s (j + 1) = outP (outsP s j) s.dcl[j] := by
  unfold outsP
  rw [List.take_succ_eq_append_getElem hj, List.foldl_append]
  rfl
theorem outsP_form {l : List Nd} {s : SSt} (h : SWf l s) (j : Nat) : outsP s j = { s with sc := (outsP s j).sc } ∧ ∀ i (hi : i < s.dcl.length), j ≤ i → (outsP s j).sc s.dcl[i] = s.sc s.dcl[i] := by
  obtain ⟨s', e1, e2, e3⟩ := outs_ok (s.dcl.take j) s (h.one.sublist (List.take_sublist _ _))
  unfold outsP
  rw [e1]
  refine ⟨e2, fun i hi hj => (e3 _).2 fun hc => ?_⟩
  obtain ⟨i', hi', e⟩ := List.getElem_of_mem hc
  simp at hi'
  rw [List.getElem_take] at e
  have hp := h.one
  unfold List.Nodup at hp
  rw [List.pairwise_iff_getElem] at hp
  exact hp i' i (by omega) hi (by omega) e
theorem SRel.dropped {B : Nat} {lv : Value} {N : Nat} {W W1 : World} {s : SSt} {G : WG} (h : SRel B lv N W s G) (nm : ByteArray) (m : Nat) (hm : s.sc nm = some m) {D : DataW Unit} (h1 : W.ownsMap Tryd.prog 9 mnElem G.mb (Maps.size D) D) (h2 : Maps.size D ≤ s.ms.length) (h3 : ScIs s.sc G.mB D)
    (hown : W1.ownsMap Tryd.prog 9 mnElem G.mb (Maps.size D) (D.del (keyL nm))) : W1.ownsMap Tryd.prog 9 mnElem G.mb (Maps.size (D.del (keyL nm))) (D.del (keyL nm)) ∧ Maps.size (D.del (keyL nm)) + 1 ≤ s.ms.length ∧ ScIs (fun x => if x = nm then none else s.sc x) G.mB (D.del (keyL nm)) := by
  have hs := Maps.size_del (h1.tidy keyedS) (k := keyL nm)
  rw [h3.has, hm] at hs
  simp at hs
  exact ⟨owns_size hown, by omega, h3.del nm fun x => rfl⟩
theorem SRel.back {B : Nat} {lv : Value} {N : Nat} {W W1 : World} {s : SSt} {G : WG} (h : SRel B lv N W s G) (nm : ByteArray) (hnm : nm.size ≤ maxLen) (m' : Nat) {D : DataW Unit} (ht : W.mapTurned W1 G.mb) (hown : W1.ownsMap Tryd.prog 9 mnElem G.mb (Maps.size D) D) (hsz : Maps.size D + 1 ≤ s.ms.length) (hbd : s.ms.length < 4294967296) (hsc : ScIs (fun x => if x = nm then none else s.sc x) G.mB D) :
    ∃ W2, (Instr.mapUpdate 52 (.map (some G.mb)) (.string nm) (.pointer (some ⟨G.mB m', 0, none⟩))).run Tryd.prog W1 = .ok () W2 ∧ SRel B lv N W2 { s with sc := fun x => if x = nm then some m' else s.sc x } G ∧ Fr B W G W2 G := by
  obtain ⟨W2, hrun, hown2, hturn⟩ := hown.store keyedS Tryd.underlying52 (by unfold maxLen; omega) (key := .string nm) (val := .pointer (some ⟨G.mB m', 0, none⟩)) (WideMaps.keyOf_string_mk Tryd.underlying9 hnm) (mnElem_ptr (G.mB m'))
  have hle := hown2.size_le
  refine ⟨W2, hrun, ?_⟩
  refine h.mapSet (ht.trans hturn) _ hown2 (Nat.le_trans hle hsz) (hsc.put nm m' fun x => ?_)
  by_cases e : x = nm
  · simp [e]
  · simp [e]
/-- a row's cell -/
theorem row_cell {W : World} {base : Nat} {e : TypeId} {g n cap : Nat} {xs : List Value} (h : W.ownsRow base e 1 (.slice (some ⟨g, 0, none⟩) n cap) n xs) {j : Nat} (hj : j < n) : W.cell? ⟨g, j, none⟩ = xs[j]? := by
  rcases h.2 with ⟨h1, h2⟩ | ⟨g', cap', cur, hv, _, hb, h1, h2, h3, h4⟩
  · cases h1
  · simp only [Value.slice.injEq, Option.some.injEq, Addr.mk.injEq, true_and] at hv
    obtain ⟨⟨rfl, _⟩, rfl⟩ := hv
    rw [cell_of_row W g j cur _ _ hb, ← h4, List.getElem?_take, if_pos (by omega), Array.getElem?_toList]
theorem row_some {W : World} {base : Nat} {e : TypeId} {v : Value} {n : Nat} {xs : List Value} (h : W.ownsRow base e 1 v n xs) : (v = .slice none 0 0 ∧ n = 0) ∨ ∃ g cap, v = .slice (some ⟨g, 0, none⟩) n cap := by
  rcases h.2 with h1 | ⟨g, cap, cur, hv, _⟩
  · exact .inl h1
  · exact .inr ⟨g, cap, hv⟩
/-- where block's last loop stands -/
structure BlS (B nb no nc : Nat) (l : List Nd) (W1 : World) (G1 G2 : WG) (s1 : SSt) (j : Nat) (wr : World) : Prop where
  st : ST B nb no nc l W1 G1 wr (outsP s1 j) G2
/-- what a round of block's last loop reads -/
theorem BlS.round {B nb no nc : Nat} {l : List Nd} {W1 : World} {G1 G2 : WG} {s1 : SSt} {j : Nat} {wr : World} (h : BlS B nb no nc l W1 G1 G2 s1 j wr) (hwf : SWf l s1) (hj : j < s1.dcl.length) (hbd : s1.ms.length < 4294967296) :
    ∃ m o, (Instr.lookup 52 (.map (some G2.mb)) (.string s1.dcl[j]) false).run Tryd.prog wr = .ok (.pointer (some ⟨G2.mB m, 0, none⟩)) wr ∧ wr.cell? ⟨G2.mB m, 3, none⟩ = some (outV G2.mB o) ∧ keyOf Tryd.prog 9 (.string s1.dcl[j]) = some (keyL s1.dcl[j]) ∧
      ∃ D, wr.ownsMap Tryd.prog 9 mnElem G2.mb (Maps.size D) D ∧ ∀ W3, W3.ownsMap Tryd.prog 9 mnElem G2.mb (Maps.size D) (D.del (keyL s1.dcl[j])) → wr.mapTurned W3 G2.mb →
        W3.cell? ⟨G2.wb, 5, none⟩ = some (.map (some G2.mb)) ∧ (o = none → BlS B nb no nc l W1 G1 G2 s1 (j + 1) W3) ∧ ∀ m', o = some m' → ∃ W4, (Instr.mapUpdate 52 (.map (some G2.mb)) (.string s1.dcl[j]) (.pointer (some ⟨G2.mB m', 0, none⟩))).run Tryd.prog W3 = .ok () W4 ∧ BlS B nb no nc l W1 G1 G2 s1 (j + 1) W4 := by
  obtain ⟨hform, hsame⟩ := outsP_form hwf j
  obtain ⟨m, hm, _⟩ := hwf.has s1.dcl[j] (List.getElem_mem hj)
  have hml := hwf.tops _ _ hm
  have hsc : (outsP s1 j).sc s1.dcl[j] = some m := by rw [hsame j hj (Nat.le_refl _)]; exact hm
  have hmn : mnS (outsP s1 j) m = mnS s1 m := by rw [hform]; rfl
  have hln : (outsP s1 j).ms = s1.ms := by rw [hform]
  obtain ⟨i, hi, hin⟩ := hwf.nms s1.dcl[j] (List.getElem_mem hj)
  have hsz : s1.dcl[j].size ≤ maxLen := by rw [hin]; exact (h.st.nds.wf i hi).name
  have hlk := h.st.rel.look s1.dcl[j] hsz
  rw [hsc] at hlk
  have hoP : outsP s1 (j + 1) = { outsP s1 j with sc := fun x => if x = s1.dcl[j] then (mnS s1 m).outer else (outsP s1 j).sc x } := by
    rw [outsP_succ s1 j hj]
    unfold outP outerP
    rw [hsc]
    simp only [hmn]
  refine ⟨m, (mnS s1 m).outer, hlk, ?_, WideMaps.keyOf_string_mk Tryd.underlying9 hsz, ?_⟩
  · rw [(h.st.rel.c_mn (m := m) (by rw [hln]; exact hml) 3).1, hmn]; rfl
  · obtain ⟨D, d1, d2, d3⟩ := h.st.rel.hmap
    refine ⟨D, d1, fun W3 hown ht => ?_⟩
    obtain ⟨e1, e2, e3⟩ := h.st.rel.dropped s1.dcl[j] m hsc d1 d2 d3 hown
    have hmt := h.st.rel.mapSet ht _ e1 (by omega) e3
    refine ⟨hmt.1.cw 5, fun ho => ⟨?_⟩, fun m' ho => ?_⟩
    · rw [hoP, ho]
      exact h.st.step hmt.1 hmt.2
    · obtain ⟨W4, hrun, r1, r2⟩ := h.st.rel.back s1.dcl[j] hsz m' ht e1 e2 (by rw [hln]; exact hbd) e3
      refine ⟨W4, hrun, ⟨?_⟩⟩
      rw [hoP, ho]
      exact h.st.step r1 r2
set_option maxHeartbeats 2000000 in
set_option maxRecDepth 100000 in
theorem block_v {B nb no nc : Nat} {l : List Nd} {W0 W : World} {s : SSt} {G0 G : WG} (h : ST B nb no nc l W0 G0 W s G) (hbk : s.blocks < 1099511627776) (caps : Array Value) (ins : SSt → SSt)
    (HI : ∀ W1, ST B nb no nc l W1 (entG G) W1 { s with dcl := [], blocks := s.blocks + 1 } (entG G) → Fr B W G W1 (entG G) → Calls Tryd.prog 28 caps W1 fun e W2 => e = .returned (.tuple #[]) ∧ ∃ G2, ST B nb no nc l W1 (entG G) W2 (ins { s with dcl := [], blocks := s.blocks + 1 }) G2 ∧ G2.wb = G.wb)
    (hwf : SWf l (ins { s with dcl := [], blocks := s.blocks + 1 })) (hms : (ins { s with dcl := [], blocks := s.blocks + 1 }).ms.length < 4294967296) (hblk : (ins { s with dcl := [], blocks := s.blocks + 1 }).blocks = s.blocks + 1) (hdl : (ins { s with dcl := [], blocks := s.blocks + 1 }).dcl.length < 4294967296) :
    Calls Tryd.prog 27 #[.pointer (some ⟨G.wb, 0, none⟩), .func (.func 28) #[] caps] W fun e W' => e = .returned (.tuple #[]) ∧ ∃ G', ST B nb no nc l W0 G0 W' (blockP ins s) G' ∧ G'.wb = G.wb := by
  have w6 := h.rel.cw 6
  have w7 := h.rel.cw 7
  simp only [wlkC] at w6 w7
  simp at w6 w7
  have f6 := h.rel.fw 6
  have f7 := h.rel.fw 7
  generalize hW1 : (W.setCell ⟨G.wb, 7, none⟩ (.slice none 0 0)).setCell ⟨G.wb, 6, none⟩ (.int .i64 ((s.blocks : Int) + 1)) = W1
  obtain ⟨hr1, hf1⟩ := h.rel.enter (W' := W1) (by rw [← hW1]; rfl)
  have hst1 : ST B nb no nc l W1 (entG G) W1 { s with dcl := [], blocks := s.blocks + 1 } (entG G) := ST.start hr1 (h.nds.below hf1.bel)
  have HC := Bx.mk (HI W1 hst1 hf1)
  have ho1 : Onl G.wb W W1 := by rw [← hW1]; exact (Onl.set _ _ _ _).trans (Onl.set _ _ _ _)
  have hbP : blockP ins s = { outsP (ins { s with dcl := [], blocks := s.blocks + 1 }) (ins { s with dcl := [], blocks := s.blocks + 1 }).dcl.length with blocks := (outsP (ins { s with dcl := [], blocks := s.blocks + 1 }) (ins { s with dcl := [], blocks := s.blocks + 1 }).dcl.length).blocks - 1, dcl := s.dcl } := by
    unfold blockP outsP; rw [List.take_of_length_le (Nat.le_refl _)]
  generalize hs1 : ins { s with dcl := [], blocks := s.blocks + 1 } = s1 at *
  have HZ : Bx (∀ wr G2, BlS B nb no nc l W1 (entG G) G2 s1 s1.dcl.length wr → ∃ G', ST B nb no nc l W0 G0 ((wr.setCell ⟨G.wb, 6, none⟩ (.int .i64 (s.blocks : Int))).setCell ⟨G.wb, 7, none⟩ G.dv) (blockP ins s) G' ∧ G'.wb = G.wb) := ⟨fun wr G2 hb => by
    have hbl : (outsP s1 s1.dcl.length).blocks = s.blocks + 1 := by rw [(outsP_form hwf _).1]; exact hblk
    have := h.rel.leave (Wf := (wr.setCell ⟨G.wb, 6, none⟩ (.int .i64 (s.blocks : Int))).setCell ⟨G.wb, 7, none⟩ G.dv) hf1 ho1.size (fun b hb => ho1.block b fun e => by have := h.rel.ldv b hb; rw [e, h.rel.lwb] at this; cases this) hb.st.fr hb.st.rel (by rw [hbl]; rfl)
    exact ⟨leaG G2 G.dv, by rw [hbP]; exact h.step this.1 this.2, hb.st.fr.wb⟩⟩
  have HS0 : Bx (∀ W2 G2, ST B nb no nc l W1 (entG G) W2 s1 G2 → BlS B nb no nc l W1 (entG G) G2 s1 0 W2) := ⟨fun W2 G2 h2 => ⟨h2⟩⟩
  have HR := Bx.mk fun (wr : World) (G2 : WG) (j : Nat) (hb : BlS B nb no nc l W1 (entG G) G2 s1 j wr) (hj : j < s1.dcl.length) => hb.round hwf hj hms
  have HFm := Bx.mk fun j => (outsP_form hwf j).1
  obtain ⟨da0, dc0, hdf0⟩ := row_form h.rel.hdv
  rw [hdf0] at w7 HZ
  clear h hr1 hf1 hst1 HI hwf hs1 ho1 hbP
  go_enter Tryd.func27, Tryd.ntmps27
  go_wp2_with (first
    | (go_at_call 28; refine Calls.mono HC.out ?_; rintro e W2 ⟨rfl, G2, h2, hwb⟩; replace h2 := Bx.mk h2; have x7 : W2.cell? ⟨G.wb, 7, none⟩ = some G2.dv := (by rw [← hwb]; exact h2.out.rel.cw 7); obtain ⟨da, dcp, hdf⟩ := row_form h2.out.rel.hdv; rw [hdf] at x7; clear HC w6 w7 f6 f7 hW1))
  go_loopw [29] (fun x wr => ∃ j : Nat, x = .int .i64 j ∧ j ≤ s1.dcl.length ∧ Bx (BlS B nb no nc l W1 (entG G) G2 s1 j wr)) (fun x _ => s1.dcl.length - (intOf x).toNat)
  case atStart => exact ⟨0, rfl, Nat.zero_le _, ⟨HS0.out _ _ h2.out⟩⟩
  case round =>
    obtain ⟨j, rfl, hj, HS⟩ := hrel
    have y5 : wr.cell? ⟨G.wb, 5, none⟩ = some (.map (some G2.mb)) := by rw [← hwb]; exact HS.out.st.rel.cw 5
    by_cases hjl : j < s1.dcl.length
    · obtain ⟨g, rfl⟩ : ∃ g, da = some ⟨g, 0, none⟩ := by
        rcases row_some h2.out.rel.hdv with ⟨_, e⟩ | ⟨g, cap, e⟩
        · omega
        · rw [hdf] at e
          simp only [Value.slice.injEq] at e
          exact ⟨g, e.1⟩
      have hce : wr.cell? ⟨g, j, none⟩ = some (.string s1.dcl[j]) := by
        have hr := HS.out.st.rel.hdv
        rw [hdf, HFm.out j] at hr
        have := row_cell hr (j := j) hjl
        rw [this]
        simp [hjl]
      obtain ⟨m, o, hlook, hmc, hkey, D, hown, HW⟩ := HR.out wr G2 j HS.out hjl
      replace HW := Bx.mk HW
      rw [hwb] at HW
      have hbe : s1.dcl.length < 4294967296 := hdl
      generalize s1.dcl[j] = nm at *
      clear HS HR HS0 HFm
      cases o with
      | none =>
        unfold outV at hmc
        go_wp2_with (first
          | (at_delete; refine wpList_delete_own _ rfl _ _ 52 9 rfl 61 keyedS Tryd.underlying52 _ G2.mb _ D rfl hown _ _ rfl hkey ?_; intro W3 hown3 hturn3; obtain ⟨z5, HN, _⟩ := HW.out W3 hown3 hturn3; replace HN := Bx.mk (HN rfl); clear hown3 hturn3))
        go_roundw
        case rel => exact ⟨j + 1, by go_num, by omega, HN⟩
        case measure => simp [intOf]; omega
      | some m' =>
        unfold outV ptrV at hmc
        go_wp2_with (first
          | (at_delete; refine wpList_delete_own _ rfl _ _ 52 9 rfl 61 keyedS Tryd.underlying52 _ G2.mb _ D rfl hown _ _ rfl hkey ?_; intro W3 hown3 hturn3; obtain ⟨z5, _, HN⟩ := HW.out W3 hown3 hturn3; obtain ⟨W4, hrun, HN⟩ := HN m' rfl; replace HN := Bx.mk HN; clear hown3 hturn3))
        go_roundw
        case rel => exact ⟨j + 1, by go_num, by omega, HN⟩
        case measure => simp [intOf]; omega
    · have hje : j = s1.dcl.length := by omega
      have hbl : (outsP s1 j).blocks = s.blocks + 1 := by rw [HFm.out j]; exact hblk
      have y6 : wr.cell? ⟨G.wb, 6, none⟩ = some (.int .i64 ((s.blocks : Int) + 1)) := by
        have := HS.out.st.rel.cw 6
        rw [hwb] at this
        rw [this]
        simp [wlkC, hbl]
      have y7 : wr.cell? ⟨G.wb, 7, none⟩ = some (.slice da s1.dcl.length dcp) := by
        have := HS.out.st.rel.cw 7
        rw [hwb] at this
        rw [this, ← hdf]
        rfl
      have g6 : wr.frozen? ⟨G.wb, 6, none⟩ = false := by rw [← hwb]; exact HS.out.st.rel.fw 6
      have g7 : wr.frozen? ⟨G.wb, 7, none⟩ = false := by rw [← hwb]; exact HS.out.st.rel.fw 7
      have HE := Bx.mk (HZ.out wr G2 (by rw [← hje]; exact HS.out))
      clear HS HR HS0 HFm HZ hbl
      go_wp2
      go_end0
      refine ⟨rfl, ?_⟩
      simpa using HE.out
end Go.Proofs.YtjjbgbadkbomlaaDoor
