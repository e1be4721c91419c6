import Derived.Test.YtjfabholalnbeabCEK
import Derived.Test.YtjfabholalnbeabCGN
namespace Go.Proofs.Ytjfabholalnbeab
open Go.RowKit Go.MapKept Go.ChangeMaps Go.WideShapes
set_option linter.unusedVariables false
set_option linter.unusedSimpArgs false

def ouStep (H : Int → Option Int) (B : Hd → List Int) (O : Int → Option Lk) (a : Ag) : Int → Option Lk := match lkD a (wk1 H B a.id) with
  | some l => upd O a.id (some l)
  | none => O
def ouD (H : Int → Option Int) (B : Hd → List Int) (s : List Ag) : Int → Option Lk := s.foldl (ouStep H B) (fun _ => none)
theorem ouD_snoc (H : Int → Option Int) (B : Hd → List Int) (s : List Ag) (a : Ag) : ouD H B (s ++ [a]) = ouStep H B (ouD H B s) a := by simp [ouD, List.foldl_append]
theorem ou_fin {w1 Y Z w6 : World} {om n : Nat} {O : Int → Option Lk} (ho : w1.heap.size = om) (h1 : Below w1.heap.size w1 Y) (h2 : Below Y.heap.size Y Z) (hm : LkM w6 om n O) (hg : Z.grownBy w6 (some om)) : Bx (LkM w6 om n O ∧ Below om w1 w6) := by
  have h3 := h1.trans (h2.mono h1.size)
  have h4 := h3.grown hg h3.size (fun r e => by cases e; omega)
  rw [ho] at h4
  exact ⟨hm, h4⟩
set_option maxRecDepth 100000 in
set_option maxHeartbeats 4000000 in
theorem outset_any (w : World) (f : Int → Ag) (wm nw am na ym : Nat) (M V : Int → Value) (hw : Int → Bool) (A : Int → List Int) (hs : SeR w f wm nw M hw am na V A) (p : Option Addr) (c : Nat) (s : List Ag) (h : AgsR w p c s) (hl : s.length ≤ 4096) (ht : totA s ≤ 8589934592) :
    Calls Try.prog 37 #[seV wm am ym, .slice p s.length c] w fun e w' => ∃ om n, e = .returned (.map (some om)) ∧ LkM w' om n (ouD (hoD f A (awD s)) (haD s) s) ∧ n ≤ s.length ∧ w.heap.size ≤ om ∧ Below w.heap.size w w' := by
  have hlc := h.len
  have hcm := h.max
  unfold maxLen at hcm
  have hmm := @run_makeMap Try.prog
  have hmf : ∀ (fn : Fn) (first cap : Array Value) (w : World), (Instr.makeFunc fn first cap).run Try.prog w = .ok (.func fn first cap) w := fun fn first cap w => rfl
  obtain ⟨W, hW⟩ : ∃ W, w.alloc (.cells #[.map (some wm), .map (some am), .map (some ym)] 80) = W := ⟨_, rfl⟩
  have hbW : Below w.heap.size w W := by rw [← hW]; exact below1 _ _
  have hkW : W.heap[w.heap.size]? = some (.cells #[.map (some wm), .map (some am), .map (some ym)] 80 (0, 0)) := by rw [← hW]; exact World.alloc_heap_new _ _
  have HOC : Bx (OuC W wm am ym w.heap.size (.slice p s.length c) (awD s) (hoD f A (awD s)) (haD s)) := ⟨⟨fun X hX => by
    have e := (hX.block _ (Array.getElem?_eq_some_iff.1 hkW).1).trans hkW
    exact ⟨cell_of e rfl, cell_of e rfl, cell_of e rfl⟩, fun X hX => awake_any X p c s (h.later (hbW.trans (hX.mono hbW.size))) hl, fun X hX q d hq => (holders_any X f wm nw am na ym M V hw A (hs.below (hbW.trans (hX.mono hbW.size))) q d _ hq (Nat.le_trans (awD_len s) hl)).mono (fun e w' ⟨mb, n, h1, h2, _, _, h3⟩ => ⟨mb, n, h1, h2, h3⟩), fun X hX => (byHand_any X p c s (h.later (hbW.trans (hX.mono hbW.size))) ht).mono (fun e w' ⟨n, _, h1, m, V, own, _, h3, _, h4, h5⟩ => ⟨_, h1, ⟨_, m, V, own, h3, h4⟩, h5⟩)⟩⟩
  have HS : Bx (AgsR w p c s ∧ Below w.heap.size w W) := ⟨h, hbW⟩
  have HWE : Bx (_ = W) := ⟨hW⟩
  clear hs h hW hbW hkW
  generalize awD s = aw at *
  generalize hoD f A aw = H at *
  generalize haD s = B at *
  simp only [seV]
  go_enter Try.func37, Try.ntmps37
  go_wp2
  rw [HWE.out]
  refine ou_region (b0 := w.heap.size) (sl := .slice p s.length c) (aw := aw) (H := H) (B := B) (by kernel_rfl) HOC.out ?_
  intro b5 b6 hm nh hb v14 w1 hb1 hk5 hk6 hho hhr hl5 hl6
  have I1 : Bx (Below W.heap.size W w1 ∧ w1.heap[b5]? = some (.cells #[.map (some hm)] 84 (0, 0)) ∧ w1.heap[b6]? = some (.cells #[.map (some hb)] 96 (0, 0)) ∧ HoM w1 hm nh H ∧ HaR w1 hb B) := ⟨hb1, hk5, hk6, hho, hhr⟩
  clear hb1 hk5 hk6 hho hhr HOC hl5 hl6
  simp only [ouFr]
  obtain ⟨W2, hW2⟩ : ∃ W2, w1.alloc (.map #[] 0) = W2 := ⟨_, rfl⟩
  have hb2 : Below w1.heap.size w1 W2 := by rw [← hW2]; exact below1 _ _
  have HI : Bx (LkM W2 w1.heap.size 0 (ouD H B []) ∧ Below w1.heap.size w1 W2) := ⟨by rw [← hW2]; exact lm_new w1, hb2⟩
  have HW2 : Bx (_ = W2) := ⟨hW2⟩
  obtain ⟨om, hom⟩ : ∃ om, w1.heap.size = om := ⟨_, rfl⟩
  have HOM : Bx (w1.heap.size = om) := ⟨hom⟩
  rw [hom] at HI
  clear hb2 hW2 hom
  go_wp2
  rw [HW2.out, HOM.out]
  clear hmm
  go_loopg [21] (s.length + 1) (fun g v wr => ∃ i n : Nat, g = s.length + 1 - i ∧ i ≤ s.length ∧ v = .int .i64 (i : Nat) ∧ Bx (n ≤ i ∧ LkM wr om n (ouD H B (s.take i)) ∧ Below om w1 wr))
  case atStart => exact ⟨0, 0, by simp, by omega, rfl, ⟨Nat.le_refl _, HI.out⟩⟩
  case round =>
    obtain ⟨i, n, hg, hil, rfl, HR⟩ := hrel
    clear HI HW2
    by_cases hlt : i < s.length
    · obtain ⟨b, o, ap, ac, hp, hc, rfl, hA, hcl⟩ := HS.out.1.at_ i hlt
      have hbr : Below w1.heap.size w1 wr := by rw [HOM.out]; exact HR.out.2.2
      have hbw : Below w.heap.size w wr := HS.out.2.trans ((I1.out.1.trans (hbr.mono I1.out.1.size)).mono HS.out.2.size)
      obtain ⟨c0, c1, c2, c3⟩ := hcl wr hbw
      have HTK : Bx (ouD H B (s.take (i + 1)) = ouStep H B (ouD H B (s.take i)) s[i]) := ⟨by rw [List.take_succ_eq_append_getElem hlt, ouD_snoc]⟩
      have hid := hA.id
      obtain ⟨Y, hY⟩ : ∃ Y, wr.alloc (.cells #[.int .i64 s[i].id, .bool s[i].awake, .slice ap s[i].arms.length ac, .slice hp s[i].held.length hc] 32) = Y := ⟨_, rfl⟩
      have hbY : Below wr.heap.size wr Y := by rw [← hY]; exact below1 _ _
      have hkY : Y.heap[wr.heap.size]? = some (.cells #[.int .i64 s[i].id, .bool s[i].awake, .slice ap s[i].arms.length ac, .slice hp s[i].held.length hc] 32 (0, 0)) := by rw [← hY]; exact World.alloc_heap_new _ _
      have hb1Y : Below w1.heap.size w1 Y := hbr.trans (hbY.mono hbr.size)
      have hbwY : Below w.heap.size w Y := hbw.trans (hbY.mono hbw.size)
      have HLK : Bx (Calls Try.prog 51 #[agV s[i] ap ac hp hc, .func (.func 52) #[] #[.pointer (some ⟨b5, 0, none⟩), .pointer (some ⟨b6, 0, none⟩), .pointer (some ⟨wr.heap.size, 0, none⟩)]] Y fun e w' => e = .returned (lT (lkD s[i] (wk1 H B s[i].id))) ∧ Below Y.heap.size Y w') := ⟨link_any Y s[i] ap hp ac hc (hA.later hbwY) _ _ _ (enters_of Try.func52 (by kernel_rfl) rfl) (fun X hX x hx => by
        obtain ⟨q, hq, rfl⟩ := List.mem_iff_getElem.1 hx
        obtain ⟨_, _, _, hx64, _⟩ := hA.arms.at_ q hq
        have h1X := hb1Y.trans (hX.mono hb1Y.size)
        exact outset1_any X _ hx64 b5 b6 wr.heap.size hm nh hb H B s[i].id _ _ _ ((h1X.block _ (Array.getElem?_eq_some_iff.1 I1.out.2.1).1).trans I1.out.2.1) ((h1X.block _ (Array.getElem?_eq_some_iff.1 I1.out.2.2.1).1).trans I1.out.2.2.1) ((hX.block _ (Array.getElem?_eq_some_iff.1 hkY).1).trans hkY) (MpI.below I1.out.2.2.2.1 h1X) (I1.out.2.2.2.2.below h1X))⟩
      have HC0 : Bx (∀ X, Below Y.heap.size Y X → X.cell? ⟨wr.heap.size, 0, none⟩ = some (.int .i64 s[i].id)) := ⟨fun X hX => cell_of ((hX.block _ (Array.getElem?_eq_some_iff.1 hkY).1).trans hkY) rfl⟩
      have d0 : Y.cell? ⟨wr.heap.size, 0, none⟩ = some (.int .i64 s[i].id) := cell_of hkY rfl
      have d1 : Y.cell? ⟨wr.heap.size, 1, none⟩ = some (.bool s[i].awake) := cell_of hkY rfl
      have d2 : Y.cell? ⟨wr.heap.size, 2, none⟩ = some (.slice ap s[i].arms.length ac) := cell_of hkY rfl
      have d3 : Y.cell? ⟨wr.heap.size, 3, none⟩ = some (.slice hp s[i].held.length hc) := cell_of hkY rfl
      have HO : Bx (n ≤ i ∧ LkM Y om n (ouD H B (s.take i)) ∧ Below w1.heap.size w1 Y ∧ i ≤ 4096) := ⟨HR.out.1, MpI.below HR.out.2.1 hbY, hb1Y, by omega⟩
      have HYE : Bx (_ = Y) := ⟨hY⟩
      simp only [agV] at HLK
      rw [← hY] at d0 d1 d2 d3
      clear hcl hA hY hbY hkY hb1Y hbwY hbw hbr HR
      generalize s[i] = a at *
      generalize ouD H B (s.take i) = O at *
      cases hlk : lkD a (wk1 H B a.id) with
      | none =>
        have HT2 : Bx (ouD H B (s.take (i + 1)) = O) := ⟨by rw [HTK.out, ouStep, hlk]⟩
        rw [hlk] at HLK
        simp only [lT, lkV, lk0, Option.getD_none, Option.isSome_none] at HLK
        clear hlk HTK
        go_wp2_with (first | (go_at_call 51; rw [HYE.out]; refine Calls.mono HLK.out ?_; rintro e w3 ⟨rfl, hb3⟩; have B3 : Bx (Below Y.heap.size Y w3) := ⟨hb3⟩; clear hb3))
        have HZ : Bx (∀ ob, LkM (w3.alloc ob) om n O ∧ Below om w1 (w3.alloc ob)) := ⟨fun ob => by
          have hz := (below1 w3 ob)
          have hy3 := B3.out.trans (hz.mono B3.out.size)
          refine ⟨MpI.below HO.out.2.1 hy3, ?_⟩
          have := HO.out.2.2.1.trans (hy3.mono HO.out.2.2.1.size)
          rw [HOM.out] at this
          exact this⟩
        go_roundg (s.length + 1 - (i + 1))
        case measure => omega
        case rel => exact ⟨i + 1, n, rfl, by omega, by simp, ⟨by have := HO.out.1; omega, by rw [HT2.out]; exact (HZ.out _).1, (HZ.out _).2⟩⟩
      | some l =>
        have HT2 : Bx (ouD H B (s.take (i + 1)) = upd O a.id (some l)) := ⟨by rw [HTK.out, ouStep, hlk]⟩
        rw [hlk] at HLK
        simp only [lT, lkV, lk0, Option.getD_some, Option.isSome_some] at HLK
        clear hlk HTK
        go_wp2_with (first | (go_at_call 51; rw [HYE.out]; refine Calls.mono HLK.out ?_; rintro e w3 ⟨rfl, hb3⟩; obtain ⟨Z, hZ⟩ : ∃ Z, w3.alloc (.cells #[.int .i64 l.waker, .int .i64 l.woken, .int .i64 l.chan] 38) = Z := ⟨_, rfl⟩; have hbZ : Below Y.heap.size Y Z := (by rw [← hZ]; exact hb3.trans ((below1 _ _).mono hb3.size)); have e0 := HC0.out Z hbZ; have hkZ : Z.heap[w3.heap.size]? = some (.cells #[.int .i64 l.waker, .int .i64 l.woken, .int .i64 l.chan] 38 (0, 0)) := (by rw [← hZ]; exact World.alloc_heap_new _ _); have e1 : Z.cell? ⟨w3.heap.size, 0, none⟩ = some (.int .i64 l.waker) := cell_of hkZ rfl; have e2 : Z.cell? ⟨w3.heap.size, 1, none⟩ = some (.int .i64 l.woken) := cell_of hkZ rfl; have e3 : Z.cell? ⟨w3.heap.size, 2, none⟩ = some (.int .i64 l.chan) := cell_of hkZ rfl; obtain ⟨w6, hput, hm6, hg6⟩ := LkM.put2 (MpI.below HO.out.2.1 hbZ) hid (by unfold maxLen; have := HO.out; omega) l; have HF : Bx (LkM w6 om (n + 1) (upd O a.id (some l)) ∧ Below om w1 w6) := ou_fin HOM.out HO.out.2.2.1 hbZ hm6 hg6; rw [← hZ] at e0 e1 e2 e3 hput; clear hZ hbZ hkZ hm6 hg6 hb3))
        go_roundg (s.length + 1 - (i + 1))
        case measure => omega
        case rel => exact ⟨i + 1, n + 1, rfl, by omega, by simp, ⟨by have := HO.out.1; omega, by rw [HT2.out]; exact HF.out.1, HF.out.2⟩⟩
    · have hie : i = s.length := by omega
      subst hie
      rw [List.take_length] at HR
      have B9 : Bx (Below w.heap.size w wr ∧ w.heap.size ≤ om) := ⟨HS.out.2.trans ((I1.out.1.trans ((by rw [HOM.out]; exact HR.out.2.2 : Below w1.heap.size w1 wr).mono I1.out.1.size)).mono HS.out.2.size), by rw [← HOM.out]; exact (HS.out.2.trans (I1.out.1.mono HS.out.2.size)).size⟩
      go_wp2
      go_ret
      exact ⟨om, n, rfl, HR.out.2.1, HR.out.1, B9.out.2, B9.out.1⟩
end Go.Proofs.Ytjfabholalnbeab
