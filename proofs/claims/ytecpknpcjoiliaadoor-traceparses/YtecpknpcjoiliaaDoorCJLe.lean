import Derived.Test.YtecpknpcjoiliaaDoorCJLa
import Derived.Laws.Rows
namespace Go.Proofs.YtecpknpcjoiliaaDoor
open Go.RowKit Go.Shelf
set_option linter.unusedVariables false
set_option linter.unusedSimpArgs false

theorem lst_start (w : World) (H : Nat) (hH : w.heap.size = H) (W : World) (h : (w.alloc (lnX (.slice none 0 0) (.slice none 0 0))).alloc (lnX (.slice none 0 0) (.slice none 0 0)) = W) : Lst w W H [] (.slice none 0 0) (.slice none 0 0) [] := by
  subst hH
  subst h
  refine ⟨(below1 w _).trans ((below1 _ _).mono (by simp)), ?_, heap_newH _ _ _ (by simp), Lnd.nil _ _⟩
  rw [Below.heap_alloc _ _ _ (by simp)]
  exact heap_newH _ _ _ rfl
theorem owns_slice {W : World} {B s n : Nat} {t : TypeId} {v : Value} {cs : List Value} (h : W.ownsRow B t s v n cs) : ∃ a k c, v = .slice a k c := by
  rcases h.2 with ⟨rfl, _⟩ | ⟨g, cap, cur, rfl, _⟩
  · exact ⟨_, _, _, rfl⟩
  · exact ⟨_, _, _, rfl⟩
def ev9 : Ev := ⟨-9, 0, 0, 0, 0, 0, 0, []⟩
/-- what is lent: the events with one more behind, their lists with a mark behind each -/
structure Lent (W : World) (B : Nat) (es : List Ev) (va vl : Value) (gs : List (Nat × Nat)) : Prop where
  len : gs.length = es.length
  evo : EvO W B va (es ++ [ev9]) (gsL gs ++ [(none, 0)])
  row : W.ownsRow B 22 1 vl es.length (lsC es gs)
  two : ∀ i (h1 : i < es.length) (h2 : i < gs.length), NRo W B (.slice (some ⟨gs[i].1, 0, none⟩) (es[i].list.length + 1) gs[i].2) (es[i].list ++ [-77])
/-- the worlds of the end -/
structure Lfin (w W0 W1 W2 W3 : World) (H : Nat) (es : List Ev) (va vl va' : Value) (gs : List (Nat × Nat)) : Prop where
  c0 : W0.cell? ⟨H + 1, 0, none⟩ = some va
  r1 : ∀ ty, (Builtin.append_ #[29, 29] ty #[va, .slice (some ⟨W0.heap.size, 0, none⟩) 1 1]).run Tryd.prog (W0.alloc (.cells #[.int .i64 (-9), .int .i64 0, .int .i64 0, .int .i64 0, .int .i64 0, .int .i64 0, .int .i64 0, .slice none 0 0] 24 (0, 0))) = .ok va' W1
  c1 : W1.cell? ⟨H + 1, 0, none⟩ = some va
  f1 : W1.frozen? ⟨H + 1, 0, none⟩ = false
  w2 : W1.setCell ⟨H + 1, 0, none⟩ va' = W2
  c2 : W2.cell? ⟨H + 1, 0, none⟩ = some va'
  d2 : W2.cell? ⟨H + 1, 1, none⟩ = some vl
  e2 : W2.cell? ⟨H, 0, none⟩ = some (.slice none 0 0)
  g2 : W2.cell? ⟨H, 1, none⟩ = some (.slice none 0 0)
  f2 : W2.frozen? ⟨H, 0, none⟩ = false
  h2 : W2.frozen? ⟨H, 1, none⟩ = false
  w3 : (W2.setCell ⟨H, 0, none⟩ va').setCell ⟨H, 1, none⟩ vl = W3
  c3 : W3.cell? ⟨H, 0, none⟩ = some va'
  d3 : W3.cell? ⟨H, 1, none⟩ = some vl
  b3 : W3.heap[H]? = some (lnX va' vl)
  bel : Below H w W3
  lent : Lent W3 (H + 2) es va' vl gs
  sa : ∃ a k c, va' = .slice a k c
  sl : ∃ a k c, vl = .slice a k c
set_option maxHeartbeats 2000000 in
theorem Lst.last {w W0 : World} {H : Nat} {es : List Ev} {va vl : Value} {gs : List (Nat × Nat)} (h : Lst w W0 H es va vl gs) (hes : es.length ≤ 1099511627776) : ∃ W1 W2 W3 va', Lfin w W0 W1 W2 W3 H es va vl va' gs := by
  have hz := h.sz
  obtain ⟨va', W1, r1, l1, g1⟩ := h.lnd.evo.app hz ev9 none 0 ⟨rfl, .inl ⟨rfl, rfl⟩⟩ W0.heap.size (fun g hg => by cases hg) (fun i hi n g hg => by
    have hi' : i < gs.length := by unfold gsL at hi; simpa using hi
    unfold gsL at hi hg
    rw [List.getElem_map] at hg
    simp only [Value.ownBlock, Option.some.injEq] at hg
    have := (h.lnd.two i (by rw [← h.lnd.len]; exact hi') hi').lt (g := gs[i].1) rfl
    omega) hes
  have k1 := owns_kind h.lnd.evo.row
  have oa : ∀ k, va.ownBlock = some k → H + 2 ≤ k := fun k hk => (owns_block h.lnd.evo.row hk).1
  have hx1 := grown_at g1 h.rx fun k hk => by have := oa k hk; omega
  have h01 := grown_at g1 h.r0 fun k hk => by have := oa k hk; omega
  have b1 : Below H W0 W1 := (Below.refl _ _).grown g1 (by omega) fun k hk => by have := oa k hk; omega
  have row1 := owns_grown h.lnd.row g1 (by decide) k1
  have two1 : ∀ i (h1 : i < es.length) (h2 : i < gs.length), NRo W1 (H + 2) (.slice (some ⟨gs[i].1, 0, none⟩) (es[i].list.length + 1) gs[i].2) (es[i].list ++ [-77]) := fun i h1 h2 => owns_grown (h.lnd.two i h1 h2) g1 (by decide) k1
  obtain ⟨W2, hW2⟩ : ∃ W2, W1.setCell ⟨H + 1, 0, none⟩ va' = W2 := ⟨_, rfl⟩
  have hk2 : ∀ y, y ≠ H + 1 → W2.heap[y]? = W1.heap[y]? := fun y hy => by rw [← hW2]; exact Below.heap_setCell W1 ⟨H + 1, 0, none⟩ _ y hy
  have hx2 : W2.heap[H + 1]? = some (lnX va' vl) := by
    rw [← hW2]
    have := Lib.heap_setCell_same (i := 0) hx1 va'
    simpa using this
  have h02 : W2.heap[H]? = some (lnX (.slice none 0 0) (.slice none 0 0)) := by rw [hk2 H (by omega)]; exact h01
  have b2 : Below H W1 W2 := by rw [← hW2]; exact (Below.refl H W1).setCell (p := ⟨H + 1, 0, none⟩) (Nat.le_succ _) _
  obtain ⟨W3, hW3⟩ : ∃ W3, (W2.setCell ⟨H, 0, none⟩ va').setCell ⟨H, 1, none⟩ vl = W3 := ⟨_, rfl⟩
  have hk3 : ∀ y, y ≠ H → W3.heap[y]? = W2.heap[y]? := fun y hy => by
    rw [← hW3, Below.heap_setCell _ ⟨H, 1, none⟩ _ y hy, Below.heap_setCell _ ⟨H, 0, none⟩ _ y hy]
  have h03 : W3.heap[H]? = some (lnX va' vl) := by
    have a1 : (W2.setCell ⟨H, 0, none⟩ va').heap[H]? = some (lnX va' (.slice none 0 0)) := by
      have := Lib.heap_setCell_same (i := 0) h02 va'
      simpa using this
    rw [← hW3]
    have := Lib.heap_setCell_same (i := 1) a1 vl
    simpa using this
  have b3 : Below H W2 W3 := by
    rw [← hW3]
    exact ((Below.refl H W2).setCell (p := ⟨H, 0, none⟩) (Nat.le_refl _) _).trans ((Below.refl H _).setCell (p := ⟨H, 1, none⟩) (Nat.le_refl _) _)
  have hs : ∀ y, H + 2 ≤ y → y < W1.heap.size → W3.heap[y]? = W1.heap[y]? := fun y hy _ => by rw [hk3 y (by omega), hk2 y (by omega)]
  exact ⟨W1, W2, W3, va', ⟨cell_blk h.rx rfl, r1, cell_blk hx1 rfl, frz_blk hx1, hW2, cell_blk hx2 rfl, cell_blk hx2 rfl, cell_blk h02 rfl, cell_blk h02 rfl, frz_blk h02, frz_blk h02, hW3, cell_blk h03 rfl, cell_blk h03 rfl, h03, h.bel.trans (b1.trans (b2.trans b3)), ⟨h.lnd.len, l1.on fun y h1 h2 _ => hs y h1 h2, owns_same row1 hs, fun i h1 h2 => owns_same (two1 i h1 h2) hs⟩, owns_slice l1.row, owns_slice h.lnd.row⟩⟩
set_option maxRecDepth 100000 in
set_option maxHeartbeats 4000000 in
theorem lend_any (w : World) (a : Option Addr) (cap : Nat) (es : List Ev) (hp : EvsV w w.heap.size a es) (ht : totE es ≤ 8796093022000) :
    Calls Tryd.prog 13 #[.slice a es.length cap] w fun e w' => ∃ va vl gs, e = .returned (.agg #[va, vl]) ∧ Bx (Below w.heap.size w w' ∧ Lent w' (w.heap.size + 2) es va vl gs) := by
  obtain ⟨H, hH⟩ : ∃ H, w.heap.size = H := ⟨_, rfl⟩
  rw [hH] at hp ⊢
  have HP : Bx _ := ⟨hp⟩
  have hlen := totE_len es
  clear hp
  go_enter Tryd.func13, Tryd.ntmps13
  go_wp2
  go_loopw [4] (fun x wr => ∃ (k : Nat), k ≤ es.length ∧ x = .int .i64 k ∧ Bx (∃ va vl gs, Lst w wr H (es.take k) va vl gs)) (fun x _ => es.length - (intOf x).toNat)
  case atStart => exact ⟨0, Nat.zero_le _, rfl, ⟨_, _, _, lst_start w H hH _ rfl⟩⟩
  case round =>
    obtain ⟨k, hk, rfl, HI⟩ := hrel
    obtain ⟨va, vl, gs, hI⟩ := HI.out
    clear HI
    by_cases hlt : k < es.length
    · obtain ⟨b, o, rfl, hb, hc⟩ := (HP.out.below hI.bel).at_ (by omega)
      obtain ⟨la, lc, hev⟩ := hc k hlt
      have htk := totE_at hlt
      have htake : es.take (k + 1) = es.take k ++ [es[k]] := List.take_succ_eq_append_getElem hlt
      generalize es[k] = e at *
      obtain ⟨c0, c1, c2, c3, c4, c5, c6, c7, hli⟩ := hev
      obtain ⟨n, hn⟩ : ∃ n, n = e.list.length := ⟨_, rfl⟩
      obtain ⟨W2, W3, W4, W5, W6, W7, W8, W9, v3, va', vl', g, c, HR⟩ := hI.round hH e n hn la lc hli (by omega) (by rw [List.length_take]; omega)
      obtain ⟨w2, d2, r3, r4, cp, d4, f4, w5, d5, r6, d6, f6, w7, d7, b7, r8, d8, f8, w9, st⟩ := HR
      obtain ⟨p0, p1, p2, p3, p4, p5, p6, p7⟩ := evB_cells b7
      obtain ⟨la', ln', lc', hvl⟩ := owns_slice st.lnd.row
      obtain ⟨aa', an', ac', hva⟩ := owns_slice st.lnd.evo.row
      subst hvl
      subst hva
      rw [← hn] at c7
      have hz := hI.sz
      have HN : Bx (∃ va vl gs, Lst w W9 H (es.take (k + 1)) va vl gs) := ⟨_, _, _, by rw [htake]; exact st⟩
      have hkI : (k : Int) < (es.length : Int) := by omega
      have hnl : n ≤ 8796093022000 := by omega
      clear hI hc hli htake htk st b7 hn HP
      go_wp2_with (first
        | (at_builtin; refine wpList_appI rfl (.tmp 19) (.tmp 21) 22 rfl rfl rfl r3 ?_)
        | (at_builtin; refine wpList_appI rfl (.tmp 23) (.tmp 24) 22 rfl rfl rfl r4 ?_)
        | (at_builtin; refine wpList_appI rfl (.tmp 33) (.tmp 35) 31 rfl rfl rfl r6 ?_)
        | (at_builtin; refine wpList_appI rfl (.tmp 39) (.tmp 41) 29 rfl rfl rfl r8 ?_))
      go_roundw
      case rel => exact ⟨k + 1, hlt, by go_num, HN⟩
      case measure => simp [intOf]; omega
    · have hke : k = es.length := by omega
      subst hke
      rw [List.take_of_length_le (Nat.le_refl _)] at hI
      obtain ⟨W1, W2, W3, va', hF⟩ := hI.last (by omega)
      obtain ⟨c0, r1, c1, f1, w2, c2, d2, e2, g2, f2, h2, w3, c3, d3, b3, bel, lent, ⟨a1, a2, a3, hsa⟩, ⟨a4, a5, a6, hsl⟩⟩ := hF
      have HF : Bx (Below H w W3 ∧ Lent W3 (H + 2) es va' vl gs) := ⟨bel, lent⟩
      subst hsa
      subst hsl
      clear hI bel lent HP
      go_wp2_with (at_builtin; refine wpList_appI rfl (.tmp 45) (.tmp 47) 29 rfl rfl rfl r1 ?_)
      (try simp only [Exit.inBlock, Exit.then])
      refine bodyPost_ret (results_cell_row rfl _ _ H 33 _ (0, 0) _ rfl b3 Tryd.underlying33 rfl (by kernel_rfl)) rfl ?_
      exact ⟨_, _, gs, rfl, HF⟩
end Go.Proofs.YtecpknpcjoiliaaDoor
