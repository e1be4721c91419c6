import Derived.Test.YtecpknpcjoiliabDoorCUXj
namespace Go.Proofs.YtecpknpcjoiliabDoor
open Go.RowKit Go.Shelf
set_option linter.unusedVariables false
set_option linter.unusedSimpArgs false

theorem set1_blk {X : World} {H i : Nat} {C D : Array Value} {T : TypeId} (h : X.heap[H]? = some (.cells C T (0, 0))) (v : Value) (hD : C.setIfInBounds i v = D) : (X.setCell ⟨H, i, none⟩ v).heap[H]? = some (.cells D T (0, 0)) := by
  rw [← hD]
  exact Lib.heap_setCell_same (i := i) h v
abbrev set7 (w : World) (bk : Nat) (x0 x1 x2 x3 x4 x5 x6 : Value) : World := ((((((w.setCell ⟨bk, 0, none⟩ x0).setCell ⟨bk, 1, none⟩ x1).setCell ⟨bk, 2, none⟩ x2).setCell ⟨bk, 3, none⟩ x3).setCell ⟨bk, 4, none⟩ x4).setCell ⟨bk, 5, none⟩ x5).setCell ⟨bk, 6, none⟩ x6
theorem set7_blk {X : World} {H : Nat} {x0 x1 x2 x3 x4 x5 x6 x7 x8 : Value} {T : TypeId} (h : X.heap[H]? = some (.cells #[x0, x1, x2, x3, x4, x5, x6, x7, x8] T (0, 0))) (y0 y1 y2 y3 y4 y5 y6 : Value) : (set7 X H y0 y1 y2 y3 y4 y5 y6).heap[H]? = some (.cells #[y0, y1, y2, y3, y4, y5, y6, x7, x8] T (0, 0)) :=
  set1_blk (D := #[y0, y1, y2, y3, y4, y5, y6, x7, x8]) (set1_blk (D := #[y0, y1, y2, y3, y4, y5, x6, x7, x8]) (set1_blk (D := #[y0, y1, y2, y3, y4, x5, x6, x7, x8]) (set1_blk (D := #[y0, y1, y2, y3, x4, x5, x6, x7, x8]) (set1_blk (D := #[y0, y1, y2, x3, x4, x5, x6, x7, x8]) (set1_blk (D := #[y0, y1, x2, x3, x4, x5, x6, x7, x8]) (set1_blk (D := #[y0, x1, x2, x3, x4, x5, x6, x7, x8]) h y0 (by simp)) y1 (by simp)) y2 (by simp)) y3 (by simp)) y4 (by simp)) y5 (by simp)) y6 (by simp)
theorem set7_below {X w : World} {H B : Nat} (h : Below B w X) (hB : B ≤ H) (y0 y1 y2 y3 y4 y5 y6 : Value) : Below B w (set7 X H y0 y1 y2 y3 y4 y5 y6) :=
  ((((((h.setCell (p := ⟨H, 0, none⟩) hB _).setCell (p := ⟨H, 1, none⟩) hB _).setCell (p := ⟨H, 2, none⟩) hB _).setCell (p := ⟨H, 3, none⟩) hB _).setCell (p := ⟨H, 4, none⟩) hB _).setCell (p := ⟨H, 5, none⟩) hB _).setCell (p := ⟨H, 6, none⟩) hB _
theorem drew_three {X W w : World} {B p q : Nat} {o1 o2 : Obj} (h1 : Below B w X) (h2 : X.heap[p]? = some o1) (h3 : X.heap[q]? = some o2) (hW : X.drew = W) : Bx (Below B w W) ∧ W.heap[p]? = some o1 ∧ W.heap[q]? = some o2 := by
  subst hW
  exact ⟨⟨h1.drew⟩, h2, h3⟩
theorem set7_oth {X : World} {H k : Nat} (hne : k ≠ H) (y0 y1 y2 y3 y4 y5 y6 : Value) : (set7 X H y0 y1 y2 y3 y4 y5 y6).heap[k]? = X.heap[k]? := by
  have e : ∀ (Y : World) (i : Nat) (v : Value), (Y.setCell ⟨H, i, none⟩ v).heap[k]? = Y.heap[k]? := fun Y i v => Below.heap_setCell Y ⟨H, i, none⟩ v k hne
  exact ((((((e _ 6 y6).trans (e _ 5 y5)).trans (e _ 4 y4)).trans (e _ 3 y3)).trans (e _ 2 y2)).trans (e _ 1 y1)).trans (e _ 0 y0)
set_option maxRecDepth 100000 in
set_option maxHeartbeats 4000000 in
theorem rline_lim (w : World) (g cap : Nat) (m : Lm) (b : Bool) (pv : Value) (r : List (List UInt8)) (hw : Wds w g cap limitsW r) (hrl : r.length ≤ 1099511627776) (hrp : ∀ p ∈ r, p.length ≤ 1099511627776) (hpv : ∃ pa n pc, pv = .slice pa n pc) (k : Lm) (hno : numsP 7 r = some (lmL k)) :
    Calls Tryd.prog 14 #[scV m b pv, .int .i64 0, .slice (some ⟨g, 0, none⟩) (r.length + 1) cap] w (RLmA w m b pv limitsW r) := by
  obtain ⟨pa, np, pc, rfl⟩ := hpv
  obtain ⟨Q, hQ⟩ : ∃ Q, Q = RLmA w m b (.slice pa np pc) limitsW r := ⟨_, rfl⟩
  have HQ : Bx (∀ w', Below w.heap.size w w' → Q (.returned (.tuple #[scV k b (.slice pa np pc), .int .i64 0])) w') := ⟨fun w' h => by rw [hQ]; unfold RLmA limW; rw [if_pos rfl, hno]; exact ⟨rfl, ⟨h⟩⟩⟩
  rw [← hQ]
  clear hQ
  obtain ⟨H, hH⟩ : ∃ H, w.heap.size = H := ⟨_, rfl⟩
  obtain ⟨W0, hW0⟩ : ∃ X, X = (w.alloc (.cells #[.int .i64 m.a, .int .i64 m.b, .int .i64 m.c, .int .i64 m.d, .int .i64 m.e, .int .i64 m.f, .int .i64 m.g, .bool b, .slice pa np pc] 31)).alloc (.cells #[.int .i64 0, .int .i64 0, .int .i64 0, .int .i64 0, .int .i64 0, .int .i64 0, .int .i64 0, .bool false, .slice none 0 0] 31) := ⟨_, rfl⟩
  have hb0 : Below w.heap.size w W0 := by rw [hW0]; exact two_below w _ _
  have hw0 : Wds W0 g cap limitsW r := hw.below hw.lt hb0
  have HNU0 := rnumbers_any W0 (if cap = 1 then some ⟨g, 0, none⟩ else some ⟨g, 1, none⟩) (cap - 1) 7 r hw0.tail2 (by omega) hrl hrp
  have hf1 := hw0.first
  rw [hW0] at hf1
  unfold limitsW at hf1
  have hgc := hw.cap
  have hgc2 : r.length ≤ cap - 1 := by omega
  have hgcI : ((r.length : Int) + 1) ≤ (cap : Int) := by omega
  have HC : Bx (∀ X, Below W0.heap.size W0 X → X.heap[H]? = some (.cells #[.int .i64 m.a, .int .i64 m.b, .int .i64 m.c, .int .i64 m.d, .int .i64 m.e, .int .i64 m.f, .int .i64 m.g, .bool b, .slice pa np pc] 31) ∧ X.heap[H + 1]? = some (.cells #[.int .i64 0, .int .i64 0, .int .i64 0, .int .i64 0, .int .i64 0, .int .i64 0, .int .i64 0, .bool false, .slice none 0 0] 31) ∧ H + 1 < X.heap.size ∧ Below w.heap.size w X) := ⟨fun X hX => by
    have hs : W0.heap.size = H + 2 := by rw [hW0]; simp; omega
    refine ⟨?_, ?_, ?_, hb0.trans (hX.mono (by omega))⟩
    · rw [hX.block H (by omega), hW0, Below.heap_alloc _ _ H (by simp; omega), ← hH]
      exact heap_alloc_new w _
    · rw [hX.block (H + 1) (by omega), hW0]
      have := heap_alloc_new (w.alloc (.cells #[.int .i64 m.a, .int .i64 m.b, .int .i64 m.c, .int .i64 m.d, .int .i64 m.e, .int .i64 m.f, .int .i64 m.g, .bool b, .slice pa np pc] 31)) (.cells #[.int .i64 0, .int .i64 0, .int .i64 0, .int .i64 0, .int .i64 0, .int .i64 0, .int .i64 0, .bool false, .slice none 0 0] 31)
      simpa [hH] using this
    · have := hX.size
      omega⟩
  have HNU : Bx (Calls Tryd.prog 25 #[.slice (if cap = 1 then some ⟨g, 0, none⟩ else some ⟨g, 1, none⟩) r.length (cap - 1), .int .i64 7] ((w.alloc (.cells #[.int .i64 m.a, .int .i64 m.b, .int .i64 m.c, .int .i64 m.d, .int .i64 m.e, .int .i64 m.f, .int .i64 m.g, .bool b, .slice pa np pc] 31)).alloc (.cells #[.int .i64 0, .int .i64 0, .int .i64 0, .int .i64 0, .int .i64 0, .int .i64 0, .int .i64 0, .bool false, .slice none 0 0] 31)) fun e w' => ∃ v, e = .returned (.tuple #[v, .bool true]) ∧ Bx (NRo w' W0.heap.size v (lmL k) ∧ Below W0.heap.size W0 w')) := ⟨by
    rw [← hW0]
    refine HNU0.mono fun e w' h => ?_
    unfold RNsA at h
    rw [hno] at h
    exact h⟩
  have HS0 : Bx (W0.heap.size = H + 2) := ⟨by rw [hW0]; simp; omega⟩
  clear HNU0 hno hw hw0 hb0 hW0
  obtain ⟨ka, hka⟩ : ∃ x, (if cap = 1 then some (⟨g, 0, none⟩ : Addr) else some ⟨g, 1, none⟩) = x := ⟨_, rfl⟩
  rw [hka] at HNU
  go_enter Tryd.func14, Tryd.ntmps14
  go_wp2_with (go_at_call 25; refine HNU.out.mono ?_; rintro e w5 ⟨v5, rfl, HN5⟩
               obtain ⟨hb5, hb6, hHl, hB⟩ := HC.out w5 HN5.out.2; have HB6 : Bx _ := ⟨hB⟩; obtain ⟨c0, c1, c2, c3, c4, c5, c6, c7, c8⟩ := cells9 hb5; obtain ⟨e0, e1, e2, e3, e4, e5, e6, e7, e8⟩ := frz9 hb5; obtain ⟨d0, d1, d2, d3, d4, d5, d6, d7, d8⟩ := cells9 hb6; obtain ⟨f0, f1, f2, f3, f4, f5, f6, f7, f8⟩ := frz9 hb6
               obtain ⟨gn, cn, rfl, hgn, hgn2, hcn⟩ := HN5.out.1.at_ (by simp [lmL])
               have hgH : gn ≠ H := by have := HS0.out; omega
               have hgH1 : gn ≠ H + 1 := by have := HS0.out; omega
               obtain ⟨n0, n1, n2, n3, n4, n5, n6⟩ : w5.cell? ⟨gn, 0, none⟩ = some (.int .i64 k.a) ∧ w5.cell? ⟨gn, 1, none⟩ = some (.int .i64 k.b) ∧ w5.cell? ⟨gn, 2, none⟩ = some (.int .i64 k.c) ∧ w5.cell? ⟨gn, 3, none⟩ = some (.int .i64 k.d) ∧ w5.cell? ⟨gn, 4, none⟩ = some (.int .i64 k.e) ∧ w5.cell? ⟨gn, 5, none⟩ = some (.int .i64 k.f) ∧ w5.cell? ⟨gn, 6, none⟩ = some (.int .i64 k.g) := ⟨hcn 0 (by simp [lmL]), hcn 1 (by simp [lmL]), hcn 2 (by simp [lmL]), hcn 3 (by simp [lmL]), hcn 4 (by simp [lmL]), hcn 5 (by simp [lmL]), hcn 6 (by simp [lmL])⟩
               have hln : (lmL k).length = 7 := rfl
               rw [hln]
               have HB56 : Bx _ := ⟨And.intro hb5 hb6⟩
               clear hb5 hb6 hB hcn)
  have HKP : Bx (∀ (X : World) (i : Nat) (v : Value) (j : Nat) (u : Value), X.cell? ⟨gn, j, none⟩ = some u → (X.setCell ⟨H, i, none⟩ v).cell? ⟨gn, j, none⟩ = some u) := ⟨fun X i v j u h => by
    rw [World.cell?_of_block (w := X) (Below.heap_setCell X ⟨H, i, none⟩ v gn hgH)]
    exact h⟩
  have HKD : Bx (∀ (X : World) (j : Nat) (u : Value), X.cell? ⟨gn, j, none⟩ = some u → X.drew.cell? ⟨gn, j, none⟩ = some u) := ⟨fun X j u h => h⟩
  go_region_held3 (fun Y => Y.cell? ⟨gn, 0, none⟩ = some (.int .i64 k.a) ∧ Y.cell? ⟨gn, 1, none⟩ = some (.int .i64 k.b) ∧ Y.cell? ⟨gn, 2, none⟩ = some (.int .i64 k.c) ∧ Y.cell? ⟨gn, 3, none⟩ = some (.int .i64 k.d) ∧ Y.cell? ⟨gn, 4, none⟩ = some (.int .i64 k.e) ∧ Y.cell? ⟨gn, 5, none⟩ = some (.int .i64 k.f) ∧ Y.cell? ⟨gn, 6, none⟩ = some (.int .i64 k.g))
    (first | with_reducible exact ⟨n0, n1, n2, n3, n4, n5, n6⟩ | (refine ⟨?_, ?_, ?_, ?_, ?_, ?_, ?_⟩ <;> (repeat (first | with_reducible assumption | (with_reducible refine HKP.out _ _ _ _ _ ?_) | (with_reducible refine HKD.out _ _ _ ?_))))) (fail)
  have hbb := HB6.out
  have hle : w.heap.size ≤ H := Nat.le_of_eq hH
  have hb7 := set7_below hbb hle (.int .i64 k.a) (.int .i64 k.b) (.int .i64 k.c) (.int .i64 k.d) (.int .i64 k.e) (.int .i64 k.f) (.int .i64 k.g)
  have z5 := set7_blk HB56.out.1 (.int .i64 k.a) (.int .i64 k.b) (.int .i64 k.c) (.int .i64 k.d) (.int .i64 k.e) (.int .i64 k.f) (.int .i64 k.g)
  have z6 := (set7_oth (X := w5) (H := H) (k := H + 1) (by omega) (.int .i64 k.a) (.int .i64 k.b) (.int .i64 k.c) (.int .i64 k.d) (.int .i64 k.e) (.int .i64 k.f) (.int .i64 k.g)).trans HB56.out.2
  unfold set7 at hb7 z5 z6
  generalize hW6 : (((((((w5.setCell ⟨H, 0, none⟩ (.int .i64 k.a)).setCell ⟨H, 1, none⟩ (.int .i64 k.b)).setCell ⟨H, 2, none⟩ (.int .i64 k.c)).setCell ⟨H, 3, none⟩ (.int .i64 k.d)).setCell ⟨H, 4, none⟩ (.int .i64 k.e)).setCell ⟨H, 5, none⟩ (.int .i64 k.f)).setCell ⟨H, 6, none⟩ (.int .i64 k.g)).drew = W6
  obtain ⟨HB7, z5, z6⟩ := drew_three hb7 z5 z6 hW6
  clear hW6 HKP HKD n0 n1 n2 n3 n4 n5 n6 HB6 c0 c1 c2 c3 c4 c5 c6 c7 c8 d0 d1 d2 d3 d4 d5 d6 d7 d8 e0 e1 e2 e3 e4 e5 e6 e7 e8 f0 f1 f2 f3 f4 f5 f6 f7 f8 HB56 HNU HC HN5 hf1
  obtain ⟨c0, c1, c2, c3, c4, c5, c6, c7, c8⟩ := cells9 z5
  obtain ⟨d0, d1, d2, d3, d4, d5, d6, d7, d8⟩ := cells9 z6
  obtain ⟨f0, f1, f2, f3, f4, f5, f6, f7, f8⟩ := frz9 z6
  clear z5 z6
  go_wp2
  refine bodyPost_ret (v := .tuple #[scV k b (.slice pa np pc), .int .i64 0]) (by simp [results, Tryd.results14, go_sem, d0, d1, d2, d3, d4, d5, d6, d7, d8]) rfl ?_
  exact HQ.out _ (below9 HB7.out (by omega) _ _ _ _ _ _ _ _ _)
end Go.Proofs.YtecpknpcjoiliabDoor
