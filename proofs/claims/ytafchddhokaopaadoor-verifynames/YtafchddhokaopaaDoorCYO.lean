import Derived.Test.YtafchddhokaopaaDoorCYN
namespace Go.Proofs.YtafchddhokaopaaDoor
open Go.RowKit
set_option linter.unusedVariables false
set_option linter.unusedSimpArgs false

/-- a copy of an instruction and one of how it is come to, in blocks of their own -/
structure LC (w X : World) (ib yb : Nat) (op a ab s : Int) : Prop where
  bel : Below w.heap.size w X
  ih : X.heap[ib]? = some (.cells #[.int .i64 op, .int .i64 a, .int .i64 0, .slice none 0 0] 43 (0, 0))
  yh : X.heap[yb]? = some (.cells #[.int .i64 ab, .int .u64 s] 66 (0, 0))
  ne : ib ≠ yb
  l1 : w.heap.size ≤ ib
  l2 : w.heap.size ≤ yb
theorem LC.below {w X X' : World} {ib yb : Nat} {op a ab s : Int} (h : LC w X ib yb op a ab s) (hb : Below X.heap.size X X') : LC w X' ib yb op a ab s :=
  ⟨h.bel.trans (hb.mono h.bel.size), (hb.block _ (Array.getElem?_eq_some_iff.1 h.ih).1).trans h.ih, (hb.block _ (Array.getElem?_eq_some_iff.1 h.yh).1).trans h.yh, h.ne, h.l1, h.l2⟩
theorem LC.cells {w X : World} {ib yb : Nat} {op a ab s : Int} (h : LC w X ib yb op a ab s) : X.cell? ⟨ib, 0, none⟩ = some (.int .i64 op) ∧ X.cell? ⟨ib, 1, none⟩ = some (.int .i64 a) ∧ X.cell? ⟨ib, 2, none⟩ = some (.int .i64 0) ∧ X.cell? ⟨ib, 3, none⟩ = some (.slice none 0 0) ∧ X.cell? ⟨yb, 0, none⟩ = some (.int .i64 ab) ∧ X.cell? ⟨yb, 1, none⟩ = some (.int .u64 s) ∧ X.frozen? ⟨yb, 0, none⟩ = false ∧ X.frozen? ⟨yb, 1, none⟩ = false :=
  ⟨(cell_of_row X _ 0 _ _ _ h.ih).trans rfl, (cell_of_row X _ 1 _ _ _ h.ih).trans rfl, (cell_of_row X _ 2 _ _ _ h.ih).trans rfl, (cell_of_row X _ 3 _ _ _ h.ih).trans rfl, (cell_of_row X _ 0 _ _ _ h.yh).trans rfl, (cell_of_row X _ 1 _ _ _ h.yh).trans rfl, by simp [World.frozen?, h.yh], by simp [World.frozen?, h.yh]⟩
theorem LC.set0 {w X : World} {ib yb : Nat} {op a ab s : Int} (h : LC w X ib yb op a ab s) (v : Int) : LC w (X.setCell ⟨yb, 0, none⟩ (.int .i64 v)) ib yb op a v s :=
  ⟨h.bel.setCell (p := ⟨yb, 0, none⟩) h.l2 _, (Below.heap_setCell X ⟨yb, 0, none⟩ _ ib h.ne).trans h.ih, heap_setCell_same X yb 0 _ _ _ h.yh, h.ne, h.l1, h.l2⟩
theorem LC.set1 {w X : World} {ib yb : Nat} {op a ab s : Int} (h : LC w X ib yb op a ab s) (v : Int) : LC w (X.setCell ⟨yb, 1, none⟩ (.int .u64 v)) ib yb op a ab v :=
  ⟨h.bel.setCell (p := ⟨yb, 1, none⟩) h.l2 _, (Below.heap_setCell X ⟨yb, 1, none⟩ _ ib h.ne).trans h.ih, heap_setCell_same X yb 1 _ _ _ h.yh, h.ne, h.l1, h.l2⟩
theorem LC.drewN {w X : World} {ib yb : Nat} {op a ab s : Int} (h : LC w X ib yb op a ab s) (k : Nat) : LC w (X.drewN k) ib yb op a ab s := h.below ⟨rfl, rfl, rfl, Nat.le_refl _, fun _ _ => rfl⟩
theorem LC.one (w : World) (op a ab s : Int) : LC w (((w.alloc (.cells #[.int .i64 op, .int .i64 a, .int .i64 0, .slice none 0 0] 43)).alloc (.cells #[.int .i64 ab, .int .u64 s] 66)).drew) w.heap.size (w.heap.size + 1) op a ab s := by
  obtain ⟨X, hX⟩ : ∃ X, w.alloc (.cells #[.int .i64 op, .int .i64 a, .int .i64 0, .slice none 0 0] 43) = X := ⟨_, rfl⟩
  have sX : X.heap.size = w.heap.size + 1 := by rw [← hX]; simp
  have qX : X.heap[w.heap.size]? = some (.cells #[.int .i64 op, .int .i64 a, .int .i64 0, .slice none 0 0] 43 (0, 0)) := by rw [← hX]; exact heap_alloc_new w _
  have bX : Below w.heap.size w X := by rw [← hX]; exact below1 w _
  rw [hX]
  exact ⟨(bX.alloc (by omega) _).drew, ((below1 X (.cells #[.int .i64 ab, .int .u64 s] 66)).block _ (by omega)).trans qX, by rw [← sX]; exact heap_alloc_new X _, by omega, Nat.le_refl _, by omega⟩
theorem LC.two (w : World) (op a ab s : Int) : LC w (((w.alloc (.cells #[.int .i64 ab, .int .u64 s] 66)).alloc (.cells #[.int .i64 op, .int .i64 a, .int .i64 0, .slice none 0 0] 43)).drew) (w.heap.size + 1) w.heap.size op a ab s := by
  obtain ⟨X, hX⟩ : ∃ X, w.alloc (.cells #[.int .i64 ab, .int .u64 s] 66) = X := ⟨_, rfl⟩
  have sX : X.heap.size = w.heap.size + 1 := by rw [← hX]; simp
  have qX : X.heap[w.heap.size]? = some (.cells #[.int .i64 ab, .int .u64 s] 66 (0, 0)) := by rw [← hX]; exact heap_alloc_new w _
  have bX : Below w.heap.size w X := by rw [← hX]; exact below1 w _
  rw [hX]
  exact ⟨(bX.alloc (by omega) _).drew, by rw [← sX]; exact heap_alloc_new X _, ((below1 X (.cells #[.int .i64 op, .int .i64 a, .int .i64 0, .slice none 0 0] 43)).block _ (by omega)).trans qX, by omega, by omega, Nat.le_refl _⟩
/-- the examples' kinds of steps: operation, A, how it is come to, what it takes and lays -/
def St (op a ab s po pu ab' s' : Int) : Prop := (op = 25 ∧ a = 0 ∧ ab = 1 ∧ po = 0 ∧ pu = 0 ∧ ab' = 1 ∧ s' = s) ∨ (op = 1 ∧ a = 1 ∧ ab = 1 ∧ s = 0 ∧ po = 0 ∧ pu = 1 ∧ ab' = 2 ∧ s' = 0) ∨ (op = 5 ∧ a = 0 ∧ ab = 2 ∧ s = 0 ∧ po = 1 ∧ pu = 0 ∧ ab' = 1 ∧ s' = 1)
theorem pops_25 : popsI ⟨25, 0, 0, []⟩ = 0 ∧ popsI ⟨1, 1, 0, []⟩ = 0 ∧ popsI ⟨5, 0, 0, []⟩ = 1 ∧ pushesI ⟨25, 0, 0, []⟩ = 0 ∧ pushesI ⟨1, 1, 0, []⟩ = 1 ∧ pushesI ⟨5, 0, 0, []⟩ = 0 := by decide
theorem pops_c {w0 w X : World} {ib yb : Nat} {op a ab s po pu ab' s' : Int} (hV : VW w0) (hb : Below w0.heap.size w0 w) (h : LC w X ib yb op a ab s) (hs : (op = 25 ∧ a = 0 ∧ po = 0) ∨ (op = 1 ∧ a = 1 ∧ po = 0) ∨ (op = 5 ∧ a = 0 ∧ po = 1)) : Calls Tryd.prog 17 #[exV op a] X fun e w' => e = .returned (.int .i64 po) ∧ LC w w' ib yb op a ab s := by
  have hS : Shp X := (hV.below (hb.trans (h.bel.mono hb.size))).shp
  have e := pops_25
  have := Pops_any X X.heap.size ⟨op, a, 0, []⟩ none 0 hS (by rcases hs with ⟨rfl, rfl, _⟩ | ⟨rfl, rfl, _⟩ | ⟨rfl, rfl, _⟩ <;> exact ⟨by unfold I64; decide, by unfold I64; decide, by unfold I64; decide, fun k hk => by simp at hk⟩) (intsV_nil _ _ _ _) (by simp) (Nat.le_refl _)
  refine Calls.mono this ?_
  rintro e' w' ⟨rfl, hb'⟩
  refine ⟨?_, h.below hb'⟩
  rcases hs with ⟨rfl, rfl, rfl⟩ | ⟨rfl, rfl, rfl⟩ | ⟨rfl, rfl, rfl⟩
  · exact ret_int e.1
  · exact ret_int e.2.1
  · exact ret_int e.2.2.1
theorem pushes_c {w0 w X : World} {ib yb : Nat} {op a ab s pu : Int} (hV : VW w0) (hb : Below w0.heap.size w0 w) (h : LC w X ib yb op a ab s) (hs : (op = 25 ∧ a = 0 ∧ pu = 0) ∨ (op = 1 ∧ a = 1 ∧ pu = 1) ∨ (op = 5 ∧ a = 0 ∧ pu = 0)) : Calls Tryd.prog 31 #[exV op a] X fun e w' => e = .returned (.int .i64 pu) ∧ LC w w' ib yb op a ab s := by
  have hS : Shp X := (hV.below (hb.trans (h.bel.mono hb.size))).shp
  have e := pops_25
  have := Pushes_any X ⟨op, a, 0, []⟩ none 0 hS (by rcases hs with ⟨rfl, rfl, _⟩ | ⟨rfl, rfl, _⟩ | ⟨rfl, rfl, _⟩ <;> exact ⟨by unfold I64; decide, by unfold I64; decide, by unfold I64; decide, fun k hk => by simp at hk⟩)
  refine Calls.mono this ?_
  rintro e' w' ⟨rfl, hb'⟩
  refine ⟨?_, h.below hb'⟩
  rcases hs with ⟨rfl, rfl, rfl⟩ | ⟨rfl, rfl, rfl⟩ | ⟨rfl, rfl, rfl⟩
  · exact ret_int e.2.2.2.1
  · exact ret_int e.2.2.2.2.1
  · exact ret_int e.2.2.2.2.2
end Go.Proofs.YtafchddhokaopaaDoor
