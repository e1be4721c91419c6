import Derived.Laws.RangeAny
import Derived.Below
import Derived.WalkKit
namespace Go.Proofs.YtecpknpcjoiliaaDoor
open Go.RowKit
set_option linter.unusedVariables false
set_option linter.unusedSimpArgs false

/-- a block set to another object -/
def setIt (W : World) (g : Nat) (o : Obj) : World := { W with heap := W.heap.setIfInBounds g o }
theorem setIt_size (W : World) (g : Nat) (o : Obj) : (setIt W g o).heap.size = W.heap.size := by simp [setIt]
theorem setIt_same (W : World) (g : Nat) (o : Obj) (h : g < W.heap.size) : (setIt W g o).heap[g]? = some o := by simp [setIt, h]
theorem setIt_other (W : World) (g x : Nat) (o : Obj) (h : x ≠ g) : (setIt W g o).heap[x]? = W.heap[x]? := by
  simp [setIt, Array.getElem?_setIfInBounds]
  intro e
  exact absurd e.symm h
theorem setIt_below (W : World) (g B : Nat) (o : Obj) (h : B ≤ g) : Below B W (setIt W g o) :=
  ⟨rfl, rfl, rfl, by rw [setIt_size]; exact Nat.le_refl _, fun x hx => setIt_other W g x o (by omega)⟩
theorem next_more {P : Program} (W : World) (g : Nat) (s : ByteArray) (pos : Nat) (ty : TypeId) (hW : W.heap[g]? = some (.stringIter s pos)) (h : pos < s.size) :
    (Instr.next (.pointer (some ⟨g, 0, none⟩)) true ty).run P W =
      .ok (.tuple #[.bool true, .int .i64 pos, .int .i32 (Utf8.decode s pos).1]) (setIt W g (.stringIter s (pos + (Utf8.decode s pos).2))) := by
  simp only [Instr.next, getObj, setObj, Sem.run_bind, Sem.run, hW, Result.andThen, h, if_true, setIt]
  simp [goInt]
theorem next_end {P : Program} (W : World) (g : Nat) (s : ByteArray) (pos : Nat) (ty : TypeId) (hW : W.heap[g]? = some (.stringIter s pos)) (h : ¬ pos < s.size) :
    (Instr.next (.pointer (some ⟨g, 0, none⟩)) true ty).run P W = .ok (.tuple #[.bool false]) W := by
  simp [Instr.next, getObj, Sem.run, hW, h]
theorem get_byte (l : List UInt8) (k : Nat) (h : k < l.length) : (⟨l.toArray⟩ : ByteArray).get! k = l[k] := by
  simp [ByteArray.get!, h]
theorem dec_ten {l : List UInt8} {pos : Nat} (h : l[pos]? = some 10) : Utf8.decode ⟨l.toArray⟩ pos = (10, 1) := by
  obtain ⟨hl, h⟩ := List.getElem?_eq_some_iff.1 h
  have e := get_byte l pos hl
  rw [h] at e
  unfold Utf8.decode
  simp [e]
theorem dec_low {l : List UInt8} {pos : Nat} (hl : pos < l.length) (h : l[pos].toNat < 128) : Utf8.decode ⟨l.toArray⟩ pos = (l[pos].toNat, 1) := by
  have e := get_byte l pos hl
  unfold Utf8.decode
  simp [e, h]
/-- what a high byte's letter takes along holds no line feed -/
theorem dec_high {l : List UInt8} {pos : Nat} (hl : pos < l.length) (h : 128 ≤ l[pos].toNat) :
    128 ≤ (Utf8.decode ⟨l.toArray⟩ pos).1 ∧ 1 ≤ (Utf8.decode ⟨l.toArray⟩ pos).2 ∧ pos + (Utf8.decode ⟨l.toArray⟩ pos).2 ≤ l.length ∧ ∀ k, pos ≤ k → k < pos + (Utf8.decode ⟨l.toArray⟩ pos).2 → l[k]? ≠ some 10 := by
  have hsz : (⟨l.toArray⟩ : ByteArray).size = l.length := by simp [ByteArray.size]
  have e0 := get_byte l pos hl
  have h0 := decode_high ⟨l.toArray⟩ pos (by rw [hsz]; exact hl) (by
    have : (⟨l.toArray⟩ : ByteArray)[pos]'(by rw [hsz]; exact hl) = l[pos] := by
      show (l.toArray)[pos]'_ = _
      simp
    rw [this]; exact h)
  refine ⟨h0.1, h0.2, ?_⟩
  have ht : ∀ k, k < l.length → 128 ≤ ((⟨l.toArray⟩ : ByteArray).get! k).toNat → l[k]? ≠ some 10 := by
    intro k hk h1 e
    obtain ⟨_, e⟩ := List.getElem?_eq_some_iff.1 e
    rw [get_byte l k hk, e] at h1
    exact absurd h1 (by decide)
  have hp : l[pos]? ≠ some 10 := ht pos hl (by rw [e0]; exact h)
  have one : pos + 1 ≤ l.length ∧ ∀ k, pos ≤ k → k < pos + 1 → l[k]? ≠ some 10 := ⟨hl, fun k a b => by
    have : k = pos := by omega
    subst this; exact hp⟩
  simp only [Utf8.decode, Nat.add_zero, e0, hsz]
  rw [if_neg (by omega)]
  split
  · rename_i hc
    simp only [Bool.and_eq_true, beq_iff_eq, decide_eq_true_eq] at hc
    split
    · refine ⟨by simp only []; omega, fun k a b => ?_⟩
      simp only [] at b
      have : k = pos ∨ k = pos + 1 := by omega
      rcases this with rfl | rfl
      · exact hp
      · exact ht _ hc.2.1 (by have := hc.2.2; omega)
    · exact one
  · split
    · rename_i hc
      simp only [Bool.and_eq_true, beq_iff_eq, decide_eq_true_eq] at hc
      split
      · refine ⟨by simp only []; omega, fun k a b => ?_⟩
        simp only [] at b
        have : k = pos ∨ k = pos + 1 ∨ k = pos + 2 := by omega
        rcases this with rfl | rfl | rfl
        · exact hp
        · exact ht _ hc.1.2.1 (by have := hc.1.2.2; omega)
        · exact ht _ hc.2.1 (by have := hc.2.2; omega)
      · exact one
    · split
      · rename_i hc
        simp only [Bool.and_eq_true, beq_iff_eq, decide_eq_true_eq] at hc
        split
        · refine ⟨by simp only []; omega, fun k a b => ?_⟩
          simp only [] at b
          have : k = pos ∨ k = pos + 1 ∨ k = pos + 2 ∨ k = pos + 3 := by omega
          rcases this with rfl | rfl | rfl | rfl
          · exact hp
          · exact ht _ hc.1.1.2.1 (by have := hc.1.1.2.2; omega)
          · exact ht _ hc.1.2.1 (by have := hc.1.2.2; omega)
          · exact ht _ hc.2.1 (by have := hc.2.2; omega)
        · exact one
      · exact one
/-- a letter that is no line feed -/
theorem dec_other {l : List UInt8} {pos : Nat} (hl : pos < l.length) (h : l[pos]? ≠ some 10) :
    (Utf8.decode ⟨l.toArray⟩ pos).1 ≠ 10 ∧ (Utf8.decode ⟨l.toArray⟩ pos).1 ≤ 2147483647 ∧ 1 ≤ (Utf8.decode ⟨l.toArray⟩ pos).2 ∧ pos + (Utf8.decode ⟨l.toArray⟩ pos).2 ≤ l.length ∧ ∀ k, pos ≤ k → k < pos + (Utf8.decode ⟨l.toArray⟩ pos).2 → l[k]? ≠ some 10 := by
  have hle := decode_le ⟨l.toArray⟩ pos
  by_cases h1 : l[pos].toNat < 128
  · rw [dec_low hl h1] at hle ⊢
    refine ⟨fun e => ?_, hle, Nat.le_refl _, hl, fun k a b => ?_⟩
    · simp only [] at e
      have : l[pos] = 10 := UInt8.toNat_inj.1 e
      exact h (by rw [List.getElem?_eq_getElem hl, this])
    · simp only [] at b
      have : k = pos := by omega
      subst this; exact h
  · obtain ⟨a, b, c, d⟩ := dec_high hl (by omega)
    exact ⟨by omega, hle, b, c, d⟩
end Go.Proofs.YtecpknpcjoiliaaDoor
