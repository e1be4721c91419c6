import Derived.Test.YtecpknpcjoiliaaDoorCJS
import Derived.Lib.BufferMore
namespace Go.Proofs.YtecpknpcjoiliaaDoor
open Go.RowKit
set_option linter.unusedVariables false
set_option linter.unusedSimpArgs false

theorem cell_blk {w : World} {b i : Nat} {cs : Array Value} {t : TypeId} {fz : Nat × Nat} {v : Value} (h : w.heap[b]? = some (.cells cs t fz)) (hv : cs[i]? = some v) : w.cell? ⟨b, i, none⟩ = some v := by
  rw [World.cell?]
  simp only [h]
  exact hv
theorem frz_blk {w : World} {b i : Nat} {cs : Array Value} {t : TypeId} (h : w.heap[b]? = some (.cells cs t (0, 0))) : w.frozen? ⟨b, i, none⟩ = false := by simp [World.frozen?, h]
theorem heap_lt {w : World} {b : Nat} {o : Obj} (h : w.heap[b]? = some o) : b < w.heap.size := (Array.getElem?_eq_some_iff.1 h).1
theorem heap_newH (w : World) (o : Obj) (H : Nat) (h : w.heap.size = H) : (w.alloc o).heap[H]? = some o := by subst h; exact heap_alloc_new w o
theorem below_heap {w w' : World} (h : Below w.heap.size w w') {b : Nat} {o : Obj} (hb : w.heap[b]? = some o) : w'.heap[b]? = some o := by
  rw [h.block b (heap_lt hb)]; exact hb
/-- all stays but the blocks that P picks -/
structure Kx (P : Nat → Prop) (w w' : World) : Prop where
  bel : Below 0 w w'
  blk : ∀ x, x < w.heap.size → ¬ P x → w'.heap[x]? = w.heap[x]?
theorem Kx.refl (P : Nat → Prop) (w : World) : Kx P w w := ⟨Below.refl _ _, fun _ _ _ => rfl⟩
theorem Kx.size {P : Nat → Prop} {w w' : World} (h : Kx P w w') : w.heap.size ≤ w'.heap.size := h.bel.size
theorem Kx.trans {P Q : Nat → Prop} {a b c : World} (h : Kx P a b) (g : Kx Q b c) (hQ : ∀ x, x < a.heap.size → Q x → P x) : Kx P a c := by
  refine ⟨h.bel.trans g.bel, fun x hx hp => ?_⟩
  rw [g.blk x (Nat.lt_of_lt_of_le hx h.size) (fun q => hp (hQ x hx q))]
  exact h.blk x hx hp
theorem Kx.new {P : Nat → Prop} {w w' : World} (h : Below w.heap.size w w') : Kx P w w' := ⟨h.mono (Nat.zero_le _), fun x hx _ => h.block x hx⟩
theorem Kx.set {P : Nat → Prop} (w : World) {b : Nat} (i : Nat) (v : Value) (h : P b) : Kx P w (w.setCell ⟨b, i, none⟩ v) :=
  ⟨(Below.refl 0 w).setCell (Nat.zero_le _) v, fun x hx hp => Below.heap_setCell w ⟨b, i, none⟩ v x (fun e => hp (by rw [e]; exact h))⟩
theorem Kx.below {P : Nat → Prop} {B : Nat} {w w' : World} (h : Kx P w w') (hB : B ≤ w.heap.size) (hP : ∀ x, P x → B ≤ x) : Below B w w' :=
  ⟨h.bel.os, h.bel.tape, h.bel.output, h.bel.size, fun x hx => h.blk x (Nat.lt_of_lt_of_le hx hB) (fun p => by have := hP x p; omega)⟩
theorem Kx.at_ {P : Nat → Prop} {w w' : World} (h : Kx P w w') {b : Nat} {o : Obj} (hb : w.heap[b]? = some o) (hp : ¬ P b) : w'.heap[b]? = some o := by
  rw [h.blk b (heap_lt hb) hp]; exact hb
/-- the variables, in whatever world that keeps what lies below B -/
def LB (B : Nat) (w : World) : Prop := ∀ w', Below B w w' → LW w'
theorem LB.on {B : Nat} {w w' : World} (h : LB B w) (hb : Below B w w') : LB B w' := fun w2 h2 => h w2 (hb.trans h2)
theorem LB.here {B : Nat} {w : World} (h : LB B w) : LW w := h w (Below.refl _ _)
theorem LW.lb {w : World} (h : LW w) : LB w.heap.size w := fun w' hb => h.below hb
theorem atoi_64 {p : List UInt8} {n : Int} (hn : Lib.atoiAll p = .ok n) : I64 n := by
  unfold Lib.atoiAll at hn
  split at hn
  · cases hn
  · simp only [] at hn
    split at hn
    · cases hn
    · cases hn
    · rename_i u hu
      split at hn
      · cases hn
      · split at hn
        · cases hn
        · injection hn with hn
          subst hn
          unfold I64
          split <;> omega
theorem numOf_no {t : List UInt8} (h : ∀ n, Lib.atoiAll t ≠ .ok n) : numOf t = none := by
  unfold numOf
  split
  · rename_i n hn; exact absurd hn (h n)
  · rfl
end Go.Proofs.YtecpknpcjoiliaaDoor
