import Derived.Test.YtecpknpcjoiliabDoorCUP
import Derived.Test.YtecpknpcjoiliabDoorChecked
import Derived.WalkKit
import Derived.WalkSpells
import Derived.WalkLawsBesides
import Derived.Below
import Derived.Deep.QuietTactic
import Derived.BigQuiet
import Derived.Deep.RegionHeld
import Derived.WalkSmall
namespace Go.Proofs.YtecpknpcjoiliabDoor
open Go.RowKit
set_option linter.unusedVariables false
set_option linter.unusedSimpArgs false

/-- a fact that the walk does not look into -/
structure Bx (p : Prop) : Prop where
  out : p
abbrev strV (l : List UInt8) : Value := .string ⟨l.toArray⟩
theorem below1 (w : World) (o : Obj) : Below w.heap.size w (w.alloc o) := (Below.refl _ w).alloc (Nat.le_refl _) o
/-- the table of shapes -/
structure Shp (w : World) : Prop where
  c0 : ∀ k, k < 4 → w.cell? ⟨1, k * 2, none⟩ = some (strV (shapesT.getD k noShape).1)
  c1 : ∀ k, k < 4 → w.cell? ⟨1, k * 2 + 1, none⟩ = some (.int .i64 ((shapesT.getD k noShape).2 : Nat))
  lt : 1 < w.heap.size
theorem Shp.below {w w' : World} (h : Shp w) (hb : Below w.heap.size w w') : Shp w' := by
  have hc : ∀ i, w'.cell? ⟨1, i, none⟩ = w.cell? ⟨1, i, none⟩ := fun i => hb.cell (p := ⟨1, i, none⟩) h.lt
  exact ⟨fun k hk => by rw [hc]; exact h.c0 k hk, fun k hk => by rw [hc]; exact h.c1 k hk, Nat.lt_of_lt_of_le h.lt hb.size⟩
/-- a row of ints, as a slice's value has it -/
structure IntsV (w : World) (B : Nat) (a : Option Addr) (cap : Nat) (ks : List Int) : Prop where
  cap : ks.length ≤ cap
  max : ks.length ≤ maxLen
  at_ : 0 < ks.length → ∃ b o, a = some ⟨b, o, none⟩ ∧ b < B ∧ ∀ i (h : i < ks.length), w.cell? ⟨b, o + i, none⟩ = some (.int .i64 ks[i])
theorem IntsV.below {w w' : World} {B cap : Nat} {a : Option Addr} {ks : List Int} (h : IntsV w B a cap ks) (hb : Below B w w') : IntsV w' B a cap ks := by
  refine ⟨h.cap, h.max, fun h0 => ?_⟩
  obtain ⟨b, o, e, hlt, hc⟩ := h.at_ h0
  exact ⟨b, o, e, hlt, fun i hi => by rw [hb.cell (p := ⟨b, o + i, none⟩) hlt]; exact hc i hi⟩
theorem IntsV.up {w : World} {B B' cap : Nat} {a : Option Addr} {ks : List Int} (h : IntsV w B a cap ks) (hb : B ≤ B') : IntsV w B' a cap ks := by
  refine ⟨h.cap, h.max, fun h0 => ?_⟩
  obtain ⟨b, o, e, hlt, hc⟩ := h.at_ h0
  exact ⟨b, o, e, by omega, hc⟩
theorem intsV_nil (w : World) (B : Nat) (a : Option Addr) (cap : Nat) : IntsV w B a cap [] := ⟨Nat.zero_le _, Nat.zero_le _, fun h => absurd h (by simp)⟩

end Go.Proofs.YtecpknpcjoiliabDoor
