import Derived.Test.YtecodpdfckjalaaGreatDoorCPW
import Derived.Deep.QuietTactic
import Derived.BigQuiet
import Derived.Deep.RegionHeld
import Derived.WalkSmall
namespace Go.Proofs.YtecodpdfckjalaaGreatDoor
open Go.RowKit
set_option linter.unusedVariables false
set_option linter.unusedSimpArgs false

theorem just_any (a : Int) (w : World) : Calls Tryz.prog 43 #[.int .i64 a] w fun e w' => e = .returned (.func (.func 72) #[] #[.pointer (some ⟨w.heap.size, 0, none⟩)]) ∧ w.alloc (.cells #[.int .i64 a] 3) = w' := by
  go_enter Tryz.func43, Tryz.ntmps43
  go_wp2
  go_ret
  exact ⟨rfl, rfl⟩

theorem just1_any (a k : Int) (g : Nat) (w : World) (hc : w.cell? ⟨g, 0, none⟩ = some (.int .i64 a)) : Calls Tryz.prog 72 #[.int .i64 k, .pointer (some ⟨g, 0, none⟩)] w fun e w' => e = .returned (.bool (justI a k)) ∧ w = w' := by
  go_enter Tryz.func72, Tryz.ntmps72
  go_wp2
  go_ret
  exact ⟨rfl, rfl⟩

/-- all but one block is as it was -/
def Far (c : Nat) (w w' : World) : Prop := ∀ b, b ≠ c → w'.heap[b]? = w.heap[b]?
theorem Far.refl (c : Nat) (w : World) : Far c w w := fun _ _ => rfl
theorem Far.drew {c : Nat} {w w' : World} (h : Far c w w') : Far c w w'.drew := h
theorem Far.trans {c : Nat} {w w' w'' : World} (h : Far c w w') (h' : Far c w' w'') : Far c w w'' := fun b hb => (h' b hb).trans (h b hb)
theorem Far.cell {c : Nat} {w w' : World} (h : Far c w w') (b i : Nat) (hb : b ≠ c) : w'.cell? ⟨b, i, none⟩ = w.cell? ⟨b, i, none⟩ := by
  have := h b hb
  simp only [World.cell?, this]

/-- a row of ints, as a slice's value has it -/
structure IntsV (w : World) (B : Nat) (v : Value) (ks : List Int) : Prop where
  ex : ∃ a cap, v = .slice a ks.length cap ∧ ks.length ≤ cap ∧ ks.length ≤ maxLen ∧ (0 < ks.length → ∃ b o, a = some ⟨b, o, none⟩ ∧ b < B ∧ ∀ i (h : i < ks.length), w.cell? ⟨b, o + i, none⟩ = some (.int .i64 ks[i]))

/-- the cursor's block -/
def curO (lv left : Value) (m : Bool) : Obj := .cells #[lv, left, .bool m] 79 (0, 0)

set_option maxHeartbeats 1000000 in
theorem maybe_none (c : Nat) (lv : Value) (a : Option Addr) (cap : Nat) (m : Bool) (cl : Value) (w : World) (hc : w.heap[c]? = some (curO lv (.slice a 0 cap) m)) :
    Calls Tryz.prog 44 #[.pointer (some ⟨c, 0, none⟩), cl] w fun e w' => e = .returned (.bool false) ∧ w'.heap = w.heap ∧ Below w.heap.size w w' := by
  have c0 : w.cell? ⟨c, 0, none⟩ = some lv := by simp [World.cell?, hc, curO]
  have c1 : w.cell? ⟨c, 1, none⟩ = some (.slice a 0 cap) := by simp [World.cell?, hc, curO]
  have hlt : c < w.heap.size := World.block_lt_of_cell? w _ c0
  clear hc
  go_enter Tryz.func44, Tryz.ntmps44
  go_wp2
  go_quiet (fail)
  go_wp2
  go_ret
  exact ⟨rfl, by simp, below_drewN (Below.refl _ _) nq⟩

theorem sizeOf3 (w : World) : (Go.sizeOf 3).run Tryz.prog w = .ok 1 w := by kernel_rfl
theorem slice_tail {w : World} {B b o cap : Nat} {k : Int} {r : List Int} (h : IntsV w B (.slice (some ⟨b, o, none⟩) (r.length + 1) cap) (k :: r)) :
    ∃ a' cap', (∀ W, (Instr.slice 39 (.slice (some ⟨b, o, none⟩) (r.length + 1) cap) (some (.int .i64 1)) none none).run Tryz.prog W = .ok (.slice a' r.length cap') W) ∧ IntsV w B (.slice a' r.length cap') r := by
  obtain ⟨a, c, he, hc, hm, hx⟩ := h.ex
  simp only [Value.slice.injEq] at he
  obtain ⟨rfl, _, rfl⟩ := he
  obtain ⟨b', o', hb, hB, hcell⟩ := hx (by simp)
  simp only [Option.some.injEq, Addr.mk.injEq, and_true] at hb
  obtain ⟨rfl, rfl⟩ := hb
  simp only [List.length_cons] at hc hm
  have ht' : Tryz.prog.underlying 39 = some (.slice (Tryz.prog.elem 39)) := by simp [Program.elem, Tryz.underlying39]
  have he : Tryz.prog.elem 39 = 3 := by simp [Program.elem, Tryz.underlying39]
  by_cases h1 : cap = 1
  · have hr : r.length = 0 := by omega
    subst h1
    refine ⟨some ⟨b, o, none⟩, 0, fun W => ?_, ⟨_, _, rfl, by omega, by omega, fun h0 => by omega⟩⟩
    have := run_slice_l W 39 (some ⟨b, o, none⟩) (r.length + 1) 1 ht' .i64 1 (by omega) (by omega)
    rw [this, he, sizeOf3]
    simp [Result.andThen, sliced, Addr.add, hr]
  · refine ⟨some ⟨b, o + 1, none⟩, cap - 1, fun W => ?_, ⟨_, _, rfl, by omega, by omega, fun h0 => ⟨b, o + 1, rfl, hB, fun i hi => ?_⟩⟩⟩
    · have := run_slice_l W 39 (some ⟨b, o, none⟩) (r.length + 1) cap ht' .i64 1 (by omega) (by omega)
      rw [this, he, sizeOf3]
      simp [Result.andThen, sliced, Addr.add, h1]
    · have := hcell (i + 1) (by simp; omega)
      rw [show o + 1 + i = o + (i + 1) by omega, this]
      simp
end Go.Proofs.YtecodpdfckjalaaGreatDoor
