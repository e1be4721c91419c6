import Derived.Test.YtecodpdfckjalaaGreatDoorYCovQ
import Derived.Deep.QuietTactic
import Derived.BigQuiet
import Derived.Deep.RegionHeld
import Derived.WalkSmall
set_option linter.unusedVariables false
set_option linter.unusedSimpArgs false
set_option maxHeartbeats 4000000
set_option maxRecDepth 100000
namespace Go.Proofs.YtecodpdfckjalaaGreatDoor
open Go.RowKit
theorem y7 (w w1 : World) (o : Obj) (h : Below (w.alloc o).heap.size (w.alloc o) w1) : Below w.heap.size w w1 := (ah w o).trans (h.mono (by simp))
theorem ib (ka : Option Addr) (kc : Nat) (n : Nd) (w : World) : Calls Tryz.prog 23 #[ndV ka kc n] w fun e w' => e = .returned (.bool (cu n.kind n.num n.kids.length)) /\ Below w.heap.size w w' := by
 obtain ⟨k, p, ks, nm, num⟩ := n
 unfold ndV
 simp only
 have HL : Bx (∀ w, Calls Tryz.prog 39 #[.agg #[.int .i64 k, .int .i64 p, .slice ka ks.length kc, .string nm, .int .i64 num]] w fun e w' => e = .returned (.int .i64 (bT k num)) /\ Below w.heap.size w w') := ⟨fun w => lu ka kc ⟨k, p, ks, nm, num⟩ w⟩
 go_enter Tryz.func23, Tryz.ntmps23
 go_wp2_with (first | (go_at_call 39; refine Calls.mono (HL.out _) ?_; rintro e w1 ⟨rfl, hb1⟩))
 all_goals
  go_ret
  refine ⟨ek ?_, by first | exact ah _ _ | exact y7 _ _ _ hb1⟩
  clear HL
  unfold cu
  simp at *
  (repeat' split) <;> first | rfl | omega | (simp_all; done) | (simp_all; omega)
def JS (lv pl : Int) : Int := if pl = 0 /\ lv ≠ 3 then lv else lv + 1
theorem pG (lv pl : Int) (w : World) (h : 0 <= lv) (h' : lv <= 8) : Calls Tryz.prog 73 #[.int .i64 lv, .int .i64 pl] w fun e w' => e = .returned (.int .i64 (JS lv pl)) /\ w = w' := by
 go_enter Tryz.func73, Tryz.ntmps73
 go_wp2
 all_goals
  go_ret
  refine ⟨gp ?_, rfl⟩
  unfold JS
  simp at *
  (repeat' split) <;> omega
theorem y8 (ka : Option Addr) (kc : Nat) (n : Nd) (pl : Nat) (hp : pl <= maxLen) (w : World) : Calls Tryz.prog 47 #[ndV ka kc n, .int .i64 pl] w fun e w' => e = .returned (.int .i64 (gJ n.kind n.num pl)) /\ Below w.heap.size w w' := by
 obtain ⟨k, p, ks, nm, num⟩ := n
 unfold ndV
 simp only
 have HL : Bx (∀ w, Calls Tryz.prog 39 #[.agg #[.int .i64 k, .int .i64 p, .slice ka ks.length kc, .string nm, .int .i64 num]] w fun e w' => e = .returned (.int .i64 (bT k num)) /\ Below w.heap.size w w') := ⟨fun w => lu ka kc ⟨k, p, ks, nm, num⟩ w⟩
 have hle := oo k num
 go_enter Tryz.func47, Tryz.ntmps47
 go_wp2_with (first | (go_at_call 39; refine Calls.mono (HL.out _) ?_; rintro e w1 ⟨rfl, hb1⟩) | (go_at_call 73; refine (pG _ _ _ hle.1 hle.2).mono ?_; rintro e w' ⟨rfl, rfl⟩))
 all_goals
  go_ret
  refine ⟨gp ?_, by first | exact ah _ _ | exact y7 _ _ _ hb1⟩
  clear HL
  unfold gJ
  try unfold JS
  simp at *
  (repeat' split) <;> first | rfl | omega | (simp_all; done) | (simp_all; omega)
def opT (op : Int) : List UInt8 :=
 if op = 1 ∨ op = 32 then [45] else if op = 2 then [33] else if op = 3 then [60, 45] else if op = 11 then [124, 124] else if op = 12 then [38, 38] else if op = 21 then [61, 61] else if op = 22 then [33, 61] else if op = 23 then [60]
 else if op = 24 then [60, 61] else if op = 25 then [62] else if op = 26 then [62, 61] else if op = 31 then [43] else if op = 41 then [42] else if op = 42 then [47] else [37]
theorem nG (op : Int) (w : World) : Calls Tryz.prog 56 #[.int .i64 op] w fun e w' => e = .returned (.string ⟨(opT op).toArray⟩) /\ w = w' := by
 go_enter Tryz.func56, Tryz.ntmps56
 go_wp2
 all_goals
  go_ret
  refine ⟨?_, rfl⟩
  unfold opT
  simp at *
  simp [*]
theorem Ep (a : Int) (w : World) : Calls Tryz.prog 43 #[.int .i64 a] w fun e w' => e = .returned (.func (.func 72) #[] #[.pointer (some ⟨w.heap.size, 0, none⟩)]) /\ w.alloc (.cells #[.int .i64 a] 3) = w' := by
 go_enter Tryz.func43, Tryz.ntmps43
 go_wp2
 go_ret
 exact ⟨rfl, rfl⟩
theorem CB (a k : Int) (g : Nat) (w : World) (hc : w.cell? ⟨g, 0, none⟩ = some (.int .i64 a)) : Calls Tryz.prog 72 #[.int .i64 k, .pointer (some ⟨g, 0, none⟩)] w fun e w' => e = .returned (.bool (dN a k)) /\ w = w' := by
 go_enter Tryz.func72, Tryz.ntmps72
 go_wp2
 go_ret
 exact ⟨rfl, rfl⟩
def Far (c : Nat) (w w' : World) : Prop := ∀ b, b ≠ c -> w'.heap[b]? = w.heap[b]?
theorem Far.refl (c : Nat) (w : World) : Far c w w := fun _ _ => rfl
theorem Far.drew {c : Nat} {w w' : World} (h : Far c w w') : Far c w w'.drew := h
theorem Far.trans {c : Nat} {w w' w'' : World} (h : Far c w w') (h' : Far c w' w'') : Far c w w'' := fun b hb => (h' b hb).trans (h b hb)
theorem Far.cell {c : Nat} {w w' : World} (h : Far c w w') (b i : Nat) (hb : b ≠ c) : w'.cell? ⟨b, i, none⟩ = w.cell? ⟨b, i, none⟩ := by
 have := h b hb
 simp only [World.cell?, this]
structure aO (w : World) (B : Nat) (v : Value) (ks : List Int) : Prop where
 ex : ∃ a cap, v = .slice a ks.length cap /\ ks.length <= cap /\ ks.length <= maxLen /\ (0 < ks.length -> ∃ b o, a = some ⟨b, o, none⟩ /\ b < B /\ ∀ i (h : i < ks.length), w.cell? ⟨b, o + i, none⟩ = some (.int .i64 ks[i]))
def fH (lv left : Value) (m : Bool) : Obj := .cells #[lv, left, .bool m] 79 (0, 0)
theorem y9 (c : Nat) (lv : Value) (a : Option Addr) (cap : Nat) (m : Bool) (cl : Value) (w : World) (hc : w.heap[c]? = some (fH lv (.slice a 0 cap) m)) :
  Calls Tryz.prog 44 #[.pointer (some ⟨c, 0, none⟩), cl] w fun e w' => e = .returned (.bool false) /\ w'.heap = w.heap /\ Below w.heap.size w w' := by
 have c0 : w.cell? ⟨c, 0, none⟩ = some lv := by simp [World.cell?, hc, fH]
 have c1 : w.cell? ⟨c, 1, none⟩ = some (.slice a 0 cap) := by simp [World.cell?, hc, fH]
 have hlt : c < w.heap.size := World.block_lt_of_cell? w _ c0
 clear hc
 go_enter Tryz.func44, Tryz.ntmps44
 go_wp2
 go_quiet (fail)
 go_wp2
 go_ret
 exact ⟨rfl, by simp, below_drewN (Below.refl _ _) nq⟩
theorem sizeOf3 (w : World) : (Go.sizeOf 3).run Tryz.prog w = .ok 1 w := by kernel_rfl
theorem za {w : World} {B b o cap : Nat} {k : Int} {r : List Int} (h : aO w B (.slice (some ⟨b, o, none⟩) (r.length + 1) cap) (k :: r)) :
  ∃ a' cap', (∀ W, (Instr.slice 39 (.slice (some ⟨b, o, none⟩) (r.length + 1) cap) (some (.int .i64 1)) none none).run Tryz.prog W = .ok (.slice a' r.length cap') W) /\ aO w B (.slice a' r.length cap') r := by
 obtain ⟨a, c, he, hc, hm, hx⟩ := h.ex
 simp only [Value.slice.injEq] at he
 obtain ⟨rfl, _, rfl⟩ := he
 obtain ⟨b', o', hb, hB, hcell⟩ := hx (by simp)
 simp only [Option.some.injEq, Addr.mk.injEq, and_true] at hb
 obtain ⟨rfl, rfl⟩ := hb
 simp only [List.length_cons] at hc hm
 have ht' : Tryz.prog.underlying 39 = some (.slice (Tryz.prog.elem 39)) := by simp [Program.elem, Tryz.underlying39]
 have he : Tryz.prog.elem 39 = 3 := by simp [Program.elem, Tryz.underlying39]
 by_cases h1 : cap = 1
 ·have hr : r.length = 0 := by omega
  subst h1
  refine ⟨some ⟨b, o, none⟩, 0, fun W => ?_, ⟨_, _, rfl, by omega, by omega, fun h0 => by omega⟩⟩
  have := run_slice_l W 39 (some ⟨b, o, none⟩) (r.length + 1) 1 ht' .i64 1 (by omega) (by omega)
  rw [this, he, sizeOf3]
  simp [Result.andThen, sliced, Addr.add, hr]
 ·refine ⟨some ⟨b, o + 1, none⟩, cap - 1, fun W => ?_, ⟨_, _, rfl, by omega, by omega, fun h0 => ⟨b, o + 1, rfl, hB, fun i hi => ?_⟩⟩⟩
  ·have := run_slice_l W 39 (some ⟨b, o, none⟩) (r.length + 1) cap ht' .i64 1 (by omega) (by omega)
   rw [this, he, sizeOf3]
   simp [Result.andThen, sliced, Addr.add, h1]
  ·have := hcell (i + 1) (by simp; omega)
   rw [show o + 1 + i = o + (i + 1) by omega, this]
   simp
end Go.Proofs.YtecodpdfckjalaaGreatDoor
