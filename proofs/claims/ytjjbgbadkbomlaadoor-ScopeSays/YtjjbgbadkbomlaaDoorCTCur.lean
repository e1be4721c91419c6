import Derived.Test.YtjjbgbadkbomlaaDoorCTLv
import Derived.Deep.QuietTactic
import Derived.BigQuiet
import Derived.Deep.RegionHeld
import Derived.WalkSmall
import Derived.Deep.DeepFit
import Derived.Deep.DrawnRows
import Derived.Deep.LoopGhost
import Derived.BigFrame
namespace Go.Proofs.YtjjbgbadkbomlaaDoor
open Go.RowKit
set_option linter.unusedVariables false
set_option linter.unusedSimpArgs false

theorem just_any (a : Int) (w : World) : Calls Tryd.prog 53 #[.int .i64 a] w fun e w' => e = .returned (.func (.func 62) #[] #[.pointer (some ⟨w.heap.size, 0, none⟩)]) ∧ w.alloc (.cells #[.int .i64 a] 3) = w' := by
  go_enter Tryd.func53, Tryd.ntmps53
  go_wp2
  go_ret
  exact ⟨rfl, rfl⟩

theorem just1_any (a k : Int) (g : Nat) (w : World) (hc : w.cell? ⟨g, 0, none⟩ = some (.int .i64 a)) : Calls Tryd.prog 62 #[.int .i64 k, .pointer (some ⟨g, 0, none⟩)] w fun e w' => e = .returned (.bool (justI a k)) ∧ w = w' := by
  go_enter Tryd.func62, Tryd.ntmps62
  go_wp2
  go_ret
  exact ⟨rfl, rfl⟩

/-- all but one block is as it was -/
def Far (c : Nat) (w w' : World) : Prop := ∀ b, b ≠ c → w'.heap[b]? = w.heap[b]?
theorem Far.refl (c : Nat) (w : World) : Far c w w := fun _ _ => rfl
theorem Far.drew {c : Nat} {w w' : World} (h : Far c w w') : Far c w w'.drew := h
theorem Far.trans {c : Nat} {w w' w'' : World} (h : Far c w w') (h' : Far c w' w'') : Far c w w'' := fun b hb => (h' b hb).trans (h b hb)
theorem Far.cell {c : Nat} {w w' : World} (h : Far c w w') (b i : Nat) (hb : b ≠ c) : w'.cell? ⟨b, i, none⟩ = w.cell? ⟨b, i, none⟩ := by
  have := h b hb
  simp only [World.cell?, this]

/-- a row of ints, as a slice's value has it -/
structure IntsV (w : World) (B : Nat) (v : Value) (ks : List Int) : Prop where
  ex : ∃ a cap, v = .slice a ks.length cap ∧ ks.length ≤ cap ∧ ks.length ≤ maxLen ∧ (0 < ks.length → ∃ b o, a = some ⟨b, o, none⟩ ∧ b < B ∧ ∀ i (h : i < ks.length), w.cell? ⟨b, o + i, none⟩ = some (.int .i64 ks[i]))

/-- the cursor's block -/
def curO (lv left : Value) (m : Bool) : Obj := .cells #[lv, left, .bool m] 77 (0, 0)

set_option maxHeartbeats 1000000 in
theorem maybe_none (c : Nat) (lv : Value) (a : Option Addr) (cap : Nat) (m : Bool) (cl : Value) (w : World) (hc : w.heap[c]? = some (curO lv (.slice a 0 cap) m)) :
    Calls Tryd.prog 54 #[.pointer (some ⟨c, 0, none⟩), cl] w fun e w' => e = .returned (.bool false) ∧ w'.heap = w.heap ∧ Below w.heap.size w w' := by
  have c0 : w.cell? ⟨c, 0, none⟩ = some lv := by simp [World.cell?, hc, curO]
  have c1 : w.cell? ⟨c, 1, none⟩ = some (.slice a 0 cap) := by simp [World.cell?, hc, curO]
  have hlt : c < w.heap.size := World.block_lt_of_cell? w _ c0
  clear hc
  go_enter Tryd.func54, Tryd.ntmps54
  go_wp2
  go_quiet (fail)
  go_wp2
  go_ret
  exact ⟨rfl, by simp, below_drewN (Below.refl _ _) nq⟩

theorem sizeOf3 (w : World) : (Go.sizeOf 3).run Tryd.prog w = .ok 1 w := by kernel_rfl
theorem slice_tail {w : World} {B b o cap : Nat} {k : Int} {r : List Int} (h : IntsV w B (.slice (some ⟨b, o, none⟩) (r.length + 1) cap) (k :: r)) :
    ∃ a' cap', (∀ W, (Instr.slice 25 (.slice (some ⟨b, o, none⟩) (r.length + 1) cap) (some (.int .i64 1)) none none).run Tryd.prog W = .ok (.slice a' r.length cap') W) ∧ IntsV w B (.slice a' r.length cap') r := by
  obtain ⟨a, c, he, hc, hm, hx⟩ := h.ex
  simp only [Value.slice.injEq] at he
  obtain ⟨rfl, _, rfl⟩ := he
  obtain ⟨b', o', hb, hB, hcell⟩ := hx (by simp)
  simp only [Option.some.injEq, Addr.mk.injEq, and_true] at hb
  obtain ⟨rfl, rfl⟩ := hb
  simp only [List.length_cons] at hc hm
  have ht' : Tryd.prog.underlying 25 = some (.slice (Tryd.prog.elem 25)) := by simp [Program.elem, Tryd.underlying25]
  have he : Tryd.prog.elem 25 = 3 := by simp [Program.elem, Tryd.underlying25]
  by_cases h1 : cap = 1
  · have hr : r.length = 0 := by omega
    subst h1
    refine ⟨some ⟨b, o, none⟩, 0, fun W => ?_, ⟨_, _, rfl, by omega, by omega, fun h0 => by omega⟩⟩
    have := run_slice_l W 25 (some ⟨b, o, none⟩) (r.length + 1) 1 ht' .i64 1 (by omega) (by omega)
    rw [this, he, sizeOf3]
    simp [Result.andThen, sliced, Addr.add, hr]
  · refine ⟨some ⟨b, o + 1, none⟩, cap - 1, fun W => ?_, ⟨_, _, rfl, by omega, by omega, fun h0 => ⟨b, o + 1, rfl, hB, fun i hi => ?_⟩⟩⟩
    · have := run_slice_l W 25 (some ⟨b, o, none⟩) (r.length + 1) cap ht' .i64 1 (by omega) (by omega)
      rw [this, he, sizeOf3]
      simp [Result.andThen, sliced, Addr.add, h1]
    · have := hcell (i + 1) (by simp; omega)
      rw [show o + 1 + i = o + (i + 1) by omega, this]
      simp
end Go.Proofs.YtjjbgbadkbomlaaDoor
namespace Go.Proofs.YtjjbgbadkbomlaaDoor
open Go.RowKit
set_option linter.unusedVariables false
set_option linter.unusedSimpArgs false

set_option maxHeartbeats 1000000 in
theorem maybeType_some (c b o nb no N nc len cap k : Nat) (kd : Int) (m : Bool) (a' : Option Addr) (len' cap' : Nat) (w : World) (hc : w.heap[c]? = some (curO (.slice (some ⟨nb, no, none⟩) N nc) (.slice (some ⟨b, o, none⟩) len cap) m))
    (hk0 : w.cell? ⟨b, o, none⟩ = some (.int .i64 k)) (hn0 : w.cell? ⟨nb, no + k * 5, none⟩ = some (.int .i64 kd)) (hkN : k < N) (hN : N ≤ maxLen) (hlen : 0 < len) (hlc : len ≤ cap) (hlm : len ≤ maxLen)
    (hsl : ∀ W, (Instr.slice 25 (.slice (some ⟨b, o, none⟩) len cap) (some (.int .i64 1)) none none).run Tryd.prog W = .ok (.slice a' len' cap') W) :
    Calls Tryd.prog 54 #[.pointer (some ⟨c, 0, none⟩), .func (.func 46) #[] #[]] w fun e w' => e = .returned (.bool (typI kd)) ∧ w'.heap[c]? = some (curO (.slice (some ⟨nb, no, none⟩) N nc) (cond (typI kd) (.slice a' len' cap') (.slice (some ⟨b, o, none⟩) len cap)) m) ∧ Far c w w' ∧ Below c w w' := by
  have c0 : w.cell? ⟨c, 0, none⟩ = some (.slice (some ⟨nb, no, none⟩) N nc) := by simp [World.cell?, hc, curO]
  have c1 : w.cell? ⟨c, 1, none⟩ = some (.slice (some ⟨b, o, none⟩) len cap) := by simp [World.cell?, hc, curO]
  have hlt : c < w.heap.size := World.block_lt_of_cell? w _ c0
  have f1 : w.frozen? ⟨c, 1, none⟩ = false := by simp [World.frozen?, hc, curO]
  have HC : Bx _ := ⟨hc⟩
  clear hc
  unfold maxLen at hN hlm
  have hl0 : ((len : Int) == 0) = false := by rw [beq_eq_false_iff_ne]; omega
  go_enter Tryd.func54, Tryd.ntmps54
  go_wp2
  go_region_held (fun w' => w'.cell? ⟨c, 0, none⟩ = some (.slice (some ⟨nb, no, none⟩) N nc) ∧ w'.cell? ⟨c, 1, none⟩ = some (.slice (some ⟨b, o, none⟩) len cap) ∧ w'.cell? ⟨b, o, none⟩ = some (.int .i64 k) ∧ w'.cell? ⟨nb, no + k * 5, none⟩ = some (.int .i64 kd) ∧ c < w'.heap.size) (first | exact ⟨c0, c1, hk0, hn0, hlt⟩ | (go_keep))
    (first | (go_at_call 46; refine (isType_any _ _).mono ?_; rintro e w' ⟨rfl, rfl⟩))
  cases hp : typI kd
  · go_wp2
    go_ret
    exact ⟨by rw [hp]; rfl, by rw [hp]; exact HC.out, fun _ _ => rfl, (Below.refl _ _).drew⟩
  · go_wp2
    go_ret
    refine ⟨by rw [hp]; rfl, ?_, ?_, ?_⟩
    · rw [hp]
      exact heap_setCell_same w.drew c 1 #[.slice (some ⟨nb, no, none⟩) N nc, .slice (some ⟨b, o, none⟩) len cap, .bool m] 77 (.slice a' len' cap') HC.out
    · intro x hx
      exact heap_setCell_other w.drew ⟨c, 1, none⟩ x _ hx
    · exact Below.drew (Below.setCell (p := ⟨c, 1, none⟩) (Below.refl c w) (Nat.le_refl _) _)
set_option maxHeartbeats 1000000 in
theorem maybeExpr_some (c b o nb no N nc len cap k : Nat) (kd : Int) (m : Bool) (a' : Option Addr) (len' cap' : Nat) (w : World) (hc : w.heap[c]? = some (curO (.slice (some ⟨nb, no, none⟩) N nc) (.slice (some ⟨b, o, none⟩) len cap) m))
    (hk0 : w.cell? ⟨b, o, none⟩ = some (.int .i64 k)) (hn0 : w.cell? ⟨nb, no + k * 5, none⟩ = some (.int .i64 kd)) (hkN : k < N) (hN : N ≤ maxLen) (hlen : 0 < len) (hlc : len ≤ cap) (hlm : len ≤ maxLen)
    (hsl : ∀ W, (Instr.slice 25 (.slice (some ⟨b, o, none⟩) len cap) (some (.int .i64 1)) none none).run Tryd.prog W = .ok (.slice a' len' cap') W) :
    Calls Tryd.prog 54 #[.pointer (some ⟨c, 0, none⟩), .func (.func 47) #[] #[]] w fun e w' => e = .returned (.bool (exprI kd)) ∧ w'.heap[c]? = some (curO (.slice (some ⟨nb, no, none⟩) N nc) (cond (exprI kd) (.slice a' len' cap') (.slice (some ⟨b, o, none⟩) len cap)) m) ∧ Far c w w' ∧ Below c w w' := by
  have c0 : w.cell? ⟨c, 0, none⟩ = some (.slice (some ⟨nb, no, none⟩) N nc) := by simp [World.cell?, hc, curO]
  have c1 : w.cell? ⟨c, 1, none⟩ = some (.slice (some ⟨b, o, none⟩) len cap) := by simp [World.cell?, hc, curO]
  have hlt : c < w.heap.size := World.block_lt_of_cell? w _ c0
  have f1 : w.frozen? ⟨c, 1, none⟩ = false := by simp [World.frozen?, hc, curO]
  have HC : Bx _ := ⟨hc⟩
  clear hc
  unfold maxLen at hN hlm
  have hl0 : ((len : Int) == 0) = false := by rw [beq_eq_false_iff_ne]; omega
  go_enter Tryd.func54, Tryd.ntmps54
  go_wp2
  go_region_held (fun w' => w'.cell? ⟨c, 0, none⟩ = some (.slice (some ⟨nb, no, none⟩) N nc) ∧ w'.cell? ⟨c, 1, none⟩ = some (.slice (some ⟨b, o, none⟩) len cap) ∧ w'.cell? ⟨b, o, none⟩ = some (.int .i64 k) ∧ w'.cell? ⟨nb, no + k * 5, none⟩ = some (.int .i64 kd) ∧ c < w'.heap.size) (first | exact ⟨c0, c1, hk0, hn0, hlt⟩ | (go_keep))
    (first | (go_at_call 47; refine (isExpr_any _ _).mono ?_; rintro e w' ⟨rfl, rfl⟩))
  cases hp : exprI kd
  · go_wp2
    go_ret
    exact ⟨by rw [hp]; rfl, by rw [hp]; exact HC.out, fun _ _ => rfl, (Below.refl _ _).drew⟩
  · go_wp2
    go_ret
    refine ⟨by rw [hp]; rfl, ?_, ?_, ?_⟩
    · rw [hp]
      exact heap_setCell_same w.drew c 1 #[.slice (some ⟨nb, no, none⟩) N nc, .slice (some ⟨b, o, none⟩) len cap, .bool m] 77 (.slice a' len' cap') HC.out
    · intro x hx
      exact heap_setCell_other w.drew ⟨c, 1, none⟩ x _ hx
    · exact Below.drew (Below.setCell (p := ⟨c, 1, none⟩) (Below.refl c w) (Nat.le_refl _) _)
set_option maxHeartbeats 1000000 in
theorem maybeStat_some (c b o nb no N nc len cap k : Nat) (kd : Int) (m : Bool) (a' : Option Addr) (len' cap' : Nat) (w : World) (hc : w.heap[c]? = some (curO (.slice (some ⟨nb, no, none⟩) N nc) (.slice (some ⟨b, o, none⟩) len cap) m))
    (hk0 : w.cell? ⟨b, o, none⟩ = some (.int .i64 k)) (hn0 : w.cell? ⟨nb, no + k * 5, none⟩ = some (.int .i64 kd)) (hkN : k < N) (hN : N ≤ maxLen) (hlen : 0 < len) (hlc : len ≤ cap) (hlm : len ≤ maxLen)
    (hsl : ∀ W, (Instr.slice 25 (.slice (some ⟨b, o, none⟩) len cap) (some (.int .i64 1)) none none).run Tryd.prog W = .ok (.slice a' len' cap') W) :
    Calls Tryd.prog 54 #[.pointer (some ⟨c, 0, none⟩), .func (.func 48) #[] #[]] w fun e w' => e = .returned (.bool (statI kd)) ∧ w'.heap[c]? = some (curO (.slice (some ⟨nb, no, none⟩) N nc) (cond (statI kd) (.slice a' len' cap') (.slice (some ⟨b, o, none⟩) len cap)) m) ∧ Far c w w' ∧ Below c w w' := by
  have c0 : w.cell? ⟨c, 0, none⟩ = some (.slice (some ⟨nb, no, none⟩) N nc) := by simp [World.cell?, hc, curO]
  have c1 : w.cell? ⟨c, 1, none⟩ = some (.slice (some ⟨b, o, none⟩) len cap) := by simp [World.cell?, hc, curO]
  have hlt : c < w.heap.size := World.block_lt_of_cell? w _ c0
  have f1 : w.frozen? ⟨c, 1, none⟩ = false := by simp [World.frozen?, hc, curO]
  have HC : Bx _ := ⟨hc⟩
  clear hc
  unfold maxLen at hN hlm
  have hl0 : ((len : Int) == 0) = false := by rw [beq_eq_false_iff_ne]; omega
  go_enter Tryd.func54, Tryd.ntmps54
  go_wp2
  go_region_held (fun w' => w'.cell? ⟨c, 0, none⟩ = some (.slice (some ⟨nb, no, none⟩) N nc) ∧ w'.cell? ⟨c, 1, none⟩ = some (.slice (some ⟨b, o, none⟩) len cap) ∧ w'.cell? ⟨b, o, none⟩ = some (.int .i64 k) ∧ w'.cell? ⟨nb, no + k * 5, none⟩ = some (.int .i64 kd) ∧ c < w'.heap.size) (first | exact ⟨c0, c1, hk0, hn0, hlt⟩ | (go_keep))
    (first | (go_at_call 48; refine (isStatement_any _ _).mono ?_; rintro e w' ⟨rfl, rfl⟩))
  cases hp : statI kd
  · go_wp2
    go_ret
    exact ⟨by rw [hp]; rfl, by rw [hp]; exact HC.out, fun _ _ => rfl, (Below.refl _ _).drew⟩
  · go_wp2
    go_ret
    refine ⟨by rw [hp]; rfl, ?_, ?_, ?_⟩
    · rw [hp]
      exact heap_setCell_same w.drew c 1 #[.slice (some ⟨nb, no, none⟩) N nc, .slice (some ⟨b, o, none⟩) len cap, .bool m] 77 (.slice a' len' cap') HC.out
    · intro x hx
      exact heap_setCell_other w.drew ⟨c, 1, none⟩ x _ hx
    · exact Below.drew (Below.setCell (p := ⟨c, 1, none⟩) (Below.refl c w) (Nat.le_refl _) _)
end Go.Proofs.YtjjbgbadkbomlaaDoor
namespace Go.Proofs.YtjjbgbadkbomlaaDoor
open Go.RowKit
set_option linter.unusedVariables false
set_option linter.unusedSimpArgs false

set_option maxHeartbeats 1000000 in
theorem maybeArm_some (c b o nb no N nc len cap k : Nat) (kd : Int) (m : Bool) (a' : Option Addr) (len' cap' : Nat) (w : World) (hc : w.heap[c]? = some (curO (.slice (some ⟨nb, no, none⟩) N nc) (.slice (some ⟨b, o, none⟩) len cap) m))
    (hk0 : w.cell? ⟨b, o, none⟩ = some (.int .i64 k)) (hn0 : w.cell? ⟨nb, no + k * 5, none⟩ = some (.int .i64 kd)) (hkN : k < N) (hN : N ≤ maxLen) (hlen : 0 < len) (hlc : len ≤ cap) (hlm : len ≤ maxLen)
    (hsl : ∀ W, (Instr.slice 25 (.slice (some ⟨b, o, none⟩) len cap) (some (.int .i64 1)) none none).run Tryd.prog W = .ok (.slice a' len' cap') W) :
    Calls Tryd.prog 54 #[.pointer (some ⟨c, 0, none⟩), .func (.func 56) #[] #[]] w fun e w' => e = .returned (.bool (armI kd)) ∧ w'.heap[c]? = some (curO (.slice (some ⟨nb, no, none⟩) N nc) (cond (armI kd) (.slice a' len' cap') (.slice (some ⟨b, o, none⟩) len cap)) m) ∧ Far c w w' ∧ Below c w w' := by
  have c0 : w.cell? ⟨c, 0, none⟩ = some (.slice (some ⟨nb, no, none⟩) N nc) := by simp [World.cell?, hc, curO]
  have c1 : w.cell? ⟨c, 1, none⟩ = some (.slice (some ⟨b, o, none⟩) len cap) := by simp [World.cell?, hc, curO]
  have hlt : c < w.heap.size := World.block_lt_of_cell? w _ c0
  have f1 : w.frozen? ⟨c, 1, none⟩ = false := by simp [World.frozen?, hc, curO]
  have HC : Bx _ := ⟨hc⟩
  clear hc
  unfold maxLen at hN hlm
  have hl0 : ((len : Int) == 0) = false := by rw [beq_eq_false_iff_ne]; omega
  go_enter Tryd.func54, Tryd.ntmps54
  go_wp2
  go_region_held (fun w' => w'.cell? ⟨c, 0, none⟩ = some (.slice (some ⟨nb, no, none⟩) N nc) ∧ w'.cell? ⟨c, 1, none⟩ = some (.slice (some ⟨b, o, none⟩) len cap) ∧ w'.cell? ⟨b, o, none⟩ = some (.int .i64 k) ∧ w'.cell? ⟨nb, no + k * 5, none⟩ = some (.int .i64 kd) ∧ c < w'.heap.size) (first | exact ⟨c0, c1, hk0, hn0, hlt⟩ | (go_keep))
    (first | (go_at_call 56; refine (isArm_any _ _).mono ?_; rintro e w' ⟨rfl, rfl⟩))
  cases hp : armI kd
  · go_wp2
    go_ret
    exact ⟨by rw [hp]; rfl, by rw [hp]; exact HC.out, fun _ _ => rfl, (Below.refl _ _).drew⟩
  · go_wp2
    go_ret
    refine ⟨by rw [hp]; rfl, ?_, ?_, ?_⟩
    · rw [hp]
      exact heap_setCell_same w.drew c 1 #[.slice (some ⟨nb, no, none⟩) N nc, .slice (some ⟨b, o, none⟩) len cap, .bool m] 77 (.slice a' len' cap') HC.out
    · intro x hx
      exact heap_setCell_other w.drew ⟨c, 1, none⟩ x _ hx
    · exact Below.drew (Below.setCell (p := ⟨c, 1, none⟩) (Below.refl c w) (Nat.le_refl _) _)
set_option maxHeartbeats 1000000 in
theorem maybeElse_some (c b o nb no N nc len cap k : Nat) (kd : Int) (m : Bool) (a' : Option Addr) (len' cap' : Nat) (w : World) (hc : w.heap[c]? = some (curO (.slice (some ⟨nb, no, none⟩) N nc) (.slice (some ⟨b, o, none⟩) len cap) m))
    (hk0 : w.cell? ⟨b, o, none⟩ = some (.int .i64 k)) (hn0 : w.cell? ⟨nb, no + k * 5, none⟩ = some (.int .i64 kd)) (hkN : k < N) (hN : N ≤ maxLen) (hlen : 0 < len) (hlc : len ≤ cap) (hlm : len ≤ maxLen)
    (hsl : ∀ W, (Instr.slice 25 (.slice (some ⟨b, o, none⟩) len cap) (some (.int .i64 1)) none none).run Tryd.prog W = .ok (.slice a' len' cap') W) :
    Calls Tryd.prog 54 #[.pointer (some ⟨c, 0, none⟩), .func (.func 55) #[] #[]] w fun e w' => e = .returned (.bool (elseI kd)) ∧ w'.heap[c]? = some (curO (.slice (some ⟨nb, no, none⟩) N nc) (cond (elseI kd) (.slice a' len' cap') (.slice (some ⟨b, o, none⟩) len cap)) m) ∧ Far c w w' ∧ Below c w w' := by
  have c0 : w.cell? ⟨c, 0, none⟩ = some (.slice (some ⟨nb, no, none⟩) N nc) := by simp [World.cell?, hc, curO]
  have c1 : w.cell? ⟨c, 1, none⟩ = some (.slice (some ⟨b, o, none⟩) len cap) := by simp [World.cell?, hc, curO]
  have hlt : c < w.heap.size := World.block_lt_of_cell? w _ c0
  have f1 : w.frozen? ⟨c, 1, none⟩ = false := by simp [World.frozen?, hc, curO]
  have HC : Bx _ := ⟨hc⟩
  clear hc
  unfold maxLen at hN hlm
  have hl0 : ((len : Int) == 0) = false := by rw [beq_eq_false_iff_ne]; omega
  go_enter Tryd.func54, Tryd.ntmps54
  go_wp2
  go_region_held (fun w' => w'.cell? ⟨c, 0, none⟩ = some (.slice (some ⟨nb, no, none⟩) N nc) ∧ w'.cell? ⟨c, 1, none⟩ = some (.slice (some ⟨b, o, none⟩) len cap) ∧ w'.cell? ⟨b, o, none⟩ = some (.int .i64 k) ∧ w'.cell? ⟨nb, no + k * 5, none⟩ = some (.int .i64 kd) ∧ c < w'.heap.size) (first | exact ⟨c0, c1, hk0, hn0, hlt⟩ | (go_keep))
    (first | (go_at_call 55; refine (isElse_any _ _).mono ?_; rintro e w' ⟨rfl, rfl⟩))
  cases hp : elseI kd
  · go_wp2
    go_ret
    exact ⟨by rw [hp]; rfl, by rw [hp]; exact HC.out, fun _ _ => rfl, (Below.refl _ _).drew⟩
  · go_wp2
    go_ret
    refine ⟨by rw [hp]; rfl, ?_, ?_, ?_⟩
    · rw [hp]
      exact heap_setCell_same w.drew c 1 #[.slice (some ⟨nb, no, none⟩) N nc, .slice (some ⟨b, o, none⟩) len cap, .bool m] 77 (.slice a' len' cap') HC.out
    · intro x hx
      exact heap_setCell_other w.drew ⟨c, 1, none⟩ x _ hx
    · exact Below.drew (Below.setCell (p := ⟨c, 1, none⟩) (Below.refl c w) (Nat.le_refl _) _)
set_option maxHeartbeats 1000000 in
theorem maybeJust_some (c b o nb no N nc len cap k : Nat) (kd : Int) (m : Bool) (a' : Option Addr) (len' cap' : Nat) (w : World) (g0 : Int) (g : Nat) (hg : w.cell? ⟨g, 0, none⟩ = some (.int .i64 g0)) (hgc : g ≠ c) (hc : w.heap[c]? = some (curO (.slice (some ⟨nb, no, none⟩) N nc) (.slice (some ⟨b, o, none⟩) len cap) m))
    (hk0 : w.cell? ⟨b, o, none⟩ = some (.int .i64 k)) (hn0 : w.cell? ⟨nb, no + k * 5, none⟩ = some (.int .i64 kd)) (hkN : k < N) (hN : N ≤ maxLen) (hlen : 0 < len) (hlc : len ≤ cap) (hlm : len ≤ maxLen)
    (hsl : ∀ W, (Instr.slice 25 (.slice (some ⟨b, o, none⟩) len cap) (some (.int .i64 1)) none none).run Tryd.prog W = .ok (.slice a' len' cap') W) :
    Calls Tryd.prog 54 #[.pointer (some ⟨c, 0, none⟩), .func (.func 62) #[] #[.pointer (some ⟨g, 0, none⟩)]] w fun e w' => e = .returned (.bool ((justI g0) kd)) ∧ w'.heap[c]? = some (curO (.slice (some ⟨nb, no, none⟩) N nc) (cond ((justI g0) kd) (.slice a' len' cap') (.slice (some ⟨b, o, none⟩) len cap)) m) ∧ Far c w w' ∧ Below c w w' := by
  have c0 : w.cell? ⟨c, 0, none⟩ = some (.slice (some ⟨nb, no, none⟩) N nc) := by simp [World.cell?, hc, curO]
  have c1 : w.cell? ⟨c, 1, none⟩ = some (.slice (some ⟨b, o, none⟩) len cap) := by simp [World.cell?, hc, curO]
  have hlt : c < w.heap.size := World.block_lt_of_cell? w _ c0
  have f1 : w.frozen? ⟨c, 1, none⟩ = false := by simp [World.frozen?, hc, curO]
  have HC : Bx _ := ⟨hc⟩
  clear hc
  unfold maxLen at hN hlm
  have hl0 : ((len : Int) == 0) = false := by rw [beq_eq_false_iff_ne]; omega
  go_enter Tryd.func54, Tryd.ntmps54
  go_wp2
  go_region_held (fun w' => w'.cell? ⟨c, 0, none⟩ = some (.slice (some ⟨nb, no, none⟩) N nc) ∧ w'.cell? ⟨c, 1, none⟩ = some (.slice (some ⟨b, o, none⟩) len cap) ∧ w'.cell? ⟨b, o, none⟩ = some (.int .i64 k) ∧ w'.cell? ⟨nb, no + k * 5, none⟩ = some (.int .i64 kd) ∧ c < w'.heap.size ∧ w'.cell? ⟨g, 0, none⟩ = some (.int .i64 g0)) (first | exact ⟨c0, c1, hk0, hn0, hlt, hg⟩ | (go_keep))
    (first | (go_at_call 62; refine (just1_any g0 _ g w.drew hg).mono ?_; rintro e w' ⟨rfl, rfl⟩))
  cases hp : (justI g0) kd
  · go_wp2
    go_ret
    exact ⟨by rw [hp]; rfl, by rw [hp]; exact HC.out, fun _ _ => rfl, (Below.refl _ _).drew⟩
  · go_wp2
    go_ret
    refine ⟨by rw [hp]; rfl, ?_, ?_, ?_⟩
    · rw [hp]
      exact heap_setCell_same w.drew c 1 #[.slice (some ⟨nb, no, none⟩) N nc, .slice (some ⟨b, o, none⟩) len cap, .bool m] 77 (.slice a' len' cap') HC.out
    · intro x hx
      exact heap_setCell_other w.drew ⟨c, 1, none⟩ x _ hx
    · exact Below.drew (Below.setCell (p := ⟨c, 1, none⟩) (Below.refl c w) (Nat.le_refl _) _)
end Go.Proofs.YtjjbgbadkbomlaaDoor
namespace Go.Proofs.YtjjbgbadkbomlaaDoor
open Go.RowKit
set_option linter.unusedVariables false
set_option linter.unusedSimpArgs false

theorem IntsV.far {w w' : World} {c B : Nat} {v : Value} {ks : List Int} (h : IntsV w B v ks) (hf : Far c w w') (hB : B ≤ c) : IntsV w' B v ks := by
  obtain ⟨a, cap, h1, h2, h3, h4⟩ := h.ex
  refine ⟨a, cap, h1, h2, h3, fun h0 => ?_⟩
  obtain ⟨b, o, e1, e2, e3⟩ := h4 h0
  exact ⟨b, o, e1, e2, fun i hi => by rw [hf.cell b _ (by omega)]; exact e3 i hi⟩
theorem IntsV.below {w w' : World} {B : Nat} {v : Value} {ks : List Int} (h : IntsV w B v ks) (hb : Below B w w') : IntsV w' B v ks := by
  obtain ⟨a, cap, h1, h2, h3, h4⟩ := h.ex
  refine ⟨a, cap, h1, h2, h3, fun h0 => ?_⟩
  obtain ⟨b, o, e1, e2, e3⟩ := h4 h0
  exact ⟨b, o, e1, e2, fun i hi => by rw [hb.cell (p := ⟨b, o + i, none⟩) e2]; exact e3 i hi⟩

/-- the cursor at work: the kids that are left -/
structure CurS (w : World) (c B nb no nc : Nat) (l : List Nd) (ks : List Nat) (m : Bool) : Prop where
  left : ∃ left, w.heap[c]? = some (curO (.slice (some ⟨nb, no, none⟩) l.length nc) left m) ∧ IntsV w B left (ks.map fun k : Nat => (k : Int))
  nodes : ∀ j, j < l.length → w.cell? ⟨nb, no + j * 5, none⟩ = some (.int .i64 (kdN l j))
  inn : ∀ k ∈ ks, k < l.length
  lo : nb < B
  hi : B ≤ c
  max : l.length ≤ maxLen

theorem CurS.facts {w : World} {c B nb no nc : Nat} {l : List Nd} {ks : List Nat} {m : Bool} (h : CurS w c B nb no nc l ks m) :
    w.cell? ⟨c, 2, none⟩ = some (.bool m) ∧ w.frozen? ⟨c, 2, none⟩ = false ∧ c < w.heap.size ∧ ∃ a cap, w.cell? ⟨c, 1, none⟩ = some (.slice a ks.length cap) := by
  obtain ⟨left, hc, hv⟩ := h.left
  obtain ⟨a, cap, rfl, _⟩ := hv.ex
  have h2 : w.cell? ⟨c, 2, none⟩ = some (.bool m) := by simp [World.cell?, hc, curO]
  exact ⟨h2, by simp [World.frozen?, hc, curO], World.block_lt_of_cell? w _ h2, a, cap, by simp [World.cell?, hc, curO]⟩
theorem CurS.missed {w : World} {c B nb no nc : Nat} {l : List Nd} {ks : List Nat} {m : Bool} (h : CurS w c B nb no nc l ks m) (b : Bool) : CurS (w.setCell ⟨c, 2, none⟩ (.bool b)) c B nb no nc l ks b := by
  obtain ⟨left, hc, hv⟩ := h.left
  have hf : Far c w (w.setCell ⟨c, 2, none⟩ (.bool b)) := fun x hx => heap_setCell_other w ⟨c, 2, none⟩ x _ hx
  have h1 := h.lo
  have h2 := h.hi
  refine ⟨⟨left, ?_, hv.far hf h2⟩, fun j hj => by rw [hf.cell nb _ (by omega)]; exact h.nodes j hj, h.inn, h1, h2, h.max⟩
  exact heap_setCell_same w c 2 #[.slice (some ⟨nb, no, none⟩) l.length nc, left, .bool m] 77 (.bool b) hc

/-- a class's value at the cursor -/
def Cls (fv : Value) (q : Nat → Bool) (c B nb no nc : Nat) (l : List Nd) (w : World) : Prop := ∀ w' ks m, Far c w w' → CurS w' c B nb no nc l ks m →
  Calls Tryd.prog 54 #[.pointer (some ⟨c, 0, none⟩), fv] w' fun e w'' => e = .returned (.bool (took q ks)) ∧ CurS w'' c B nb no nc l (mayL q ks) m ∧ Far c w' w'' ∧ Below c w' w''

theorem mayL_in {q : Nat → Bool} {ks : List Nat} {k : Nat} (h : k ∈ mayL q ks) : k ∈ ks := by
  cases ks with
  | nil => exact h
  | cons a r =>
    simp only [mayL] at h
    split at h
    · exact List.mem_cons_of_mem _ h
    · exact h

theorem cls_of {fv : Value} {p : Int → Bool} {c B nb no nc : Nat} {l : List Nd} {w : World}
    (H : ∀ w', Far c w w' → ∀ (b o len cap k : Nat) (kd : Int) (m : Bool) (a' : Option Addr) (len' cap' : Nat), w'.heap[c]? = some (curO (.slice (some ⟨nb, no, none⟩) l.length nc) (.slice (some ⟨b, o, none⟩) len cap) m) →
      w'.cell? ⟨b, o, none⟩ = some (.int .i64 k) → w'.cell? ⟨nb, no + k * 5, none⟩ = some (.int .i64 kd) → k < l.length → l.length ≤ maxLen → 0 < len → len ≤ cap → len ≤ maxLen →
      (∀ W, (Instr.slice 25 (.slice (some ⟨b, o, none⟩) len cap) (some (.int .i64 1)) none none).run Tryd.prog W = .ok (.slice a' len' cap') W) →
      Calls Tryd.prog 54 #[.pointer (some ⟨c, 0, none⟩), fv] w' fun e w'' => e = .returned (.bool (p kd)) ∧ w''.heap[c]? = some (curO (.slice (some ⟨nb, no, none⟩) l.length nc) (cond (p kd) (.slice a' len' cap') (.slice (some ⟨b, o, none⟩) len cap)) m) ∧ Far c w' w'' ∧ Below c w' w'') :
    Cls fv (p ∘ kdN l) c B nb no nc l w := by
  intro w' ks m hf hs
  obtain ⟨left, hc, hv⟩ := hs.left
  have hlo := hs.lo
  have hhi := hs.hi
  cases ks with
  | nil =>
    obtain ⟨a, cap, rfl, _⟩ := hv.ex
    refine (maybe_none c _ a cap m fv w' hc).mono ?_
    rintro e w'' ⟨rfl, hh, hb⟩
    have hff : Far c w' w'' := fun b _ => by rw [hh]
    have hlt : c < w'.heap.size := by
      rcases Nat.lt_or_ge c w'.heap.size with h' | h'
      · exact h'
      · simp [Array.getElem?_eq_none h'] at hc
    exact ⟨rfl, ⟨⟨_, by rw [hh]; exact hc, hv.far hff hhi⟩, fun j hj => by rw [hff.cell nb _ (by omega)]; exact hs.nodes j hj, hs.inn, hlo, hhi, hs.max⟩, hff, hb.mono (by omega)⟩
  | cons k r =>
    obtain ⟨a, cap, rfl, h1, h2, h3⟩ := hv.ex
    obtain ⟨b, o, rfl, hbB, hcell⟩ := h3 (by simp)
    have hk : k < l.length := hs.inn k (by simp)
    have hv' : IntsV w' B (.slice (some ⟨b, o, none⟩) ((r.map fun k : Nat => (k : Int)).length + 1) cap) ((k : Int) :: r.map fun k : Nat => (k : Int)) := hv
    obtain ⟨a', cap', hsl, htl⟩ := slice_tail hv'
    have hk0 := hcell 0 (by simp)
    simp only [List.map_cons, List.getElem_cons_zero, Nat.add_zero] at hk0
    have hkd := hs.nodes k hk
    refine (H w' hf b o _ cap k (kdN l k) m a' _ cap' hc hk0 hkd hk hs.max (by simp) h1 h2 hsl).mono ?_
    rintro e w'' ⟨rfl, hc', hff, hb⟩
    refine ⟨rfl, ⟨?_, fun j hj => by rw [hff.cell nb _ (by omega)]; exact hs.nodes j hj, fun x hx => hs.inn x (mayL_in hx), hlo, hhi, hs.max⟩, hff, hb⟩
    refine ⟨_, hc', ?_⟩
    unfold mayL
    simp only [Function.comp_apply]
    have v1 := hv.far hff hhi
    have v2 := htl.far hff hhi
    by_cases hp : p (kdN l k) = true
    · rw [if_pos hp, hp]; exact v2
    · have hp' : p (kdN l k) = false := by simpa using hp
      rw [if_neg hp, hp']; exact v1

theorem cls_type (c B nb no nc : Nat) (l : List Nd) (w : World) : Cls (.func (.func 46) #[] #[]) (typI ∘ kdN l) c B nb no nc l w :=
  cls_of fun w' hf b o len cap k kd m a' len' cap' h1 h2 h3 h4 h5 h6 h7 h8 h9 => maybeType_some c b o nb no _ nc len cap k kd m a' len' cap' w' h1 h2 h3 h4 h5 h6 h7 h8 h9
theorem cls_expr (c B nb no nc : Nat) (l : List Nd) (w : World) : Cls (.func (.func 47) #[] #[]) (exprI ∘ kdN l) c B nb no nc l w :=
  cls_of fun w' hf b o len cap k kd m a' len' cap' h1 h2 h3 h4 h5 h6 h7 h8 h9 => maybeExpr_some c b o nb no _ nc len cap k kd m a' len' cap' w' h1 h2 h3 h4 h5 h6 h7 h8 h9
theorem cls_stat (c B nb no nc : Nat) (l : List Nd) (w : World) : Cls (.func (.func 48) #[] #[]) (statI ∘ kdN l) c B nb no nc l w :=
  cls_of fun w' hf b o len cap k kd m a' len' cap' h1 h2 h3 h4 h5 h6 h7 h8 h9 => maybeStat_some c b o nb no _ nc len cap k kd m a' len' cap' w' h1 h2 h3 h4 h5 h6 h7 h8 h9
theorem cls_arm (c B nb no nc : Nat) (l : List Nd) (w : World) : Cls (.func (.func 56) #[] #[]) (armI ∘ kdN l) c B nb no nc l w :=
  cls_of fun w' hf b o len cap k kd m a' len' cap' h1 h2 h3 h4 h5 h6 h7 h8 h9 => maybeArm_some c b o nb no _ nc len cap k kd m a' len' cap' w' h1 h2 h3 h4 h5 h6 h7 h8 h9
theorem cls_else (c B nb no nc : Nat) (l : List Nd) (w : World) : Cls (.func (.func 55) #[] #[]) (elseI ∘ kdN l) c B nb no nc l w :=
  cls_of fun w' hf b o len cap k kd m a' len' cap' h1 h2 h3 h4 h5 h6 h7 h8 h9 => maybeElse_some c b o nb no _ nc len cap k kd m a' len' cap' w' h1 h2 h3 h4 h5 h6 h7 h8 h9
theorem cls_just (a : Int) (g c B nb no nc : Nat) (l : List Nd) (w : World) (hg : w.cell? ⟨g, 0, none⟩ = some (.int .i64 a)) (hgc : g ≠ c) : Cls (.func (.func 62) #[] #[.pointer (some ⟨g, 0, none⟩)]) (justI a ∘ kdN l) c B nb no nc l w :=
  cls_of fun w' hf b o len cap k kd m a' len' cap' h1 h2 h3 h4 h5 h6 h7 h8 h9 => maybeJust_some c b o nb no _ nc len cap k kd m a' len' cap' w' a g (by rw [hf.cell g 0 hgc]; exact hg) hgc h1 h2 h3 h4 h5 h6 h7 h8 h9

set_option maxHeartbeats 1000000 in
theorem one_any (fv : Value) (q : Nat → Bool) (c B nb no nc : Nat) (l : List Nd) (ks : List Nat) (m : Bool) (w : World) (HC : Bx (Cls fv q c B nb no nc l w)) (hs : CurS w c B nb no nc l ks m) :
    Calls Tryd.prog 51 #[.pointer (some ⟨c, 0, none⟩), fv] w fun e w' => e = .returned (.tuple #[]) ∧ CurS w' c B nb no nc l (cOne q (ks, m)).1 (cOne q (ks, m)).2 ∧ Far c w w' ∧ Below c w w' := by
  have HM : Bx _ := ⟨HC.out w ks m (Far.refl c w) hs⟩
  cases ht : took q ks
  · go_enter Tryd.func51, Tryd.ntmps51
    go_wp2_with (first | (go_at_call 54; refine Calls.mono HM.out ?_; rintro e w1 ⟨rfl, hs1, hf1, hb1⟩; obtain ⟨k2, f2, hlt1, _⟩ := hs1.facts))
    go_end0
    refine ⟨rfl, ?_, ?_, ?_⟩
    · have := hs1.missed true
      simpa [cOne, ht] using this
    · exact hf1.trans fun x hx => heap_setCell_other w1 ⟨c, 2, none⟩ x _ hx
    · exact Below.setCell (p := ⟨c, 2, none⟩) hb1 (Nat.le_refl _) _
  · go_enter Tryd.func51, Tryd.ntmps51
    go_wp2_with (first | (go_at_call 54; refine Calls.mono HM.out ?_; rintro e w1 ⟨rfl, hs1, hf1, hb1⟩))
    go_end0
    exact ⟨rfl, by simpa [cOne, ht] using hs1, hf1, hb1⟩

theorem dropW_took {q : Nat → Bool} {ks : List Nat} (h : took q ks = true) : ks.dropWhile q = (mayL q ks).dropWhile q ∧ (mayL q ks).length < ks.length := by
  cases ks with
  | nil => cases h
  | cons k r =>
    have h : q k = true := h
    simp [mayL, List.dropWhile, h]
theorem dropW_none {q : Nat → Bool} {ks : List Nat} (h : took q ks = false) : ks.dropWhile q = ks ∧ mayL q ks = ks := by
  cases ks with
  | nil => exact ⟨rfl, rfl⟩
  | cons k r =>
    have h : q k = false := h
    simp [mayL, List.dropWhile, h]

set_option maxHeartbeats 1000000 in
theorem many_any (fv : Value) (q : Nat → Bool) (c B nb no nc : Nat) (l : List Nd) (ks : List Nat) (m : Bool) (w : World) (HC : Bx (Cls fv q c B nb no nc l w)) (hs : CurS w c B nb no nc l ks m) :
    Calls Tryd.prog 52 #[.pointer (some ⟨c, 0, none⟩), fv] w fun e w' => e = .returned (.tuple #[]) ∧ CurS w' c B nb no nc l (cMany q (ks, m)).1 m ∧ Far c w w' ∧ Below c w w' := by
  have HS : Bx _ := ⟨hs⟩
  clear hs
  go_enter Tryd.func52, Tryd.ntmps52
  go_wp2_with fail
  go_loopg [] (ks.length) (fun n wr => ∃ g : List Nat, n = g.length ∧ Bx (CurS wr c B nb no nc l g m ∧ Far c w wr ∧ Below c w wr ∧ ks.dropWhile q = g.dropWhile q))
  case atStart => exact ⟨ks, rfl, ⟨HS.out, Far.refl _ _, Below.refl _ _, rfl⟩⟩
  case round =>
    obtain ⟨g, hgk, HR⟩ := hrel
    have HM : Bx _ := ⟨HC.out wr g m HR.out.2.1 HR.out.1⟩
    cases ht : took q g
    · have hd := dropW_none ht
      go_wp2_with (first | (go_at_call 54; refine Calls.mono HM.out ?_; rintro e w1 ⟨rfl, hs1, hf1, hb1⟩))
      go_end0
      obtain ⟨r1, r2, r3, r4⟩ := HR.out
      refine ⟨rfl, ?_, r2.trans hf1, r3.trans hb1⟩
      simp only [cMany]
      rw [r4, hd.1]
      rw [hd.2] at hs1
      exact hs1
    · have hd := dropW_took ht
      go_wp2_with (first | (go_at_call 54; refine Calls.mono HM.out ?_; rintro e w1 ⟨rfl, hs1, hf1, hb1⟩))
      go_roundg (mayL q g).length
      case measure => omega
      case rel =>
        obtain ⟨r1, r2, r3, r4⟩ := HR.out
        exact ⟨mayL q g, rfl, ⟨hs1, r2.trans hf1, r3.trans hb1, by rw [r4, hd.1]⟩⟩
end Go.Proofs.YtjjbgbadkbomlaaDoor
