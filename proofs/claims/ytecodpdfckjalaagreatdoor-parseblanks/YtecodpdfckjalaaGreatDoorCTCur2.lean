import Derived.Test.YtecodpdfckjalaaGreatDoorCTCur
import Derived.Deep.DeepFit
import Derived.Deep.DrawnRows
namespace Go.Proofs.YtecodpdfckjalaaGreatDoor
open Go.RowKit
set_option linter.unusedVariables false
set_option linter.unusedSimpArgs false

set_option maxHeartbeats 1000000 in
theorem maybeType_some (c b o nb no N nc len cap k : Nat) (kd : Int) (m : Bool) (a' : Option Addr) (len' cap' : Nat) (w : World) (hc : w.heap[c]? = some (curO (.slice (some ⟨nb, no, none⟩) N nc) (.slice (some ⟨b, o, none⟩) len cap) m))
    (hk0 : w.cell? ⟨b, o, none⟩ = some (.int .i64 k)) (hn0 : w.cell? ⟨nb, no + k * 5, none⟩ = some (.int .i64 kd)) (hkN : k < N) (hN : N ≤ maxLen) (hlen : 0 < len) (hlc : len ≤ cap) (hlm : len ≤ maxLen)
    (hsl : ∀ W, (Instr.slice 39 (.slice (some ⟨b, o, none⟩) len cap) (some (.int .i64 1)) none none).run Tryz.prog W = .ok (.slice a' len' cap') W) :
    Calls Tryz.prog 44 #[.pointer (some ⟨c, 0, none⟩), .func (.func 28) #[] #[]] w fun e w' => e = .returned (.bool (typI kd)) ∧ w'.heap[c]? = some (curO (.slice (some ⟨nb, no, none⟩) N nc) (cond (typI kd) (.slice a' len' cap') (.slice (some ⟨b, o, none⟩) len cap)) m) ∧ Far c w w' ∧ Below c w w' := by
  have c0 : w.cell? ⟨c, 0, none⟩ = some (.slice (some ⟨nb, no, none⟩) N nc) := by simp [World.cell?, hc, curO]
  have c1 : w.cell? ⟨c, 1, none⟩ = some (.slice (some ⟨b, o, none⟩) len cap) := by simp [World.cell?, hc, curO]
  have hlt : c < w.heap.size := World.block_lt_of_cell? w _ c0
  have f1 : w.frozen? ⟨c, 1, none⟩ = false := by simp [World.frozen?, hc, curO]
  have HC : Bx _ := ⟨hc⟩
  clear hc
  unfold maxLen at hN hlm
  have hl0 : ((len : Int) == 0) = false := by rw [beq_eq_false_iff_ne]; omega
  go_enter Tryz.func44, Tryz.ntmps44
  go_wp2
  go_region_held (fun w' => w'.cell? ⟨c, 0, none⟩ = some (.slice (some ⟨nb, no, none⟩) N nc) ∧ w'.cell? ⟨c, 1, none⟩ = some (.slice (some ⟨b, o, none⟩) len cap) ∧ w'.cell? ⟨b, o, none⟩ = some (.int .i64 k) ∧ w'.cell? ⟨nb, no + k * 5, none⟩ = some (.int .i64 kd) ∧ c < w'.heap.size) (first | exact ⟨c0, c1, hk0, hn0, hlt⟩ | (go_keep))
    (first | (go_at_call 28; refine (isType_any _ _).mono ?_; rintro e w' ⟨rfl, rfl⟩))
  cases hp : typI kd
  · go_wp2
    go_ret
    exact ⟨by rw [hp]; rfl, by rw [hp]; exact HC.out, fun _ _ => rfl, (Below.refl _ _).drew⟩
  · go_wp2
    go_ret
    refine ⟨by rw [hp]; rfl, ?_, ?_, ?_⟩
    · rw [hp]
      exact heap_setCell_same w.drew c 1 #[.slice (some ⟨nb, no, none⟩) N nc, .slice (some ⟨b, o, none⟩) len cap, .bool m] 79 (.slice a' len' cap') HC.out
    · intro x hx
      exact heap_setCell_other w.drew ⟨c, 1, none⟩ x _ hx
    · exact Below.drew (Below.setCell (p := ⟨c, 1, none⟩) (Below.refl c w) (Nat.le_refl _) _)
set_option maxHeartbeats 1000000 in
theorem maybeExpr_some (c b o nb no N nc len cap k : Nat) (kd : Int) (m : Bool) (a' : Option Addr) (len' cap' : Nat) (w : World) (hc : w.heap[c]? = some (curO (.slice (some ⟨nb, no, none⟩) N nc) (.slice (some ⟨b, o, none⟩) len cap) m))
    (hk0 : w.cell? ⟨b, o, none⟩ = some (.int .i64 k)) (hn0 : w.cell? ⟨nb, no + k * 5, none⟩ = some (.int .i64 kd)) (hkN : k < N) (hN : N ≤ maxLen) (hlen : 0 < len) (hlc : len ≤ cap) (hlm : len ≤ maxLen)
    (hsl : ∀ W, (Instr.slice 39 (.slice (some ⟨b, o, none⟩) len cap) (some (.int .i64 1)) none none).run Tryz.prog W = .ok (.slice a' len' cap') W) :
    Calls Tryz.prog 44 #[.pointer (some ⟨c, 0, none⟩), .func (.func 30) #[] #[]] w fun e w' => e = .returned (.bool (exprI kd)) ∧ w'.heap[c]? = some (curO (.slice (some ⟨nb, no, none⟩) N nc) (cond (exprI kd) (.slice a' len' cap') (.slice (some ⟨b, o, none⟩) len cap)) m) ∧ Far c w w' ∧ Below c w w' := by
  have c0 : w.cell? ⟨c, 0, none⟩ = some (.slice (some ⟨nb, no, none⟩) N nc) := by simp [World.cell?, hc, curO]
  have c1 : w.cell? ⟨c, 1, none⟩ = some (.slice (some ⟨b, o, none⟩) len cap) := by simp [World.cell?, hc, curO]
  have hlt : c < w.heap.size := World.block_lt_of_cell? w _ c0
  have f1 : w.frozen? ⟨c, 1, none⟩ = false := by simp [World.frozen?, hc, curO]
  have HC : Bx _ := ⟨hc⟩
  clear hc
  unfold maxLen at hN hlm
  have hl0 : ((len : Int) == 0) = false := by rw [beq_eq_false_iff_ne]; omega
  go_enter Tryz.func44, Tryz.ntmps44
  go_wp2
  go_region_held (fun w' => w'.cell? ⟨c, 0, none⟩ = some (.slice (some ⟨nb, no, none⟩) N nc) ∧ w'.cell? ⟨c, 1, none⟩ = some (.slice (some ⟨b, o, none⟩) len cap) ∧ w'.cell? ⟨b, o, none⟩ = some (.int .i64 k) ∧ w'.cell? ⟨nb, no + k * 5, none⟩ = some (.int .i64 kd) ∧ c < w'.heap.size) (first | exact ⟨c0, c1, hk0, hn0, hlt⟩ | (go_keep))
    (first | (go_at_call 30; refine (isExpr_any _ _).mono ?_; rintro e w' ⟨rfl, rfl⟩))
  cases hp : exprI kd
  · go_wp2
    go_ret
    exact ⟨by rw [hp]; rfl, by rw [hp]; exact HC.out, fun _ _ => rfl, (Below.refl _ _).drew⟩
  · go_wp2
    go_ret
    refine ⟨by rw [hp]; rfl, ?_, ?_, ?_⟩
    · rw [hp]
      exact heap_setCell_same w.drew c 1 #[.slice (some ⟨nb, no, none⟩) N nc, .slice (some ⟨b, o, none⟩) len cap, .bool m] 79 (.slice a' len' cap') HC.out
    · intro x hx
      exact heap_setCell_other w.drew ⟨c, 1, none⟩ x _ hx
    · exact Below.drew (Below.setCell (p := ⟨c, 1, none⟩) (Below.refl c w) (Nat.le_refl _) _)
set_option maxHeartbeats 1000000 in
theorem maybeStat_some (c b o nb no N nc len cap k : Nat) (kd : Int) (m : Bool) (a' : Option Addr) (len' cap' : Nat) (w : World) (hc : w.heap[c]? = some (curO (.slice (some ⟨nb, no, none⟩) N nc) (.slice (some ⟨b, o, none⟩) len cap) m))
    (hk0 : w.cell? ⟨b, o, none⟩ = some (.int .i64 k)) (hn0 : w.cell? ⟨nb, no + k * 5, none⟩ = some (.int .i64 kd)) (hkN : k < N) (hN : N ≤ maxLen) (hlen : 0 < len) (hlc : len ≤ cap) (hlm : len ≤ maxLen)
    (hsl : ∀ W, (Instr.slice 39 (.slice (some ⟨b, o, none⟩) len cap) (some (.int .i64 1)) none none).run Tryz.prog W = .ok (.slice a' len' cap') W) :
    Calls Tryz.prog 44 #[.pointer (some ⟨c, 0, none⟩), .func (.func 32) #[] #[]] w fun e w' => e = .returned (.bool (statI kd)) ∧ w'.heap[c]? = some (curO (.slice (some ⟨nb, no, none⟩) N nc) (cond (statI kd) (.slice a' len' cap') (.slice (some ⟨b, o, none⟩) len cap)) m) ∧ Far c w w' ∧ Below c w w' := by
  have c0 : w.cell? ⟨c, 0, none⟩ = some (.slice (some ⟨nb, no, none⟩) N nc) := by simp [World.cell?, hc, curO]
  have c1 : w.cell? ⟨c, 1, none⟩ = some (.slice (some ⟨b, o, none⟩) len cap) := by simp [World.cell?, hc, curO]
  have hlt : c < w.heap.size := World.block_lt_of_cell? w _ c0
  have f1 : w.frozen? ⟨c, 1, none⟩ = false := by simp [World.frozen?, hc, curO]
  have HC : Bx _ := ⟨hc⟩
  clear hc
  unfold maxLen at hN hlm
  have hl0 : ((len : Int) == 0) = false := by rw [beq_eq_false_iff_ne]; omega
  go_enter Tryz.func44, Tryz.ntmps44
  go_wp2
  go_region_held (fun w' => w'.cell? ⟨c, 0, none⟩ = some (.slice (some ⟨nb, no, none⟩) N nc) ∧ w'.cell? ⟨c, 1, none⟩ = some (.slice (some ⟨b, o, none⟩) len cap) ∧ w'.cell? ⟨b, o, none⟩ = some (.int .i64 k) ∧ w'.cell? ⟨nb, no + k * 5, none⟩ = some (.int .i64 kd) ∧ c < w'.heap.size) (first | exact ⟨c0, c1, hk0, hn0, hlt⟩ | (go_keep))
    (first | (go_at_call 32; refine (isStatement_any _ _).mono ?_; rintro e w' ⟨rfl, rfl⟩))
  cases hp : statI kd
  · go_wp2
    go_ret
    exact ⟨by rw [hp]; rfl, by rw [hp]; exact HC.out, fun _ _ => rfl, (Below.refl _ _).drew⟩
  · go_wp2
    go_ret
    refine ⟨by rw [hp]; rfl, ?_, ?_, ?_⟩
    · rw [hp]
      exact heap_setCell_same w.drew c 1 #[.slice (some ⟨nb, no, none⟩) N nc, .slice (some ⟨b, o, none⟩) len cap, .bool m] 79 (.slice a' len' cap') HC.out
    · intro x hx
      exact heap_setCell_other w.drew ⟨c, 1, none⟩ x _ hx
    · exact Below.drew (Below.setCell (p := ⟨c, 1, none⟩) (Below.refl c w) (Nat.le_refl _) _)
end Go.Proofs.YtecodpdfckjalaaGreatDoor
