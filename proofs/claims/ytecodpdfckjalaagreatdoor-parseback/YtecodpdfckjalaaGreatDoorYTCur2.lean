import Derived.Test.YtecodpdfckjalaaGreatDoorYTNum
import Derived.Deep.DeepFit
import Derived.Deep.DrawnRows
set_option linter.unusedVariables false
set_option linter.unusedSimpArgs false
set_option maxHeartbeats 4000000
set_option maxRecDepth 100000
namespace Go.Proofs.YtecodpdfckjalaaGreatDoor
open Go.RowKit
theorem qm (c b o nb no N nc len cap k : Nat) (kd : Int) (m : Bool) (a' : Option Addr) (len' cap' : Nat) (w : World) (hc : w.heap[c]? = some (fH (.slice (some ⟨nb, no, none⟩) N nc) (.slice (some ⟨b, o, none⟩) len cap) m))
  (hk0 : w.cell? ⟨b, o, none⟩ = some (.int .i64 k)) (hn0 : w.cell? ⟨nb, no + k * 5, none⟩ = some (.int .i64 kd)) (hkN : k < N) (hN : N <= maxLen) (hlen : 0 < len) (hlc : len <= cap) (hlm : len <= maxLen)
  (hsl : ∀ W, (Instr.slice 39 (.slice (some ⟨b, o, none⟩) len cap) (some (.int .i64 1)) none none).run Tryz.prog W = .ok (.slice a' len' cap') W) :
  Calls Tryz.prog 44 #[.pointer (some ⟨c, 0, none⟩), .func (.func 28) #[] #[]] w fun e w' => e = .returned (.bool (fF kd)) /\ w'.heap[c]? = some (fH (.slice (some ⟨nb, no, none⟩) N nc) (cond (fF kd) (.slice a' len' cap') (.slice (some ⟨b, o, none⟩) len cap)) m) /\ Far c w w' /\ Below c w w' := by
 have c0 : w.cell? ⟨c, 0, none⟩ = some (.slice (some ⟨nb, no, none⟩) N nc) := by simp [World.cell?, hc, fH]
 have c1 : w.cell? ⟨c, 1, none⟩ = some (.slice (some ⟨b, o, none⟩) len cap) := by simp [World.cell?, hc, fH]
 have hlt : c < w.heap.size := World.block_lt_of_cell? w _ c0
 have f1 : w.frozen? ⟨c, 1, none⟩ = false := by simp [World.frozen?, hc, fH]
 have HC : Bx _ := ⟨hc⟩
 clear hc
 unfold maxLen at hN hlm
 have hl0 : ((len : Int) == 0) = false := by rw [beq_eq_false_iff_ne]; omega
 go_enter Tryz.func44, Tryz.ntmps44
 go_wp2
 go_region_held (fun w' => w'.cell? ⟨c, 0, none⟩ = some (.slice (some ⟨nb, no, none⟩) N nc) /\ w'.cell? ⟨c, 1, none⟩ = some (.slice (some ⟨b, o, none⟩) len cap) /\ w'.cell? ⟨b, o, none⟩ = some (.int .i64 k) /\ w'.cell? ⟨nb, no + k * 5, none⟩ = some (.int .i64 kd) /\ c < w'.heap.size) (first | exact ⟨c0, c1, hk0, hn0, hlt⟩ | (go_keep))
  (first | (go_at_call 28; refine (iI _ _).mono ?_; rintro e w' ⟨rfl, rfl⟩))
 cases hp : fF kd
 ·go_wp2
  go_ret
  exact ⟨by rw [hp]; rfl, by rw [hp]; exact HC.out, fun _ _ => rfl, (Below.refl _ _).drew⟩
 ·go_wp2
  go_ret
  refine ⟨by rw [hp]; rfl, ?_, ?_, ?_⟩
  ·rw [hp]
   exact heap_setCell_same w.drew c 1 #[.slice (some ⟨nb, no, none⟩) N nc, .slice (some ⟨b, o, none⟩) len cap, .bool m] 79 (.slice a' len' cap') HC.out
  ·intro x hx
   exact heap_setCell_other w.drew ⟨c, 1, none⟩ x _ hx
  ·exact Below.drew (Below.setCell (p := ⟨c, 1, none⟩) (Below.refl c w) (Nat.le_refl _) _)
theorem qo (c b o nb no N nc len cap k : Nat) (kd : Int) (m : Bool) (a' : Option Addr) (len' cap' : Nat) (w : World) (hc : w.heap[c]? = some (fH (.slice (some ⟨nb, no, none⟩) N nc) (.slice (some ⟨b, o, none⟩) len cap) m))
  (hk0 : w.cell? ⟨b, o, none⟩ = some (.int .i64 k)) (hn0 : w.cell? ⟨nb, no + k * 5, none⟩ = some (.int .i64 kd)) (hkN : k < N) (hN : N <= maxLen) (hlen : 0 < len) (hlc : len <= cap) (hlm : len <= maxLen)
  (hsl : ∀ W, (Instr.slice 39 (.slice (some ⟨b, o, none⟩) len cap) (some (.int .i64 1)) none none).run Tryz.prog W = .ok (.slice a' len' cap') W) :
  Calls Tryz.prog 44 #[.pointer (some ⟨c, 0, none⟩), .func (.func 30) #[] #[]] w fun e w' => e = .returned (.bool (bq kd)) /\ w'.heap[c]? = some (fH (.slice (some ⟨nb, no, none⟩) N nc) (cond (bq kd) (.slice a' len' cap') (.slice (some ⟨b, o, none⟩) len cap)) m) /\ Far c w w' /\ Below c w w' := by
 have c0 : w.cell? ⟨c, 0, none⟩ = some (.slice (some ⟨nb, no, none⟩) N nc) := by simp [World.cell?, hc, fH]
 have c1 : w.cell? ⟨c, 1, none⟩ = some (.slice (some ⟨b, o, none⟩) len cap) := by simp [World.cell?, hc, fH]
 have hlt : c < w.heap.size := World.block_lt_of_cell? w _ c0
 have f1 : w.frozen? ⟨c, 1, none⟩ = false := by simp [World.frozen?, hc, fH]
 have HC : Bx _ := ⟨hc⟩
 clear hc
 unfold maxLen at hN hlm
 have hl0 : ((len : Int) == 0) = false := by rw [beq_eq_false_iff_ne]; omega
 go_enter Tryz.func44, Tryz.ntmps44
 go_wp2
 go_region_held (fun w' => w'.cell? ⟨c, 0, none⟩ = some (.slice (some ⟨nb, no, none⟩) N nc) /\ w'.cell? ⟨c, 1, none⟩ = some (.slice (some ⟨b, o, none⟩) len cap) /\ w'.cell? ⟨b, o, none⟩ = some (.int .i64 k) /\ w'.cell? ⟨nb, no + k * 5, none⟩ = some (.int .i64 kd) /\ c < w'.heap.size) (first | exact ⟨c0, c1, hk0, hn0, hlt⟩ | (go_keep))
  (first | (go_at_call 30; refine (gX _ _).mono ?_; rintro e w' ⟨rfl, rfl⟩))
 cases hp : bq kd
 ·go_wp2
  go_ret
  exact ⟨by rw [hp]; rfl, by rw [hp]; exact HC.out, fun _ _ => rfl, (Below.refl _ _).drew⟩
 ·go_wp2
  go_ret
  refine ⟨by rw [hp]; rfl, ?_, ?_, ?_⟩
  ·rw [hp]
   exact heap_setCell_same w.drew c 1 #[.slice (some ⟨nb, no, none⟩) N nc, .slice (some ⟨b, o, none⟩) len cap, .bool m] 79 (.slice a' len' cap') HC.out
  ·intro x hx
   exact heap_setCell_other w.drew ⟨c, 1, none⟩ x _ hx
  ·exact Below.drew (Below.setCell (p := ⟨c, 1, none⟩) (Below.refl c w) (Nat.le_refl _) _)
theorem qp (c b o nb no N nc len cap k : Nat) (kd : Int) (m : Bool) (a' : Option Addr) (len' cap' : Nat) (w : World) (hc : w.heap[c]? = some (fH (.slice (some ⟨nb, no, none⟩) N nc) (.slice (some ⟨b, o, none⟩) len cap) m))
  (hk0 : w.cell? ⟨b, o, none⟩ = some (.int .i64 k)) (hn0 : w.cell? ⟨nb, no + k * 5, none⟩ = some (.int .i64 kd)) (hkN : k < N) (hN : N <= maxLen) (hlen : 0 < len) (hlc : len <= cap) (hlm : len <= maxLen)
  (hsl : ∀ W, (Instr.slice 39 (.slice (some ⟨b, o, none⟩) len cap) (some (.int .i64 1)) none none).run Tryz.prog W = .ok (.slice a' len' cap') W) :
  Calls Tryz.prog 44 #[.pointer (some ⟨c, 0, none⟩), .func (.func 32) #[] #[]] w fun e w' => e = .returned (.bool (gL kd)) /\ w'.heap[c]? = some (fH (.slice (some ⟨nb, no, none⟩) N nc) (cond (gL kd) (.slice a' len' cap') (.slice (some ⟨b, o, none⟩) len cap)) m) /\ Far c w w' /\ Below c w w' := by
 have c0 : w.cell? ⟨c, 0, none⟩ = some (.slice (some ⟨nb, no, none⟩) N nc) := by simp [World.cell?, hc, fH]
 have c1 : w.cell? ⟨c, 1, none⟩ = some (.slice (some ⟨b, o, none⟩) len cap) := by simp [World.cell?, hc, fH]
 have hlt : c < w.heap.size := World.block_lt_of_cell? w _ c0
 have f1 : w.frozen? ⟨c, 1, none⟩ = false := by simp [World.frozen?, hc, fH]
 have HC : Bx _ := ⟨hc⟩
 clear hc
 unfold maxLen at hN hlm
 have hl0 : ((len : Int) == 0) = false := by rw [beq_eq_false_iff_ne]; omega
 go_enter Tryz.func44, Tryz.ntmps44
 go_wp2
 go_region_held (fun w' => w'.cell? ⟨c, 0, none⟩ = some (.slice (some ⟨nb, no, none⟩) N nc) /\ w'.cell? ⟨c, 1, none⟩ = some (.slice (some ⟨b, o, none⟩) len cap) /\ w'.cell? ⟨b, o, none⟩ = some (.int .i64 k) /\ w'.cell? ⟨nb, no + k * 5, none⟩ = some (.int .i64 kd) /\ c < w'.heap.size) (first | exact ⟨c0, c1, hk0, hn0, hlt⟩ | (go_keep))
  (first | (go_at_call 32; refine (eT _ _).mono ?_; rintro e w' ⟨rfl, rfl⟩))
 cases hp : gL kd
 ·go_wp2
  go_ret
  exact ⟨by rw [hp]; rfl, by rw [hp]; exact HC.out, fun _ _ => rfl, (Below.refl _ _).drew⟩
 ·go_wp2
  go_ret
  refine ⟨by rw [hp]; rfl, ?_, ?_, ?_⟩
  ·rw [hp]
   exact heap_setCell_same w.drew c 1 #[.slice (some ⟨nb, no, none⟩) N nc, .slice (some ⟨b, o, none⟩) len cap, .bool m] 79 (.slice a' len' cap') HC.out
  ·intro x hx
   exact heap_setCell_other w.drew ⟨c, 1, none⟩ x _ hx
  ·exact Below.drew (Below.setCell (p := ⟨c, 1, none⟩) (Below.refl c w) (Nat.le_refl _) _)
end Go.Proofs.YtecodpdfckjalaaGreatDoor
