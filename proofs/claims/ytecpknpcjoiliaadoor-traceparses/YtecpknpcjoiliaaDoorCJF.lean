import Derived.Test.YtecpknpcjoiliaaDoorCJD
import Derived.Deep.RegionHeld3
namespace Go.Proofs.YtecpknpcjoiliaaDoor
open Go.RowKit
set_option linter.unusedVariables false
set_option linter.unusedSimpArgs false

theorem below_drewN {B : Nat} {w w' : World} (h : Below B w w') : ∀ k, Below B w (w'.drewN k) := fun k => ⟨h.os, h.tape, h.output, h.size, h.block⟩
set_option maxRecDepth 100000 in
set_option maxHeartbeats 4000000 in
theorem tf_4y (wd : List UInt8) (has : Nat) (kind p i q j c : Int) (list : List Int) (a : Option Addr) (cap : Nat) (w : World) (hl : list.length ≤ 9223372036854775807) (hi : IntsV w w.heap.size a cap list) :
    Calls Tryd.prog 25 #[shV (wd, has, 4), evW8 ⟨kind, p, i, q, j, c, 0, list⟩ (.slice a list.length cap)] w fun e' w' => e' = .returned (.bool (risF (-1) list)) ∧ Below w.heap.size w w' := by
  obtain ⟨H, hH⟩ : ∃ H, w.heap.size = H := ⟨_, rfl⟩
  rw [hH]
  obtain ⟨W2, hW2⟩ : ∃ W2, (w.alloc (.cells #[strV wd, .int .i64 (has : Int), .int .i64 (4 : Int)] 45 (0, 0))).alloc (.cells #[.int .i64 kind, .int .i64 p, .int .i64 i, .int .i64 q, .int .i64 j, .int .i64 c, .int .i64 0, .slice a list.length cap] 24 (0, 0)) = W2 := ⟨_, rfl⟩
  have HX : Bx (Bxs w W2 H (wd, has, 4) ⟨kind, p, i, q, j, c, 0, list⟩ (.slice a list.length cap)) := ⟨by rw [← hW2]; exact bxs_new w H hH (wd, has, 4) ⟨kind, p, i, q, j, c, 0, list⟩ (.slice a list.length cap)⟩
  obtain ⟨q0, q1, q2, q3, q4, q5, q6, q7⟩ := evB_cells HX.out.ev
  obtain ⟨z0, z1, z2⟩ := shB_cells HX.out.sh
  have HB : Bx (Below H w W2) := ⟨HX.out.bel⟩
  have hsz := HX.out.sz
  simp only [] at *
  have HC : Bx _ := ⟨rises_any W2 a cap list (by rw [hH] at hi; exact (hi.below HX.out.bel).up (by omega))⟩
  clear hi
  generalize risF (-1) list = R at *
  generalize list.length = n at *
  clear q0 q1 q2 q3 q4 q5 z0 z1
  go_enter Tryd.func25, Tryd.ntmps25
  go_wp2_with (go_at_call 41; refine HC.out.mono ?_; rintro e1 w3 ⟨rfl, rfl⟩)
  go_ret
  exact ⟨rfl, HB.out⟩
set_option maxRecDepth 100000 in
set_option maxHeartbeats 4000000 in
theorem tf_4n (wd : List UInt8) (has : Nat) (kind p i q j c : Int) (list : List Int) (a : Option Addr) (cap : Nat) (w : World) (num : Int) (n : Nat) (hn : ¬ num = 0) :
    Calls Tryd.prog 25 #[shV (wd, has, 4), evW8 ⟨kind, p, i, q, j, c, num, list⟩ (.slice a n cap)] w fun e' w' => e' = .returned (.bool false) ∧ Below w.heap.size w w' := by
  obtain ⟨H, hH⟩ : ∃ H, w.heap.size = H := ⟨_, rfl⟩
  rw [hH]
  obtain ⟨W2, hW2⟩ : ∃ W2, (w.alloc (.cells #[strV wd, .int .i64 (has : Int), .int .i64 (4 : Int)] 45 (0, 0))).alloc (.cells #[.int .i64 kind, .int .i64 p, .int .i64 i, .int .i64 q, .int .i64 j, .int .i64 c, .int .i64 num, .slice a n cap] 24 (0, 0)) = W2 := ⟨_, rfl⟩
  have HX : Bx (Bxs w W2 H (wd, has, 4) ⟨kind, p, i, q, j, c, num, list⟩ (.slice a n cap)) := ⟨by rw [← hW2]; exact bxs_new w H hH (wd, has, 4) ⟨kind, p, i, q, j, c, num, list⟩ (.slice a n cap)⟩
  obtain ⟨q0, q1, q2, q3, q4, q5, q6, q7⟩ := evB_cells HX.out.ev
  obtain ⟨z0, z1, z2⟩ := shB_cells HX.out.sh
  have HB : Bx (Below H w W2) := ⟨HX.out.bel⟩
  have hsz := HX.out.sz
  simp only [] at *
  have hn2 : (num == 0) = false := by simpa using hn
  clear q0 q1 q2 q3 q4 q5 z0 z1
  go_enter Tryd.func25, Tryd.ntmps25
  go_wp2
  go_ret
  exact ⟨rfl, HB.out⟩
set_option maxRecDepth 100000 in
set_option maxHeartbeats 4000000 in
theorem tf_len (wd : List UInt8) (has : Nat) (kind p i q j c : Int) (list : List Int) (a : Option Addr) (cap : Nat) (w : World) (num : Int) (n tail : Nat) (h4 : tail ≠ 4) (hn : 0 < n) :
    Calls Tryd.prog 25 #[shV (wd, has, tail), evW8 ⟨kind, p, i, q, j, c, num, list⟩ (.slice a n cap)] w fun e' w' => e' = .returned (.bool false) ∧ Below w.heap.size w w' := by
  obtain ⟨H, hH⟩ : ∃ H, w.heap.size = H := ⟨_, rfl⟩
  rw [hH]
  obtain ⟨W2, hW2⟩ : ∃ W2, (w.alloc (.cells #[strV wd, .int .i64 (has : Int), .int .i64 (tail : Int)] 45 (0, 0))).alloc (.cells #[.int .i64 kind, .int .i64 p, .int .i64 i, .int .i64 q, .int .i64 j, .int .i64 c, .int .i64 num, .slice a n cap] 24 (0, 0)) = W2 := ⟨_, rfl⟩
  have HX : Bx (Bxs w W2 H (wd, has, tail) ⟨kind, p, i, q, j, c, num, list⟩ (.slice a n cap)) := ⟨by rw [← hW2]; exact bxs_new w H hH (wd, has, tail) ⟨kind, p, i, q, j, c, num, list⟩ (.slice a n cap)⟩
  obtain ⟨q0, q1, q2, q3, q4, q5, q6, q7⟩ := evB_cells HX.out.ev
  obtain ⟨z0, z1, z2⟩ := shB_cells HX.out.sh
  have HB : Bx (Below H w W2) := ⟨HX.out.bel⟩
  have hsz := HX.out.sz
  simp only [] at *
  have i4 : ¬ (tail : Int) = 4 := by omega
  have j4 : ((tail : Int) == 4) = false := by simpa using i4
  have hn2 : (0 : Int) < (n : Int) := by omega
  clear q0 q1 q2 q3 q4 q5 z0 z1
  go_enter Tryd.func25, Tryd.ntmps25
  go_wp2
  go_ret
  exact ⟨rfl, HB.out⟩
set_option maxRecDepth 100000 in
set_option maxHeartbeats 4000000 in
theorem tf_1 (wd : List UInt8) (has : Nat) (kind p i q j c : Int) (list : List Int) (a : Option Addr) (cap : Nat) (w : World) (num : Int) :
    Calls Tryd.prog 25 #[shV (wd, has, 1), evW8 ⟨kind, p, i, q, j, c, num, list⟩ (.slice a 0 cap)] w fun e' w' => e' = .returned (.bool true) ∧ Below w.heap.size w w' := by
  obtain ⟨H, hH⟩ : ∃ H, w.heap.size = H := ⟨_, rfl⟩
  rw [hH]
  obtain ⟨W2, hW2⟩ : ∃ W2, (w.alloc (.cells #[strV wd, .int .i64 (has : Int), .int .i64 (1 : Int)] 45 (0, 0))).alloc (.cells #[.int .i64 kind, .int .i64 p, .int .i64 i, .int .i64 q, .int .i64 j, .int .i64 c, .int .i64 num, .slice a 0 cap] 24 (0, 0)) = W2 := ⟨_, rfl⟩
  have HX : Bx (Bxs w W2 H (wd, has, 1) ⟨kind, p, i, q, j, c, num, list⟩ (.slice a 0 cap)) := ⟨by rw [← hW2]; exact bxs_new w H hH (wd, has, 1) ⟨kind, p, i, q, j, c, num, list⟩ (.slice a 0 cap)⟩
  obtain ⟨q0, q1, q2, q3, q4, q5, q6, q7⟩ := evB_cells HX.out.ev
  obtain ⟨z0, z1, z2⟩ := shB_cells HX.out.sh
  have HB : Bx (Below H w W2) := ⟨HX.out.bel⟩
  have hsz := HX.out.sz
  simp only [] at *
  clear q0 q1 q2 q3 q4 q5 z0 z1
  go_enter Tryd.func25, Tryd.ntmps25
  go_wp2
  go_ret
  exact ⟨rfl, HB.out⟩
set_option maxRecDepth 100000 in
set_option maxHeartbeats 4000000 in
theorem tf_2y (wd : List UInt8) (has : Nat) (kind p i q j c : Int) (list : List Int) (a : Option Addr) (cap : Nat) (w : World) (num : Int) (hn : 1 ≤ num) :
    Calls Tryd.prog 25 #[shV (wd, has, 2), evW8 ⟨kind, p, i, q, j, c, num, list⟩ (.slice a 0 cap)] w fun e' w' => e' = .returned (.bool (decide (num ≤ 5))) ∧ Below w.heap.size w w' := by
  obtain ⟨H, hH⟩ : ∃ H, w.heap.size = H := ⟨_, rfl⟩
  rw [hH]
  obtain ⟨W2, hW2⟩ : ∃ W2, (w.alloc (.cells #[strV wd, .int .i64 (has : Int), .int .i64 (2 : Int)] 45 (0, 0))).alloc (.cells #[.int .i64 kind, .int .i64 p, .int .i64 i, .int .i64 q, .int .i64 j, .int .i64 c, .int .i64 num, .slice a 0 cap] 24 (0, 0)) = W2 := ⟨_, rfl⟩
  have HX : Bx (Bxs w W2 H (wd, has, 2) ⟨kind, p, i, q, j, c, num, list⟩ (.slice a 0 cap)) := ⟨by rw [← hW2]; exact bxs_new w H hH (wd, has, 2) ⟨kind, p, i, q, j, c, num, list⟩ (.slice a 0 cap)⟩
  obtain ⟨q0, q1, q2, q3, q4, q5, q6, q7⟩ := evB_cells HX.out.ev
  obtain ⟨z0, z1, z2⟩ := shB_cells HX.out.sh
  have HB : Bx (Below H w W2) := ⟨HX.out.bel⟩
  have hsz := HX.out.sz
  simp only [] at *
  have HC : Bx (∀ W, Bxs w W H (wd, has, 2) ⟨kind, p, i, q, j, c, num, list⟩ (.slice a 0 cap) → Calls Tryd.prog 42 #[.int .i64 2] W fun e' w' => ∃ a1 c1, e' = .returned (.slice a1 5 c1) ∧ Bxs w w' H (wd, has, 2) ⟨kind, p, i, q, j, c, num, list⟩ (.slice a 0 cap)) := ⟨fun W hx => (numWords_any 2 W).mono fun e' w' ⟨v, h1, h2⟩ => by
    rcases h2.val with ⟨h3, _⟩ | ⟨rfl, _⟩
    · cases h3
    · exact ⟨_, _, h1, hx.on h2.bel⟩⟩
  have HF : Bx (∀ W, Bxs w W H (wd, has, 2) ⟨kind, p, i, q, j, c, num, list⟩ (.slice a 0 cap) → W.cell? ⟨H + 1, 6, none⟩ = some (.int .i64 num) ∧ W.cell? ⟨H, 2, none⟩ = some (.int .i64 2)) := ⟨fun W hx => ⟨(evB_cells hx.ev).2.2.2.2.2.2.1, (shB_cells hx.sh).2.2⟩⟩
  clear q0 q1 q2 q3 q4 q5 z0 z1
  go_enter Tryd.func25, Tryd.ntmps25
  go_wp2_with fail
  go_region_held3 (fun w' => w'.cell? ⟨H + 1, 6, none⟩ = some (.int .i64 num) ∧ w'.cell? ⟨H, 2, none⟩ = some (.int .i64 2))
    (first | exact HF.out _ hz1.out | exact HF.out _ (HX.out.on (below_drewN (Below.refl _ _) 1)) | exact HF.out _ HX.out | go_keep)
    (first
      | (go_at_call 42; refine Calls.mono (HC.out _ (HX.out.on (below_drewN (Below.refl _ _) 1))) ?_; rintro e1 z1 ⟨a1, c1, rfl, hz⟩; have hz1 : Bx _ := ⟨hz⟩; clear hz))
  go_wp2
  go_ret
  exact ⟨rfl, hz1.out.bel⟩
set_option maxRecDepth 100000 in
set_option maxHeartbeats 4000000 in
theorem tf_2n (wd : List UInt8) (has : Nat) (kind p i q j c : Int) (list : List Int) (a : Option Addr) (cap : Nat) (w : World) (num : Int) (hn : num < 1) :
    Calls Tryd.prog 25 #[shV (wd, has, 2), evW8 ⟨kind, p, i, q, j, c, num, list⟩ (.slice a 0 cap)] w fun e' w' => e' = .returned (.bool false) ∧ Below w.heap.size w w' := by
  obtain ⟨H, hH⟩ : ∃ H, w.heap.size = H := ⟨_, rfl⟩
  rw [hH]
  obtain ⟨W2, hW2⟩ : ∃ W2, (w.alloc (.cells #[strV wd, .int .i64 (has : Int), .int .i64 (2 : Int)] 45 (0, 0))).alloc (.cells #[.int .i64 kind, .int .i64 p, .int .i64 i, .int .i64 q, .int .i64 j, .int .i64 c, .int .i64 num, .slice a 0 cap] 24 (0, 0)) = W2 := ⟨_, rfl⟩
  have HX : Bx (Bxs w W2 H (wd, has, 2) ⟨kind, p, i, q, j, c, num, list⟩ (.slice a 0 cap)) := ⟨by rw [← hW2]; exact bxs_new w H hH (wd, has, 2) ⟨kind, p, i, q, j, c, num, list⟩ (.slice a 0 cap)⟩
  obtain ⟨q0, q1, q2, q3, q4, q5, q6, q7⟩ := evB_cells HX.out.ev
  obtain ⟨z0, z1, z2⟩ := shB_cells HX.out.sh
  have HB : Bx (Below H w W2) := ⟨HX.out.bel⟩
  have hsz := HX.out.sz
  simp only [] at *
  have hn1 : ¬ 1 ≤ num := by omega
  have hn2 : decide (1 ≤ num) = false := decide_eq_false hn1
  clear q0 q1 q2 q3 q4 q5 z0 z1
  go_enter Tryd.func25, Tryd.ntmps25
  go_wp2_with fail
  go_quiet (fail)
  go_wp2
  go_ret
  exact ⟨rfl, below_drewN HB.out _⟩
set_option maxRecDepth 100000 in
set_option maxHeartbeats 4000000 in
theorem tf_3y (wd : List UInt8) (has : Nat) (kind p i q j c : Int) (list : List Int) (a : Option Addr) (cap : Nat) (w : World) (num : Int) (hn : 1 ≤ num) :
    Calls Tryd.prog 25 #[shV (wd, has, 3), evW8 ⟨kind, p, i, q, j, c, num, list⟩ (.slice a 0 cap)] w fun e' w' => e' = .returned (.bool (decide (num ≤ 6))) ∧ Below w.heap.size w w' := by
  obtain ⟨H, hH⟩ : ∃ H, w.heap.size = H := ⟨_, rfl⟩
  rw [hH]
  obtain ⟨W2, hW2⟩ : ∃ W2, (w.alloc (.cells #[strV wd, .int .i64 (has : Int), .int .i64 (3 : Int)] 45 (0, 0))).alloc (.cells #[.int .i64 kind, .int .i64 p, .int .i64 i, .int .i64 q, .int .i64 j, .int .i64 c, .int .i64 num, .slice a 0 cap] 24 (0, 0)) = W2 := ⟨_, rfl⟩
  have HX : Bx (Bxs w W2 H (wd, has, 3) ⟨kind, p, i, q, j, c, num, list⟩ (.slice a 0 cap)) := ⟨by rw [← hW2]; exact bxs_new w H hH (wd, has, 3) ⟨kind, p, i, q, j, c, num, list⟩ (.slice a 0 cap)⟩
  obtain ⟨q0, q1, q2, q3, q4, q5, q6, q7⟩ := evB_cells HX.out.ev
  obtain ⟨z0, z1, z2⟩ := shB_cells HX.out.sh
  have HB : Bx (Below H w W2) := ⟨HX.out.bel⟩
  have hsz := HX.out.sz
  simp only [] at *
  have HC : Bx (∀ W, Bxs w W H (wd, has, 3) ⟨kind, p, i, q, j, c, num, list⟩ (.slice a 0 cap) → Calls Tryd.prog 42 #[.int .i64 3] W fun e' w' => ∃ a1 c1, e' = .returned (.slice a1 6 c1) ∧ Bxs w w' H (wd, has, 3) ⟨kind, p, i, q, j, c, num, list⟩ (.slice a 0 cap)) := ⟨fun W hx => (numWords_any 3 W).mono fun e' w' ⟨v, h1, h2⟩ => by
    rcases h2.val with ⟨h3, _⟩ | ⟨rfl, _⟩
    · cases h3
    · exact ⟨_, _, h1, hx.on h2.bel⟩⟩
  have HF : Bx (∀ W, Bxs w W H (wd, has, 3) ⟨kind, p, i, q, j, c, num, list⟩ (.slice a 0 cap) → W.cell? ⟨H + 1, 6, none⟩ = some (.int .i64 num) ∧ W.cell? ⟨H, 2, none⟩ = some (.int .i64 3)) := ⟨fun W hx => ⟨(evB_cells hx.ev).2.2.2.2.2.2.1, (shB_cells hx.sh).2.2⟩⟩
  clear q0 q1 q2 q3 q4 q5 z0 z1
  go_enter Tryd.func25, Tryd.ntmps25
  go_wp2_with fail
  go_region_held3 (fun w' => w'.cell? ⟨H + 1, 6, none⟩ = some (.int .i64 num) ∧ w'.cell? ⟨H, 2, none⟩ = some (.int .i64 3))
    (first | exact HF.out _ hz1.out | exact HF.out _ (HX.out.on (below_drewN (Below.refl _ _) 1)) | exact HF.out _ HX.out | go_keep)
    (first
      | (go_at_call 42; refine Calls.mono (HC.out _ (HX.out.on (below_drewN (Below.refl _ _) 1))) ?_; rintro e1 z1 ⟨a1, c1, rfl, hz⟩; have hz1 : Bx _ := ⟨hz⟩; clear hz))
  go_wp2
  go_ret
  exact ⟨rfl, hz1.out.bel⟩
set_option maxRecDepth 100000 in
set_option maxHeartbeats 4000000 in
theorem tf_3n (wd : List UInt8) (has : Nat) (kind p i q j c : Int) (list : List Int) (a : Option Addr) (cap : Nat) (w : World) (num : Int) (hn : num < 1) :
    Calls Tryd.prog 25 #[shV (wd, has, 3), evW8 ⟨kind, p, i, q, j, c, num, list⟩ (.slice a 0 cap)] w fun e' w' => e' = .returned (.bool false) ∧ Below w.heap.size w w' := by
  obtain ⟨H, hH⟩ : ∃ H, w.heap.size = H := ⟨_, rfl⟩
  rw [hH]
  obtain ⟨W2, hW2⟩ : ∃ W2, (w.alloc (.cells #[strV wd, .int .i64 (has : Int), .int .i64 (3 : Int)] 45 (0, 0))).alloc (.cells #[.int .i64 kind, .int .i64 p, .int .i64 i, .int .i64 q, .int .i64 j, .int .i64 c, .int .i64 num, .slice a 0 cap] 24 (0, 0)) = W2 := ⟨_, rfl⟩
  have HX : Bx (Bxs w W2 H (wd, has, 3) ⟨kind, p, i, q, j, c, num, list⟩ (.slice a 0 cap)) := ⟨by rw [← hW2]; exact bxs_new w H hH (wd, has, 3) ⟨kind, p, i, q, j, c, num, list⟩ (.slice a 0 cap)⟩
  obtain ⟨q0, q1, q2, q3, q4, q5, q6, q7⟩ := evB_cells HX.out.ev
  obtain ⟨z0, z1, z2⟩ := shB_cells HX.out.sh
  have HB : Bx (Below H w W2) := ⟨HX.out.bel⟩
  have hsz := HX.out.sz
  simp only [] at *
  have hn1 : ¬ 1 ≤ num := by omega
  have hn2 : decide (1 ≤ num) = false := decide_eq_false hn1
  clear q0 q1 q2 q3 q4 q5 z0 z1
  go_enter Tryd.func25, Tryd.ntmps25
  go_wp2_with fail
  go_quiet (fail)
  go_wp2
  go_ret
  exact ⟨rfl, below_drewN HB.out _⟩
set_option maxRecDepth 100000 in
set_option maxHeartbeats 4000000 in
theorem tf_0 (wd : List UInt8) (has : Nat) (kind p i q j c : Int) (list : List Int) (a : Option Addr) (cap : Nat) (w : World) (num : Int) (tail : Nat) (h4 : tail ≠ 4) (h1 : tail ≠ 1) (h2 : tail ≠ 2) (h3 : tail ≠ 3) :
    Calls Tryd.prog 25 #[shV (wd, has, tail), evW8 ⟨kind, p, i, q, j, c, num, list⟩ (.slice a 0 cap)] w fun e' w' => e' = .returned (.bool (num == 0)) ∧ Below w.heap.size w w' := by
  obtain ⟨H, hH⟩ : ∃ H, w.heap.size = H := ⟨_, rfl⟩
  rw [hH]
  obtain ⟨W2, hW2⟩ : ∃ W2, (w.alloc (.cells #[strV wd, .int .i64 (has : Int), .int .i64 (tail : Int)] 45 (0, 0))).alloc (.cells #[.int .i64 kind, .int .i64 p, .int .i64 i, .int .i64 q, .int .i64 j, .int .i64 c, .int .i64 num, .slice a 0 cap] 24 (0, 0)) = W2 := ⟨_, rfl⟩
  have HX : Bx (Bxs w W2 H (wd, has, tail) ⟨kind, p, i, q, j, c, num, list⟩ (.slice a 0 cap)) := ⟨by rw [← hW2]; exact bxs_new w H hH (wd, has, tail) ⟨kind, p, i, q, j, c, num, list⟩ (.slice a 0 cap)⟩
  obtain ⟨q0, q1, q2, q3, q4, q5, q6, q7⟩ := evB_cells HX.out.ev
  obtain ⟨z0, z1, z2⟩ := shB_cells HX.out.sh
  have HB : Bx (Below H w W2) := ⟨HX.out.bel⟩
  have hsz := HX.out.sz
  simp only [] at *
  have i4 : ¬ (tail : Int) = 4 := by omega
  have j4 : ((tail : Int) == 4) = false := by simpa using i4
  have i1 : ¬ (tail : Int) = 1 := by omega
  have j1 : ((tail : Int) == 1) = false := by simpa using i1
  have i2 : ¬ (tail : Int) = 2 := by omega
  have j2 : ((tail : Int) == 2) = false := by simpa using i2
  have i3 : ¬ (tail : Int) = 3 := by omega
  have j3 : ((tail : Int) == 3) = false := by simpa using i3
  clear q0 q1 q2 q3 q4 q5 z0 z1
  go_enter Tryd.func25, Tryd.ntmps25
  go_wp2
  go_ret
  exact ⟨rfl, HB.out⟩
theorem tailFits_any (s : TSh) (e : Ev) (a : Option Addr) (cap : Nat) (w : World) (hi : IntsV w w.heap.size a cap e.list) :
    Calls Tryd.prog 25 #[shV s, evW8 e (.slice a e.list.length cap)] w fun e' w' => e' = .returned (.bool (tlOk s.2.2 e.num e.list)) ∧ Below w.heap.size w w' := by
  obtain ⟨wd, has, tail⟩ := s
  obtain ⟨kind, p, i, q, j, c, num, list⟩ := e
  have hmax := hi.max
  unfold maxLen at hmax
  simp only [] at hi hmax ⊢
  unfold tlOk
  by_cases h4 : tail = 4
  · subst h4
    rw [if_pos rfl]
    by_cases hn : num = 0
    · subst hn
      exact tf_4y wd has kind p i q j c list a cap w (by omega) hi
    · rw [decide_eq_false hn]
      exact tf_4n wd has kind p i q j c list a cap w num list.length hn
  · rw [if_neg h4]
    cases list with
    | cons x r => exact tf_len wd has kind p i q j c (x :: r) a cap w num (x :: r).length tail h4 (by simp)
    | nil =>
      by_cases h1 : tail = 1
      · subst h1
        exact tf_1 wd has kind p i q j c [] a cap w num
      · rw [if_neg h1]
        by_cases h2 : tail = 2
        · subst h2
          rw [if_pos (.inl rfl)]
          by_cases hn : 1 ≤ num
          · rw [decide_eq_true hn]
            exact tf_2y wd has kind p i q j c [] a cap w num hn
          · rw [decide_eq_false hn]
            exact tf_2n wd has kind p i q j c [] a cap w num (by omega)
        · by_cases h3 : tail = 3
          · subst h3
            rw [if_pos (.inr rfl)]
            by_cases hn : 1 ≤ num
            · rw [decide_eq_true hn]
              exact tf_3y wd has kind p i q j c [] a cap w num hn
            · rw [decide_eq_false hn]
              exact tf_3n wd has kind p i q j c [] a cap w num (by omega)
          · rw [if_neg (by omega)]
            have e : (List.isEmpty ([] : List Int) && decide (num = 0)) = (num == 0) := by
              simp only [List.isEmpty_nil, Bool.true_and]
              rfl
            rw [e]
            exact tf_0 wd has kind p i q j c [] a cap w num tail h4 h1 h2 h3
end Go.Proofs.YtecpknpcjoiliaaDoor
