import Derived.Test.YtdhgmeklphcbhaaCVB
namespace Go.Proofs.Ytdhgmeklphcbhaa
open Go.RowKit
set_option linter.unusedVariables false
set_option linter.unusedSimpArgs false

set_option maxRecDepth 100000 in
set_option maxHeartbeats 2000000 in
theorem Unary_any (op ka a : Int) (pa : Option Addr) (la ca : Nat)  (w : World) : Calls Try.prog 29 #[.int .i64 op, .agg #[.int .i64 ka, .int .i64 a, .slice pa la ca]] w fun e w' => e = .returned (ans (unI op ka a)) ∧ Below w.heap.size w w' := by
  by_cases h1 : op = 1
  · subst h1
    by_cases h2 : ka = 1
    · subst h2
      have e : unI 1 1 a = (1, wrap64 (-a), 0) := by simp [unI]
      rw [e]
      go_enter Try.func29, Try.ntmps29
      go_wp2_with (first | (go_at_call 48; refine Calls.mono (number_any _ _) ?_; rintro e w1 ⟨rfl, hb1⟩; obtain ⟨c0, c1, c2, f0, f1, f2, hsz⟩ := z3_keep (rb := (w.heap.size + 1)) hb1 (by simp)) | (go_at_call 49; refine Calls.mono (truth_any _ _) ?_; rintro e w1 ⟨rfl, hb1⟩; obtain ⟨c0, c1, c2, f0, f1, f2, hsz⟩ := z3_keep (rb := (w.heap.size + 1)) hb1 (by simp)) | (go_at_call 45; refine Calls.mono (trap_any _ _) ?_; rintro e w1 ⟨rfl, hb1⟩; obtain ⟨c0, c1, c2, f0, f1, f2, hsz⟩ := z3_keep (rb := (w.heap.size + 1)) hb1 (by simp)))
      refine bodyPost_ret (v := two 1 (wrap64 (-a)) 0) (by simp [results, Try.results29, go_sem, c0, c1, c2, hsz]) rfl ⟨by first | rfl | simp_all | (simp_all <;> omega), ?_⟩
      exact bel3 (rb := (w.heap.size + 1)) ((Below.refl _ _).alloc (by simp) _) hb1 (by simp) _ _ _
    · have e : unI 1 ka a = (0, 0, 5) := by simp [unI, h2]
      rw [e]
      go_enter Try.func29, Try.ntmps29
      go_wp2_with (first | (go_at_call 48; refine Calls.mono (number_any _ _) ?_; rintro e w1 ⟨rfl, hb1⟩; obtain ⟨c0, c1, c2, f0, f1, f2, hsz⟩ := z3_keep (rb := (w.heap.size + 1)) hb1 (by simp)) | (go_at_call 49; refine Calls.mono (truth_any _ _) ?_; rintro e w1 ⟨rfl, hb1⟩; obtain ⟨c0, c1, c2, f0, f1, f2, hsz⟩ := z3_keep (rb := (w.heap.size + 1)) hb1 (by simp)) | (go_at_call 45; refine Calls.mono (trap_any _ _) ?_; rintro e w1 ⟨rfl, hb1⟩; obtain ⟨c0, c1, c2, f0, f1, f2, hsz⟩ := z3_keep (rb := (w.heap.size + 1)) hb1 (by simp)))
      refine bodyPost_ret (v := two 0 0 5) (by simp [results, Try.results29, go_sem, c0, c1, c2, hsz]) rfl ⟨by first | rfl | simp_all | (simp_all <;> omega), ?_⟩
      exact bel3 (rb := (w.heap.size + 1)) ((Below.refl _ _).alloc (by simp) _) hb1 (by simp) _ _ _
  by_cases h3 : op = 2
  · subst h3
    by_cases h2 : ka = 2
    · subst h2
      have e : unI 2 2 a = (2, tn (a == 0), 0) := by simp [unI]
      rw [e]
      go_enter Try.func29, Try.ntmps29
      go_wp2_with (first | (go_at_call 48; refine Calls.mono (number_any _ _) ?_; rintro e w1 ⟨rfl, hb1⟩; obtain ⟨c0, c1, c2, f0, f1, f2, hsz⟩ := z3_keep (rb := (w.heap.size + 1)) hb1 (by simp)) | (go_at_call 49; refine Calls.mono (truth_any _ _) ?_; rintro e w1 ⟨rfl, hb1⟩; obtain ⟨c0, c1, c2, f0, f1, f2, hsz⟩ := z3_keep (rb := (w.heap.size + 1)) hb1 (by simp)) | (go_at_call 45; refine Calls.mono (trap_any _ _) ?_; rintro e w1 ⟨rfl, hb1⟩; obtain ⟨c0, c1, c2, f0, f1, f2, hsz⟩ := z3_keep (rb := (w.heap.size + 1)) hb1 (by simp)))
      refine bodyPost_ret (v := two 2 (tn (a == 0)) 0) (by simp [results, Try.results29, go_sem, c0, c1, c2, hsz]) rfl ⟨by first | rfl | simp_all | (simp_all <;> omega), ?_⟩
      exact bel3 (rb := (w.heap.size + 1)) ((Below.refl _ _).alloc (by simp) _) hb1 (by simp) _ _ _
    · have e : unI 2 ka a = (0, 0, 5) := by simp [unI, h2]
      rw [e]
      go_enter Try.func29, Try.ntmps29
      go_wp2_with (first | (go_at_call 48; refine Calls.mono (number_any _ _) ?_; rintro e w1 ⟨rfl, hb1⟩; obtain ⟨c0, c1, c2, f0, f1, f2, hsz⟩ := z3_keep (rb := (w.heap.size + 1)) hb1 (by simp)) | (go_at_call 49; refine Calls.mono (truth_any _ _) ?_; rintro e w1 ⟨rfl, hb1⟩; obtain ⟨c0, c1, c2, f0, f1, f2, hsz⟩ := z3_keep (rb := (w.heap.size + 1)) hb1 (by simp)) | (go_at_call 45; refine Calls.mono (trap_any _ _) ?_; rintro e w1 ⟨rfl, hb1⟩; obtain ⟨c0, c1, c2, f0, f1, f2, hsz⟩ := z3_keep (rb := (w.heap.size + 1)) hb1 (by simp)))
      refine bodyPost_ret (v := two 0 0 5) (by simp [results, Try.results29, go_sem, c0, c1, c2, hsz]) rfl ⟨by first | rfl | simp_all | (simp_all <;> omega), ?_⟩
      exact bel3 (rb := (w.heap.size + 1)) ((Below.refl _ _).alloc (by simp) _) hb1 (by simp) _ _ _
  have e : unI op ka a = (0, 0, 5) := by simp [unI, h1, h3]
  rw [e]
  go_enter Try.func29, Try.ntmps29
  go_wp2_with (first | (go_at_call 48; refine Calls.mono (number_any _ _) ?_; rintro e w1 ⟨rfl, hb1⟩; obtain ⟨c0, c1, c2, f0, f1, f2, hsz⟩ := z3_keep (rb := (w.heap.size + 1)) hb1 (by simp)) | (go_at_call 49; refine Calls.mono (truth_any _ _) ?_; rintro e w1 ⟨rfl, hb1⟩; obtain ⟨c0, c1, c2, f0, f1, f2, hsz⟩ := z3_keep (rb := (w.heap.size + 1)) hb1 (by simp)) | (go_at_call 45; refine Calls.mono (trap_any _ _) ?_; rintro e w1 ⟨rfl, hb1⟩; obtain ⟨c0, c1, c2, f0, f1, f2, hsz⟩ := z3_keep (rb := (w.heap.size + 1)) hb1 (by simp)))
  refine bodyPost_ret (v := two 0 0 5) (by simp [results, Try.results29, go_sem, c0, c1, c2, hsz]) rfl ⟨by first | rfl | simp_all | (simp_all <;> omega), ?_⟩
  exact bel3 (rb := (w.heap.size + 1)) ((Below.refl _ _).alloc (by simp) _) hb1 (by simp) _ _ _
end Go.Proofs.Ytdhgmeklphcbhaa
