import Derived.Test.YtdhgmeklphcbhaaCVU
namespace Go.Proofs.Ytdhgmeklphcbhaa
open Go.RowKit
set_option linter.unusedVariables false
set_option linter.unusedSimpArgs false

theorem two_new' (w : World) (o o' : Obj) : Below w.heap.size w ((w.alloc o).alloc o') := (below1 _ _).trans ((below1 _ _).mono (by simp))

set_option maxRecDepth 100000 in
theorem rnumber_any (n : Int) (w : World) : Calls Try.prog 51 #[.int .i64 n] w fun e w' => e = .returned (pv 1 n) ∧ Below w.heap.size w w' := by
  go_enter Try.func51, Try.ntmps51
  go_wp2
  refine bodyPost_ret (v := pv 1 n) (by simp [results, Try.results51, go_sem]) rfl ⟨rfl, ?_⟩
  exact below1 _ _
set_option maxRecDepth 100000 in
theorem rtruth_any (b : Bool) (w : World) : Calls Try.prog 50 #[.bool b] w fun e w' => e = .returned (pv 2 (tn b)) ∧ Below w.heap.size w w' := by
  cases b
  all_goals
    go_enter Try.func50, Try.ntmps50
    go_wp2
  · refine bodyPost_ret (v := pv 2 0) (by simp [results, Try.results50, go_sem]) rfl ⟨rfl, ?_⟩
    first | exact two_new' _ _ _ | exact below1 _ _
  · refine bodyPost_ret (v := pv 2 1) (by simp [results, Try.results50, go_sem]) rfl ⟨rfl, ?_⟩
    first | exact two_new' _ _ _ | exact below1 _ _

set_option maxRecDepth 100000 in
set_option maxHeartbeats 4000000 in
theorem rBin_any (op ka a kb b : Int) (pa : Option Addr) (la ca : Nat) (pb : Option Addr) (lb cb : Nat) (w : World) : Calls Try.prog 30 #[.int .i64 op, .agg #[.int .i64 ka, .int .i64 a, .slice pa la ca], .agg #[.int .i64 kb, .int .i64 b, .slice pb lb cb]] w fun e w' => e = .returned (ans (binI op ka a kb b)) ∧ Below w.heap.size w w' := by
  by_cases h0 : ka = kb
  · subst h0
    by_cases h21 : op = 21
    · subst h21
      by_cases h1 : ka = 1 ∨ ka = 2 ∨ ka = 5
      · have e : binI 21 ka a ka b = (2, tn (a == b), 0) := by rcases h1 with h | h | h <;> simp [binI, numI, alikeI, h]
        rw [e]
        rcases h1 with rfl | rfl | rfl
        · go_enter Try.func30, Try.ntmps30
          go_wp2_with (first | (go_at_call 51; refine Calls.mono (rnumber_any _ _) ?_; rintro e w1 ⟨rfl, hb1⟩; obtain ⟨c0, c1, c2, f0, f1, f2, hsz⟩ := z3_keep (rb := (w.heap.size + 2)) hb1 (by simp)) | (go_at_call 50; refine Calls.mono (rtruth_any _ _) ?_; rintro e w1 ⟨rfl, hb1⟩; obtain ⟨c0, c1, c2, f0, f1, f2, hsz⟩ := z3_keep (rb := (w.heap.size + 2)) hb1 (by simp)))
          refine bodyPost_ret (v := two 2 (tn (a == b)) 0) (by simp [results, Try.results30, go_sem, c0, c1, c2, hsz]) rfl ⟨by first | rfl | simp_all | (simp_all <;> omega), ?_⟩
          exact bel3 (rb := (w.heap.size + 2)) (((Below.refl _ _).alloc (by simp) _).alloc (by simp) _) hb1 (by simp) _ _ _
        · go_enter Try.func30, Try.ntmps30
          go_wp2_with (first | (go_at_call 51; refine Calls.mono (rnumber_any _ _) ?_; rintro e w1 ⟨rfl, hb1⟩; obtain ⟨c0, c1, c2, f0, f1, f2, hsz⟩ := z3_keep (rb := (w.heap.size + 2)) hb1 (by simp)) | (go_at_call 50; refine Calls.mono (rtruth_any _ _) ?_; rintro e w1 ⟨rfl, hb1⟩; obtain ⟨c0, c1, c2, f0, f1, f2, hsz⟩ := z3_keep (rb := (w.heap.size + 2)) hb1 (by simp)))
          refine bodyPost_ret (v := two 2 (tn (a == b)) 0) (by simp [results, Try.results30, go_sem, c0, c1, c2, hsz]) rfl ⟨by first | rfl | simp_all | (simp_all <;> omega), ?_⟩
          exact bel3 (rb := (w.heap.size + 2)) (((Below.refl _ _).alloc (by simp) _).alloc (by simp) _) hb1 (by simp) _ _ _
        · go_enter Try.func30, Try.ntmps30
          go_wp2_with (first | (go_at_call 51; refine Calls.mono (rnumber_any _ _) ?_; rintro e w1 ⟨rfl, hb1⟩; obtain ⟨c0, c1, c2, f0, f1, f2, hsz⟩ := z3_keep (rb := (w.heap.size + 2)) hb1 (by simp)) | (go_at_call 50; refine Calls.mono (rtruth_any _ _) ?_; rintro e w1 ⟨rfl, hb1⟩; obtain ⟨c0, c1, c2, f0, f1, f2, hsz⟩ := z3_keep (rb := (w.heap.size + 2)) hb1 (by simp)))
          refine bodyPost_ret (v := two 2 (tn (a == b)) 0) (by simp [results, Try.results30, go_sem, c0, c1, c2, hsz]) rfl ⟨by first | rfl | simp_all | (simp_all <;> omega), ?_⟩
          exact bel3 (rb := (w.heap.size + 2)) (((Below.refl _ _).alloc (by simp) _).alloc (by simp) _) hb1 (by simp) _ _ _
      · have e : binI 21 ka a ka b = (0, 0, 5) := by simp only [not_or] at h1; simp [binI, h1]
        rw [e]
        have b1 : (ka != 1) = true := by simp; omega
        have b2 : (ka != 2) = true := by simp; omega
        have b5 : (ka != 5) = true := by simp; omega
        clear h1
        go_enter Try.func30, Try.ntmps30
        go_wp2
        refine bodyPost_ret (v := two 0 0 5) (by simp [results, Try.results30, go_sem]) rfl ⟨rfl, ?_⟩
        exact (two_new' _ _ _).trans ((below1 _ _).mono (by simp; omega))
    by_cases h22 : op = 22
    · subst h22
      by_cases h1 : ka = 1 ∨ ka = 2 ∨ ka = 5
      · have e : binI 22 ka a ka b = (2, tn (a != b), 0) := by rcases h1 with h | h | h <;> simp [binI, numI, alikeI, h]
        rw [e]
        cases hab : (a == b)
        all_goals
          have hab' : (a != b) = !(a == b) := rfl
          rw [hab', hab]
          clear hab'
          rcases h1 with rfl | rfl | rfl
        · go_enter Try.func30, Try.ntmps30
          go_wp2_with (first | (go_at_call 51; refine Calls.mono (rnumber_any _ _) ?_; rintro e w1 ⟨rfl, hb1⟩; obtain ⟨c0, c1, c2, f0, f1, f2, hsz⟩ := z3_keep (rb := (w.heap.size + 2)) hb1 (by simp)) | (go_at_call 50; refine Calls.mono (rtruth_any _ _) ?_; rintro e w1 ⟨rfl, hb1⟩; obtain ⟨c0, c1, c2, f0, f1, f2, hsz⟩ := z3_keep (rb := (w.heap.size + 2)) hb1 (by simp)))
          refine bodyPost_ret (v := two 2 (tn true) 0) (by simp [results, Try.results30, go_sem, c0, c1, c2, hsz]) rfl ⟨by first | rfl | simp_all | (simp_all <;> omega), ?_⟩
          exact bel3 (rb := (w.heap.size + 2)) (((Below.refl _ _).alloc (by simp) _).alloc (by simp) _) hb1 (by simp) _ _ _
        · go_enter Try.func30, Try.ntmps30
          go_wp2_with (first | (go_at_call 51; refine Calls.mono (rnumber_any _ _) ?_; rintro e w1 ⟨rfl, hb1⟩; obtain ⟨c0, c1, c2, f0, f1, f2, hsz⟩ := z3_keep (rb := (w.heap.size + 2)) hb1 (by simp)) | (go_at_call 50; refine Calls.mono (rtruth_any _ _) ?_; rintro e w1 ⟨rfl, hb1⟩; obtain ⟨c0, c1, c2, f0, f1, f2, hsz⟩ := z3_keep (rb := (w.heap.size + 2)) hb1 (by simp)))
          refine bodyPost_ret (v := two 2 (tn true) 0) (by simp [results, Try.results30, go_sem, c0, c1, c2, hsz]) rfl ⟨by first | rfl | simp_all | (simp_all <;> omega), ?_⟩
          exact bel3 (rb := (w.heap.size + 2)) (((Below.refl _ _).alloc (by simp) _).alloc (by simp) _) hb1 (by simp) _ _ _
        · go_enter Try.func30, Try.ntmps30
          go_wp2_with (first | (go_at_call 51; refine Calls.mono (rnumber_any _ _) ?_; rintro e w1 ⟨rfl, hb1⟩; obtain ⟨c0, c1, c2, f0, f1, f2, hsz⟩ := z3_keep (rb := (w.heap.size + 2)) hb1 (by simp)) | (go_at_call 50; refine Calls.mono (rtruth_any _ _) ?_; rintro e w1 ⟨rfl, hb1⟩; obtain ⟨c0, c1, c2, f0, f1, f2, hsz⟩ := z3_keep (rb := (w.heap.size + 2)) hb1 (by simp)))
          refine bodyPost_ret (v := two 2 (tn true) 0) (by simp [results, Try.results30, go_sem, c0, c1, c2, hsz]) rfl ⟨by first | rfl | simp_all | (simp_all <;> omega), ?_⟩
          exact bel3 (rb := (w.heap.size + 2)) (((Below.refl _ _).alloc (by simp) _).alloc (by simp) _) hb1 (by simp) _ _ _
        · go_enter Try.func30, Try.ntmps30
          go_wp2_with (first | (go_at_call 51; refine Calls.mono (rnumber_any _ _) ?_; rintro e w1 ⟨rfl, hb1⟩; obtain ⟨c0, c1, c2, f0, f1, f2, hsz⟩ := z3_keep (rb := (w.heap.size + 2)) hb1 (by simp)) | (go_at_call 50; refine Calls.mono (rtruth_any _ _) ?_; rintro e w1 ⟨rfl, hb1⟩; obtain ⟨c0, c1, c2, f0, f1, f2, hsz⟩ := z3_keep (rb := (w.heap.size + 2)) hb1 (by simp)))
          refine bodyPost_ret (v := two 2 (tn false) 0) (by simp [results, Try.results30, go_sem, c0, c1, c2, hsz]) rfl ⟨by first | rfl | simp_all | (simp_all <;> omega), ?_⟩
          exact bel3 (rb := (w.heap.size + 2)) (((Below.refl _ _).alloc (by simp) _).alloc (by simp) _) hb1 (by simp) _ _ _
        · go_enter Try.func30, Try.ntmps30
          go_wp2_with (first | (go_at_call 51; refine Calls.mono (rnumber_any _ _) ?_; rintro e w1 ⟨rfl, hb1⟩; obtain ⟨c0, c1, c2, f0, f1, f2, hsz⟩ := z3_keep (rb := (w.heap.size + 2)) hb1 (by simp)) | (go_at_call 50; refine Calls.mono (rtruth_any _ _) ?_; rintro e w1 ⟨rfl, hb1⟩; obtain ⟨c0, c1, c2, f0, f1, f2, hsz⟩ := z3_keep (rb := (w.heap.size + 2)) hb1 (by simp)))
          refine bodyPost_ret (v := two 2 (tn false) 0) (by simp [results, Try.results30, go_sem, c0, c1, c2, hsz]) rfl ⟨by first | rfl | simp_all | (simp_all <;> omega), ?_⟩
          exact bel3 (rb := (w.heap.size + 2)) (((Below.refl _ _).alloc (by simp) _).alloc (by simp) _) hb1 (by simp) _ _ _
        · go_enter Try.func30, Try.ntmps30
          go_wp2_with (first | (go_at_call 51; refine Calls.mono (rnumber_any _ _) ?_; rintro e w1 ⟨rfl, hb1⟩; obtain ⟨c0, c1, c2, f0, f1, f2, hsz⟩ := z3_keep (rb := (w.heap.size + 2)) hb1 (by simp)) | (go_at_call 50; refine Calls.mono (rtruth_any _ _) ?_; rintro e w1 ⟨rfl, hb1⟩; obtain ⟨c0, c1, c2, f0, f1, f2, hsz⟩ := z3_keep (rb := (w.heap.size + 2)) hb1 (by simp)))
          refine bodyPost_ret (v := two 2 (tn false) 0) (by simp [results, Try.results30, go_sem, c0, c1, c2, hsz]) rfl ⟨by first | rfl | simp_all | (simp_all <;> omega), ?_⟩
          exact bel3 (rb := (w.heap.size + 2)) (((Below.refl _ _).alloc (by simp) _).alloc (by simp) _) hb1 (by simp) _ _ _
      · have e : binI 22 ka a ka b = (0, 0, 5) := by simp only [not_or] at h1; simp [binI, h1]
        rw [e]
        have b1 : (ka != 1) = true := by simp; omega
        have b2 : (ka != 2) = true := by simp; omega
        have b5 : (ka != 5) = true := by simp; omega
        clear h1
        go_enter Try.func30, Try.ntmps30
        go_wp2
        refine bodyPost_ret (v := two 0 0 5) (by simp [results, Try.results30, go_sem]) rfl ⟨rfl, ?_⟩
        exact (two_new' _ _ _).trans ((below1 _ _).mono (by simp; omega))
    by_cases h1 : ka = 1
    · subst h1
      by_cases h31 : op = 31
      · subst h31
        have e : binI 31 1 a 1 b = (1, wrap64 (a + b), 0) := by simp [binI, numI]
        rw [e]
        go_enter Try.func30, Try.ntmps30
        go_wp2_with (first | (go_at_call 51; refine Calls.mono (rnumber_any _ _) ?_; rintro e w1 ⟨rfl, hb1⟩; obtain ⟨c0, c1, c2, f0, f1, f2, hsz⟩ := z3_keep (rb := (w.heap.size + 2)) hb1 (by simp)) | (go_at_call 50; refine Calls.mono (rtruth_any _ _) ?_; rintro e w1 ⟨rfl, hb1⟩; obtain ⟨c0, c1, c2, f0, f1, f2, hsz⟩ := z3_keep (rb := (w.heap.size + 2)) hb1 (by simp)))
        refine bodyPost_ret (v := two 1 (wrap64 (a + b)) 0) (by simp [results, Try.results30, go_sem, c0, c1, c2, hsz]) rfl ⟨by first | rfl | simp_all | (simp_all <;> omega), ?_⟩
        exact bel3 (rb := (w.heap.size + 2)) (((Below.refl _ _).alloc (by simp) _).alloc (by simp) _) hb1 (by simp) _ _ _
      by_cases h32 : op = 32
      · subst h32
        have e : binI 32 1 a 1 b = (1, wrap64 (a - b), 0) := by simp [binI, numI]
        rw [e]
        go_enter Try.func30, Try.ntmps30
        go_wp2_with (first | (go_at_call 51; refine Calls.mono (rnumber_any _ _) ?_; rintro e w1 ⟨rfl, hb1⟩; obtain ⟨c0, c1, c2, f0, f1, f2, hsz⟩ := z3_keep (rb := (w.heap.size + 2)) hb1 (by simp)) | (go_at_call 50; refine Calls.mono (rtruth_any _ _) ?_; rintro e w1 ⟨rfl, hb1⟩; obtain ⟨c0, c1, c2, f0, f1, f2, hsz⟩ := z3_keep (rb := (w.heap.size + 2)) hb1 (by simp)))
        refine bodyPost_ret (v := two 1 (wrap64 (a - b)) 0) (by simp [results, Try.results30, go_sem, c0, c1, c2, hsz]) rfl ⟨by first | rfl | simp_all | (simp_all <;> omega), ?_⟩
        exact bel3 (rb := (w.heap.size + 2)) (((Below.refl _ _).alloc (by simp) _).alloc (by simp) _) hb1 (by simp) _ _ _
      by_cases h41 : op = 41
      · subst h41
        have e : binI 41 1 a 1 b = (1, wrap64 (a * b), 0) := by simp [binI, numI]
        rw [e]
        go_enter Try.func30, Try.ntmps30
        go_wp2_with (first | (go_at_call 51; refine Calls.mono (rnumber_any _ _) ?_; rintro e w1 ⟨rfl, hb1⟩; obtain ⟨c0, c1, c2, f0, f1, f2, hsz⟩ := z3_keep (rb := (w.heap.size + 2)) hb1 (by simp)) | (go_at_call 50; refine Calls.mono (rtruth_any _ _) ?_; rintro e w1 ⟨rfl, hb1⟩; obtain ⟨c0, c1, c2, f0, f1, f2, hsz⟩ := z3_keep (rb := (w.heap.size + 2)) hb1 (by simp)))
        refine bodyPost_ret (v := two 1 (wrap64 (a * b)) 0) (by simp [results, Try.results30, go_sem, c0, c1, c2, hsz]) rfl ⟨by first | rfl | simp_all | (simp_all <;> omega), ?_⟩
        exact bel3 (rb := (w.heap.size + 2)) (((Below.refl _ _).alloc (by simp) _).alloc (by simp) _) hb1 (by simp) _ _ _
      by_cases h23 : op = 23
      · subst h23
        have e : binI 23 1 a 1 b = (2, tn (decide (a < b)), 0) := by simp [binI, numI]
        rw [e]
        go_enter Try.func30, Try.ntmps30
        go_wp2_with (first | (go_at_call 51; refine Calls.mono (rnumber_any _ _) ?_; rintro e w1 ⟨rfl, hb1⟩; obtain ⟨c0, c1, c2, f0, f1, f2, hsz⟩ := z3_keep (rb := (w.heap.size + 2)) hb1 (by simp)) | (go_at_call 50; refine Calls.mono (rtruth_any _ _) ?_; rintro e w1 ⟨rfl, hb1⟩; obtain ⟨c0, c1, c2, f0, f1, f2, hsz⟩ := z3_keep (rb := (w.heap.size + 2)) hb1 (by simp)))
        refine bodyPost_ret (v := two 2 (tn (decide (a < b))) 0) (by simp [results, Try.results30, go_sem, c0, c1, c2, hsz]) rfl ⟨by first | rfl | simp_all | (simp_all <;> omega), ?_⟩
        exact bel3 (rb := (w.heap.size + 2)) (((Below.refl _ _).alloc (by simp) _).alloc (by simp) _) hb1 (by simp) _ _ _
      by_cases h24 : op = 24
      · subst h24
        have e : binI 24 1 a 1 b = (2, tn (decide (a ≤ b)), 0) := by simp [binI, numI]
        rw [e]
        go_enter Try.func30, Try.ntmps30
        go_wp2_with (first | (go_at_call 51; refine Calls.mono (rnumber_any _ _) ?_; rintro e w1 ⟨rfl, hb1⟩; obtain ⟨c0, c1, c2, f0, f1, f2, hsz⟩ := z3_keep (rb := (w.heap.size + 2)) hb1 (by simp)) | (go_at_call 50; refine Calls.mono (rtruth_any _ _) ?_; rintro e w1 ⟨rfl, hb1⟩; obtain ⟨c0, c1, c2, f0, f1, f2, hsz⟩ := z3_keep (rb := (w.heap.size + 2)) hb1 (by simp)))
        refine bodyPost_ret (v := two 2 (tn (decide (a ≤ b))) 0) (by simp [results, Try.results30, go_sem, c0, c1, c2, hsz]) rfl ⟨by first | rfl | simp_all | (simp_all <;> omega), ?_⟩
        exact bel3 (rb := (w.heap.size + 2)) (((Below.refl _ _).alloc (by simp) _).alloc (by simp) _) hb1 (by simp) _ _ _
      by_cases h25 : op = 25
      · subst h25
        have e : binI 25 1 a 1 b = (2, tn (decide (b < a)), 0) := by simp [binI, numI]
        rw [e]
        go_enter Try.func30, Try.ntmps30
        go_wp2_with (first | (go_at_call 51; refine Calls.mono (rnumber_any _ _) ?_; rintro e w1 ⟨rfl, hb1⟩; obtain ⟨c0, c1, c2, f0, f1, f2, hsz⟩ := z3_keep (rb := (w.heap.size + 2)) hb1 (by simp)) | (go_at_call 50; refine Calls.mono (rtruth_any _ _) ?_; rintro e w1 ⟨rfl, hb1⟩; obtain ⟨c0, c1, c2, f0, f1, f2, hsz⟩ := z3_keep (rb := (w.heap.size + 2)) hb1 (by simp)))
        refine bodyPost_ret (v := two 2 (tn (decide (b < a))) 0) (by simp [results, Try.results30, go_sem, c0, c1, c2, hsz]) rfl ⟨by first | rfl | simp_all | (simp_all <;> omega), ?_⟩
        exact bel3 (rb := (w.heap.size + 2)) (((Below.refl _ _).alloc (by simp) _).alloc (by simp) _) hb1 (by simp) _ _ _
      by_cases h26 : op = 26
      · subst h26
        have e : binI 26 1 a 1 b = (2, tn (decide (b ≤ a)), 0) := by simp [binI, numI]
        rw [e]
        go_enter Try.func30, Try.ntmps30
        go_wp2_with (first | (go_at_call 51; refine Calls.mono (rnumber_any _ _) ?_; rintro e w1 ⟨rfl, hb1⟩; obtain ⟨c0, c1, c2, f0, f1, f2, hsz⟩ := z3_keep (rb := (w.heap.size + 2)) hb1 (by simp)) | (go_at_call 50; refine Calls.mono (rtruth_any _ _) ?_; rintro e w1 ⟨rfl, hb1⟩; obtain ⟨c0, c1, c2, f0, f1, f2, hsz⟩ := z3_keep (rb := (w.heap.size + 2)) hb1 (by simp)))
        refine bodyPost_ret (v := two 2 (tn (decide (b ≤ a))) 0) (by simp [results, Try.results30, go_sem, c0, c1, c2, hsz]) rfl ⟨by first | rfl | simp_all | (simp_all <;> omega), ?_⟩
        exact bel3 (rb := (w.heap.size + 2)) (((Below.refl _ _).alloc (by simp) _).alloc (by simp) _) hb1 (by simp) _ _ _
      by_cases h42 : op = 42
      · subst h42
        by_cases hb : b = 0
        · subst hb
          have e : binI 42 1 a 1 0 = (0, 0, 1) := by simp [binI, numI]
          rw [e]
          go_enter Try.func30, Try.ntmps30
          go_wp2
          refine bodyPost_ret (v := two 0 0 1) (by simp [results, Try.results30, go_sem]) rfl ⟨rfl, ?_⟩
          exact (two_new' _ _ _).trans ((below1 _ _).mono (by simp; omega))
        · have e : binI 42 1 a 1 b = (1, wrap64 (a.tdiv b), 0) := by simp [binI, numI, hb]
          rw [e]
          go_enter Try.func30, Try.ntmps30
          go_wp2_with (first | (go_at_call 51; refine Calls.mono (rnumber_any _ _) ?_; rintro e w1 ⟨rfl, hb1⟩; obtain ⟨c0, c1, c2, f0, f1, f2, hsz⟩ := z3_keep (rb := (w.heap.size + 2)) hb1 (by simp)) | (go_at_call 50; refine Calls.mono (rtruth_any _ _) ?_; rintro e w1 ⟨rfl, hb1⟩; obtain ⟨c0, c1, c2, f0, f1, f2, hsz⟩ := z3_keep (rb := (w.heap.size + 2)) hb1 (by simp)))
          refine bodyPost_ret (v := two 1 (wrap64 (a.tdiv b)) 0) (by simp [results, Try.results30, go_sem, c0, c1, c2, hsz]) rfl ⟨by first | rfl | simp_all | (simp_all <;> omega), ?_⟩
          exact bel3 (rb := (w.heap.size + 2)) (((Below.refl _ _).alloc (by simp) _).alloc (by simp) _) hb1 (by simp) _ _ _
      by_cases h43 : op = 43
      · subst h43
        by_cases hb : b = 0
        · subst hb
          have e : binI 43 1 a 1 0 = (0, 0, 1) := by simp [binI, numI]
          rw [e]
          go_enter Try.func30, Try.ntmps30
          go_wp2
          refine bodyPost_ret (v := two 0 0 1) (by simp [results, Try.results30, go_sem]) rfl ⟨rfl, ?_⟩
          exact (two_new' _ _ _).trans ((below1 _ _).mono (by simp; omega))
        · have e : binI 43 1 a 1 b = (1, a.tmod b, 0) := by simp [binI, numI, hb]
          rw [e]
          go_enter Try.func30, Try.ntmps30
          go_wp2_with (first | (go_at_call 51; refine Calls.mono (rnumber_any _ _) ?_; rintro e w1 ⟨rfl, hb1⟩; obtain ⟨c0, c1, c2, f0, f1, f2, hsz⟩ := z3_keep (rb := (w.heap.size + 2)) hb1 (by simp)) | (go_at_call 50; refine Calls.mono (rtruth_any _ _) ?_; rintro e w1 ⟨rfl, hb1⟩; obtain ⟨c0, c1, c2, f0, f1, f2, hsz⟩ := z3_keep (rb := (w.heap.size + 2)) hb1 (by simp)))
          refine bodyPost_ret (v := two 1 (a.tmod b) 0) (by simp [results, Try.results30, go_sem, c0, c1, c2, hsz]) rfl ⟨by first | rfl | simp_all | (simp_all <;> omega), ?_⟩
          exact bel3 (rb := (w.heap.size + 2)) (((Below.refl _ _).alloc (by simp) _).alloc (by simp) _) hb1 (by simp) _ _ _
      have e : binI op 1 a 1 b = (0, 0, 5) := by simp [binI, numI, alikeI, *]
      rw [e]
      have b21 : (op == 21) = false := by simpa using h21
      have b22 : (op == 22) = false := by simpa using h22
      go_enter Try.func30, Try.ntmps30
      go_wp2
      refine bodyPost_ret (v := two 0 0 5) (by simp [results, Try.results30, go_sem]) rfl ⟨rfl, ?_⟩
      exact (two_new' _ _ _).trans ((below1 _ _).mono (by simp; omega))
    · have e : binI op ka a ka b = (0, 0, 5) := by simp [binI, alikeI, h1, h21, h22]
      rw [e]
      have b21 : (op == 21) = false := by simpa using h21
      have b22 : (op == 22) = false := by simpa using h22
      go_enter Try.func30, Try.ntmps30
      go_wp2
      refine bodyPost_ret (v := two 0 0 5) (by simp [results, Try.results30, go_sem]) rfl ⟨rfl, ?_⟩
      exact (two_new' _ _ _).trans ((below1 _ _).mono (by simp; omega))
  · have e : binI op ka a kb b = (0, 0, 5) := by simp [binI, h0]
    rw [e]
    go_enter Try.func30, Try.ntmps30
    go_wp2
    refine bodyPost_ret (v := two 0 0 5) (by simp [results, Try.results30, go_sem]) rfl ⟨rfl, ?_⟩
    exact (two_new' _ _ _).trans ((below1 _ _).mono (by simp; omega))

set_option maxRecDepth 100000 in
set_option maxHeartbeats 4000000 in
theorem rUnary_any (op ka a : Int) (pa : Option Addr) (la ca : Nat) (w : World) : Calls Try.prog 31 #[.int .i64 op, .agg #[.int .i64 ka, .int .i64 a, .slice pa la ca]] w fun e w' => e = .returned (ans (unI op ka a)) ∧ Below w.heap.size w w' := by
  by_cases h1 : op = 1
  · subst h1
    by_cases h2 : ka = 1
    · subst h2
      have e : unI 1 1 a = (1, wrap64 (-a), 0) := by simp [unI]
      rw [e]
      go_enter Try.func31, Try.ntmps31
      go_wp2_with (first | (go_at_call 51; refine Calls.mono (rnumber_any _ _) ?_; rintro e w1 ⟨rfl, hb1⟩; obtain ⟨c0, c1, c2, f0, f1, f2, hsz⟩ := z3_keep (rb := (w.heap.size + 1)) hb1 (by simp)) | (go_at_call 50; refine Calls.mono (rtruth_any _ _) ?_; rintro e w1 ⟨rfl, hb1⟩; obtain ⟨c0, c1, c2, f0, f1, f2, hsz⟩ := z3_keep (rb := (w.heap.size + 1)) hb1 (by simp)))
      refine bodyPost_ret (v := two 1 (wrap64 (-a)) 0) (by simp [results, Try.results31, go_sem, c0, c1, c2, hsz]) rfl ⟨by first | rfl | simp_all | (simp_all <;> omega), ?_⟩
      exact bel3 (rb := (w.heap.size + 1)) ((Below.refl _ _).alloc (by simp) _) hb1 (by simp) _ _ _
    · have e : unI 1 ka a = (0, 0, 5) := by simp [unI, h2]
      rw [e]
      go_enter Try.func31, Try.ntmps31
      go_wp2
      refine bodyPost_ret (v := two 0 0 5) (by simp [results, Try.results31, go_sem]) rfl ⟨rfl, ?_⟩
      exact two_new' _ _ _
  by_cases h3 : op = 2
  · subst h3
    by_cases h2 : ka = 2
    · subst h2
      have e : unI 2 2 a = (2, tn (a == 0), 0) := by simp [unI]
      rw [e]
      go_enter Try.func31, Try.ntmps31
      go_wp2_with (first | (go_at_call 51; refine Calls.mono (rnumber_any _ _) ?_; rintro e w1 ⟨rfl, hb1⟩; obtain ⟨c0, c1, c2, f0, f1, f2, hsz⟩ := z3_keep (rb := (w.heap.size + 1)) hb1 (by simp)) | (go_at_call 50; refine Calls.mono (rtruth_any _ _) ?_; rintro e w1 ⟨rfl, hb1⟩; obtain ⟨c0, c1, c2, f0, f1, f2, hsz⟩ := z3_keep (rb := (w.heap.size + 1)) hb1 (by simp)))
      refine bodyPost_ret (v := two 2 (tn (a == 0)) 0) (by simp [results, Try.results31, go_sem, c0, c1, c2, hsz]) rfl ⟨by first | rfl | simp_all | (simp_all <;> omega), ?_⟩
      exact bel3 (rb := (w.heap.size + 1)) ((Below.refl _ _).alloc (by simp) _) hb1 (by simp) _ _ _
    · have e : unI 2 ka a = (0, 0, 5) := by simp [unI, h2]
      rw [e]
      go_enter Try.func31, Try.ntmps31
      go_wp2
      refine bodyPost_ret (v := two 0 0 5) (by simp [results, Try.results31, go_sem]) rfl ⟨rfl, ?_⟩
      exact two_new' _ _ _
  have e : unI op ka a = (0, 0, 5) := by simp [unI, h1, h3]
  rw [e]
  go_enter Try.func31, Try.ntmps31
  go_wp2
  refine bodyPost_ret (v := two 0 0 5) (by simp [results, Try.results31, go_sem]) rfl ⟨rfl, ?_⟩
  exact two_new' _ _ _
end Go.Proofs.Ytdhgmeklphcbhaa
