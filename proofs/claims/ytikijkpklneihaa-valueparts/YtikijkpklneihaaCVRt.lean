import Derived.Test.YtikijkpklneihaaCVSm
namespace Go.Proofs.Ytikijkpklneihaa
open Go.RowKit
set_option linter.unusedVariables false
set_option linter.unusedSimpArgs false

def rightI (k n : Int) (L : Nat) : Bool :=
  if k = 1 then (L : Int) == 0 else if k = 2 then (n == 0 || n == 1) && ((L : Int) == 0) else if k = 3 then n == 0 else if k = 4 then (n == 0) && decide (2 ≤ (L : Int))
  else if k = 5 then decide (0 ≤ n) && ((L : Int) == 0) else if k = 6 then decide (0 < n) || ((n == 0) && ((L : Int) == 0)) else false

set_option maxRecDepth 100000 in
set_option maxHeartbeats 4000000 in
theorem right_any (w : World) (k n : Int) (p : Option Addr) (L c : Nat) :
    Calls Try.prog 34 #[.agg #[.int .i64 k, .int .i64 n, .slice p L c]] w fun e w' => e = .returned (.bool (rightI k n L)) ∧ Below w.heap.size w w' := by
  by_cases h1 : k = 1
  · subst h1
    have e : rightI 1 n L = ((L : Int) == 0) := by simp [rightI]
    rw [e]
    go_enter Try.func34, Try.ntmps34
    go_wp2
    go_ret
    exact ⟨rfl, below1 _ _⟩
  by_cases h2 : k = 2
  · subst h2
    by_cases a0 : n = 0
    · subst a0
      have e : rightI 2 0 L = ((L : Int) == 0) := by simp [rightI]
      rw [e]
      go_enter Try.func34, Try.ntmps34
      go_wp2
      go_ret
      exact ⟨rfl, below1 _ _⟩
    by_cases a1 : n = 1
    · subst a1
      have e : rightI 2 1 L = ((L : Int) == 0) := by simp [rightI]
      rw [e]
      go_enter Try.func34, Try.ntmps34
      go_wp2
      go_ret
      exact ⟨rfl, below1 _ _⟩
    have b0 : (n == 0) = false := by simpa using a0
    have b1 : (n == 1) = false := by simpa using a1
    have e : rightI 2 n L = false := by simp [rightI, a0, a1]
    rw [e]
    go_enter Try.func34, Try.ntmps34
    go_wp2
    go_ret
    exact ⟨rfl, below1 _ _⟩
  by_cases h3 : k = 3
  · subst h3
    have e : rightI 3 n L = (n == 0) := by simp [rightI]
    rw [e]
    go_enter Try.func34, Try.ntmps34
    go_wp2
    go_ret
    exact ⟨rfl, below1 _ _⟩
  by_cases h4 : k = 4
  · subst h4
    by_cases a0 : n = 0
    · subst a0
      have e : rightI 4 0 L = decide (2 ≤ (L : Int)) := by simp [rightI]
      rw [e]
      go_enter Try.func34, Try.ntmps34
      go_wp2
      go_ret
      exact ⟨rfl, below1 _ _⟩
    have b0 : (n == 0) = false := by simpa using a0
    have e : rightI 4 n L = false := by simp [rightI, a0]
    rw [e]
    go_enter Try.func34, Try.ntmps34
    go_wp2
    go_ret
    exact ⟨rfl, below1 _ _⟩
  by_cases h5 : k = 5
  · subst h5
    by_cases a0 : 0 ≤ n
    · have e : rightI 5 n L = ((L : Int) == 0) := by simp [rightI, a0]
      rw [e]
      go_enter Try.func34, Try.ntmps34
      go_wp2
      go_ret
      exact ⟨rfl, below1 _ _⟩
    have b0 : decide (0 ≤ n) = false := by simpa using a0
    have e : rightI 5 n L = false := by simp [rightI, a0]
    rw [e]
    go_enter Try.func34, Try.ntmps34
    go_wp2
    go_ret
    exact ⟨rfl, below1 _ _⟩
  by_cases h6 : k = 6
  · subst h6
    by_cases a1 : 0 < n
    · have e : rightI 6 n L = true := by simp [rightI, a1]
      rw [e]
      go_enter Try.func34, Try.ntmps34
      go_wp2
      go_ret
      exact ⟨rfl, below1 _ _⟩
    by_cases a0 : n = 0
    · subst a0
      have e : rightI 6 0 L = ((L : Int) == 0) := by simp [rightI]
      rw [e]
      go_enter Try.func34, Try.ntmps34
      go_wp2
      go_ret
      exact ⟨rfl, below1 _ _⟩
    have b0 : (n == 0) = false := by simpa using a0
    have b1 : decide (0 < n) = false := by simpa using a1
    have e : rightI 6 n L = false := by simp [rightI, a0, a1]
    rw [e]
    go_enter Try.func34, Try.ntmps34
    go_wp2
    go_ret
    exact ⟨rfl, below1 _ _⟩
  have e : rightI k n L = false := by simp [rightI, *]
  rw [e]
  go_enter Try.func34, Try.ntmps34
  go_wp2
  go_ret
  exact ⟨rfl, below1 _ _⟩
end Go.Proofs.Ytikijkpklneihaa
