import Derived.Test.YtijdcplffmdijaaDoorCDEc
namespace Go.Proofs.YtijdcplffmdijaaDoor
open Go.RowKit
set_option linter.unusedVariables false
set_option linter.unusedSimpArgs false

/-- what was counted, and so many more: just above the bound where that is passed -/
def moreN (n k : Nat) : Nat := if 2147483647 < n + k then 2147483648 else n + k
def manyN (n : Nat) : Nat := if 102261126 < n then 2147483648 else n * 21
set_option maxRecDepth 100000 in
set_option maxHeartbeats 1000000 in
theorem more_any (w : World) (n k : Nat) (hn : n ≤ 2147483648) (hk : k ≤ 2147483648) : Calls Tryd.prog 35 #[.int .i64 n, .int .i64 k] w fun e w' => e = .returned (.int .i64 (moreN n k : Nat)) ∧ w = w' := by
  unfold moreN
  by_cases h1 : 2147483647 < n
  · rw [if_pos (by omega)]
    have g1 : (2147483647 : Int) < ↑n := by omega
    go_enter Tryd.func35, Tryd.ntmps35
    go_wp2
    go_ret
    exact ⟨rfl, rfl⟩
  · have g1 : ¬ (2147483647 : Int) < ↑n := by omega
    by_cases h2 : 2147483647 < n + k
    · rw [if_pos h2]
      have g2 : (2147483647 : Int) - ↑n < ↑k := by omega
      go_enter Tryd.func35, Tryd.ntmps35
      go_wp2
      go_ret
      exact ⟨rfl, rfl⟩
    · rw [if_neg h2]
      have g2 : ¬ (2147483647 : Int) - ↑n < ↑k := by omega
      go_enter Tryd.func35, Tryd.ntmps35
      go_wp2
      go_ret
      exact ⟨ret_int (by omega), rfl⟩
set_option maxRecDepth 100000 in
set_option maxHeartbeats 1000000 in
theorem many_any (w : World) (n : Nat) (hn : n ≤ 9223372036854775807) : Calls Tryd.prog 36 #[.int .i64 n] w fun e w' => e = .returned (.int .i64 (manyN n : Nat)) ∧ w = w' := by
  unfold manyN
  by_cases h1 : 102261126 < n
  · rw [if_pos h1]
    have g1 : (102261126 : Int) < ↑n := by omega
    go_enter Tryd.func36, Tryd.ntmps36
    go_wp2
    go_ret
    exact ⟨rfl, rfl⟩
  · rw [if_neg h1]
    have g1 : ¬ (102261126 : Int) < ↑n := by omega
    go_enter Tryd.func36, Tryd.ntmps36
    go_wp2
    go_ret
    exact ⟨ret_int (by omega), rfl⟩
end Go.Proofs.YtijdcplffmdijaaDoor
