import Derived.Test.YtjfabholalnbeabCEWa
namespace Go.Proofs.Ytjfabholalnbeab
open Go.RowKit
set_option linter.unusedVariables false
set_option linter.unusedSimpArgs false

/-! ### a place among some -/
set_option maxRecDepth 100000 in
theorem among_any (w : World) (i : Int) (n : Nat) (hi : I64 i) (hn : 1 ≤ n) (hm : n ≤ 4611686018427387904) : Calls Try.prog 18 #[.int .i64 i, .int .i64 (n : Int)] w fun e w' => (∃ j : Nat, j < n ∧ e = .returned (.int .i64 (j : Int))) ∧ w' = w := by
  have h1 : (i.tmod n).natAbs < n := by
    rw [Int.natAbs_tmod]
    exact Nat.mod_lt _ (by simp only [Int.natAbs_natCast]; omega)
  obtain ⟨r, hr⟩ : ∃ r, i.tmod n = r := ⟨_, rfl⟩
  rw [hr] at h1
  have h0 : ¬ (n : Int) < 1 := by omega
  have h2 : (n : Int) ≠ 0 := by omega
  by_cases hneg : r < 0
  · go_enter Try.func18, Try.ntmps18
    go_wp2
    go_ret
    exact ⟨⟨(r + n).toNat, by omega, by rw [Int.toNat_of_nonneg (by omega)]; rfl⟩, rfl⟩
  · go_enter Try.func18, Try.ntmps18
    go_wp2
    go_ret
    exact ⟨⟨r.toNat, by omega, by rw [Int.toNat_of_nonneg (by omega)]; rfl⟩, rfl⟩
end Go.Proofs.Ytjfabholalnbeab
