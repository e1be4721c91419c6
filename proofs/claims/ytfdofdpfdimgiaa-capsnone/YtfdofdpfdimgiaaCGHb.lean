import Derived.Test.YtfdofdpfdimgiaaCGM
namespace Go.Proofs.Ytfdofdpfdimgiaa
open Go.RowKit
set_option linter.unusedVariables false
set_option linter.unusedSimpArgs false

/-! ### what is counted -/
def totA : List Ag → Nat
  | [] => 0
  | a :: r => a.arms.length + a.held.length + 1 + totA r
theorem totA_app (l m : List Ag) : totA (l ++ m) = totA l + totA m := by
  induction l with
  | nil => simp [totA]
  | cons a r ih => rw [List.cons_append, totA, totA, ih]; omega
theorem totA_take (l : List Ag) (i : Nat) (h : i < l.length) : totA (l.take (i + 1)) = totA (l.take i) + (l[i].arms.length + l[i].held.length + 1) := by
  rw [List.take_succ_eq_append_getElem h, totA_app]
  simp [totA]
structure CapN (x : Int) (t : Nat) : Prop where
  lo : (t : Int) ≤ 2147483647 → x = t
  hi : 2147483647 < (t : Int) → x = 2147483648
def moreN (n k : Int) : Int := if n + k ≤ 2147483647 then n + k else 2147483648
theorem moreN_r {n k : Int} (h : 0 ≤ n) (h' : 0 ≤ k) : 0 ≤ moreN n k ∧ moreN n k ≤ 2147483648 := by unfold moreN; split <;> omega
theorem CapN.more {x : Int} {t k : Nat} (h : CapN x t) : CapN (moreN x k) (t + k) := by
  obtain ⟨h1, h2⟩ := h
  unfold moreN
  constructor
  · intro h
    rw [h1 (by omega), if_pos (by omega)]
    omega
  · intro h
    by_cases ht : (t : Int) ≤ 2147483647
    · rw [h1 ht, if_neg (by omega)]
    · rw [h2 (by omega), if_neg (by omega)]
set_option maxRecDepth 100000 in
theorem more_any (w : World) (n k : Int) (h0 : 0 ≤ n) (hn : n ≤ 2147483648) (k0 : 0 ≤ k) (hk : k ≤ 9223372036854775807) :
    Calls Try.prog 39 #[.int .i64 n, .int .i64 k] w fun e w' => e = .returned (.int .i64 (moreN n k)) ∧ w' = w := by
  by_cases h1 : n ≤ 2147483647
  · by_cases h2 : n + k ≤ 2147483647
    · have HE : Bx (moreN n k = n + k) := ⟨if_pos h2⟩
      go_enter Try.func39, Try.ntmps39
      go_wp2
      go_ret
      exact ⟨by rw [HE.out]; rfl, rfl⟩
    · have HE : Bx (moreN n k = 2147483648) := ⟨if_neg h2⟩
      go_enter Try.func39, Try.ntmps39
      go_wp2
      go_ret
      exact ⟨by rw [HE.out]; rfl, rfl⟩
  · have HE : Bx (moreN n k = 2147483648) := ⟨if_neg (by omega)⟩
    go_enter Try.func39, Try.ntmps39
    go_wp2
    go_ret
    exact ⟨by rw [HE.out]; rfl, rfl⟩
end Go.Proofs.Ytfdofdpfdimgiaa
