import Derived.Test.YtijdcplffmdijaaDoorCDEc
namespace Go.Proofs.YtijdcplffmdijaaDoor
open Go.RowKit
set_option linter.unusedVariables false
set_option linter.unusedSimpArgs false

/-- what was counted, and so many more: just above the bound where that is passed -/
def moreN (n k : Nat) : Nat := if 2147483647 < n + k then 2147483648 else n + k
def manyN (n : Nat) : Nat := if 102261126 < n then 2147483648 else n * 21
set_option maxRecDepth 100000 in
set_option maxHeartbeats 1000000 in
theorem more_any (w : World) (n k : Nat) (hn : n ≤ 2147483648) (hk : k ≤ 2147483648) : Calls Tryd.prog 35 #[.int .i64 n, .int .i64 k] w fun e w' => e = .returned (.int .i64 (moreN n k : Nat)) ∧ w = w' := by
  unfold moreN
  by_cases h1 : 2147483647 < n
  · rw [if_pos (by omega)]
    have g1 : (2147483647 : Int) < ↑n := by omega
    go_enter Tryd.func35, Tryd.ntmps35
    go_wp2
    go_ret
    exact ⟨rfl, rfl⟩
  · have g1 : ¬ (2147483647 : Int) < ↑n := by omega
    by_cases h2 : 2147483647 < n + k
    · rw [if_pos h2]
      have g2 : (2147483647 : Int) - ↑n < ↑k := by omega
      go_enter Tryd.func35, Tryd.ntmps35
      go_wp2
      go_ret
      exact ⟨rfl, rfl⟩
    · rw [if_neg h2]
      have g2 : ¬ (2147483647 : Int) - ↑n < ↑k := by omega
      go_enter Tryd.func35, Tryd.ntmps35
      go_wp2
      go_ret
      exact ⟨ret_int (by omega), rfl⟩
set_option maxRecDepth 100000 in
set_option maxHeartbeats 1000000 in
theorem many_any (w : World) (n : Nat) (hn : n ≤ 9223372036854775807) : Calls Tryd.prog 36 #[.int .i64 n] w fun e w' => e = .returned (.int .i64 (manyN n : Nat)) ∧ w = w' := by
  unfold manyN
  by_cases h1 : 102261126 < n
  · rw [if_pos h1]
    have g1 : (102261126 : Int) < ↑n := by omega
    go_enter Tryd.func36, Tryd.ntmps36
    go_wp2
    go_ret
    exact ⟨rfl, rfl⟩
  · rw [if_neg h1]
    have g1 : ¬ (102261126 : Int) < ↑n := by omega
    go_enter Tryd.func36, Tryd.ntmps36
    go_wp2
    go_ret
    exact ⟨ret_int (by omega), rfl⟩
end Go.Proofs.YtijdcplffmdijaaDoor
namespace Go.Proofs.YtijdcplffmdijaaDoor
open Go.RowKit
set_option linter.unusedVariables false
set_option linter.unusedSimpArgs false

def tS (t : CTy) : Nat := 40 + 21 * t.kids.length
def iS (i : CIn) : Nat := 60 + 21 * i.list.length
def pS (p : CPg) : Nat := 100 + sumF iS p.code
def unS (u : CUn) : Nat := sumF tS u.types + sumF pS u.progs
theorem moreN_le {n k : Nat} : moreN n k ≤ 2147483648 := by unfold moreN; split <;> omega
theorem manyN_le {n : Nat} : manyN n ≤ 2147483648 := by unfold manyN; split <;> omega
theorem moreN_is {n k : Nat} (h : moreN n k ≤ 2147483647) : moreN n k = n + k ∧ n + k ≤ 2147483647 := by unfold moreN at *; split at h <;> (rename_i g; first | omega | (rw [if_neg g]; omega))
theorem manyN_is {n : Nat} (h : manyN n ≤ 2147483647) : manyN n = 21 * n := by unfold manyN at *; split at h <;> (rename_i g; first | omega | (rw [if_neg g]; omega))
theorem sumF_succ {α : Type} (f : α → Nat) : ∀ (l : List α) (k : Nat) (h : k < l.length), sumF f (l.take (k + 1)) = sumF f (l.take k) + f l[k]
  | x :: r, 0, _ => by simp [sumF]
  | x :: r, k + 1, h => by
    have := sumF_succ f r k (by simpa using h)
    simp only [List.take_succ_cons, sumF, List.getElem_cons_succ, this]
    omega
/-- counted so far: right, or just above the bound -/
def Ct (m s : Nat) : Prop := m ≤ 2147483648 ∧ (m ≤ 2147483647 → m = s)
theorem Ct.add {m s k c : Nat} (h : Ct m s) (hc : moreN (moreN m k) (manyN c) ≤ 2147483648) : Ct (moreN (moreN m k) (manyN c)) (s + (k + 21 * c)) := by
  refine ⟨hc, fun hl => ?_⟩
  obtain ⟨e1, l1⟩ := moreN_is hl
  obtain ⟨e2, l2⟩ := moreN_is (n := m) (k := k) (by omega)
  have e3 := manyN_is (n := c) (by omega)
  have := h.2 (by omega)
  omega
theorem Ct.one {m s k : Nat} (h : Ct m s) : Ct (moreN m k) (s + k) := by
  refine ⟨moreN_le, fun hl => ?_⟩
  obtain ⟨e1, l1⟩ := moreN_is hl
  have := h.2 (by omega)
  omega
end Go.Proofs.YtijdcplffmdijaaDoor
