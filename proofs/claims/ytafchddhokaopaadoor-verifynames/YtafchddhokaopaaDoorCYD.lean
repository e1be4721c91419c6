import Derived.Test.YtafchddhokaopaaDoorCYC
namespace Go.Proofs.YtafchddhokaopaaDoor
open Go.RowKit
set_option linter.unusedVariables false
set_option linter.unusedSimpArgs false

set_option maxRecDepth 100000 in
set_option maxHeartbeats 1000000 in
theorem within_yes (n m : Int) (h0 : 0 ≤ n) (h1 : n ≤ m) (w : World) : Calls Tryd.prog 50 #[.int .i64 n, .int .i64 m] w fun e w' => e = .returned (.bool true) ∧ w = w' := by
  go_enter Tryd.func50, Tryd.ntmps50
  go_wp2
  go_ret
  exact ⟨ret_bool (by simp [h0, h1]), rfl⟩
/-- the three instructions of the examples, with what their operations want of A -/
def Ex (op a v : Int) : Prop := (op = 1 ∧ a = 1 ∧ v = 1) ∨ (op = 5 ∧ a = 0 ∧ v = 12) ∨ (op = 25 ∧ a = 0 ∧ v = 0)
set_option maxRecDepth 100000 in
set_option maxHeartbeats 1000000 in
theorem fits_ex (j : Value) (v n : Int) (h : (v = 0 ∧ n = 0) ∨ (v = 1 ∧ n = 1) ∨ (v = 12 ∧ n = 0)) (w : World) : Calls Tryd.prog 72 #[j, .int .i64 v, .int .i64 n] w fun e w' => e = .returned (.bool true) ∧ w = w' := by
  rcases h with ⟨rfl, rfl⟩ | ⟨rfl, rfl⟩ | ⟨rfl, rfl⟩
  all_goals
    go_enter Tryd.func72, Tryd.ntmps72
    go_wp2
    go_ret
    exact ⟨rfl, rfl⟩
set_option maxRecDepth 100000 in
set_option maxHeartbeats 1000000 in
theorem fitsList_ex (w : World) : Calls Tryd.prog 73 #[.int .i64 0, .slice none 0 0] w fun e w' => e = .returned (.bool true) ∧ w = w' := by
  go_enter Tryd.func73, Tryd.ntmps73
  go_wp2
  go_ret
  exact ⟨rfl, rfl⟩
abbrev exV (op a : Int) : Value := .agg #[.int .i64 op, .int .i64 a, .int .i64 0, .slice none 0 0]
set_option maxRecDepth 100000 in
set_option maxHeartbeats 1000000 in
theorem isFormed_ex (j : Value) (op a v : Int) (h : Ex op a v) (w : World) : Calls Tryd.prog 51 #[j, .agg #[.int .i64 v, .int .i64 0, .int .i64 0], exV op a] w fun e w' => e = .returned (.bool true) ∧ Below w.heap.size w w' := by
  have H1 : Bx (∀ W, _) := ⟨fun W => fits_ex j v a (by rcases h with ⟨_, rfl, rfl⟩ | ⟨_, rfl, rfl⟩ | ⟨_, rfl, rfl⟩ <;> simp) W⟩
  have H0 : Bx (∀ W, _) := ⟨fun W => fits_ex j 0 0 (.inl ⟨rfl, rfl⟩) W⟩
  have HL : Bx (∀ W, _) := ⟨fun W => fitsList_ex W⟩
  have hb : Bx (∀ o1 o2, Below w.heap.size w ((w.alloc o1).alloc o2)) := ⟨fun o1 o2 => (below1 w o1).alloc (by simp) o2⟩
  go_enter Tryd.func51, Tryd.ntmps51
  go_wp2_with (first
    | (go_at_call 72; refine (H1.out _).mono ?_; rintro e w1 ⟨rfl, rfl⟩; clear H1)
    | (go_at_call 73; refine (HL.out _).mono ?_; rintro e w2 ⟨rfl, rfl⟩)
    | (go_at_call 72; refine (H0.out _).mono ?_; rintro e w1 ⟨rfl, rfl⟩))
  go_ret
  exact ⟨rfl, hb.out _ _⟩
set_option maxRecDepth 100000 in
set_option maxHeartbeats 1000000 in
theorem hasSlot_ex (w : World) (jb : Nat) (v a : Int) (h : (v = 0 ∧ a = 0) ∨ (v = 1 ∧ a = 1) ∨ (v = 12 ∧ a = 0)) (hj : w.cell? ⟨jb, 3, none⟩ = some (.int .i64 1)) : Calls Tryd.prog 52 #[.pointer (some ⟨jb, 0, none⟩), .int .i64 v, .int .i64 a] w fun e w' => e = .returned (.bool true) ∧ w = w' := by
  have HW : Bx (∀ W, _) := ⟨fun W => within_yes 0 0 (by omega) (by omega) W⟩
  rcases h with ⟨rfl, rfl⟩ | ⟨rfl, rfl⟩ | ⟨rfl, rfl⟩
  all_goals
    go_enter Tryd.func52, Tryd.ntmps52
    go_wp2_with (first
      | (go_at_call 50; refine (HW.out _).mono ?_; rintro e w1 ⟨rfl, rfl⟩))
    go_ret
    exact ⟨rfl, rfl⟩
set_option maxRecDepth 100000 in
set_option maxHeartbeats 1000000 in
theorem hasTargets_ex (j : Value) (op a v at_ : Int) (h : Ex op a v) (w : World) : Calls Tryd.prog 53 #[j, .agg #[.int .i64 v, .int .i64 0, .int .i64 0], .int .i64 at_, exV op a] w fun e w' => e = .returned (.bool true) ∧ Below w.heap.size w w' := by
  have hb : Bx (∀ o1 o2, Below w.heap.size w ((w.alloc o1).alloc o2)) := ⟨fun o1 o2 => (below1 w o1).alloc (by simp) o2⟩
  rcases h with ⟨rfl, rfl, rfl⟩ | ⟨rfl, rfl, rfl⟩ | ⟨rfl, rfl, rfl⟩
  all_goals
    go_enter Tryd.func53, Tryd.ntmps53
    go_wp2
    go_ret
    exact ⟨rfl, hb.out _ _⟩
end Go.Proofs.YtafchddhokaopaaDoor
