import Derived.Test.YtapmeidmmobpcaaDoorCTPlain
import Derived.Test.YtapmeidmmobpcaaDoorCLeaf
namespace Go.Proofs.YtapmeidmmobpcaaDoor
open Go.RowKit
set_option linter.unusedVariables false
set_option linter.unusedSimpArgs false

structure Bx (p : Prop) : Prop where
  out : p
theorem ret_bool {a b : Bool} (h : a = b) : Ending.returned (.bool a) = .returned (.bool b) := by rw [h]
theorem below1 (w : World) (o : Obj) : Below w.heap.size w (w.alloc o) := (Below.refl _ _).alloc (Nat.le_refl _) _

/-- a node as a value: where its kids lie, and their capacity -/
def ndV (ka : Option Addr) (kc : Nat) (n : Nd) : Value := .agg #[.int .i64 n.kind, .int .i64 n.pos, .slice ka n.kids.length kc, .string n.name, .int .i64 n.num]

theorem isType_any (k : Int) (w : World) : Calls Tryd.prog 46 #[.int .i64 k] w fun e w' => e = .returned (.bool (typI k)) ∧ w = w' := by
  unfold typI
  cases h1 : decide (1 ≤ k) <;>
    (go_enter Tryd.func46, Tryd.ntmps46
     go_wp2
     go_ret
     exact ⟨by simp, rfl⟩)
theorem isExpr_any (k : Int) (w : World) : Calls Tryd.prog 47 #[.int .i64 k] w fun e w' => e = .returned (.bool (exprI k)) ∧ w = w' := by
  unfold exprI
  cases h1 : decide (11 ≤ k) <;>
    (go_enter Tryd.func47, Tryd.ntmps47
     go_wp2
     go_ret
     exact ⟨by simp, rfl⟩)
theorem isStatement_any (k : Int) (w : World) : Calls Tryd.prog 48 #[.int .i64 k] w fun e w' => e = .returned (.bool (statI k)) ∧ w = w' := by
  unfold statI
  cases h1 : decide (31 ≤ k) <;>
    (go_enter Tryd.func48, Tryd.ntmps48
     go_wp2
     go_ret
     exact ⟨by simp, rfl⟩)
theorem isKind_any (k : Int) (w : World) : Calls Tryd.prog 34 #[.int .i64 k] w fun e w' => e = .returned (.bool (kindI k)) ∧ w = w' := by
  unfold kindI
  cases h1 : typI k <;> cases h2 : exprI k <;> cases h3 : statI k <;> cases h4 : decide (42 ≤ k) <;>
    (go_enter Tryd.func34, Tryd.ntmps34
     go_wp2_with (first | (go_at_call 46; refine (isType_any _ _).mono ?_; rintro e w' ⟨rfl, rfl⟩) | (go_at_call 47; refine (isExpr_any _ _).mono ?_; rintro e w' ⟨rfl, rfl⟩) | (go_at_call 48; refine (isStatement_any _ _).mono ?_; rintro e w' ⟨rfl, rfl⟩))
     go_ret
     exact ⟨by simp, rfl⟩)
theorem isArm_any (k : Int) (w : World) : Calls Tryd.prog 56 #[.int .i64 k] w fun e w' => e = .returned (.bool (armI k)) ∧ w = w' := by
  unfold armI
  cases h1 : (k == 43) <;>
    (go_enter Tryd.func56, Tryd.ntmps56
     go_wp2
     go_ret
     exact ⟨by simp, rfl⟩)
theorem isElse_any (k : Int) (w : World) : Calls Tryd.prog 55 #[.int .i64 k] w fun e w' => e = .returned (.bool (elseI k)) ∧ w = w' := by
  unfold elseI
  cases h1 : (k == 41) <;>
    (go_enter Tryd.func55, Tryd.ntmps55
     go_wp2
     go_ret
     exact ⟨by simp, rfl⟩)

set_option maxHeartbeats 1000000 in
theorem binLevel_any (op : Int) (w : World) : Calls Tryd.prog 60 #[.int .i64 op] w fun e w' => e = .returned (.int .i64 (binLevelI op)) ∧ w = w' := by
  go_enter Tryd.func60, Tryd.ntmps60
  go_wp2
  all_goals
    go_ret
    refine ⟨ret_int ?_, rfl⟩
    simp at *
    unfold binLevelI
    (repeat' split) <;> omega

set_option maxHeartbeats 1000000 in
theorem Level_any (ka : Option Addr) (kc : Nat) (n : Nd) (w : World) : Calls Tryd.prog 49 #[ndV ka kc n] w fun e w' => e = .returned (.int .i64 (levelI n.kind n.num)) ∧ Below w.heap.size w w' := by
  obtain ⟨k, p, ks, nm, num⟩ := n
  unfold ndV
  simp only
  have hx : ∀ j, exprI j = (decide (11 ≤ j) && decide (j ≤ 25)) := fun _ => rfl
  go_enter Tryd.func49, Tryd.ntmps49
  go_wp2_with (first | (go_at_call 60; refine (binLevel_any _ _).mono ?_; rintro e w' ⟨rfl, rfl⟩) | (go_at_call 47; refine (isExpr_any _ _).mono ?_; rintro e w' ⟨rfl, rfl⟩))
  all_goals
    go_ret
    refine ⟨ret_int ?_, below1 _ _⟩
    unfold levelI exprI at *
    simp at *
    (repeat' split) <;> first | rfl | omega
end Go.Proofs.YtapmeidmmobpcaaDoor
