import Derived.Test.YtjjbgbadkbomlaaDoorCTPlain
import Derived.Test.YtjjbgbadkbomlaaDoorCLeaf
namespace Go.Proofs.YtjjbgbadkbomlaaDoor
open Go.RowKit
set_option linter.unusedVariables false
set_option linter.unusedSimpArgs false

structure Bx (p : Prop) : Prop where
  out : p
theorem ret_bool {a b : Bool} (h : a = b) : Ending.returned (.bool a) = .returned (.bool b) := by rw [h]
theorem below1 (w : World) (o : Obj) : Below w.heap.size w (w.alloc o) := (Below.refl _ _).alloc (Nat.le_refl _) _

/-- a node as a value: where its kids lie, and their capacity -/
def ndV (ka : Option Addr) (kc : Nat) (n : Nd) : Value := .agg #[.int .i64 n.kind, .int .i64 n.pos, .slice ka n.kids.length kc, .string n.name, .int .i64 n.num]

theorem isType_any (k : Int) (w : World) : Calls Tryd.prog 46 #[.int .i64 k] w fun e w' => e = .returned (.bool (typI k)) ∧ w = w' := by
  unfold typI
  cases h1 : decide (1 ≤ k) <;>
    (go_enter Tryd.func46, Tryd.ntmps46
     go_wp2
     go_ret
     exact ⟨by simp, rfl⟩)
theorem isExpr_any (k : Int) (w : World) : Calls Tryd.prog 47 #[.int .i64 k] w fun e w' => e = .returned (.bool (exprI k)) ∧ w = w' := by
  unfold exprI
  cases h1 : decide (11 ≤ k) <;>
    (go_enter Tryd.func47, Tryd.ntmps47
     go_wp2
     go_ret
     exact ⟨by simp, rfl⟩)
theorem isStatement_any (k : Int) (w : World) : Calls Tryd.prog 48 #[.int .i64 k] w fun e w' => e = .returned (.bool (statI k)) ∧ w = w' := by
  unfold statI
  cases h1 : decide (31 ≤ k) <;>
    (go_enter Tryd.func48, Tryd.ntmps48
     go_wp2
     go_ret
     exact ⟨by simp, rfl⟩)
theorem isKind_any (k : Int) (w : World) : Calls Tryd.prog 34 #[.int .i64 k] w fun e w' => e = .returned (.bool (kindI k)) ∧ w = w' := by
  unfold kindI
  cases h1 : typI k <;> cases h2 : exprI k <;> cases h3 : statI k <;> cases h4 : decide (42 ≤ k) <;>
    (go_enter Tryd.func34, Tryd.ntmps34
     go_wp2_with (first | (go_at_call 46; refine (isType_any _ _).mono ?_; rintro e w' ⟨rfl, rfl⟩) | (go_at_call 47; refine (isExpr_any _ _).mono ?_; rintro e w' ⟨rfl, rfl⟩) | (go_at_call 48; refine (isStatement_any _ _).mono ?_; rintro e w' ⟨rfl, rfl⟩))
     go_ret
     exact ⟨by simp, rfl⟩)
theorem isArm_any (k : Int) (w : World) : Calls Tryd.prog 56 #[.int .i64 k] w fun e w' => e = .returned (.bool (armI k)) ∧ w = w' := by
  unfold armI
  cases h1 : (k == 43) <;>
    (go_enter Tryd.func56, Tryd.ntmps56
     go_wp2
     go_ret
     exact ⟨by simp, rfl⟩)
theorem isElse_any (k : Int) (w : World) : Calls Tryd.prog 55 #[.int .i64 k] w fun e w' => e = .returned (.bool (elseI k)) ∧ w = w' := by
  unfold elseI
  cases h1 : (k == 41) <;>
    (go_enter Tryd.func55, Tryd.ntmps55
     go_wp2
     go_ret
     exact ⟨by simp, rfl⟩)

set_option maxHeartbeats 1000000 in
theorem binLevel_any (op : Int) (w : World) : Calls Tryd.prog 60 #[.int .i64 op] w fun e w' => e = .returned (.int .i64 (binLevelI op)) ∧ w = w' := by
  go_enter Tryd.func60, Tryd.ntmps60
  go_wp2
  all_goals
    go_ret
    refine ⟨ret_int ?_, rfl⟩
    simp at *
    unfold binLevelI
    (repeat' split) <;> omega

set_option maxHeartbeats 1000000 in
theorem Level_any (ka : Option Addr) (kc : Nat) (n : Nd) (w : World) : Calls Tryd.prog 49 #[ndV ka kc n] w fun e w' => e = .returned (.int .i64 (levelI n.kind n.num)) ∧ Below w.heap.size w w' := by
  obtain ⟨k, p, ks, nm, num⟩ := n
  unfold ndV
  simp only
  have hx : ∀ j, exprI j = (decide (11 ≤ j) && decide (j ≤ 25)) := fun _ => rfl
  go_enter Tryd.func49, Tryd.ntmps49
  go_wp2_with (first | (go_at_call 60; refine (binLevel_any _ _).mono ?_; rintro e w' ⟨rfl, rfl⟩) | (go_at_call 47; refine (isExpr_any _ _).mono ?_; rintro e w' ⟨rfl, rfl⟩))
  all_goals
    go_ret
    refine ⟨ret_int ?_, below1 _ _⟩
    unfold levelI exprI at *
    simp at *
    (repeat' split) <;> first | rfl | omega
end Go.Proofs.YtjjbgbadkbomlaaDoor
namespace Go.Proofs.YtjjbgbadkbomlaaDoor
open Go.RowKit
set_option linter.unusedVariables false
set_option linter.unusedSimpArgs false

theorem below2 (w w1 : World) (o : Obj) (h : Below (w.alloc o).heap.size (w.alloc o) w1) : Below w.heap.size w w1 := (below1 w o).trans (h.mono (by simp))

set_option maxHeartbeats 1000000 in
theorem numFits_any (ka : Option Addr) (kc : Nat) (n : Nd) (w : World) : Calls Tryd.prog 35 #[ndV ka kc n] w fun e w' => e = .returned (.bool (numFitsI n.kind n.num n.kids.length)) ∧ Below w.heap.size w w' := by
  obtain ⟨k, p, ks, nm, num⟩ := n
  unfold ndV
  simp only
  have HL : Bx (∀ w, Calls Tryd.prog 49 #[.agg #[.int .i64 k, .int .i64 p, .slice ka ks.length kc, .string nm, .int .i64 num]] w fun e w' => e = .returned (.int .i64 (levelI k num)) ∧ Below w.heap.size w w') := ⟨fun w => Level_any ka kc ⟨k, p, ks, nm, num⟩ w⟩
  go_enter Tryd.func35, Tryd.ntmps35
  go_wp2_with (first | (go_at_call 49; refine Calls.mono (HL.out _) ?_; rintro e w1 ⟨rfl, hb1⟩))
  all_goals
    go_ret
    refine ⟨ret_bool ?_, by first | exact below1 _ _ | exact below2 _ _ _ hb1⟩
    clear HL
    unfold numFitsI
    simp at *
    (repeat' split) <;> first | rfl | omega | (simp_all; done) | (simp_all; omega)
def wbbI (lv pl : Int) : Int := if pl = 0 ∧ lv ≠ 3 then lv else lv + 1
set_option maxHeartbeats 1000000 in
theorem wantedByBin_any (lv pl : Int) (w : World) (h : 0 ≤ lv) (h' : lv ≤ 8) : Calls Tryd.prog 63 #[.int .i64 lv, .int .i64 pl] w fun e w' => e = .returned (.int .i64 (wbbI lv pl)) ∧ w = w' := by
  go_enter Tryd.func63, Tryd.ntmps63
  go_wp2
  all_goals
    go_ret
    refine ⟨ret_int ?_, rfl⟩
    unfold wbbI
    simp at *
    (repeat' split) <;> omega
set_option maxHeartbeats 1000000 in
theorem wanted_any (ka : Option Addr) (kc : Nat) (n : Nd) (pl : Nat) (hp : pl ≤ maxLen) (w : World) : Calls Tryd.prog 57 #[ndV ka kc n, .int .i64 pl] w fun e w' => e = .returned (.int .i64 (wantedI n.kind n.num pl)) ∧ Below w.heap.size w w' := by
  obtain ⟨k, p, ks, nm, num⟩ := n
  unfold ndV
  simp only
  have HL : Bx (∀ w, Calls Tryd.prog 49 #[.agg #[.int .i64 k, .int .i64 p, .slice ka ks.length kc, .string nm, .int .i64 num]] w fun e w' => e = .returned (.int .i64 (levelI k num)) ∧ Below w.heap.size w w') := ⟨fun w => Level_any ka kc ⟨k, p, ks, nm, num⟩ w⟩
  have hle := levelI_le k num
  go_enter Tryd.func57, Tryd.ntmps57
  go_wp2_with (first | (go_at_call 49; refine Calls.mono (HL.out _) ?_; rintro e w1 ⟨rfl, hb1⟩) | (go_at_call 63; refine (wantedByBin_any _ _ _ hle.1 hle.2).mono ?_; rintro e w' ⟨rfl, rfl⟩))
  all_goals
    go_ret
    refine ⟨ret_int ?_, by first | exact below1 _ _ | exact below2 _ _ _ hb1⟩
    clear HL
    unfold wantedI
    try unfold wbbI
    simp at *
    (repeat' split) <;> first | rfl | omega | (simp_all; done) | (simp_all; omega)
/-- an operator's token -/
def opT (op : Int) : List UInt8 :=
  if op = 1 ∨ op = 32 then [45] else if op = 2 then [33] else if op = 3 then [60, 45] else if op = 11 then [124, 124] else if op = 12 then [38, 38] else if op = 21 then [61, 61] else if op = 22 then [33, 61] else if op = 23 then [60]
  else if op = 24 then [60, 61] else if op = 25 then [62] else if op = 26 then [62, 61] else if op = 31 then [43] else if op = 41 then [42] else if op = 42 then [47] else [37]
end Go.Proofs.YtjjbgbadkbomlaaDoor
