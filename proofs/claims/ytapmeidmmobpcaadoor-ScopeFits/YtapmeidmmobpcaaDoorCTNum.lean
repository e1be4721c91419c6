import Derived.Test.YtapmeidmmobpcaaDoorCTLv
namespace Go.Proofs.YtapmeidmmobpcaaDoor
open Go.RowKit
set_option linter.unusedVariables false
set_option linter.unusedSimpArgs false

theorem below2 (w w1 : World) (o : Obj) (h : Below (w.alloc o).heap.size (w.alloc o) w1) : Below w.heap.size w w1 := (below1 w o).trans (h.mono (by simp))

set_option maxHeartbeats 1000000 in
theorem numFits_any (ka : Option Addr) (kc : Nat) (n : Nd) (w : World) : Calls Tryd.prog 35 #[ndV ka kc n] w fun e w' => e = .returned (.bool (numFitsI n.kind n.num n.kids.length)) ∧ Below w.heap.size w w' := by
  obtain ⟨k, p, ks, nm, num⟩ := n
  unfold ndV
  simp only
  have HL : Bx (∀ w, Calls Tryd.prog 49 #[.agg #[.int .i64 k, .int .i64 p, .slice ka ks.length kc, .string nm, .int .i64 num]] w fun e w' => e = .returned (.int .i64 (levelI k num)) ∧ Below w.heap.size w w') := ⟨fun w => Level_any ka kc ⟨k, p, ks, nm, num⟩ w⟩
  go_enter Tryd.func35, Tryd.ntmps35
  go_wp2_with (first | (go_at_call 49; refine Calls.mono (HL.out _) ?_; rintro e w1 ⟨rfl, hb1⟩))
  all_goals
    go_ret
    refine ⟨ret_bool ?_, by first | exact below1 _ _ | exact below2 _ _ _ hb1⟩
    clear HL
    unfold numFitsI
    simp at *
    (repeat' split) <;> first | rfl | omega | (simp_all; done) | (simp_all; omega)
def wbbI (lv pl : Int) : Int := if pl = 0 ∧ lv ≠ 3 then lv else lv + 1
set_option maxHeartbeats 1000000 in
theorem wantedByBin_any (lv pl : Int) (w : World) (h : 0 ≤ lv) (h' : lv ≤ 8) : Calls Tryd.prog 63 #[.int .i64 lv, .int .i64 pl] w fun e w' => e = .returned (.int .i64 (wbbI lv pl)) ∧ w = w' := by
  go_enter Tryd.func63, Tryd.ntmps63
  go_wp2
  all_goals
    go_ret
    refine ⟨ret_int ?_, rfl⟩
    unfold wbbI
    simp at *
    (repeat' split) <;> omega
set_option maxHeartbeats 1000000 in
theorem wanted_any (ka : Option Addr) (kc : Nat) (n : Nd) (pl : Nat) (hp : pl ≤ maxLen) (w : World) : Calls Tryd.prog 57 #[ndV ka kc n, .int .i64 pl] w fun e w' => e = .returned (.int .i64 (wantedI n.kind n.num pl)) ∧ Below w.heap.size w w' := by
  obtain ⟨k, p, ks, nm, num⟩ := n
  unfold ndV
  simp only
  have HL : Bx (∀ w, Calls Tryd.prog 49 #[.agg #[.int .i64 k, .int .i64 p, .slice ka ks.length kc, .string nm, .int .i64 num]] w fun e w' => e = .returned (.int .i64 (levelI k num)) ∧ Below w.heap.size w w') := ⟨fun w => Level_any ka kc ⟨k, p, ks, nm, num⟩ w⟩
  have hle := levelI_le k num
  go_enter Tryd.func57, Tryd.ntmps57
  go_wp2_with (first | (go_at_call 49; refine Calls.mono (HL.out _) ?_; rintro e w1 ⟨rfl, hb1⟩) | (go_at_call 63; refine (wantedByBin_any _ _ _ hle.1 hle.2).mono ?_; rintro e w' ⟨rfl, rfl⟩))
  all_goals
    go_ret
    refine ⟨ret_int ?_, by first | exact below1 _ _ | exact below2 _ _ _ hb1⟩
    clear HL
    unfold wantedI
    try unfold wbbI
    simp at *
    (repeat' split) <;> first | rfl | omega | (simp_all; done) | (simp_all; omega)
/-- an operator's token -/
def opT (op : Int) : List UInt8 :=
  if op = 1 ∨ op = 32 then [45] else if op = 2 then [33] else if op = 3 then [60, 45] else if op = 11 then [124, 124] else if op = 12 then [38, 38] else if op = 21 then [61, 61] else if op = 22 then [33, 61] else if op = 23 then [60]
  else if op = 24 then [60, 61] else if op = 25 then [62] else if op = 26 then [62, 61] else if op = 31 then [43] else if op = 41 then [42] else if op = 42 then [47] else [37]
end Go.Proofs.YtapmeidmmobpcaaDoor
