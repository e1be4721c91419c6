import Derived.Test.YtafchddhokaopaaDoorCYJ
namespace Go.Proofs.YtafchddhokaopaaDoor
open Go.RowKit
set_option linter.unusedVariables false
set_option linter.unusedSimpArgs false

set_option maxRecDepth 100000 in
set_option maxHeartbeats 1000000 in
theorem first_ex (w : World) (wb : Nat) (h : w.cell? ⟨wb, 7, none⟩ = some (.int .i64 0)) :
    Calls Tryd.prog 43 #[.pointer (some ⟨wb, 7, none⟩), .int .i64 0] w fun e w' => e = .returned (.int .u64 0) ∧ ∃ k, w' = w.drewN k := by
  go_enter Tryd.func43, Tryd.ntmps43
  go_wp2
  go_quiet (fail)
  go_wp2
  refine wp_loop_rounds 1 ?_
  rw [rounds_succ]
  go_wp2
  go_ret
  exact ⟨rfl, _, rfl⟩
set_option maxRecDepth 100000 in
set_option maxHeartbeats 1000000 in
theorem bitOf_0 (w : World) : Calls Tryd.prog 82 #[.int .i64 0] w fun e w' => e = .returned (.int .u64 1) ∧ w = w' := by
  go_enter Tryd.func82, Tryd.ntmps82
  go_wp2
  go_ret
  exact ⟨rfl, rfl⟩
set_option maxRecDepth 100000 in
set_option maxHeartbeats 1000000 in
theorem changed_0 (x : Value) (w : World) : Calls Tryd.prog 90 #[x, .int .u64 0, .int .i64 0, .int .i64 0, .int .u64 1] w fun e w' => e = .returned (.int .u64 1) ∧ w = w' := by
  have HB : Bx (∀ W, _) := ⟨fun W => bitOf_0 W⟩
  have o0 : bits BinOp.andNot IntKind.u64 0 1 = 0 := by kernel_rfl
  have o1 : bits BinOp.or IntKind.u64 0 1 = 1 := by kernel_rfl
  go_enter Tryd.func90, Tryd.ntmps90
  go_wp2_with (first
    | (go_at_call 82; refine (HB.out _).mono ?_; rintro e w1 ⟨rfl, rfl⟩))
  go_ret
  exact ⟨rfl, rfl⟩
set_option maxRecDepth 100000 in
set_option maxHeartbeats 1000000 in
theorem with_ex (w : World) (wb : Nat) (h : w.cell? ⟨wb, 7, none⟩ = some (.int .i64 0)) :
    Calls Tryd.prog 83 #[.pointer (some ⟨wb, 7, none⟩), .int .u64 0, .int .i64 0] w fun e w' => e = .returned (.int .u64 1) ∧ ∃ k, w' = w.drewN k := by
  have HB : Bx (∀ W, _) := ⟨fun W => bitOf_0 W⟩
  have HC : Bx (∀ W, _) := ⟨fun W => changed_0 (.pointer (some ⟨wb, 7, none⟩)) W⟩
  go_enter Tryd.func83, Tryd.ntmps83
  go_wp2
  go_region_with (first
    | (go_at_call 82; refine (HB.out _).mono ?_; rintro e w1 ⟨rfl, rfl⟩)
    | (go_at_call 90; refine (HC.out _).mono ?_; rintro e w1 ⟨rfl, rfl⟩))
  all_goals
    go_wp2
    go_ret
    exact ⟨rfl, _, rfl⟩
theorem kC_get : ∀ (K : List (Int × Int)) (i : Nat) (h : i < K.length), (kC K)[i * 2]? = some (.int .i64 K[i].1) ∧ (kC K)[i * 2 + 1]? = some (.int .u64 K[i].2)
  | p :: r, 0, _ => by simp [kC]
  | p :: r, i + 1, h => by
    have := kC_get r i (by simpa using h)
    simp only [kC, List.getElem?_toArray, List.flatMap_cons, List.getElem_cons_succ] at this ⊢
    have e : ∀ k, ([Value.int .i64 p.1, .int .u64 p.2] ++ List.flatMap (fun p => [Value.int .i64 p.1, .int .u64 p.2]) r)[2 + k]? = (List.flatMap (fun p => [Value.int .i64 p.1, .int .u64 p.2]) r)[k]? := fun k => by
      rw [List.getElem?_append_right (by simp)]
      simp
    rw [show (i + 1) * 2 = 2 + i * 2 by omega, show 2 + i * 2 + 1 = 2 + (i * 2 + 1) by omega, e, e]
    exact this
theorem kL_set : ∀ (K : List (Int × Int)) (i : Nat) (h : i < K.length) (a s : Int), ((K.flatMap fun p => [Value.int .i64 p.1, .int .u64 p.2]).set (i * 2) (.int .i64 a)).set (i * 2 + 1) (.int .u64 s) = (K.set i (a, s)).flatMap fun p => [Value.int .i64 p.1, .int .u64 p.2]
  | p :: r, 0, _, a, s => by simp
  | p :: r, i + 1, h, a, s => by
    have := kL_set r i (by simpa using h) a s
    rw [show (i + 1) * 2 = i * 2 + 1 + 1 by omega]
    simp only [List.flatMap_cons, List.set_cons_succ, List.cons_append, List.nil_append]
    rw [this]
theorem kC_set (K : List (Int × Int)) (i : Nat) (h : i < K.length) (a s : Int) : ((kC K).setIfInBounds (i * 2) (.int .i64 a)).setIfInBounds (i * 2 + 1) (.int .u64 s) = kC (K.set i (a, s)) := by
  unfold kC
  rw [← kL_set K i h a s]
  simp
end Go.Proofs.YtafchddhokaopaaDoor
