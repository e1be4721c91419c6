import Derived.Test.YtikijkpklneihaaCVP
import Derived.Test.YtikijkpklneihaaChecked
import Derived.WalkKit
import Derived.WalkSpells
import Derived.WalkLawsBesides
import Derived.Deep.QuietTactic
import Derived.Deep.LoopGhost
namespace Go.Proofs.Ytikijkpklneihaa
open Go.RowKit
set_option linter.unusedVariables false
set_option linter.unusedSimpArgs false

structure Bx (p : Prop) : Prop where
  out : p
theorem below1 (w : World) (o : Obj) : Below w.heap.size w (w.alloc o) := (Below.refl _ _).alloc (Nat.le_refl _) _
/-- a value without a list -/
abbrev pv (k n : Int) : Value := .agg #[.int .i64 k, .int .i64 n, .slice none 0 0]
/-- a value and a trap -/
abbrev two (k n t : Int) : Value := .tuple #[pv k n, .int .i64 t]

def tn (b : Bool) : Int := if b then 1 else 0
/-- what the operators of all make -/
def alikeI (op a b : Int) : Int × Int × Int :=
  if op = 21 then (2, tn (a == b), 0) else if op = 22 then (2, tn (a != b), 0) else (0, 0, 5)
/-- what the operators of numbers make -/
def numI (op a b : Int) : Int × Int × Int :=
  if op = 31 then (1, wrap64 (a + b), 0) else if op = 32 then (1, wrap64 (a - b), 0) else if op = 41 then (1, wrap64 (a * b), 0)
  else if op = 42 then (if b = 0 then (0, 0, 1) else (1, wrap64 (a.tdiv b), 0)) else if op = 43 then (if b = 0 then (0, 0, 1) else (1, a.tmod b, 0))
  else if op = 23 then (2, tn (decide (a < b)), 0) else if op = 24 then (2, tn (decide (a ≤ b)), 0) else if op = 25 then (2, tn (decide (b < a)), 0) else if op = 26 then (2, tn (decide (b ≤ a)), 0)
  else alikeI op a b
def binI (op ka a kb b : Int) : Int × Int × Int :=
  if ka ≠ kb then (0, 0, 5) else if ka = 1 then numI op a b else if ka = 2 ∨ ka = 5 then alikeI op a b else (0, 0, 5)
def unI (op k a : Int) : Int × Int × Int :=
  if op = 1 ∧ k = 1 then (1, wrap64 (-a), 0) else if op = 2 ∧ k = 2 then (2, tn (a == 0), 0) else (0, 0, 5)
/-- the answer of an operator -/
abbrev ans (r : Int × Int × Int) : Value := two r.1 r.2.1 r.2.2

set_option maxRecDepth 100000 in
set_option maxHeartbeats 2000000 in
theorem number_any (n : Int) (w : World) : Calls Try.prog 40 #[.int .i64 n] w fun e w' => e = .returned (ans (1, n, 0)) ∧ Below w.heap.size w w' := by
  go_enter Try.func40, Try.ntmps40
  go_wp2
  refine bodyPost_ret (v := two 1 n 0) (by simp [results, Try.results40, go_sem]) rfl ⟨rfl, ?_⟩
  exact below1 _ _

set_option maxRecDepth 100000 in
set_option maxHeartbeats 2000000 in
theorem truth_any (b : Bool) (w : World) : Calls Try.prog 42 #[.bool b] w fun e w' => e = .returned (ans (2, tn b, 0)) ∧ Below w.heap.size w w' := by
  cases b
  all_goals
    go_enter Try.func42, Try.ntmps42
    go_wp2
  · refine bodyPost_ret (v := two 2 0 0) (by simp [results, Try.results42, go_sem]) rfl ⟨rfl, ?_⟩
    exact below1 _ _
  · refine bodyPost_ret (v := two 2 1 0) (by simp [results, Try.results42, go_sem]) rfl ⟨rfl, ?_⟩
    exact below1 _ _

set_option maxRecDepth 100000 in
set_option maxHeartbeats 2000000 in
theorem trap_any (c : Int) (w : World) : Calls Try.prog 31 #[.int .i64 c] w fun e w' => e = .returned (ans (0, 0, c)) ∧ Below w.heap.size w w' := by
  go_enter Try.func31, Try.ntmps31
  go_wp2
  refine bodyPost_ret (v := two 0 0 c) (by simp [results, Try.results31, go_sem]) rfl ⟨rfl, ?_⟩
  exact below1 _ _

abbrev z3 : Obj := .cells #[.int .i64 0, .int .i64 0, .slice none 0 0] 24
theorem z3_keep {W0 w1 : World} {rb : Nat} (hb : Below (W0.alloc z3).heap.size (W0.alloc z3) w1) (hrb : W0.heap.size = rb) :
    w1.cell? ⟨rb, 0, none⟩ = some (.int .i64 0) ∧ w1.cell? ⟨rb, 1, none⟩ = some (.int .i64 0) ∧ w1.cell? ⟨rb, 2, none⟩ = some (.slice none 0 0) ∧ w1.frozen? ⟨rb, 0, none⟩ = false ∧ w1.frozen? ⟨rb, 1, none⟩ = false ∧ w1.frozen? ⟨rb, 2, none⟩ = false ∧ rb < w1.heap.size := by
  subst hrb
  have h1 : w1.heap[W0.heap.size]? = some z3 := (hb.block _ (by simp)).trans (World.alloc_heap_new W0 _)
  refine ⟨?_, ?_, ?_, ?_, ?_, ?_, (Array.getElem?_eq_some_iff.1 h1).1⟩ <;> simp [World.cell?, World.frozen?, h1]
theorem bel3 {w W0 w1 : World} {o : Obj} {rb : Nat} (h0 : Below w.heap.size w W0) (hb : Below (W0.alloc o).heap.size (W0.alloc o) w1) (hrb : W0.heap.size = rb) (x y z : Value) : Below w.heap.size w (((w1.setCell ⟨rb, 0, none⟩ x).setCell ⟨rb, 1, none⟩ y).setCell ⟨rb, 2, none⟩ z) := by
  have h1 := h0.size
  have h2 : Below w.heap.size w w1 := (h0.alloc h1 _).trans (hb.mono (by simp; omega))
  exact ((h2.setCell (p := ⟨rb, 0, none⟩) (by show _ ≤ rb; omega) _).setCell (p := ⟨rb, 1, none⟩) (by show _ ≤ rb; omega) _).setCell (p := ⟨rb, 2, none⟩) (by show _ ≤ rb; omega) _

set_option maxRecDepth 100000 in
set_option maxHeartbeats 2000000 in
theorem divided_any (op a b : Int) (hop : op = 42 ∨ op = 43) (w : World) : Calls Try.prog 41 #[.int .i64 op, .int .i64 a, .int .i64 b] w fun e w' => e = .returned (ans (numI op a b)) ∧ Below w.heap.size w w' := by
  rcases hop with rfl | rfl
  · by_cases hb : b = 0
    · subst hb
      go_enter Try.func41, Try.ntmps41
      go_wp2_with (first | (go_at_call 40; refine Calls.mono (number_any _ _) ?_; rintro e w1 ⟨rfl, hb1⟩; obtain ⟨c0, c1, c2, f0, f1, f2, hsz⟩ := z3_keep (rb := w.heap.size) hb1 (by simp)) | (go_at_call 42; refine Calls.mono (truth_any _ _) ?_; rintro e w1 ⟨rfl, hb1⟩; obtain ⟨c0, c1, c2, f0, f1, f2, hsz⟩ := z3_keep (rb := w.heap.size) hb1 (by simp)) | (go_at_call 31; refine Calls.mono (trap_any _ _) ?_; rintro e w1 ⟨rfl, hb1⟩; obtain ⟨c0, c1, c2, f0, f1, f2, hsz⟩ := z3_keep (rb := w.heap.size) hb1 (by simp)))
      refine bodyPost_ret (v := two 0 0 1) (by simp [results, Try.results41, go_sem, c0, c1, c2, hsz]) rfl ⟨by first | rfl | simp_all | (simp_all <;> omega), ?_⟩
      exact bel3 (rb := w.heap.size) (Below.refl _ _) hb1 (by simp) _ _ _
    · have e : numI 42 a b = (1, wrap64 (a.tdiv b), 0) := by simp [numI, hb]
      rw [e]
      go_enter Try.func41, Try.ntmps41
      go_wp2_with (first | (go_at_call 40; refine Calls.mono (number_any _ _) ?_; rintro e w1 ⟨rfl, hb1⟩; obtain ⟨c0, c1, c2, f0, f1, f2, hsz⟩ := z3_keep (rb := w.heap.size) hb1 (by simp)) | (go_at_call 42; refine Calls.mono (truth_any _ _) ?_; rintro e w1 ⟨rfl, hb1⟩; obtain ⟨c0, c1, c2, f0, f1, f2, hsz⟩ := z3_keep (rb := w.heap.size) hb1 (by simp)) | (go_at_call 31; refine Calls.mono (trap_any _ _) ?_; rintro e w1 ⟨rfl, hb1⟩; obtain ⟨c0, c1, c2, f0, f1, f2, hsz⟩ := z3_keep (rb := w.heap.size) hb1 (by simp)))
      refine bodyPost_ret (v := two 1 (wrap64 (a.tdiv b)) 0) (by simp [results, Try.results41, go_sem, c0, c1, c2, hsz]) rfl ⟨by first | rfl | simp_all | (simp_all <;> omega), ?_⟩
      exact bel3 (rb := w.heap.size) (Below.refl _ _) hb1 (by simp) _ _ _
  · by_cases hb : b = 0
    · subst hb
      go_enter Try.func41, Try.ntmps41
      go_wp2_with (first | (go_at_call 40; refine Calls.mono (number_any _ _) ?_; rintro e w1 ⟨rfl, hb1⟩; obtain ⟨c0, c1, c2, f0, f1, f2, hsz⟩ := z3_keep (rb := w.heap.size) hb1 (by simp)) | (go_at_call 42; refine Calls.mono (truth_any _ _) ?_; rintro e w1 ⟨rfl, hb1⟩; obtain ⟨c0, c1, c2, f0, f1, f2, hsz⟩ := z3_keep (rb := w.heap.size) hb1 (by simp)) | (go_at_call 31; refine Calls.mono (trap_any _ _) ?_; rintro e w1 ⟨rfl, hb1⟩; obtain ⟨c0, c1, c2, f0, f1, f2, hsz⟩ := z3_keep (rb := w.heap.size) hb1 (by simp)))
      refine bodyPost_ret (v := two 0 0 1) (by simp [results, Try.results41, go_sem, c0, c1, c2, hsz]) rfl ⟨by first | rfl | simp_all | (simp_all <;> omega), ?_⟩
      exact bel3 (rb := w.heap.size) (Below.refl _ _) hb1 (by simp) _ _ _
    · have e : numI 43 a b = (1, a.tmod b, 0) := by simp [numI, hb]
      rw [e]
      go_enter Try.func41, Try.ntmps41
      go_wp2_with (first | (go_at_call 40; refine Calls.mono (number_any _ _) ?_; rintro e w1 ⟨rfl, hb1⟩; obtain ⟨c0, c1, c2, f0, f1, f2, hsz⟩ := z3_keep (rb := w.heap.size) hb1 (by simp)) | (go_at_call 42; refine Calls.mono (truth_any _ _) ?_; rintro e w1 ⟨rfl, hb1⟩; obtain ⟨c0, c1, c2, f0, f1, f2, hsz⟩ := z3_keep (rb := w.heap.size) hb1 (by simp)) | (go_at_call 31; refine Calls.mono (trap_any _ _) ?_; rintro e w1 ⟨rfl, hb1⟩; obtain ⟨c0, c1, c2, f0, f1, f2, hsz⟩ := z3_keep (rb := w.heap.size) hb1 (by simp)))
      refine bodyPost_ret (v := two 1 (a.tmod b) 0) (by simp [results, Try.results41, go_sem, c0, c1, c2, hsz]) rfl ⟨by first | rfl | simp_all | (simp_all <;> omega), ?_⟩
      exact bel3 (rb := w.heap.size) (Below.refl _ _) hb1 (by simp) _ _ _

set_option maxRecDepth 100000 in
set_option maxHeartbeats 2000000 in
theorem ofAlike_any (op a b : Int) (w : World) : Calls Try.prog 33 #[.int .i64 op, .int .i64 a, .int .i64 b] w fun e w' => e = .returned (ans (alikeI op a b)) ∧ Below w.heap.size w w' := by
  unfold alikeI
  by_cases h1 : op = 21
  · subst h1
    go_enter Try.func33, Try.ntmps33
    go_wp2_with (first | (go_at_call 40; refine Calls.mono (number_any _ _) ?_; rintro e w1 ⟨rfl, hb1⟩; obtain ⟨c0, c1, c2, f0, f1, f2, hsz⟩ := z3_keep (rb := w.heap.size) hb1 (by simp)) | (go_at_call 42; refine Calls.mono (truth_any _ _) ?_; rintro e w1 ⟨rfl, hb1⟩; obtain ⟨c0, c1, c2, f0, f1, f2, hsz⟩ := z3_keep (rb := w.heap.size) hb1 (by simp)) | (go_at_call 31; refine Calls.mono (trap_any _ _) ?_; rintro e w1 ⟨rfl, hb1⟩; obtain ⟨c0, c1, c2, f0, f1, f2, hsz⟩ := z3_keep (rb := w.heap.size) hb1 (by simp)))
    refine bodyPost_ret (v := two 2 (tn (a == b)) 0) (by simp [results, Try.results33, go_sem, c0, c1, c2, hsz]) rfl ⟨by first | rfl | simp_all | (simp_all <;> omega), ?_⟩
    exact bel3 (rb := w.heap.size) (Below.refl _ _) hb1 (by simp) _ _ _
  by_cases h2 : op = 22
  · subst h2
    go_enter Try.func33, Try.ntmps33
    go_wp2_with (first | (go_at_call 40; refine Calls.mono (number_any _ _) ?_; rintro e w1 ⟨rfl, hb1⟩; obtain ⟨c0, c1, c2, f0, f1, f2, hsz⟩ := z3_keep (rb := w.heap.size) hb1 (by simp)) | (go_at_call 42; refine Calls.mono (truth_any _ _) ?_; rintro e w1 ⟨rfl, hb1⟩; obtain ⟨c0, c1, c2, f0, f1, f2, hsz⟩ := z3_keep (rb := w.heap.size) hb1 (by simp)) | (go_at_call 31; refine Calls.mono (trap_any _ _) ?_; rintro e w1 ⟨rfl, hb1⟩; obtain ⟨c0, c1, c2, f0, f1, f2, hsz⟩ := z3_keep (rb := w.heap.size) hb1 (by simp)))
    refine bodyPost_ret (v := two 2 (tn (a != b)) 0) (by simp [results, Try.results33, go_sem, c0, c1, c2, hsz]) rfl ⟨by first | rfl | simp_all | (simp_all <;> omega), ?_⟩
    exact bel3 (rb := w.heap.size) (Below.refl _ _) hb1 (by simp) _ _ _
  rw [if_neg h1, if_neg h2]
  go_enter Try.func33, Try.ntmps33
  go_wp2_with (first | (go_at_call 40; refine Calls.mono (number_any _ _) ?_; rintro e w1 ⟨rfl, hb1⟩; obtain ⟨c0, c1, c2, f0, f1, f2, hsz⟩ := z3_keep (rb := w.heap.size) hb1 (by simp)) | (go_at_call 42; refine Calls.mono (truth_any _ _) ?_; rintro e w1 ⟨rfl, hb1⟩; obtain ⟨c0, c1, c2, f0, f1, f2, hsz⟩ := z3_keep (rb := w.heap.size) hb1 (by simp)) | (go_at_call 31; refine Calls.mono (trap_any _ _) ?_; rintro e w1 ⟨rfl, hb1⟩; obtain ⟨c0, c1, c2, f0, f1, f2, hsz⟩ := z3_keep (rb := w.heap.size) hb1 (by simp)))
  refine bodyPost_ret (v := two 0 0 5) (by simp [results, Try.results33, go_sem, c0, c1, c2, hsz]) rfl ⟨by first | rfl | simp_all | (simp_all <;> omega), ?_⟩
  exact bel3 (rb := w.heap.size) (Below.refl _ _) hb1 (by simp) _ _ _

set_option maxRecDepth 100000 in
set_option maxHeartbeats 2000000 in
theorem ofNumbers_any (op a b : Int) (w : World) : Calls Try.prog 32 #[.int .i64 op, .int .i64 a, .int .i64 b] w fun e w' => e = .returned (ans (numI op a b)) ∧ Below w.heap.size w w' := by
  by_cases h31 : op = 31
  · subst h31
    have e : numI 31 a b = (1, (wrap64 (a + b)), 0) := by simp [numI]
    rw [e]
    go_enter Try.func32, Try.ntmps32
    go_wp2_with (first | (go_at_call 40; refine Calls.mono (number_any _ _) ?_; rintro e w1 ⟨rfl, hb1⟩; obtain ⟨c0, c1, c2, f0, f1, f2, hsz⟩ := z3_keep (rb := w.heap.size) hb1 (by simp)) | (go_at_call 42; refine Calls.mono (truth_any _ _) ?_; rintro e w1 ⟨rfl, hb1⟩; obtain ⟨c0, c1, c2, f0, f1, f2, hsz⟩ := z3_keep (rb := w.heap.size) hb1 (by simp)) | (go_at_call 31; refine Calls.mono (trap_any _ _) ?_; rintro e w1 ⟨rfl, hb1⟩; obtain ⟨c0, c1, c2, f0, f1, f2, hsz⟩ := z3_keep (rb := w.heap.size) hb1 (by simp)) | (go_at_call 33; refine Calls.mono (ofAlike_any _ _ _ _) ?_; rintro e w1 ⟨rfl, hb1⟩; obtain ⟨c0, c1, c2, f0, f1, f2, hsz⟩ := z3_keep (rb := w.heap.size) hb1 (by simp)) | (go_at_call 41; refine Calls.mono (divided_any _ _ _ (by omega) _) ?_; rintro e w1 ⟨rfl, hb1⟩; obtain ⟨c0, c1, c2, f0, f1, f2, hsz⟩ := z3_keep (rb := w.heap.size) hb1 (by simp)))
    refine bodyPost_ret (v := two 1 (wrap64 (a + b)) 0) (by simp [results, Try.results32, go_sem, c0, c1, c2, hsz]) rfl ⟨by first | rfl | simp_all | (simp_all <;> omega), ?_⟩
    exact bel3 (rb := w.heap.size) (Below.refl _ _) hb1 (by simp) _ _ _
  by_cases h32 : op = 32
  · subst h32
    have e : numI 32 a b = (1, (wrap64 (a - b)), 0) := by simp [numI]
    rw [e]
    go_enter Try.func32, Try.ntmps32
    go_wp2_with (first | (go_at_call 40; refine Calls.mono (number_any _ _) ?_; rintro e w1 ⟨rfl, hb1⟩; obtain ⟨c0, c1, c2, f0, f1, f2, hsz⟩ := z3_keep (rb := w.heap.size) hb1 (by simp)) | (go_at_call 42; refine Calls.mono (truth_any _ _) ?_; rintro e w1 ⟨rfl, hb1⟩; obtain ⟨c0, c1, c2, f0, f1, f2, hsz⟩ := z3_keep (rb := w.heap.size) hb1 (by simp)) | (go_at_call 31; refine Calls.mono (trap_any _ _) ?_; rintro e w1 ⟨rfl, hb1⟩; obtain ⟨c0, c1, c2, f0, f1, f2, hsz⟩ := z3_keep (rb := w.heap.size) hb1 (by simp)) | (go_at_call 33; refine Calls.mono (ofAlike_any _ _ _ _) ?_; rintro e w1 ⟨rfl, hb1⟩; obtain ⟨c0, c1, c2, f0, f1, f2, hsz⟩ := z3_keep (rb := w.heap.size) hb1 (by simp)) | (go_at_call 41; refine Calls.mono (divided_any _ _ _ (by omega) _) ?_; rintro e w1 ⟨rfl, hb1⟩; obtain ⟨c0, c1, c2, f0, f1, f2, hsz⟩ := z3_keep (rb := w.heap.size) hb1 (by simp)))
    refine bodyPost_ret (v := two 1 (wrap64 (a - b)) 0) (by simp [results, Try.results32, go_sem, c0, c1, c2, hsz]) rfl ⟨by first | rfl | simp_all | (simp_all <;> omega), ?_⟩
    exact bel3 (rb := w.heap.size) (Below.refl _ _) hb1 (by simp) _ _ _
  by_cases h41 : op = 41
  · subst h41
    have e : numI 41 a b = (1, (wrap64 (a * b)), 0) := by simp [numI]
    rw [e]
    go_enter Try.func32, Try.ntmps32
    go_wp2_with (first | (go_at_call 40; refine Calls.mono (number_any _ _) ?_; rintro e w1 ⟨rfl, hb1⟩; obtain ⟨c0, c1, c2, f0, f1, f2, hsz⟩ := z3_keep (rb := w.heap.size) hb1 (by simp)) | (go_at_call 42; refine Calls.mono (truth_any _ _) ?_; rintro e w1 ⟨rfl, hb1⟩; obtain ⟨c0, c1, c2, f0, f1, f2, hsz⟩ := z3_keep (rb := w.heap.size) hb1 (by simp)) | (go_at_call 31; refine Calls.mono (trap_any _ _) ?_; rintro e w1 ⟨rfl, hb1⟩; obtain ⟨c0, c1, c2, f0, f1, f2, hsz⟩ := z3_keep (rb := w.heap.size) hb1 (by simp)) | (go_at_call 33; refine Calls.mono (ofAlike_any _ _ _ _) ?_; rintro e w1 ⟨rfl, hb1⟩; obtain ⟨c0, c1, c2, f0, f1, f2, hsz⟩ := z3_keep (rb := w.heap.size) hb1 (by simp)) | (go_at_call 41; refine Calls.mono (divided_any _ _ _ (by omega) _) ?_; rintro e w1 ⟨rfl, hb1⟩; obtain ⟨c0, c1, c2, f0, f1, f2, hsz⟩ := z3_keep (rb := w.heap.size) hb1 (by simp)))
    refine bodyPost_ret (v := two 1 (wrap64 (a * b)) 0) (by simp [results, Try.results32, go_sem, c0, c1, c2, hsz]) rfl ⟨by first | rfl | simp_all | (simp_all <;> omega), ?_⟩
    exact bel3 (rb := w.heap.size) (Below.refl _ _) hb1 (by simp) _ _ _
  by_cases h42 : op = 42
  · subst h42
    go_enter Try.func32, Try.ntmps32
    go_wp2_with (first | (go_at_call 40; refine Calls.mono (number_any _ _) ?_; rintro e w1 ⟨rfl, hb1⟩; obtain ⟨c0, c1, c2, f0, f1, f2, hsz⟩ := z3_keep (rb := w.heap.size) hb1 (by simp)) | (go_at_call 42; refine Calls.mono (truth_any _ _) ?_; rintro e w1 ⟨rfl, hb1⟩; obtain ⟨c0, c1, c2, f0, f1, f2, hsz⟩ := z3_keep (rb := w.heap.size) hb1 (by simp)) | (go_at_call 31; refine Calls.mono (trap_any _ _) ?_; rintro e w1 ⟨rfl, hb1⟩; obtain ⟨c0, c1, c2, f0, f1, f2, hsz⟩ := z3_keep (rb := w.heap.size) hb1 (by simp)) | (go_at_call 33; refine Calls.mono (ofAlike_any _ _ _ _) ?_; rintro e w1 ⟨rfl, hb1⟩; obtain ⟨c0, c1, c2, f0, f1, f2, hsz⟩ := z3_keep (rb := w.heap.size) hb1 (by simp)) | (go_at_call 41; refine Calls.mono (divided_any _ _ _ (by omega) _) ?_; rintro e w1 ⟨rfl, hb1⟩; obtain ⟨c0, c1, c2, f0, f1, f2, hsz⟩ := z3_keep (rb := w.heap.size) hb1 (by simp)))
    refine bodyPost_ret (v := ans (numI 42 a b)) (by simp [results, Try.results32, go_sem, c0, c1, c2, hsz]) rfl ⟨by first | rfl | simp_all | (simp_all <;> omega), ?_⟩
    exact bel3 (rb := w.heap.size) (Below.refl _ _) hb1 (by simp) _ _ _
  by_cases h43 : op = 43
  · subst h43
    go_enter Try.func32, Try.ntmps32
    go_wp2_with (first | (go_at_call 40; refine Calls.mono (number_any _ _) ?_; rintro e w1 ⟨rfl, hb1⟩; obtain ⟨c0, c1, c2, f0, f1, f2, hsz⟩ := z3_keep (rb := w.heap.size) hb1 (by simp)) | (go_at_call 42; refine Calls.mono (truth_any _ _) ?_; rintro e w1 ⟨rfl, hb1⟩; obtain ⟨c0, c1, c2, f0, f1, f2, hsz⟩ := z3_keep (rb := w.heap.size) hb1 (by simp)) | (go_at_call 31; refine Calls.mono (trap_any _ _) ?_; rintro e w1 ⟨rfl, hb1⟩; obtain ⟨c0, c1, c2, f0, f1, f2, hsz⟩ := z3_keep (rb := w.heap.size) hb1 (by simp)) | (go_at_call 33; refine Calls.mono (ofAlike_any _ _ _ _) ?_; rintro e w1 ⟨rfl, hb1⟩; obtain ⟨c0, c1, c2, f0, f1, f2, hsz⟩ := z3_keep (rb := w.heap.size) hb1 (by simp)) | (go_at_call 41; refine Calls.mono (divided_any _ _ _ (by omega) _) ?_; rintro e w1 ⟨rfl, hb1⟩; obtain ⟨c0, c1, c2, f0, f1, f2, hsz⟩ := z3_keep (rb := w.heap.size) hb1 (by simp)))
    refine bodyPost_ret (v := ans (numI 43 a b)) (by simp [results, Try.results32, go_sem, c0, c1, c2, hsz]) rfl ⟨by first | rfl | simp_all | (simp_all <;> omega), ?_⟩
    exact bel3 (rb := w.heap.size) (Below.refl _ _) hb1 (by simp) _ _ _
  by_cases h23 : op = 23
  · subst h23
    have e : numI 23 a b = (2, (tn (decide (a < b))), 0) := by simp [numI]
    rw [e]
    go_enter Try.func32, Try.ntmps32
    go_wp2_with (first | (go_at_call 40; refine Calls.mono (number_any _ _) ?_; rintro e w1 ⟨rfl, hb1⟩; obtain ⟨c0, c1, c2, f0, f1, f2, hsz⟩ := z3_keep (rb := w.heap.size) hb1 (by simp)) | (go_at_call 42; refine Calls.mono (truth_any _ _) ?_; rintro e w1 ⟨rfl, hb1⟩; obtain ⟨c0, c1, c2, f0, f1, f2, hsz⟩ := z3_keep (rb := w.heap.size) hb1 (by simp)) | (go_at_call 31; refine Calls.mono (trap_any _ _) ?_; rintro e w1 ⟨rfl, hb1⟩; obtain ⟨c0, c1, c2, f0, f1, f2, hsz⟩ := z3_keep (rb := w.heap.size) hb1 (by simp)) | (go_at_call 33; refine Calls.mono (ofAlike_any _ _ _ _) ?_; rintro e w1 ⟨rfl, hb1⟩; obtain ⟨c0, c1, c2, f0, f1, f2, hsz⟩ := z3_keep (rb := w.heap.size) hb1 (by simp)) | (go_at_call 41; refine Calls.mono (divided_any _ _ _ (by omega) _) ?_; rintro e w1 ⟨rfl, hb1⟩; obtain ⟨c0, c1, c2, f0, f1, f2, hsz⟩ := z3_keep (rb := w.heap.size) hb1 (by simp)))
    refine bodyPost_ret (v := two 2 (tn (decide (a < b))) 0) (by simp [results, Try.results32, go_sem, c0, c1, c2, hsz]) rfl ⟨by first | rfl | simp_all | (simp_all <;> omega), ?_⟩
    exact bel3 (rb := w.heap.size) (Below.refl _ _) hb1 (by simp) _ _ _
  by_cases h24 : op = 24
  · subst h24
    have e : numI 24 a b = (2, (tn (decide (a ≤ b))), 0) := by simp [numI]
    rw [e]
    go_enter Try.func32, Try.ntmps32
    go_wp2_with (first | (go_at_call 40; refine Calls.mono (number_any _ _) ?_; rintro e w1 ⟨rfl, hb1⟩; obtain ⟨c0, c1, c2, f0, f1, f2, hsz⟩ := z3_keep (rb := w.heap.size) hb1 (by simp)) | (go_at_call 42; refine Calls.mono (truth_any _ _) ?_; rintro e w1 ⟨rfl, hb1⟩; obtain ⟨c0, c1, c2, f0, f1, f2, hsz⟩ := z3_keep (rb := w.heap.size) hb1 (by simp)) | (go_at_call 31; refine Calls.mono (trap_any _ _) ?_; rintro e w1 ⟨rfl, hb1⟩; obtain ⟨c0, c1, c2, f0, f1, f2, hsz⟩ := z3_keep (rb := w.heap.size) hb1 (by simp)) | (go_at_call 33; refine Calls.mono (ofAlike_any _ _ _ _) ?_; rintro e w1 ⟨rfl, hb1⟩; obtain ⟨c0, c1, c2, f0, f1, f2, hsz⟩ := z3_keep (rb := w.heap.size) hb1 (by simp)) | (go_at_call 41; refine Calls.mono (divided_any _ _ _ (by omega) _) ?_; rintro e w1 ⟨rfl, hb1⟩; obtain ⟨c0, c1, c2, f0, f1, f2, hsz⟩ := z3_keep (rb := w.heap.size) hb1 (by simp)))
    refine bodyPost_ret (v := two 2 (tn (decide (a ≤ b))) 0) (by simp [results, Try.results32, go_sem, c0, c1, c2, hsz]) rfl ⟨by first | rfl | simp_all | (simp_all <;> omega), ?_⟩
    exact bel3 (rb := w.heap.size) (Below.refl _ _) hb1 (by simp) _ _ _
  by_cases h25 : op = 25
  · subst h25
    have e : numI 25 a b = (2, (tn (decide (b < a))), 0) := by simp [numI]
    rw [e]
    go_enter Try.func32, Try.ntmps32
    go_wp2_with (first | (go_at_call 40; refine Calls.mono (number_any _ _) ?_; rintro e w1 ⟨rfl, hb1⟩; obtain ⟨c0, c1, c2, f0, f1, f2, hsz⟩ := z3_keep (rb := w.heap.size) hb1 (by simp)) | (go_at_call 42; refine Calls.mono (truth_any _ _) ?_; rintro e w1 ⟨rfl, hb1⟩; obtain ⟨c0, c1, c2, f0, f1, f2, hsz⟩ := z3_keep (rb := w.heap.size) hb1 (by simp)) | (go_at_call 31; refine Calls.mono (trap_any _ _) ?_; rintro e w1 ⟨rfl, hb1⟩; obtain ⟨c0, c1, c2, f0, f1, f2, hsz⟩ := z3_keep (rb := w.heap.size) hb1 (by simp)) | (go_at_call 33; refine Calls.mono (ofAlike_any _ _ _ _) ?_; rintro e w1 ⟨rfl, hb1⟩; obtain ⟨c0, c1, c2, f0, f1, f2, hsz⟩ := z3_keep (rb := w.heap.size) hb1 (by simp)) | (go_at_call 41; refine Calls.mono (divided_any _ _ _ (by omega) _) ?_; rintro e w1 ⟨rfl, hb1⟩; obtain ⟨c0, c1, c2, f0, f1, f2, hsz⟩ := z3_keep (rb := w.heap.size) hb1 (by simp)))
    refine bodyPost_ret (v := two 2 (tn (decide (b < a))) 0) (by simp [results, Try.results32, go_sem, c0, c1, c2, hsz]) rfl ⟨by first | rfl | simp_all | (simp_all <;> omega), ?_⟩
    exact bel3 (rb := w.heap.size) (Below.refl _ _) hb1 (by simp) _ _ _
  by_cases h26 : op = 26
  · subst h26
    have e : numI 26 a b = (2, (tn (decide (b ≤ a))), 0) := by simp [numI]
    rw [e]
    go_enter Try.func32, Try.ntmps32
    go_wp2_with (first | (go_at_call 40; refine Calls.mono (number_any _ _) ?_; rintro e w1 ⟨rfl, hb1⟩; obtain ⟨c0, c1, c2, f0, f1, f2, hsz⟩ := z3_keep (rb := w.heap.size) hb1 (by simp)) | (go_at_call 42; refine Calls.mono (truth_any _ _) ?_; rintro e w1 ⟨rfl, hb1⟩; obtain ⟨c0, c1, c2, f0, f1, f2, hsz⟩ := z3_keep (rb := w.heap.size) hb1 (by simp)) | (go_at_call 31; refine Calls.mono (trap_any _ _) ?_; rintro e w1 ⟨rfl, hb1⟩; obtain ⟨c0, c1, c2, f0, f1, f2, hsz⟩ := z3_keep (rb := w.heap.size) hb1 (by simp)) | (go_at_call 33; refine Calls.mono (ofAlike_any _ _ _ _) ?_; rintro e w1 ⟨rfl, hb1⟩; obtain ⟨c0, c1, c2, f0, f1, f2, hsz⟩ := z3_keep (rb := w.heap.size) hb1 (by simp)) | (go_at_call 41; refine Calls.mono (divided_any _ _ _ (by omega) _) ?_; rintro e w1 ⟨rfl, hb1⟩; obtain ⟨c0, c1, c2, f0, f1, f2, hsz⟩ := z3_keep (rb := w.heap.size) hb1 (by simp)))
    refine bodyPost_ret (v := two 2 (tn (decide (b ≤ a))) 0) (by simp [results, Try.results32, go_sem, c0, c1, c2, hsz]) rfl ⟨by first | rfl | simp_all | (simp_all <;> omega), ?_⟩
    exact bel3 (rb := w.heap.size) (Below.refl _ _) hb1 (by simp) _ _ _
  have e : numI op a b = alikeI op a b := by simp [numI, *]
  rw [e]
  go_enter Try.func32, Try.ntmps32
  go_wp2_with (first | (go_at_call 40; refine Calls.mono (number_any _ _) ?_; rintro e w1 ⟨rfl, hb1⟩; obtain ⟨c0, c1, c2, f0, f1, f2, hsz⟩ := z3_keep (rb := w.heap.size) hb1 (by simp)) | (go_at_call 42; refine Calls.mono (truth_any _ _) ?_; rintro e w1 ⟨rfl, hb1⟩; obtain ⟨c0, c1, c2, f0, f1, f2, hsz⟩ := z3_keep (rb := w.heap.size) hb1 (by simp)) | (go_at_call 31; refine Calls.mono (trap_any _ _) ?_; rintro e w1 ⟨rfl, hb1⟩; obtain ⟨c0, c1, c2, f0, f1, f2, hsz⟩ := z3_keep (rb := w.heap.size) hb1 (by simp)) | (go_at_call 33; refine Calls.mono (ofAlike_any _ _ _ _) ?_; rintro e w1 ⟨rfl, hb1⟩; obtain ⟨c0, c1, c2, f0, f1, f2, hsz⟩ := z3_keep (rb := w.heap.size) hb1 (by simp)) | (go_at_call 41; refine Calls.mono (divided_any _ _ _ (by omega) _) ?_; rintro e w1 ⟨rfl, hb1⟩; obtain ⟨c0, c1, c2, f0, f1, f2, hsz⟩ := z3_keep (rb := w.heap.size) hb1 (by simp)))
  refine bodyPost_ret (v := ans (alikeI op a b)) (by simp [results, Try.results32, go_sem, c0, c1, c2, hsz]) rfl ⟨by first | rfl | simp_all | (simp_all <;> omega), ?_⟩
  exact bel3 (rb := w.heap.size) (Below.refl _ _) hb1 (by simp) _ _ _

set_option maxRecDepth 100000 in
set_option maxHeartbeats 2000000 in
theorem Bin_any (op ka a kb b : Int) (pa : Option Addr) (la ca : Nat) (pb : Option Addr) (lb cb : Nat)  (w : World) : Calls Try.prog 17 #[.int .i64 op, .agg #[.int .i64 ka, .int .i64 a, .slice pa la ca], .agg #[.int .i64 kb, .int .i64 b, .slice pb lb cb]] w fun e w' => e = .returned (ans (binI op ka a kb b)) ∧ Below w.heap.size w w' := by
  by_cases h0 : ka = kb
  · subst h0
    by_cases h1 : ka = 1
    · subst h1
      have e : binI op 1 a 1 b = numI op a b := by simp [binI]
      rw [e]
      go_enter Try.func17, Try.ntmps17
      go_wp2_with (first | (go_at_call 32; refine Calls.mono (ofNumbers_any _ _ _ _) ?_; rintro e w1 ⟨rfl, hb1⟩; obtain ⟨c0, c1, c2, f0, f1, f2, hsz⟩ := z3_keep (rb := (w.heap.size + 2)) hb1 (by simp)) | (go_at_call 33; refine Calls.mono (ofAlike_any _ _ _ _) ?_; rintro e w1 ⟨rfl, hb1⟩; obtain ⟨c0, c1, c2, f0, f1, f2, hsz⟩ := z3_keep (rb := (w.heap.size + 2)) hb1 (by simp)) | (go_at_call 31; refine Calls.mono (trap_any _ _) ?_; rintro e w1 ⟨rfl, hb1⟩; obtain ⟨c0, c1, c2, f0, f1, f2, hsz⟩ := z3_keep (rb := (w.heap.size + 2)) hb1 (by simp)))
      refine bodyPost_ret (v := ans (numI op a b)) (by simp [results, Try.results17, go_sem, c0, c1, c2, hsz]) rfl ⟨by first | rfl | simp_all | (simp_all <;> omega), ?_⟩
      exact bel3 (rb := (w.heap.size + 2)) (((Below.refl _ _).alloc (by simp) _).alloc (by simp) _) hb1 (by simp) _ _ _
    by_cases h2 : ka = 2
    · subst h2
      have e : binI op 2 a 2 b = alikeI op a b := by simp [binI]
      rw [e]
      go_enter Try.func17, Try.ntmps17
      go_wp2_with (first | (go_at_call 32; refine Calls.mono (ofNumbers_any _ _ _ _) ?_; rintro e w1 ⟨rfl, hb1⟩; obtain ⟨c0, c1, c2, f0, f1, f2, hsz⟩ := z3_keep (rb := (w.heap.size + 2)) hb1 (by simp)) | (go_at_call 33; refine Calls.mono (ofAlike_any _ _ _ _) ?_; rintro e w1 ⟨rfl, hb1⟩; obtain ⟨c0, c1, c2, f0, f1, f2, hsz⟩ := z3_keep (rb := (w.heap.size + 2)) hb1 (by simp)) | (go_at_call 31; refine Calls.mono (trap_any _ _) ?_; rintro e w1 ⟨rfl, hb1⟩; obtain ⟨c0, c1, c2, f0, f1, f2, hsz⟩ := z3_keep (rb := (w.heap.size + 2)) hb1 (by simp)))
      refine bodyPost_ret (v := ans (alikeI op a b)) (by simp [results, Try.results17, go_sem, c0, c1, c2, hsz]) rfl ⟨by first | rfl | simp_all | (simp_all <;> omega), ?_⟩
      exact bel3 (rb := (w.heap.size + 2)) (((Below.refl _ _).alloc (by simp) _).alloc (by simp) _) hb1 (by simp) _ _ _
    by_cases h5 : ka = 5
    · subst h5
      have e : binI op 5 a 5 b = alikeI op a b := by simp [binI]
      rw [e]
      go_enter Try.func17, Try.ntmps17
      go_wp2_with (first | (go_at_call 32; refine Calls.mono (ofNumbers_any _ _ _ _) ?_; rintro e w1 ⟨rfl, hb1⟩; obtain ⟨c0, c1, c2, f0, f1, f2, hsz⟩ := z3_keep (rb := (w.heap.size + 2)) hb1 (by simp)) | (go_at_call 33; refine Calls.mono (ofAlike_any _ _ _ _) ?_; rintro e w1 ⟨rfl, hb1⟩; obtain ⟨c0, c1, c2, f0, f1, f2, hsz⟩ := z3_keep (rb := (w.heap.size + 2)) hb1 (by simp)) | (go_at_call 31; refine Calls.mono (trap_any _ _) ?_; rintro e w1 ⟨rfl, hb1⟩; obtain ⟨c0, c1, c2, f0, f1, f2, hsz⟩ := z3_keep (rb := (w.heap.size + 2)) hb1 (by simp)))
      refine bodyPost_ret (v := ans (alikeI op a b)) (by simp [results, Try.results17, go_sem, c0, c1, c2, hsz]) rfl ⟨by first | rfl | simp_all | (simp_all <;> omega), ?_⟩
      exact bel3 (rb := (w.heap.size + 2)) (((Below.refl _ _).alloc (by simp) _).alloc (by simp) _) hb1 (by simp) _ _ _
    have e : binI op ka a ka b = (0, 0, 5) := by simp [binI, h1, h2, h5]
    rw [e]
    go_enter Try.func17, Try.ntmps17
    go_wp2_with (first | (go_at_call 32; refine Calls.mono (ofNumbers_any _ _ _ _) ?_; rintro e w1 ⟨rfl, hb1⟩; obtain ⟨c0, c1, c2, f0, f1, f2, hsz⟩ := z3_keep (rb := (w.heap.size + 2)) hb1 (by simp)) | (go_at_call 33; refine Calls.mono (ofAlike_any _ _ _ _) ?_; rintro e w1 ⟨rfl, hb1⟩; obtain ⟨c0, c1, c2, f0, f1, f2, hsz⟩ := z3_keep (rb := (w.heap.size + 2)) hb1 (by simp)) | (go_at_call 31; refine Calls.mono (trap_any _ _) ?_; rintro e w1 ⟨rfl, hb1⟩; obtain ⟨c0, c1, c2, f0, f1, f2, hsz⟩ := z3_keep (rb := (w.heap.size + 2)) hb1 (by simp)))
    refine bodyPost_ret (v := two 0 0 5) (by simp [results, Try.results17, go_sem, c0, c1, c2, hsz]) rfl ⟨by first | rfl | simp_all | (simp_all <;> omega), ?_⟩
    exact bel3 (rb := (w.heap.size + 2)) (((Below.refl _ _).alloc (by simp) _).alloc (by simp) _) hb1 (by simp) _ _ _
  · have e : binI op ka a kb b = (0, 0, 5) := by simp [binI, h0]
    rw [e]
    go_enter Try.func17, Try.ntmps17
    go_wp2_with (first | (go_at_call 32; refine Calls.mono (ofNumbers_any _ _ _ _) ?_; rintro e w1 ⟨rfl, hb1⟩; obtain ⟨c0, c1, c2, f0, f1, f2, hsz⟩ := z3_keep (rb := (w.heap.size + 2)) hb1 (by simp)) | (go_at_call 33; refine Calls.mono (ofAlike_any _ _ _ _) ?_; rintro e w1 ⟨rfl, hb1⟩; obtain ⟨c0, c1, c2, f0, f1, f2, hsz⟩ := z3_keep (rb := (w.heap.size + 2)) hb1 (by simp)) | (go_at_call 31; refine Calls.mono (trap_any _ _) ?_; rintro e w1 ⟨rfl, hb1⟩; obtain ⟨c0, c1, c2, f0, f1, f2, hsz⟩ := z3_keep (rb := (w.heap.size + 2)) hb1 (by simp)))
    refine bodyPost_ret (v := two 0 0 5) (by simp [results, Try.results17, go_sem, c0, c1, c2, hsz]) rfl ⟨by first | rfl | simp_all | (simp_all <;> omega), ?_⟩
    exact bel3 (rb := (w.heap.size + 2)) (((Below.refl _ _).alloc (by simp) _).alloc (by simp) _) hb1 (by simp) _ _ _
end Go.Proofs.Ytikijkpklneihaa
