import Derived.Test.YtadmpgegolmkgaaDoorCWlH
import Derived.Deep.AppendLies
import Derived.Deep.RegionWith
namespace Go.Proofs.YtadmpgegolmkgaaDoor
open Go.RowKit
set_option linter.unusedVariables false
set_option linter.unusedSimpArgs false

theorem wpList_appY {P : Program} {w w' : World} {ops : Array Oper} {rest : List Oper} {o : Oper} {a : Act} {Q : Exit → Act → World → Prop} (hgd : o.guard = none) (s x : Operand) (t : TypeId)
    (ho : o.op = .call { callee := .builtin .append, args := #[s, x], argTypes := #[t, t] }) {v u r : Value} (hs : a.eval s = v) (hx : a.eval x = u) (hr : ∀ ty, (Builtin.append_ #[t, t] ty #[v, u]).run P w = .ok r w')
    (h : wpList P ops Q rest (a.put o.dst r) w') : wpList P ops Q (o :: rest) a w := by
  refine wpList_plain hgd fun K hK => ?_
  unfold Oper.wp
  simp [execOp, ho, resolve, invoke, builtin, hs, hx, hr, Result.andThen]
  exact hK _ _ h
theorem infoDu : (Tryd.prog.info? 115).map (fun i => (i.zero, i.size, i.bytes)) = some (some (.slice none 0 0), 1, 24) := by kernel_rfl
set_option maxHeartbeats 1000000 in
theorem due_steps (w : World) : ∃ g c W3, (∀ ty, (Builtin.append_ #[69, 69] ty #[.slice none 0 0, .slice (some ⟨w.heap.size + 1, 0, none⟩) 1 1]).run Tryd.prog ((w.alloc (.cells #[.int .u64 0] 63)).alloc (.cells #[.slice (some ⟨w.heap.size, 0, none⟩) 1 1] 115)) = .ok (.slice (some ⟨g, 0, none⟩) 1 c) W3) ∧ Bx (Due W3 g w.heap.size c 0 ∧ Below w.heap.size w W3 ∧ w.heap.size ≤ g) := by
  obtain ⟨i0, hi0, hz0, hz1, hz2⟩ := info_parts infoDu
  obtain ⟨W1, hW1⟩ : ∃ W1, w.alloc (.cells #[.int .u64 0] 63) = W1 := ⟨_, rfl⟩
  rw [hW1]
  have s1 : W1.heap.size = w.heap.size + 1 := by rw [← hW1]; simp
  have b1 : Below w.heap.size w W1 := by rw [← hW1]; exact below1 w _
  have q1 : W1.heap[w.heap.size]? = some (.cells #[.int .u64 0] 63 (0, 0)) := by rw [← hW1]; exact heap_alloc_new w _
  have b2 : Below W1.heap.size W1 (W1.alloc (.cells #[.slice (some ⟨w.heap.size, 0, none⟩) 1 1] 115)) := below1 W1 _
  obtain ⟨g, c, W3, r1, r2, r3, r4, r5⟩ := run_append_lies (P := Tryd.prog) (W1.alloc (.cells #[.slice (some ⟨w.heap.size, 0, none⟩) 1 1] 115)) 69 69 (w.heap.size + 2) 115 i0 (.slice none 0 0) 1 24 Tryd.underlying69 hi0 hz0 hz1 hz2 rfl (by decide) (.slice none 0 0) 0 [] ⟨rfl, .inl ⟨rfl, rfl⟩⟩ ⟨w.heap.size + 1, 0, none⟩ 1 1 [.slice (some ⟨w.heap.size, 0, none⟩) 1 1] rfl (by
    have := World.news_of_block (w := W1.alloc (.cells #[.slice (some ⟨w.heap.size, 0, none⟩) 1 1] 115)) (cs := #[.slice (some ⟨w.heap.size, 0, none⟩) 1 1]) (heap_alloc_new W1 _)
    rw [s1] at this
    exact this) (by intro u hu; simp at hu; subst hu; rfl) (by decide) (by unfold maxLen; omega) (by omega) (by simp [s1]) _ rfl
  have b3 : Below (w.heap.size + 1) W1 W3 := (b2.mono (by omega)).grown r3 (by simp; omega) (fun k e => by cases e)
  have hge : w.heap.size + 2 ≤ g := by
    rcases r2.2 with ⟨h, _⟩ | ⟨g', c', cur, e, hge, _⟩
    · cases h
    · cases e; exact hge
  refine ⟨g, c, W3, fun ty => r1, ⟨?_, b1.trans (b3.mono (by omega)), by omega⟩⟩
  rcases r2.2 with ⟨h, _⟩ | ⟨g', c', cur, e, hge', hblk, hle, hcm, hsz, htk⟩
  · cases h
  · cases e
    refine ⟨?_, (b3.block _ (by omega)).trans q1, by omega, by omega⟩
    rw [World.cell?]
    simp only [hblk]
    have := congrArg (·[0]?) htk
    rw [List.getElem?_take_of_lt (by omega), Array.getElem?_toList] at this
    simpa using this
theorem infoU64 : (Tryd.prog.info? 63).map (fun i => (i.zero, i.size, i.bytes)) = some (some (.int .u64 0), 1, 8) := by kernel_rfl
theorem infoWay : (Tryd.prog.info? 66).map (fun i => (i.zero, i.size, i.bytes)) = some (some (.agg #[.int .i64 0, .int .u64 0]), 2, 16) := by kernel_rfl
theorem make_word (w : World) : (Instr.makeSlice 115 (.int .i64 1) (.int .i64 1)).run Tryd.prog w = .ok (.slice (some ⟨w.heap.size, 0, none⟩) 1 1) (w.alloc (.cells #[.int .u64 0] 63)) := by
  obtain ⟨i0, hi, hz0, hz1, hz2⟩ := info_parts infoU64
  have := run_make (P := Tryd.prog) w 115 63 i0 (.int .u64 0) Tryd.underlying115 hi hz0 .i64 .i64 1 1 (by omega) (by omega) (by rw [hz2]; omega) (by omega)
  rw [hz1] at this
  have e : madeCells #[Value.int .u64 0] 1 = #[Value.int .u64 0] := by kernel_rfl
  rw [← e]
  exact this
/-- how instructions are come to, as cells -/
def kC (K : List (Int × Int)) : Array Value := (K.flatMap fun p => [Value.int .i64 p.1, .int .u64 p.2]).toArray
theorem make_ways (w : World) (n : Nat) (hn : n ≤ 3) : (Instr.makeSlice 67 (.int .i64 n) (.int .i64 n)).run Tryd.prog w = .ok (.slice (some ⟨w.heap.size, 0, none⟩) n n) (w.alloc (.cells (kC (List.replicate n (0, 0))) 66)) := by
  obtain ⟨i0, hi, hz0, hz1, hz2⟩ := info_parts infoWay
  have := run_make (P := Tryd.prog) w 67 66 i0 (.agg #[.int .i64 0, .int .u64 0]) Tryd.underlying67 hi hz0 .i64 .i64 n n (by omega) (by omega) (by rw [hz2]; omega) (by omega)
  rw [hz1] at this
  have e : madeCells #[Value.int .i64 0, .int .u64 0] (n * 2) = kC (List.replicate n (0, 0)) := by
    rcases (show n = 0 ∨ n = 1 ∨ n = 2 ∨ n = 3 by omega) with rfl | rfl | rfl | rfl <;> kernel_rfl
  rw [← e]
  simpa [Value.cells] using this
set_option maxRecDepth 100000 in
set_option maxHeartbeats 1000000 in
theorem newDue_any (w : World) (n : Nat) (h0 : 0 < n) (hn : n ≤ 3) :
    Calls Tryd.prog 39 #[.int .i64 n] w fun e w' => ∃ db eb dc, e = .returned (.slice (some ⟨db, 0, none⟩) 1 dc) ∧ Bx (Due w' db eb dc 0 ∧ Below w.heap.size w w' ∧ w.heap.size ≤ db ∧ w.heap.size ≤ eb) := by
  obtain ⟨g, c, W3, run, HX⟩ := due_steps w
  have hmk := make_word
  rcases (show n = 1 ∨ n = 2 ∨ n = 3 by omega) with rfl | rfl | rfl
  all_goals
    go_enter Tryd.func39, Tryd.ntmps39
    go_wp2
    refine wp_loop_rounds 2 ?_
    rw [rounds_succ]
    go_wp2_with (first
      | (at_builtin; refine wpList_appY rfl (.tmp 14) (.tmp 17) 69 rfl rfl rfl run ?_; clear run))
    rw [rounds_succ]
    go_wp2
    go_ret
    exact ⟨g, _, c, rfl, ⟨HX.out.1, HX.out.2.1, HX.out.2.2, Nat.le_refl _⟩⟩
/-- a walker in memory -/
def wkO (a b c : Int) (r : Bool) (cd : Value) (kb n db dc : Nat) (lv : Int) (pv mv : Value) : Obj := .cells #[.int .i64 a, .int .i64 b, .int .i64 c, .bool r, cd, .slice (some ⟨kb, 0, none⟩) n n, .slice (some ⟨db, 0, none⟩) 1 dc, .int .i64 lv, pv, mv] 75 (0, 0)
structure WK (w : World) (wb kb db eb dc : Nat) (o : Obj) (K : List (Int × Int)) (x : Int) : Prop where
  wk : w.heap[wb]? = some o
  kn : w.heap[kb]? = some (.cells (kC K) 66 (0, 0))
  du : Due w db eb dc x
  n1 : wb ≠ kb
  n2 : wb ≠ db
  n3 : wb ≠ eb
  n4 : kb ≠ db
  n5 : kb ≠ eb
theorem Due.below {w w' : World} {db eb dc : Nat} {x : Int} (h : Due w db eb dc x) (hb : Below w.heap.size w w') : Due w' db eb dc x :=
  ⟨(hb.cell (p := ⟨db, 0, none⟩) h.lt.2).trans h.d0, (hb.block _ h.lt.1).trans h.e0, h.cap, h.ne⟩
theorem nw_of {w X : World} {kb db eb dc n : Nat} (hd : Due X db eb dc 0) (hk : X.heap[kb]? = some (.cells (kC (List.replicate n (0, 0))) 66 (0, 0))) (hb : Below w.heap.size w X) (h1 : w.heap.size ≤ kb) (h2 : w.heap.size ≤ db) (h3 : w.heap.size ≤ eb) (n4 : kb ≠ db) (n5 : kb ≠ eb) {wb : Nat} (hwb : X.heap.size = wb) :
    WK (X.alloc (wkO 0 0 0 false (.slice none 0 0) kb n db dc 0 (.slice none 0 0) (.map none))) wb kb db eb dc (wkO 0 0 0 false (.slice none 0 0) kb n db dc 0 (.slice none 0 0) (.map none)) (List.replicate n (0, 0)) 0 ∧ Below w.heap.size w (X.alloc (wkO 0 0 0 false (.slice none 0 0) kb n db dc 0 (.slice none 0 0) (.map none))) ∧ w.heap.size ≤ wb ∧ w.heap.size ≤ kb ∧ w.heap.size ≤ db ∧ w.heap.size ≤ eb := by
  subst hwb
  have hkl := (Array.getElem?_eq_some_iff.1 hk).1
  have hdl := hd.lt
  have hs := hb.size
  have b1 := below1 X (wkO 0 0 0 false (.slice none 0 0) kb n db dc 0 (.slice none 0 0) (.map none))
  exact ⟨⟨heap_alloc_new X _, (b1.block _ hkl).trans hk, hd.below b1, by omega, by omega, by omega, n4, n5⟩, hb.trans (b1.mono hs), hs, h1, h2, h3⟩
set_option maxRecDepth 100000 in
set_option maxHeartbeats 2000000 in
theorem newWalker_any (w : World) (n : Nat) (h0 : 0 < n) (hn : n ≤ 3) :
    Calls Tryd.prog 26 #[.int .i64 n] w fun e w' => ∃ wb kb db eb dc, e = .returned (.pointer (some ⟨wb, 0, none⟩)) ∧ Bx (WK w' wb kb db eb dc (wkO 0 0 0 false (.slice none 0 0) kb n db dc 0 (.slice none 0 0) (.map none)) (List.replicate n (0, 0)) 0 ∧ Below w.heap.size w w' ∧ w.heap.size ≤ wb ∧ w.heap.size ≤ kb ∧ w.heap.size ≤ db ∧ w.heap.size ≤ eb) := by
  have HD : Bx (∀ W, _) := ⟨fun W => newDue_any W n h0 hn⟩
  have hmk := fun W => make_ways W n hn
  go_enter Tryd.func26, Tryd.ntmps26
  go_wp2
  go_region_with (first
    | (go_at_call 39; refine (HD.out _).mono ?_; rintro e w1 ⟨db, eb, dc, rfl, HX⟩))
  · go_wp2
    go_ret
    have hx := HX.out
    have hs : (w.alloc (.cells (kC (List.replicate n (0, 0))) 66)).drew.heap.size = w.heap.size + 1 := by simp
    rw [hs] at hx
    obtain ⟨q1, q2, q3, q4⟩ := hx
    exact ⟨_, _, db, eb, dc, rfl, ⟨nw_of (w := w) (n := n) (kb := w.heap.size) q1 ((q2.block w.heap.size (by omega)).trans (heap_alloc_new w _)) (Below.trans (b := (w.alloc (.cells (kC (List.replicate n (0, 0))) 66)).drew) (below1 w _).drew (q2.mono (by omega))) (Nat.le_refl _) (by omega) (by omega) (by omega) (by omega) rfl⟩⟩
  · go_wp2
    go_ret
    obtain ⟨q1, q2, q3, q4⟩ := HX.out
    have l1 := q1.lt
    have hs := q2.size
    exact ⟨_, _, db, eb, dc, rfl, ⟨nw_of (w := w) (n := n) (kb := w1.heap.size) (q1.below (below1 w1 _)) (heap_alloc_new w1 _) (Below.trans ⟨q2.os, q2.tape, q2.output, q2.size, q2.block⟩ ((below1 w1 _).mono hs)) hs q3 q4 (by omega) (by omega) (by simp)⟩⟩
end Go.Proofs.YtadmpgegolmkgaaDoor
namespace Go.Proofs.YtadmpgegolmkgaaDoor
open Go.RowKit
set_option linter.unusedVariables false
set_option linter.unusedSimpArgs false

set_option maxRecDepth 100000 in
set_option maxHeartbeats 1000000 in
theorem within_yes (n m : Int) (h0 : 0 ≤ n) (h1 : n ≤ m) (w : World) : Calls Tryd.prog 49 #[.int .i64 n, .int .i64 m] w fun e w' => e = .returned (.bool true) ∧ w = w' := by
  go_enter Tryd.func49, Tryd.ntmps49
  go_wp2
  go_ret
  exact ⟨ret_bool (by simp [h0, h1]), rfl⟩
/-- the three instructions of the examples, with what their operations want of A -/
def Ex (op a v : Int) : Prop := (op = 1 ∧ a = 1 ∧ v = 1) ∨ (op = 5 ∧ a = 0 ∧ v = 12) ∨ (op = 25 ∧ a = 0 ∧ v = 0)
set_option maxRecDepth 100000 in
set_option maxHeartbeats 1000000 in
theorem fits_ex (j : Value) (v n : Int) (h : (v = 0 ∧ n = 0) ∨ (v = 1 ∧ n = 1) ∨ (v = 12 ∧ n = 0)) (w : World) : Calls Tryd.prog 71 #[j, .int .i64 v, .int .i64 n] w fun e w' => e = .returned (.bool true) ∧ w = w' := by
  rcases h with ⟨rfl, rfl⟩ | ⟨rfl, rfl⟩ | ⟨rfl, rfl⟩
  all_goals
    go_enter Tryd.func71, Tryd.ntmps71
    go_wp2
    go_ret
    exact ⟨rfl, rfl⟩
set_option maxRecDepth 100000 in
set_option maxHeartbeats 1000000 in
theorem fitsList_ex (w : World) : Calls Tryd.prog 72 #[.int .i64 0, .slice none 0 0] w fun e w' => e = .returned (.bool true) ∧ w = w' := by
  go_enter Tryd.func72, Tryd.ntmps72
  go_wp2
  go_ret
  exact ⟨rfl, rfl⟩
abbrev exV (op a : Int) : Value := .agg #[.int .i64 op, .int .i64 a, .int .i64 0, .slice none 0 0]
set_option maxRecDepth 100000 in
set_option maxHeartbeats 1000000 in
theorem isFormed_ex (j : Value) (op a v : Int) (h : Ex op a v) (w : World) : Calls Tryd.prog 50 #[j, .agg #[.int .i64 v, .int .i64 0, .int .i64 0], exV op a] w fun e w' => e = .returned (.bool true) ∧ Below w.heap.size w w' := by
  have H1 : Bx (∀ W, _) := ⟨fun W => fits_ex j v a (by rcases h with ⟨_, rfl, rfl⟩ | ⟨_, rfl, rfl⟩ | ⟨_, rfl, rfl⟩ <;> simp) W⟩
  have H0 : Bx (∀ W, _) := ⟨fun W => fits_ex j 0 0 (.inl ⟨rfl, rfl⟩) W⟩
  have HL : Bx (∀ W, _) := ⟨fun W => fitsList_ex W⟩
  have hb : Bx (∀ o1 o2, Below w.heap.size w ((w.alloc o1).alloc o2)) := ⟨fun o1 o2 => (below1 w o1).alloc (by simp) o2⟩
  go_enter Tryd.func50, Tryd.ntmps50
  go_wp2_with (first
    | (go_at_call 71; refine (H1.out _).mono ?_; rintro e w1 ⟨rfl, rfl⟩; clear H1)
    | (go_at_call 72; refine (HL.out _).mono ?_; rintro e w2 ⟨rfl, rfl⟩)
    | (go_at_call 71; refine (H0.out _).mono ?_; rintro e w1 ⟨rfl, rfl⟩))
  go_ret
  exact ⟨rfl, hb.out _ _⟩
set_option maxRecDepth 100000 in
set_option maxHeartbeats 1000000 in
theorem hasSlot_ex (w : World) (jb : Nat) (v a : Int) (h : (v = 0 ∧ a = 0) ∨ (v = 1 ∧ a = 1) ∨ (v = 12 ∧ a = 0)) (hj : w.cell? ⟨jb, 3, none⟩ = some (.int .i64 1)) : Calls Tryd.prog 51 #[.pointer (some ⟨jb, 0, none⟩), .int .i64 v, .int .i64 a] w fun e w' => e = .returned (.bool true) ∧ w = w' := by
  have HW : Bx (∀ W, _) := ⟨fun W => within_yes 0 0 (by omega) (by omega) W⟩
  rcases h with ⟨rfl, rfl⟩ | ⟨rfl, rfl⟩ | ⟨rfl, rfl⟩
  all_goals
    go_enter Tryd.func51, Tryd.ntmps51
    go_wp2_with (first
      | (go_at_call 49; refine (HW.out _).mono ?_; rintro e w1 ⟨rfl, rfl⟩))
    go_ret
    exact ⟨rfl, rfl⟩
set_option maxRecDepth 100000 in
set_option maxHeartbeats 1000000 in
theorem hasTargets_ex (j : Value) (op a v at_ : Int) (h : Ex op a v) (w : World) : Calls Tryd.prog 52 #[j, .agg #[.int .i64 v, .int .i64 0, .int .i64 0], .int .i64 at_, exV op a] w fun e w' => e = .returned (.bool true) ∧ Below w.heap.size w w' := by
  have hb : Bx (∀ o1 o2, Below w.heap.size w ((w.alloc o1).alloc o2)) := ⟨fun o1 o2 => (below1 w o1).alloc (by simp) o2⟩
  rcases h with ⟨rfl, rfl, rfl⟩ | ⟨rfl, rfl, rfl⟩ | ⟨rfl, rfl, rfl⟩
  all_goals
    go_enter Tryd.func52, Tryd.ntmps52
    go_wp2
    go_ret
    exact ⟨rfl, hb.out _ _⟩
end Go.Proofs.YtadmpgegolmkgaaDoor
