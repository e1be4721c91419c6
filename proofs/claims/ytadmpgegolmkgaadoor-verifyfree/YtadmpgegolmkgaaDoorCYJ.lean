import Derived.Test.YtadmpgegolmkgaaDoorCYH
namespace Go.Proofs.YtadmpgegolmkgaaDoor
open Go.RowKit
set_option linter.unusedVariables false
set_option linter.unusedSimpArgs false

theorem wpList_clr {P : Program} {w w' : World} {ops : Array Oper} {rest : List Oper} {o : Oper} {a : Act} {Q : Exit → Act → World → Prop} (hgd : o.guard = none) (x : Operand) (t : TypeId)
    (ho : o.op = .call { callee := .builtin .clear, args := #[x], argTypes := #[t] }) {u : Value} (hx : a.eval x = u) (hr : ∀ ty, (Builtin.clear_ #[t] ty #[u]).run P w = .ok (.tuple #[]) w')
    (h : wpList P ops Q rest (a.put o.dst (.tuple #[])) w') : wpList P ops Q (o :: rest) a w := by
  refine wpList_plain hgd fun K hK => ?_
  unfold Oper.wp
  simp [execOp, ho, resolve, invoke, builtin, hx, hr, Result.andThen]
  exact hK _ _ h
theorem clear_map (w : World) (M : Nat) (hm : w.heap[M]? = some (.map #[] 0)) : ∃ W, (∀ ty, (Builtin.clear_ #[71] ty #[.map (some M)]).run Tryd.prog w = .ok (.tuple #[]) W) ∧ Fx (· = M) w W := by
  have hu : Tryd.prog.underlying 71 = some (.map 120 64) := Tryd.underlying71
  have hMl := (Array.getElem?_eq_some_iff.1 hm).1
  have hg : (getObj M).run Tryd.prog w = .ok (.map #[] 0) w := by simp [getObj, Sem.run, hm]
  have hs : (setObj M (.map #[] 0)).run Tryd.prog w = .ok () { w with heap := w.heap.set! M (.map #[] 0) } := by simp [setObj, Sem.run, hm]
  refine ⟨{ w with heap := w.heap.set! M (.map #[] 0) }, fun ty => by simp [Builtin.clear_, run_underlying hu, hg, hs, Result.andThen], ?_⟩
  refine ⟨rfl, rfl, rfl, by simp, fun k hk hn => ?_⟩
  simp only [Array.set!_eq_setIfInBounds, Array.getElem?_setIfInBounds]
  rw [if_neg (fun e => hn e.symm)]
theorem map_nil (W : World) : (binOp .eql 71 (.map none) (.map none)).run Tryd.prog W = .ok (.bool true) W := by
  have hu : Tryd.prog.underlying 71 = some (.map 120 64) := Tryd.underlying71
  have e : ∀ d, (Op.equalIn (d + 1) 71 (.map none) (.map none)).run Tryd.prog W = .ok true W := fun d => by simp [Op.equalIn, run_underlying hu]
  simp only [binOp]
  simp [Op.equal, Op.maxDepth, e 9999]
theorem infoPair : (Tryd.prog.info? 120).map (fun i => (i.zero, i.size, i.bytes)) = some (some (.agg #[.int .u64 0, .int .u64 0]), 2, 16) := by kernel_rfl
theorem wk_set {w : World} {b i : Nat} {C : Array Value} {v : Value} (h : w.heap[b]? = some (.cells C 75 (0, 0))) : (w.setCell ⟨b, i, none⟩ v).heap[b]? = some (.cells (C.setIfInBounds i v) 75 (0, 0)) := heap_setCell_same w b i C _ v h
set_option maxRecDepth 100000 in
set_option maxHeartbeats 2000000 in
theorem begin_ex (w : World) (wb : Nat) (a b c : Int) (r : Bool) (cd : Value) (kb n db dc : Nat) (h : w.heap[wb]? = some (wkO a b c r cd kb n db dc 0 (.slice none 0 0) (.map none))) :
    Calls Tryd.prog 40 #[.pointer (some ⟨wb, 7, none⟩), .int .i64 1] w fun e w' => e = .returned (.tuple #[]) ∧ ∃ pv mv, Bx (w'.heap[wb]? = some (wkO a b c r cd kb n db dc 0 pv mv) ∧ Fx (· = wb) w w') := by
  obtain ⟨H, hH⟩ : ∃ H, w.heap.size = H := ⟨_, rfl⟩
  have hwl : wb < H := hH ▸ (Array.getElem?_eq_some_iff.1 h).1
  have HL : Bx (∀ W, _) := ⟨fun W => Len_0 W⟩
  unfold wkO at h
  -- the levels
  have a7 : w.cell? ⟨wb, 7, none⟩ = some (.int .i64 0) := (cell_of_row w _ 7 _ _ _ h).trans rfl
  have f7 : w.frozen? ⟨wb, 7, none⟩ = false := by simp [World.frozen?, h]
  obtain ⟨W1, hW1⟩ : ∃ W1, w.setCell ⟨wb, 7, none⟩ (.int .i64 0) = W1 := ⟨_, rfl⟩
  have h1 : W1.heap[wb]? = some (.cells #[.int .i64 a, .int .i64 b, .int .i64 c, .bool r, cd, .slice (some ⟨kb, 0, none⟩) n n, .slice (some ⟨db, 0, none⟩) 1 dc, .int .i64 0, .slice none 0 0, .map none] 75 (0, 0)) := by rw [← hW1]; exact wk_set h
  have x1 : Fx (· = wb) w W1 := by rw [← hW1]; exact Fx.set (P := (· = wb)) (p := ⟨wb, 7, none⟩) (Fx.refl _ w) (.inl rfl) _
  have s1 : W1.heap.size = H := by rw [← hW1]; simpa using hH
  have b8 : W1.cell? ⟨wb, 8, none⟩ = some (.slice none 0 0) := (cell_of_row W1 _ 8 _ _ _ h1).trans rfl
  -- the pairs
  obtain ⟨i0, hi0, hz0, hz1, hz2⟩ := info_parts infoPair
  obtain ⟨g, cc, W3, r1, r2, r3, r4, r5⟩ := run_append_lies (P := Tryd.prog) (W1.alloc (.cells #[.int .u64 0, .int .u64 0] 120)) 70 70 (H + 1) 120 i0 (.agg #[.int .u64 0, .int .u64 0]) 2 16 Tryd.underlying70 hi0 hz0 hz1 hz2 rfl (by decide) (.slice none 0 0) 0 [] ⟨rfl, .inl ⟨rfl, rfl⟩⟩ ⟨H, 0, none⟩ 1 1 [.int .u64 0, .int .u64 0] rfl (by
    have := World.news_of_block (w := W1.alloc (.cells #[.int .u64 0, .int .u64 0] 120)) (cs := #[.int .u64 0, .int .u64 0]) (heap_alloc_new W1 _)
    rw [s1] at this
    exact this) (by intro u hu; simp at hu; subst hu; rfl) (by decide) (by unfold maxLen; omega) (by omega) (by simp [s1]) _ rfl
  have b3 : Below H W1 W3 := ((s1 ▸ below1 W1 _)).grown r3 (by simp; omega) (fun k e => by cases e)
  have run3 : ∀ ty, (Builtin.append_ #[70, 70] ty #[.slice none 0 0, .slice (some ⟨H, 0, none⟩) 1 1]).run Tryd.prog (W1.alloc (.cells #[.int .u64 0, .int .u64 0] 120)) = .ok (.slice (some ⟨g, 0, none⟩) 1 cc) W3 := fun ty => r1
  have s3 : H ≤ W3.heap.size := by have := b3.size; omega
  have h3 : W3.heap[wb]? = _ := (b3.block wb hwl).trans h1
  have x3 : Fx (· = wb) w W3 := x1.trans (Fx.of (s1.symm ▸ b3))
  have c8 : W3.cell? ⟨wb, 8, none⟩ = some (.slice none 0 0) := (cell_of_row W3 _ 8 _ _ _ h3).trans rfl
  have g8 : W3.frozen? ⟨wb, 8, none⟩ = false := by simp [World.frozen?, h3]
  obtain ⟨W4, hW4⟩ : ∃ W4, W3.setCell ⟨wb, 8, none⟩ (.slice (some ⟨g, 0, none⟩) 1 cc) = W4 := ⟨_, rfl⟩
  have h4 : W4.heap[wb]? = some (.cells #[.int .i64 a, .int .i64 b, .int .i64 c, .bool r, cd, .slice (some ⟨kb, 0, none⟩) n n, .slice (some ⟨db, 0, none⟩) 1 dc, .int .i64 0, .slice (some ⟨g, 0, none⟩) 1 cc, .map none] 75 (0, 0)) := by rw [← hW4]; exact wk_set h3
  have x4 : Fx (· = wb) w W4 := by rw [← hW4]; exact Fx.set (P := (· = wb)) (p := ⟨wb, 8, none⟩) x3 (.inl rfl) _
  have s4 : H ≤ W4.heap.size := by have := x4.size; omega
  have d9 : W4.cell? ⟨wb, 9, none⟩ = some (.map none) := (cell_of_row W4 _ 9 _ _ _ h4).trans rfl
  -- the map
  obtain ⟨M, hM⟩ : ∃ M, W4.heap.size = M := ⟨_, rfl⟩
  obtain ⟨W5, hW5⟩ : ∃ W5, W4.alloc (.map #[] 0) = W5 := ⟨_, rfl⟩
  have h5 := (show W5.heap[wb]? = W4.heap[wb]? by rw [← hW5]; exact (below1 W4 _).block wb (by omega)).trans h4
  have m5 : W5.heap[M]? = some (.map #[] 0) := by rw [← hW5, ← hM]; exact heap_alloc_new W4 _
  have x5 : Fx (· = wb) w W5 := by rw [← hW5]; exact x4.alloc _
  have e9 : W5.cell? ⟨wb, 9, none⟩ = some (.map none) := (cell_of_row W5 _ 9 _ _ _ h5).trans rfl
  have k9 : W5.frozen? ⟨wb, 9, none⟩ = false := by simp [World.frozen?, h5]
  obtain ⟨W6, hW6⟩ : ∃ W6, W5.setCell ⟨wb, 9, none⟩ (.map (some M)) = W6 := ⟨_, rfl⟩
  have h6 : W6.heap[wb]? = some (.cells #[.int .i64 a, .int .i64 b, .int .i64 c, .bool r, cd, .slice (some ⟨kb, 0, none⟩) n n, .slice (some ⟨db, 0, none⟩) 1 dc, .int .i64 0, .slice (some ⟨g, 0, none⟩) 1 cc, .map (some M)] 75 (0, 0)) := by rw [← hW6]; exact wk_set h5
  have m6 : W6.heap[M]? = some (.map #[] 0) := by rw [← hW6, Below.heap_setCell W5 ⟨wb, 9, none⟩ _ M (by simp; omega)]; exact m5
  have x6 : Fx (· = wb) w W6 := by rw [← hW6]; exact Fx.set (P := (· = wb)) (p := ⟨wb, 9, none⟩) x5 (.inl rfl) _
  have l9 : W6.cell? ⟨wb, 9, none⟩ = some (.map (some M)) := (cell_of_row W6 _ 9 _ _ _ h6).trans rfl
  obtain ⟨W7, run7, x7⟩ := clear_map W6 M m6
  have h7 : W7.heap[wb]? = _ := (x7.block wb (Array.getElem?_eq_some_iff.1 h6).1 (by omega)).trans h6
  have HX : Bx (W7.heap[wb]? = some (wkO a b c r cd kb n db dc 0 (.slice (some ⟨g, 0, none⟩) 1 cc) (.map (some M))) ∧ Fx (· = wb) w W7) := ⟨h7, ⟨x7.os.trans x6.os, x7.tape.trans x6.tape, x7.output.trans x6.output, Nat.le_trans x6.size x7.size, fun k hk hn => (x7.block k (Nat.lt_of_lt_of_le hk x6.size) (by omega)).trans (x6.block k hk hn)⟩⟩
  have hmm := @run_makeMap Tryd.prog
  have hmn := map_nil
  clear h h1 h3 h4 h5 h6 h7 x1 x3 x4 x5 x6 x7 m5 m6 r1 r2 r3 r4 r5 b3 hi0 hz0 hz1 hz2
  go_enter Tryd.func40, Tryd.ntmps40
  go_wp2_with (first
    | (go_at_call 59; refine (HL.out _).mono ?_; rintro e w1 ⟨rfl, rfl⟩)
    | (at_builtin; refine wpList_appY rfl (.tmp 16) (.tmp 18) 70 rfl rfl rfl run3 ?_; clear run3)
    | (at_builtin; refine wpList_clr rfl (.tmp 34) 71 rfl rfl run7 ?_; clear run7))
  go_returns
  exact ⟨rfl, _, _, HX⟩
end Go.Proofs.YtadmpgegolmkgaaDoor
namespace Go.Proofs.YtadmpgegolmkgaaDoor
open Go.RowKit
set_option linter.unusedVariables false
set_option linter.unusedSimpArgs false

set_option maxRecDepth 100000 in
set_option maxHeartbeats 1000000 in
theorem first_ex (w : World) (wb : Nat) (h : w.cell? ⟨wb, 7, none⟩ = some (.int .i64 0)) :
    Calls Tryd.prog 42 #[.pointer (some ⟨wb, 7, none⟩), .int .i64 0] w fun e w' => e = .returned (.int .u64 0) ∧ ∃ k, w' = w.drewN k := by
  go_enter Tryd.func42, Tryd.ntmps42
  go_wp2
  go_quiet (fail)
  go_wp2
  refine wp_loop_rounds 1 ?_
  rw [rounds_succ]
  go_wp2
  go_ret
  exact ⟨rfl, _, rfl⟩
set_option maxRecDepth 100000 in
set_option maxHeartbeats 1000000 in
theorem bitOf_0 (w : World) : Calls Tryd.prog 81 #[.int .i64 0] w fun e w' => e = .returned (.int .u64 1) ∧ w = w' := by
  go_enter Tryd.func81, Tryd.ntmps81
  go_wp2
  go_ret
  exact ⟨rfl, rfl⟩
set_option maxRecDepth 100000 in
set_option maxHeartbeats 1000000 in
theorem changed_0 (x : Value) (w : World) : Calls Tryd.prog 89 #[x, .int .u64 0, .int .i64 0, .int .i64 0, .int .u64 1] w fun e w' => e = .returned (.int .u64 1) ∧ w = w' := by
  have HB : Bx (∀ W, _) := ⟨fun W => bitOf_0 W⟩
  have o0 : bits BinOp.andNot IntKind.u64 0 1 = 0 := by kernel_rfl
  have o1 : bits BinOp.or IntKind.u64 0 1 = 1 := by kernel_rfl
  go_enter Tryd.func89, Tryd.ntmps89
  go_wp2_with (first
    | (go_at_call 81; refine (HB.out _).mono ?_; rintro e w1 ⟨rfl, rfl⟩))
  go_ret
  exact ⟨rfl, rfl⟩
set_option maxRecDepth 100000 in
set_option maxHeartbeats 1000000 in
theorem with_ex (w : World) (wb : Nat) (h : w.cell? ⟨wb, 7, none⟩ = some (.int .i64 0)) :
    Calls Tryd.prog 82 #[.pointer (some ⟨wb, 7, none⟩), .int .u64 0, .int .i64 0] w fun e w' => e = .returned (.int .u64 1) ∧ ∃ k, w' = w.drewN k := by
  have HB : Bx (∀ W, _) := ⟨fun W => bitOf_0 W⟩
  have HC : Bx (∀ W, _) := ⟨fun W => changed_0 (.pointer (some ⟨wb, 7, none⟩)) W⟩
  go_enter Tryd.func82, Tryd.ntmps82
  go_wp2
  go_region_with (first
    | (go_at_call 81; refine (HB.out _).mono ?_; rintro e w1 ⟨rfl, rfl⟩)
    | (go_at_call 89; refine (HC.out _).mono ?_; rintro e w1 ⟨rfl, rfl⟩))
  all_goals
    go_wp2
    go_ret
    exact ⟨rfl, _, rfl⟩
theorem kC_get : ∀ (K : List (Int × Int)) (i : Nat) (h : i < K.length), (kC K)[i * 2]? = some (.int .i64 K[i].1) ∧ (kC K)[i * 2 + 1]? = some (.int .u64 K[i].2)
  | p :: r, 0, _ => by simp [kC]
  | p :: r, i + 1, h => by
    have := kC_get r i (by simpa using h)
    simp only [kC, List.getElem?_toArray, List.flatMap_cons, List.getElem_cons_succ] at this ⊢
    have e : ∀ k, ([Value.int .i64 p.1, .int .u64 p.2] ++ List.flatMap (fun p => [Value.int .i64 p.1, .int .u64 p.2]) r)[2 + k]? = (List.flatMap (fun p => [Value.int .i64 p.1, .int .u64 p.2]) r)[k]? := fun k => by
      rw [List.getElem?_append_right (by simp)]
      simp
    rw [show (i + 1) * 2 = 2 + i * 2 by omega, show 2 + i * 2 + 1 = 2 + (i * 2 + 1) by omega, e, e]
    exact this
theorem kL_set : ∀ (K : List (Int × Int)) (i : Nat) (h : i < K.length) (a s : Int), ((K.flatMap fun p => [Value.int .i64 p.1, .int .u64 p.2]).set (i * 2) (.int .i64 a)).set (i * 2 + 1) (.int .u64 s) = (K.set i (a, s)).flatMap fun p => [Value.int .i64 p.1, .int .u64 p.2]
  | p :: r, 0, _, a, s => by simp
  | p :: r, i + 1, h, a, s => by
    have := kL_set r i (by simpa using h) a s
    rw [show (i + 1) * 2 = i * 2 + 1 + 1 by omega]
    simp only [List.flatMap_cons, List.set_cons_succ, List.cons_append, List.nil_append]
    rw [this]
theorem kC_set (K : List (Int × Int)) (i : Nat) (h : i < K.length) (a s : Int) : ((kC K).setIfInBounds (i * 2) (.int .i64 a)).setIfInBounds (i * 2 + 1) (.int .u64 s) = kC (K.set i (a, s)) := by
  unfold kC
  rw [← kL_set K i h a s]
  simp
end Go.Proofs.YtadmpgegolmkgaaDoor
