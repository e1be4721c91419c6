import Derived.Test.YtadmpgegolmkgaaDoorBDP
import Derived.Deep.AppendLies
import Derived.Deep.RegionWith
set_option linter.unusedVariables false
set_option linter.unusedSimpArgs false
set_option maxHeartbeats 4000000
set_option maxRecDepth 100000
namespace Go.Proofs.YtadmpgegolmkgaaDoor
open Go.RowKit
structure Due (w : World) (db eb dc : Nat) (x : Int) : Prop where
 d0 : w.cell? ⟨db, 0, none⟩ = some (.slice (some ⟨eb, 0, none⟩) 1 1)
 e0 : w.heap[eb]? = some (.cells #[.int .u64 x] 63 (0, 0))
 cap : 1 <= dc
 ne : db ≠ eb
theorem Due.lt {w : World} {db eb dc : Nat} {x : Int} (h : Due w db eb dc x) : eb < w.heap.size /\ db < w.heap.size := ⟨(Array.getElem?_eq_some_iff.1 h.e0).1, World.block_lt_of_cell? w _ h.d0⟩
theorem Due.put {w : World} {db eb dc : Nat} {x : Int} (h : Due w db eb dc x) (k : Nat) (u : Int) : Due ((w.drewN k).setCell ⟨eb, 0, none⟩ (.int .u64 u)) db eb dc u :=
 ⟨by rw [World.cell?_of_block (w := w) (Below.heap_setCell (w.drewN k) ⟨eb, 0, none⟩ _ db h.ne)]; exact h.d0, one_setCell (w := w.drewN k) h.e0, h.cap, h.ne⟩
theorem zx (n : Nat) (hn : n < 3) (w : World) (db eb dc : Nat) (hD : Due w db eb dc 0) :
  Calls Tryd.prog 60 #[.slice (some ⟨db, 0, none⟩) 1 dc, .int .i64 n] w fun e w' => e = .returned (.tuple #[]) /\ Bx (Due w' db eb dc ((2 ^ n : Nat) : Int) /\ Fx (· = eb) w w') := by
 have d0 := hD.d0
 have e0 : w.cell? ⟨eb, 0, none⟩ = some (.int .u64 0) := (cell_of_row w _ 0 _ _ _ hD.e0).trans rfl
 have ef : w.frozen? ⟨eb, 0, none⟩ = false := by simp [World.frozen?, hD.e0]
 have hc := hD.cap
 have o0 : bits BinOp.or IntKind.u64 0 1 = 1 := by kernel_rfl
 have o1 : bits BinOp.or IntKind.u64 0 2 = 2 := by kernel_rfl
 have o2 : bits BinOp.or IntKind.u64 0 4 = 4 := by kernel_rfl
 have HE : Bx (∀ k u, Due ((w.drewN k).setCell ⟨eb, 0, none⟩ (.int .u64 u)) db eb dc u /\ Fx (· = eb) w ((w.drewN k).setCell ⟨eb, 0, none⟩ (.int .u64 u))) := ⟨fun k u => ⟨hD.put k u, Fx.set (p := ⟨eb, 0, none⟩) ((Fx.refl (· = eb) w).drewN k) (.inl rfl) _⟩⟩
 clear hD
 rcases (show n = 0 ∨ n = 1 ∨ n = 2 by omega) with rfl | rfl | rfl
 all_goals
  go_enter Tryd.func60, Tryd.ntmps60
  go_wp2
  go_rounds 2
  go_region
  go_wp2
  rw [rounds_succ]
  go_wp2
  go_returns
  exact ⟨rfl, ⟨HE.out _ _⟩⟩
theorem wJ (n : Nat) (hn : n < 3) (w : World) (db eb dc : Nat) (hD : Due w db eb dc ((2 ^ n : Nat) : Int)) :
  Calls Tryd.prog 64 #[.slice (some ⟨db, 0, none⟩) 1 dc, .int .i64 n] w fun e w' => e = .returned (.tuple #[]) /\ Bx (Due w' db eb dc 0 /\ Fx (· = eb) w w') := by
 have d0 := hD.d0
 have e0 : w.cell? ⟨eb, 0, none⟩ = some (.int .u64 ((2 ^ n : Nat) : Int)) := (cell_of_row w _ 0 _ _ _ hD.e0).trans rfl
 have ef : w.frozen? ⟨eb, 0, none⟩ = false := by simp [World.frozen?, hD.e0]
 have hc := hD.cap
 have o0 : bits BinOp.andNot IntKind.u64 1 1 = 0 := by kernel_rfl
 have o1 : bits BinOp.andNot IntKind.u64 2 2 = 0 := by kernel_rfl
 have o2 : bits BinOp.andNot IntKind.u64 4 4 = 0 := by kernel_rfl
 have hne : db ≠ eb := hD.ne
 have HE : Bx (∀ k u, Due ((w.drewN k).setCell ⟨eb, 0, none⟩ (.int .u64 u)) db eb dc u /\ Fx (· = eb) w ((w.drewN k).setCell ⟨eb, 0, none⟩ (.int .u64 u))) := ⟨fun k u => ⟨hD.put k u, Fx.set (p := ⟨eb, 0, none⟩) ((Fx.refl (· = eb) w).drewN k) (.inl rfl) _⟩⟩
 clear hD
 rcases (show n = 0 ∨ n = 1 ∨ n = 2 by omega) with rfl | rfl | rfl
 all_goals
  simp only [Nat.reducePow] at e0
  go_enter Tryd.func64, Tryd.ntmps64
  go_wp2
  go_rounds 2
  go_region
  go_wp2
  rw [rounds_succ]
  go_wp2
  go_returns
  exact ⟨rfl, ⟨HE.out _ _⟩⟩
theorem zy (w : World) (db eb dc : Nat) (hD : Due w db eb dc 0) :
  Calls Tryd.prog 43 #[.slice (some ⟨db, 0, none⟩) 1 dc] w fun e w' => e = .returned (.tuple #[.int .i64 0, .bool false]) /\ w = w' := by
 have d0 := hD.d0
 have e0 : w.cell? ⟨eb, 0, none⟩ = some (.int .u64 0) := (cell_of_row w _ 0 _ _ _ hD.e0).trans rfl
 have hc := hD.cap
 clear hD
 go_enter Tryd.func43, Tryd.ntmps43
 go_wp2
 go_rounds 2
 go_returns
 exact ⟨rfl, rfl⟩
theorem wK (n : Nat) (hn : n < 3) (w : World) (hV : VW w) (db eb dc : Nat) (hD : Due w db eb dc ((2 ^ n : Nat) : Int)) :
  Calls Tryd.prog 43 #[.slice (some ⟨db, 0, none⟩) 1 dc] w fun e w' => e = .returned (.tuple #[.int .i64 n, .bool true]) /\ Bx (Due w' db eb dc 0 /\ Fx (· = eb) w w') := by
 have d0 := hD.d0
 have e0 : w.cell? ⟨eb, 0, none⟩ = some (.int .u64 ((2 ^ n : Nat) : Int)) := (cell_of_row w _ 0 _ _ _ hD.e0).trans rfl
 have hc := hD.cap
 have HT := AV n hn w hV
 have HD := wJ n hn w db eb dc hD
 clear hD hV
 have hp : (((2 ^ n : Nat) : Int) == 0) = false := by
  rcases (show n = 0 ∨ n = 1 ∨ n = 2 by omega) with rfl | rfl | rfl <;> rfl
 generalize ((2 ^ n : Nat) : Int) = x at *
 go_enter Tryd.func43, Tryd.ntmps43
 go_wp2
 refine wp_loop_rounds 2 ?_
 rw [rounds_succ]
 go_wp2_with (first
  | (go_at_call 63; refine HT.mono ?_; rintro e w1 ⟨rfl, rfl⟩))
 rw [rounds_succ]
 go_wp2_with (first
  | (go_at_call 64; refine HD.mono ?_; rintro e w1 ⟨rfl, HX⟩))
 go_returns
 exact ⟨rfl, HX⟩
theorem jQ {P : Program} {w w' : World} {ops : Array Oper} {rest : List Oper} {o : Oper} {a : Act} {Q : Exit -> Act -> World -> Prop} (hgd : o.guard = none) (s x : Operand) (t : TypeId)
  (ho : o.op = .call { callee := .builtin .append, args := #[s, x], argTypes := #[t, t] }) {v u r : Value} (hs : a.eval s = v) (hx : a.eval x = u) (hr : ∀ ty, (Builtin.append_ #[t, t] ty #[v, u]).run P w = .ok r w')
  (h : wpList P ops Q rest (a.put o.dst r) w') : wpList P ops Q (o :: rest) a w := by
 refine wpList_plain hgd fun K hK => ?_
 unfold Oper.wp
 simp [execOp, ho, resolve, invoke, builtin, hs, hx, hr, Result.andThen]
 exact hK _ _ h
theorem Be : (Tryd.prog.info? 115).map (fun i => (i.zero, i.size, i.bytes)) = some (some (.slice none 0 0), 1, 24) := by kernel_rfl
theorem tZ (w : World) : ∃ g c W3, (∀ ty, (Builtin.append_ #[69, 69] ty #[.slice none 0 0, .slice (some ⟨w.heap.size + 1, 0, none⟩) 1 1]).run Tryd.prog ((w.alloc (.cells #[.int .u64 0] 63)).alloc (.cells #[.slice (some ⟨w.heap.size, 0, none⟩) 1 1] 115)) = .ok (.slice (some ⟨g, 0, none⟩) 1 c) W3) /\ Bx (Due W3 g w.heap.size c 0 /\ Below w.heap.size w W3 /\ w.heap.size <= g) := by
 obtain ⟨i0, hi0, hz0, hz1, hz2⟩ := info_parts Be
 obtain ⟨W1, hW1⟩ : ∃ W1, w.alloc (.cells #[.int .u64 0] 63) = W1 := ⟨_, rfl⟩
 rw [hW1]
 have s1 : W1.heap.size = w.heap.size + 1 := by rw [← hW1]; simp
 have b1 : Below w.heap.size w W1 := by rw [← hW1]; exact ak w _
 have q1 : W1.heap[w.heap.size]? = some (.cells #[.int .u64 0] 63 (0, 0)) := by rw [← hW1]; exact heap_alloc_new w _
 have b2 : Below W1.heap.size W1 (W1.alloc (.cells #[.slice (some ⟨w.heap.size, 0, none⟩) 1 1] 115)) := ak W1 _
 obtain ⟨g, c, W3, r1, r2, r3, r4, r5⟩ := run_append_lies (P := Tryd.prog) (W1.alloc (.cells #[.slice (some ⟨w.heap.size, 0, none⟩) 1 1] 115)) 69 69 (w.heap.size + 2) 115 i0 (.slice none 0 0) 1 24 Tryd.underlying69 hi0 hz0 hz1 hz2 rfl (by decide) (.slice none 0 0) 0 [] ⟨rfl, .inl ⟨rfl, rfl⟩⟩ ⟨w.heap.size + 1, 0, none⟩ 1 1 [.slice (some ⟨w.heap.size, 0, none⟩) 1 1] rfl (by
  have := World.news_of_block (w := W1.alloc (.cells #[.slice (some ⟨w.heap.size, 0, none⟩) 1 1] 115)) (cs := #[.slice (some ⟨w.heap.size, 0, none⟩) 1 1]) (heap_alloc_new W1 _)
  rw [s1] at this
  exact this) (by intro u hu; simp at hu; subst hu; rfl) (by decide) (by unfold maxLen; omega) (by omega) (by simp [s1]) _ rfl
 have b3 : Below (w.heap.size + 1) W1 W3 := (b2.mono (by omega)).grown r3 (by simp; omega) (fun k e => by cases e)
 have hge : w.heap.size + 2 <= g := by
  rcases r2.2 with ⟨h, _⟩ | ⟨g', c', cur, e, hge, _⟩
  ·cases h
  ·cases e; exact hge
 refine ⟨g, c, W3, fun ty => r1, ⟨?_, b1.trans (b3.mono (by omega)), by omega⟩⟩
 rcases r2.2 with ⟨h, _⟩ | ⟨g', c', cur, e, hge', hblk, hle, hcm, hsz, htk⟩
 ·cases h
 ·cases e
  refine ⟨?_, (b3.block _ (by omega)).trans q1, by omega, by omega⟩
  rw [World.cell?]
  simp only [hblk]
  have := congrArg (·[0]?) htk
  rw [List.getElem?_take_of_lt (by omega), Array.getElem?_toList] at this
  simpa using this
theorem zA : (Tryd.prog.info? 63).map (fun i => (i.zero, i.size, i.bytes)) = some (some (.int .u64 0), 1, 8) := by kernel_rfl
theorem nu : (Tryd.prog.info? 66).map (fun i => (i.zero, i.size, i.bytes)) = some (some (.agg #[.int .i64 0, .int .u64 0]), 2, 16) := by kernel_rfl
theorem uf (w : World) : (Instr.makeSlice 115 (.int .i64 1) (.int .i64 1)).run Tryd.prog w = .ok (.slice (some ⟨w.heap.size, 0, none⟩) 1 1) (w.alloc (.cells #[.int .u64 0] 63)) := by
 obtain ⟨i0, hi, hz0, hz1, hz2⟩ := info_parts zA
 have := run_make (P := Tryd.prog) w 115 63 i0 (.int .u64 0) Tryd.underlying115 hi hz0 .i64 .i64 1 1 (by omega) (by omega) (by rw [hz2]; omega) (by omega)
 rw [hz1] at this
 have e : madeCells #[Value.int .u64 0] 1 = #[Value.int .u64 0] := by kernel_rfl
 rw [← e]
 exact this
def kC (K : List (Int × Int)) : Array Value := (K.flatMap fun p => [Value.int .i64 p.1, .int .u64 p.2]).toArray
theorem ug (w : World) (n : Nat) (hn : n <= 3) : (Instr.makeSlice 67 (.int .i64 n) (.int .i64 n)).run Tryd.prog w = .ok (.slice (some ⟨w.heap.size, 0, none⟩) n n) (w.alloc (.cells (kC (List.replicate n (0, 0))) 66)) := by
 obtain ⟨i0, hi, hz0, hz1, hz2⟩ := info_parts nu
 have := run_make (P := Tryd.prog) w 67 66 i0 (.agg #[.int .i64 0, .int .u64 0]) Tryd.underlying67 hi hz0 .i64 .i64 n n (by omega) (by omega) (by rw [hz2]; omega) (by omega)
 rw [hz1] at this
 have e : madeCells #[Value.int .i64 0, .int .u64 0] (n * 2) = kC (List.replicate n (0, 0)) := by
  rcases (show n = 0 ∨ n = 1 ∨ n = 2 ∨ n = 3 by omega) with rfl | rfl | rfl | rfl <;> kernel_rfl
 rw [← e]
 simpa [Value.cells] using this
theorem qD (w : World) (n : Nat) (h0 : 0 < n) (hn : n <= 3) :
  Calls Tryd.prog 39 #[.int .i64 n] w fun e w' => ∃ db eb dc, e = .returned (.slice (some ⟨db, 0, none⟩) 1 dc) /\ Bx (Due w' db eb dc 0 /\ Below w.heap.size w w' /\ w.heap.size <= db /\ w.heap.size <= eb) := by
 obtain ⟨g, c, W3, run, HX⟩ := tZ w
 have hmk := uf
 rcases (show n = 1 ∨ n = 2 ∨ n = 3 by omega) with rfl | rfl | rfl
 all_goals
  go_enter Tryd.func39, Tryd.ntmps39
  go_wp2
  refine wp_loop_rounds 2 ?_
  rw [rounds_succ]
  go_wp2_with (first
   | (at_builtin; refine jQ rfl (.tmp 14) (.tmp 17) 69 rfl rfl rfl run ?_; clear run))
  rw [rounds_succ]
  go_wp2
  go_ret
  exact ⟨g, _, c, rfl, ⟨HX.out.1, HX.out.2.1, HX.out.2.2, Nat.le_refl _⟩⟩
def wkO (a b c : Int) (r : Bool) (cd : Value) (kb n db dc : Nat) (lv : Int) (pv mv : Value) : Obj := .cells #[.int .i64 a, .int .i64 b, .int .i64 c, .bool r, cd, .slice (some ⟨kb, 0, none⟩) n n, .slice (some ⟨db, 0, none⟩) 1 dc, .int .i64 lv, pv, mv] 75 (0, 0)
structure WK (w : World) (wb kb db eb dc : Nat) (o : Obj) (K : List (Int × Int)) (x : Int) : Prop where
 wk : w.heap[wb]? = some o
 kn : w.heap[kb]? = some (.cells (kC K) 66 (0, 0))
 du : Due w db eb dc x
 n1 : wb ≠ kb
 n2 : wb ≠ db
 n3 : wb ≠ eb
 n4 : kb ≠ db
 n5 : kb ≠ eb
theorem Due.below {w w' : World} {db eb dc : Nat} {x : Int} (h : Due w db eb dc x) (hb : Below w.heap.size w w') : Due w' db eb dc x :=
 ⟨(hb.cell (p := ⟨db, 0, none⟩) h.lt.2).trans h.d0, (hb.block _ h.lt.1).trans h.e0, h.cap, h.ne⟩
theorem AA {w X : World} {kb db eb dc n : Nat} (hd : Due X db eb dc 0) (hk : X.heap[kb]? = some (.cells (kC (List.replicate n (0, 0))) 66 (0, 0))) (hb : Below w.heap.size w X) (h1 : w.heap.size <= kb) (h2 : w.heap.size <= db) (h3 : w.heap.size <= eb) (n4 : kb ≠ db) (n5 : kb ≠ eb) {wb : Nat} (hwb : X.heap.size = wb) :
  WK (X.alloc (wkO 0 0 0 false (.slice none 0 0) kb n db dc 0 (.slice none 0 0) (.map none))) wb kb db eb dc (wkO 0 0 0 false (.slice none 0 0) kb n db dc 0 (.slice none 0 0) (.map none)) (List.replicate n (0, 0)) 0 /\ Below w.heap.size w (X.alloc (wkO 0 0 0 false (.slice none 0 0) kb n db dc 0 (.slice none 0 0) (.map none))) /\ w.heap.size <= wb /\ w.heap.size <= kb /\ w.heap.size <= db /\ w.heap.size <= eb := by
 subst hwb
 have hkl := (Array.getElem?_eq_some_iff.1 hk).1
 have hdl := hd.lt
 have hs := hb.size
 have b1 := ak X (wkO 0 0 0 false (.slice none 0 0) kb n db dc 0 (.slice none 0 0) (.map none))
 exact ⟨⟨heap_alloc_new X _, (b1.block _ hkl).trans hk, hd.below b1, by omega, by omega, by omega, n4, n5⟩, hb.trans (b1.mono hs), hs, h1, h2, h3⟩
theorem iP (w : World) (n : Nat) (h0 : 0 < n) (hn : n <= 3) :
  Calls Tryd.prog 26 #[.int .i64 n] w fun e w' => ∃ wb kb db eb dc, e = .returned (.pointer (some ⟨wb, 0, none⟩)) /\ Bx (WK w' wb kb db eb dc (wkO 0 0 0 false (.slice none 0 0) kb n db dc 0 (.slice none 0 0) (.map none)) (List.replicate n (0, 0)) 0 /\ Below w.heap.size w w' /\ w.heap.size <= wb /\ w.heap.size <= kb /\ w.heap.size <= db /\ w.heap.size <= eb) := by
 have HD : Bx (∀ W, _) := ⟨fun W => qD W n h0 hn⟩
 have hmk := fun W => ug W n hn
 go_enter Tryd.func26, Tryd.ntmps26
 go_wp2
 go_region_with (first
  | (go_at_call 39; refine (HD.out _).mono ?_; rintro e w1 ⟨db, eb, dc, rfl, HX⟩))
 ·go_wp2
  go_ret
  have hx := HX.out
  have hs : (w.alloc (.cells (kC (List.replicate n (0, 0))) 66)).drew.heap.size = w.heap.size + 1 := by simp
  rw [hs] at hx
  obtain ⟨q1, q2, q3, q4⟩ := hx
  exact ⟨_, _, db, eb, dc, rfl, ⟨AA (w := w) (n := n) (kb := w.heap.size) q1 ((q2.block w.heap.size (by omega)).trans (heap_alloc_new w _)) (Below.trans (b := (w.alloc (.cells (kC (List.replicate n (0, 0))) 66)).drew) (ak w _).drew (q2.mono (by omega))) (Nat.le_refl _) (by omega) (by omega) (by omega) (by omega) rfl⟩⟩
 ·go_wp2
  go_ret
  obtain ⟨q1, q2, q3, q4⟩ := HX.out
  have l1 := q1.lt
  have hs := q2.size
  exact ⟨_, _, db, eb, dc, rfl, ⟨AA (w := w) (n := n) (kb := w1.heap.size) (q1.below (ak w1 _)) (heap_alloc_new w1 _) (Below.trans ⟨q2.os, q2.tape, q2.output, q2.size, q2.block⟩ ((ak w1 _).mono hs)) hs q3 q4 (by omega) (by omega) (by simp)⟩⟩
theorem gN (n m : Int) (h0 : 0 <= n) (h1 : n <= m) (w : World) : Calls Tryd.prog 49 #[.int .i64 n, .int .i64 m] w fun e w' => e = .returned (.bool true) /\ w = w' := by
 go_enter Tryd.func49, Tryd.ntmps49
 go_wp2
 go_ret
 exact ⟨aG (by simp [h0, h1]), rfl⟩
def Ex (op a v : Int) : Prop := (op = 1 /\ a = 1 /\ v = 1) ∨ (op = 5 /\ a = 0 /\ v = 12) ∨ (op = 25 /\ a = 0 /\ v = 0)
theorem rP (j : Value) (v n : Int) (h : (v = 0 /\ n = 0) ∨ (v = 1 /\ n = 1) ∨ (v = 12 /\ n = 0)) (w : World) : Calls Tryd.prog 71 #[j, .int .i64 v, .int .i64 n] w fun e w' => e = .returned (.bool true) /\ w = w' := by
 rcases h with ⟨rfl, rfl⟩ | ⟨rfl, rfl⟩ | ⟨rfl, rfl⟩
 all_goals
  go_enter Tryd.func71, Tryd.ntmps71
  go_wp2
  go_ret
  exact ⟨rfl, rfl⟩
theorem oM (w : World) : Calls Tryd.prog 72 #[.int .i64 0, .slice none 0 0] w fun e w' => e = .returned (.bool true) /\ w = w' := by
 go_enter Tryd.func72, Tryd.ntmps72
 go_wp2
 go_ret
 exact ⟨rfl, rfl⟩
abbrev exV (op a : Int) : Value := .agg #[.int .i64 op, .int .i64 a, .int .i64 0, .slice none 0 0]
theorem oN (j : Value) (op a v : Int) (h : Ex op a v) (w : World) : Calls Tryd.prog 50 #[j, .agg #[.int .i64 v, .int .i64 0, .int .i64 0], exV op a] w fun e w' => e = .returned (.bool true) /\ Below w.heap.size w w' := by
 have H1 : Bx (∀ W, _) := ⟨fun W => rP j v a (by rcases h with ⟨_, rfl, rfl⟩ | ⟨_, rfl, rfl⟩ | ⟨_, rfl, rfl⟩ <;> simp) W⟩
 have H0 : Bx (∀ W, _) := ⟨fun W => rP j 0 0 (.inl ⟨rfl, rfl⟩) W⟩
 have HL : Bx (∀ W, _) := ⟨fun W => oM W⟩
 have hb : Bx (∀ o1 o2, Below w.heap.size w ((w.alloc o1).alloc o2)) := ⟨fun o1 o2 => (ak w o1).alloc (by simp) o2⟩
 go_enter Tryd.func50, Tryd.ntmps50
 go_wp2_with (first
  | (go_at_call 71; refine (H1.out _).mono ?_; rintro e w1 ⟨rfl, rfl⟩; clear H1)
  | (go_at_call 72; refine (HL.out _).mono ?_; rintro e w2 ⟨rfl, rfl⟩)
  | (go_at_call 71; refine (H0.out _).mono ?_; rintro e w1 ⟨rfl, rfl⟩))
 go_ret
 exact ⟨rfl, hb.out _ _⟩
theorem qF (w : World) (jb : Nat) (v a : Int) (h : (v = 0 /\ a = 0) ∨ (v = 1 /\ a = 1) ∨ (v = 12 /\ a = 0)) (hj : w.cell? ⟨jb, 3, none⟩ = some (.int .i64 1)) : Calls Tryd.prog 51 #[.pointer (some ⟨jb, 0, none⟩), .int .i64 v, .int .i64 a] w fun e w' => e = .returned (.bool true) /\ w = w' := by
 have HW : Bx (∀ W, _) := ⟨fun W => gN 0 0 (by omega) (by omega) W⟩
 rcases h with ⟨rfl, rfl⟩ | ⟨rfl, rfl⟩ | ⟨rfl, rfl⟩
 all_goals
  go_enter Tryd.func51, Tryd.ntmps51
  go_wp2_with (first
   | (go_at_call 49; refine (HW.out _).mono ?_; rintro e w1 ⟨rfl, rfl⟩))
  go_ret
  exact ⟨rfl, rfl⟩
theorem lN (j : Value) (op a v at_ : Int) (h : Ex op a v) (w : World) : Calls Tryd.prog 52 #[j, .agg #[.int .i64 v, .int .i64 0, .int .i64 0], .int .i64 at_, exV op a] w fun e w' => e = .returned (.bool true) /\ Below w.heap.size w w' := by
 have hb : Bx (∀ o1 o2, Below w.heap.size w ((w.alloc o1).alloc o2)) := ⟨fun o1 o2 => (ak w o1).alloc (by simp) o2⟩
 rcases h with ⟨rfl, rfl, rfl⟩ | ⟨rfl, rfl, rfl⟩ | ⟨rfl, rfl, rfl⟩
 all_goals
  go_enter Tryd.func52, Tryd.ntmps52
  go_wp2
  go_ret
  exact ⟨rfl, hb.out _ _⟩
theorem wL (w : World) (hV : VW w) (jb : Nat) (hj : w.cell? ⟨jb, 3, none⟩ = some (.int .i64 1)) (op a v : Int) (h : Ex op a v) (at_ : Int) : Calls Tryd.prog 36 #[.pointer (some ⟨jb, 0, none⟩), .int .i64 at_, exV op a] w fun e w' => e = .returned (.int .i64 0) /\ Below w.heap.size w w' := by
 obtain ⟨H, hH⟩ : ∃ H, w.heap.size = H := ⟨_, rfl⟩
 have hjl : jb < H := hH ▸ World.block_lt_of_cell? w _ hj
 have hgl : 1 < H := hH ▸ hV.ltv
 obtain ⟨w0, hw0⟩ : ∃ w0, w.alloc (.cells #[.int .i64 op, .int .i64 a, .int .i64 0, .slice none 0 0] 43) = w0 := ⟨_, rfl⟩
 have b0 : Below H w w0 := by rw [← hw0, ← hH]; exact ak w _
 have s0 : w0.heap.size = H + 1 := by rw [← hw0]; simp [hH]
 have q0 : w0.heap[H]? = some (.cells #[.int .i64 op, .int .i64 a, .int .i64 0, .slice none 0 0] 43 (0, 0)) := by rw [← hw0, ← hH]; exact heap_alloc_new w _
 obtain ⟨w1, hw1⟩ : ∃ w1, w0.alloc (.cells #[.int .i64 v, .int .i64 0, .int .i64 0] 106) = w1 := ⟨_, rfl⟩
 have b1 : Below (H + 1) w0 w1 := by rw [← hw1, ← s0]; exact ak w0 _
 have s1 : w1.heap.size = H + 2 := by rw [← hw1]; simp [s0]
 have q1 : w1.heap[H + 1]? = some (.cells #[.int .i64 v, .int .i64 0, .int .i64 0] 106 (0, 0)) := by rw [← hw1, ← s0]; exact heap_alloc_new w0 _
 have c0 : ∀ k, w0.cell? ⟨1, k, none⟩ = w.cell? ⟨1, k, none⟩ := fun k => b0.cell (p := ⟨1, k, none⟩) hgl
 have e0 : w0.cell? ⟨H, 0, none⟩ = some (.int .i64 op) := (cell_of_row w0 _ 0 _ _ _ q0).trans rfl
 have e1 : w0.cell? ⟨H, 1, none⟩ = some (.int .i64 a) := (cell_of_row w0 _ 1 _ _ _ q0).trans rfl
 have e2 : w0.cell? ⟨H, 2, none⟩ = some (.int .i64 0) := (cell_of_row w0 _ 2 _ _ _ q0).trans rfl
 have e3 : w0.cell? ⟨H, 3, none⟩ = some (.slice none 0 0) := (cell_of_row w0 _ 3 _ _ _ q0).trans rfl
 have HC : Bx (∀ X, Below (H + 2) w1 X -> X.cell? ⟨H, 0, none⟩ = some (.int .i64 op) /\ X.cell? ⟨H, 1, none⟩ = some (.int .i64 a) /\ X.cell? ⟨H, 2, none⟩ = some (.int .i64 0) /\ X.cell? ⟨H, 3, none⟩ = some (.slice none 0 0) /\ X.cell? ⟨H + 1, 0, none⟩ = some (.int .i64 v) /\ X.cell? ⟨H + 1, 1, none⟩ = some (.int .i64 0) /\ X.cell? ⟨H + 1, 2, none⟩ = some (.int .i64 0) /\ Bx (X.cell? ⟨jb, 3, none⟩ = some (.int .i64 1) /\ Below H w X)) := ⟨fun X hX => by
  have r0 : X.heap[H]? = _ := ((hX.block H (by omega)).trans (b1.block H (by omega))).trans q0
  have r1 : X.heap[H + 1]? = _ := (hX.block (H + 1) (by omega)).trans q1
  have hb : Below H w X := b0.trans ((b1.mono (by omega)).trans (hX.mono (by omega)))
  exact ⟨(cell_of_row X _ 0 _ _ _ r0).trans rfl, (cell_of_row X _ 1 _ _ _ r0).trans rfl, (cell_of_row X _ 2 _ _ _ r0).trans rfl, (cell_of_row X _ 3 _ _ _ r0).trans rfl, (cell_of_row X _ 0 _ _ _ r1).trans rfl, (cell_of_row X _ 1 _ _ _ r1).trans rfl, (cell_of_row X _ 2 _ _ _ r1).trans rfl, ⟨(hb.cell (p := ⟨jb, 3, none⟩) hjl).trans hj, hb⟩⟩⟩
 have HF : Bx (∀ X, Below (H + 2) w1 X -> Calls Tryd.prog 50 #[.pointer (some ⟨jb, 0, none⟩), .agg #[.int .i64 v, .int .i64 0, .int .i64 0], .agg #[.int .i64 op, .int .i64 a, .int .i64 0, .slice none 0 0]] X fun e w' => e = .returned (.bool true) /\ Below (H + 2) w1 w') := ⟨fun X hX => (oN _ op a v h X).mono fun e w' hh => ⟨hh.1, hX.trans (hh.2.mono (by have := hX.size; omega))⟩⟩
 have HT : Bx (∀ X, Below (H + 2) w1 X -> Calls Tryd.prog 52 #[.pointer (some ⟨jb, 0, none⟩), .agg #[.int .i64 v, .int .i64 0, .int .i64 0], .int .i64 at_, .agg #[.int .i64 op, .int .i64 a, .int .i64 0, .slice none 0 0]] X fun e w' => e = .returned (.bool true) /\ Below (H + 2) w1 w') := ⟨fun X hX => (lN _ op a v at_ h X).mono fun e w' hh => ⟨hh.1, hX.trans (hh.2.mono (by have := hX.size; omega))⟩⟩
 have HS : Bx (∀ X, Below (H + 2) w1 X -> _) := ⟨fun X hX => qF X jb v a (by rcases h with ⟨_, rfl, rfl⟩ | ⟨_, rfl, rfl⟩ | ⟨_, rfl, rfl⟩ <;> simp) (HC.out X hX).2.2.2.2.2.2.2.out.1⟩
 have g1 := (c0 (1 * 3)).trans (hV.v0 1 (by omega))
 have g2 := (c0 (1 * 3 + 1)).trans (hV.v1 1 (by omega))
 have g3 := (c0 (1 * 3 + 2)).trans (hV.v2 1 (by omega))
 have g4 := (c0 (5 * 3)).trans (hV.v0 5 (by omega))
 have g5 := (c0 (5 * 3 + 1)).trans (hV.v1 5 (by omega))
 have g6 := (c0 (5 * 3 + 2)).trans (hV.v2 5 (by omega))
 have g7 := (c0 (25 * 3)).trans (hV.v0 25 (by omega))
 have g8 := (c0 (25 * 3 + 1)).trans (hV.v1 25 (by omega))
 have g9 := (c0 (25 * 3 + 2)).trans (hV.v2 25 (by omega))
 simp [vsT] at g1 g2 g3 g4 g5 g6 g7 g8 g9
 have HW1 : Bx _ := ⟨hw1⟩
 clear c0 hV hj q0 q1 hw1
 have hlt0 : H < w0.heap.size := by omega
 rw [hH]
 rcases h with ⟨rfl, rfl, rfl⟩ | ⟨rfl, rfl, rfl⟩ | ⟨rfl, rfl, rfl⟩
 all_goals
  go_enter Tryd.func36, Tryd.ntmps36
  go_wp2_with (first
   | (go_at_call 50; rw [HW1.out]; refine (HF.out _ (Below.refl _ _)).mono ?_; rintro e w2 ⟨rfl, hb2⟩; have B2 : Bx _ := ⟨hb2⟩; clear hb2; obtain ⟨y0, y1, y2, y3, y4, y5, y6, y7⟩ := HC.out _ B2.out)
   | (go_at_call 51; refine (HS.out _ B2.out).mono ?_; rintro e w3 ⟨rfl, rfl⟩)
   | (go_at_call 52; refine (HT.out _ B2.out).mono ?_; rintro e w4 ⟨rfl, hb4⟩; have B4 : Bx _ := ⟨hb4⟩; clear hb4))
  go_ret
  exact ⟨rfl, (HC.out _ B4.out).2.2.2.2.2.2.2.out.2⟩
theorem BG : (Tryd.prog.info? 4).map (fun i => (i.zero, i.size, i.bytes)) = some (some (.bool false), 1, 1) := by kernel_rfl
theorem AB : (Tryd.prog.info? 3).map (fun i => (i.zero, i.size, i.bytes)) = some (some (.int .i64 0), 1, 8) := by kernel_rfl
theorem Bf : (Tryd.prog.info? 32).map (fun i => (i.zero, i.size, i.bytes)) = some (some (.slice none 0 0), 1, 24) := by kernel_rfl
theorem wM (z : Array Value) : madeCells z 0 = #[] := by simp [madeCells]
theorem Bg (w : World) : (Instr.makeSlice 41 (.int .i64 0) (.int .i64 0)).run Tryd.prog w = .ok (.slice (some ⟨w.heap.size, 0, none⟩) 0 0) (w.alloc (.cells #[] 4)) := by
 obtain ⟨i0, hi, hz0, hz1, hz2⟩ := info_parts BG
 have := run_make (P := Tryd.prog) w 41 4 i0 _ Tryd.underlying41 hi hz0 .i64 .i64 0 0 (by omega) (by omega) (by rw [hz2]; omega) (by omega)
 simpa [wM] using this
theorem Bh (w : World) : (Instr.makeSlice 32 (.int .i64 0) (.int .i64 0)).run Tryd.prog w = .ok (.slice (some ⟨w.heap.size, 0, none⟩) 0 0) (w.alloc (.cells #[] 3)) := by
 obtain ⟨i0, hi, hz0, hz1, hz2⟩ := info_parts AB
 have := run_make (P := Tryd.prog) w 32 3 i0 _ Tryd.underlying32 hi hz0 .i64 .i64 0 0 (by omega) (by omega) (by rw [hz2]; omega) (by omega)
 simpa [wM] using this
theorem Bi (w : World) : (Instr.makeSlice 103 (.int .i64 0) (.int .i64 0)).run Tryd.prog w = .ok (.slice (some ⟨w.heap.size, 0, none⟩) 0 0) (w.alloc (.cells #[] 32)) := by
 obtain ⟨i0, hi, hz0, hz1, hz2⟩ := info_parts Bf
 have := run_make (P := Tryd.prog) w 103 32 i0 _ Tryd.underlying103 hi hz0 .i64 .i64 0 0 (by omega) (by omega) (by rw [hz2]; omega) (by omega)
 simpa [wM] using this
theorem ny (w : World) : Calls Tryd.prog 35 #[.slice none 0 0] w fun e w' => e = .returned (.slice (some ⟨w.heap.size, 0, none⟩) 0 0) /\ Below w.heap.size w w' := by
 have h1 := Bg
 have h2 := Bh
 have h3 := Bi
 have hb : Bx (∀ o1 o2 o3, Below w.heap.size w (((w.alloc o1).alloc o2).alloc o3)) := ⟨fun o1 o2 o3 => ((ak w o1).alloc (by simp) o2).alloc (by simp; omega) o3⟩
 go_enter Tryd.func35, Tryd.ntmps35
 go_wp2
 refine wp_loop_rounds 1 ?_
 rw [rounds_succ]
 go_wp2
 refine wp_loop_rounds 1 ?_
 rw [rounds_succ]
 go_wp2
 go_ret
 exact ⟨rfl, hb.out _ _ _⟩
def cdC (l : List (Int × Int)) : Array Value := (l.flatMap fun p => [Value.int .i64 p.1, .int .i64 p.2, .int .i64 0, .slice none 0 0]).toArray
structure UE (w : World) (pb cb : Nat) (l : List (Int × Int)) : Prop where
 pg : w.heap[pb]? = some (.cells #[.int .i64 0, .int .i64 1, .int .i64 2, .bool false, .slice (some ⟨cb, 0, none⟩) l.length l.length] 40 (0, 0))
 cd : w.heap[cb]? = some (.cells (cdC l) 43 (0, 0))
 all : ∀ p ∈ l, ∃ v, Ex p.1 p.2 v
 len : l.length <= 3
 pos : 0 < l.length
theorem UE.lt {w : World} {pb cb : Nat} {l : List (Int × Int)} (h : UE w pb cb l) : pb < w.heap.size /\ cb < w.heap.size := ⟨(Array.getElem?_eq_some_iff.1 h.pg).1, (Array.getElem?_eq_some_iff.1 h.cd).1⟩
theorem UE.below {w w' : World} {pb cb : Nat} {l : List (Int × Int)} (h : UE w pb cb l) (hb : Below w.heap.size w w') : UE w' pb cb l :=
 ⟨(hb.block _ h.lt.1).trans h.pg, (hb.block _ h.lt.2).trans h.cd, h.all, h.len, h.pos⟩
theorem rQ : ∀ (l : List (Int × Int)) (i : Nat) (h : i < l.length), (cdC l)[i * 4]? = some (.int .i64 l[i].1) /\ (cdC l)[i * 4 + 1]? = some (.int .i64 l[i].2) /\ (cdC l)[i * 4 + 2]? = some (.int .i64 0) /\ (cdC l)[i * 4 + 3]? = some (.slice none 0 0)
 | p :: r, 0, _ => by simp [cdC]
 | p :: r, i + 1, h => by
  have := rQ r i (by simpa using h)
  simp only [cdC, List.getElem?_toArray, List.flatMap_cons, List.getElem_cons_succ] at this ⊢
  have e : ∀ k, ([Value.int .i64 p.1, .int .i64 p.2, .int .i64 0, .slice none 0 0] ++ List.flatMap (fun p => [Value.int .i64 p.1, .int .i64 p.2, .int .i64 0, .slice none 0 0]) r)[4 + k]? = (List.flatMap (fun p => [Value.int .i64 p.1, .int .i64 p.2, .int .i64 0, .slice none 0 0]) r)[k]? := fun k => by
   rw [List.getElem?_append_right (by simp)]
   simp
  rw [show (i + 1) * 4 = 4 + i * 4 by omega, show 4 + i * 4 + 1 = 4 + (i * 4 + 1) by omega, show 4 + i * 4 + 2 = 4 + (i * 4 + 2) by omega, show 4 + i * 4 + 3 = 4 + (i * 4 + 3) by omega, e, e, e, e]
  exact this
theorem UE.cell {w : World} {pb cb : Nat} {l : List (Int × Int)} (h : UE w pb cb l) (i : Nat) (hi : i < l.length) : w.cell? ⟨cb, i * 4, none⟩ = some (.int .i64 l[i].1) /\ w.cell? ⟨cb, i * 4 + 1, none⟩ = some (.int .i64 l[i].2) /\ w.cell? ⟨cb, i * 4 + 2, none⟩ = some (.int .i64 0) /\ w.cell? ⟨cb, i * 4 + 3, none⟩ = some (.slice none 0 0) := by
 obtain ⟨h1, h2, h3, h4⟩ := rQ l i hi
 exact ⟨(cell_of_row w _ _ _ _ _ h.cd).trans h1, (cell_of_row w _ _ _ _ _ h.cd).trans h2, (cell_of_row w _ _ _ _ _ h.cd).trans h3, (cell_of_row w _ _ _ _ _ h.cd).trans h4⟩
abbrev unE (pb : Nat) : Value := .agg #[.slice (some ⟨pb, 0, none⟩) 1 1, .slice none 0 0]
theorem lQ (w : World) (hV : VW w) (pb cb : Nat) (l : List (Int × Int)) (hU : UE w pb cb l) : Calls Tryd.prog 20 #[unE pb] w fun e w' => e = .returned (.tuple #[.int .i64 0, .int .i64 0, .int .i64 0]) /\ Below w.heap.size w w' := by
 obtain ⟨H, hH⟩ : ∃ H, w.heap.size = H := ⟨_, rfl⟩
 have hpl : pb < H := hH ▸ hU.lt.1
 obtain ⟨w0, hw0⟩ : ∃ w0, w.alloc (.cells #[.slice (some ⟨pb, 0, none⟩) 1 1, .slice none 0 0] 25) = w0 := ⟨_, rfl⟩
 have b0 : Below H w w0 := by rw [← hw0, ← hH]; exact ak w _
 have s0 : w0.heap.size = H + 1 := by rw [← hw0]; simp [hH]
 have q0 : w0.heap[H]? = some (.cells #[.slice (some ⟨pb, 0, none⟩) 1 1, .slice none 0 0] 25 (0, 0)) := by rw [← hw0, ← hH]; exact heap_alloc_new w _
 have e0 : w0.cell? ⟨H, 0, none⟩ = some (.slice (some ⟨pb, 0, none⟩) 1 1) := (cell_of_row w0 _ 0 _ _ _ q0).trans rfl
 have e1 : w0.cell? ⟨H, 1, none⟩ = some (.slice none 0 0) := (cell_of_row w0 _ 1 _ _ _ q0).trans rfl
 have HC : Bx (∀ X, Below (H + 1) w0 X -> X.cell? ⟨H, 0, none⟩ = some (.slice (some ⟨pb, 0, none⟩) 1 1) /\ X.cell? ⟨H, 1, none⟩ = some (.slice none 0 0)) := ⟨fun X hX => by
  have r0 : X.heap[H]? = _ := (hX.block H (by omega)).trans q0
  exact ⟨(cell_of_row X _ 0 _ _ _ r0).trans rfl, (cell_of_row X _ 1 _ _ _ r0).trans rfl⟩⟩
 have HD : Bx (∀ X, Below (H + 1) w0 X -> Calls Tryd.prog 35 #[.slice none 0 0] X fun e w' => ∃ g, e = .returned (.slice (some ⟨g, 0, none⟩) 0 0) /\ Below (H + 1) w0 w') := ⟨fun X hX => (ny X).mono fun e w' hh => ⟨_, hh.1, hX.trans (hh.2.mono (by have := hX.size; omega))⟩⟩
 have hbr : Below (H + 1) w0 w0 := Below.refl _ _
 have hlt0 : H < w0.heap.size := by omega
 rw [hH]
 go_enter Tryd.func20, Tryd.ntmps20
 go_wp2
 clear e0 e1 q0
 go_region_held3 (fun w' => w'.cell? ⟨H, 0, none⟩ = some (.slice (some ⟨pb, 0, none⟩) 1 1) /\ w'.cell? ⟨H, 1, none⟩ = some (.slice none 0 0))
  (first | exact HC.out _ (hz1.alloc (by have := hz1.size; omega) _) | exact HC.out _ hz1.drew | exact HC.out _ hz1 | exact HC.out _ hbr.drew)
  (first
   | (go_at_call 35; refine Calls.mono (HD.out _ hbr.drew) ?_; rintro e z1 ⟨g, rfl, hz1⟩))
 rename_i hHeld
 obtain ⟨J, hJ⟩ : ∃ J, z1.heap.size = J := ⟨_, rfl⟩
 obtain ⟨w2, hw2⟩ : ∃ w2, z1.alloc (.cells #[.slice (some ⟨pb, 0, none⟩) 1 1, .slice (some ⟨g, 0, none⟩) 0 0, .int .i64 0, .int .i64 0, .int .i64 0, .bool false, .slice none 0 0] 87) = w2 := ⟨_, rfl⟩
 rw [hw2, hJ]
 have hJH : H + 1 <= J := by have := hz1.size; omega
 have b2 : Below J z1 w2 := by rw [← hw2, ← hJ]; exact ak z1 _
 have s2 : w2.heap.size = J + 1 := by rw [← hw2]; simp [hJ]
 have q2 : w2.heap[J]? = some (.cells #[.slice (some ⟨pb, 0, none⟩) 1 1, .slice (some ⟨g, 0, none⟩) 0 0, .int .i64 0, .int .i64 0, .int .i64 0, .bool false, .slice none 0 0] 87 (0, 0)) := by rw [← hw2, ← hJ]; exact heap_alloc_new z1 _
 have hb2 : Below H w w2 := b0.trans ((hz1.mono (by omega)).trans (b2.mono (by omega)))
 obtain ⟨f0, f1⟩ := HC.out w2 (hz1.trans (b2.mono (by omega)))
 have qp : w2.heap[pb]? = _ := (hb2.block pb hpl).trans hU.pg
 obtain ⟨n, hn⟩ : ∃ n, l.length = n := ⟨_, rfl⟩
 rw [hn] at qp
 have p0 : w2.cell? ⟨pb, 0, none⟩ = some (.int .i64 0) := (cell_of_row w2 _ 0 _ _ _ qp).trans rfl
 have p1 : w2.cell? ⟨pb, 1, none⟩ = some (.int .i64 1) := (cell_of_row w2 _ 1 _ _ _ qp).trans rfl
 have p2 : w2.cell? ⟨pb, 2, none⟩ = some (.int .i64 2) := (cell_of_row w2 _ 2 _ _ _ qp).trans rfl
 have p3 : w2.cell? ⟨pb, 3, none⟩ = some (.bool false) := (cell_of_row w2 _ 3 _ _ _ qp).trans rfl
 have p4 : w2.cell? ⟨pb, 4, none⟩ = some (.slice (some ⟨cb, 0, none⟩) n n) := (cell_of_row w2 _ 4 _ _ _ qp).trans rfl
 have hpl2 : pb < w2.heap.size := by omega
 obtain ⟨w3, hw3⟩ : ∃ w3, w2.alloc (.cells #[.int .i64 0, .int .i64 1, .int .i64 2, .bool false, .slice (some ⟨cb, 0, none⟩) n n] 40) = w3 := ⟨_, rfl⟩
 have HW3 : Bx _ := ⟨hw3⟩
 have j2 : w2.cell? ⟨J, 2, none⟩ = some (.int .i64 0) := (cell_of_row w2 _ 2 _ _ _ q2).trans rfl
 have j3 : w2.cell? ⟨J, 3, none⟩ = some (.int .i64 0) := (cell_of_row w2 _ 3 _ _ _ q2).trans rfl
 have j4 : w2.cell? ⟨J, 4, none⟩ = some (.int .i64 0) := (cell_of_row w2 _ 4 _ _ _ q2).trans rfl
 have j5 : w2.cell? ⟨J, 5, none⟩ = some (.bool false) := (cell_of_row w2 _ 5 _ _ _ q2).trans rfl
 have j6 : w2.cell? ⟨J, 6, none⟩ = some (.slice none 0 0) := (cell_of_row w2 _ 6 _ _ _ q2).trans rfl
 have jf : ∀ k, w2.frozen? ⟨J, k, none⟩ = false := fun k => by simp [World.frozen?, q2]
 have hJl : J < w2.heap.size := by omega
 have hbX : Below H w ((((((w2.setCell ⟨J, 2, none⟩ (.int .i64 0)).setCell ⟨J, 3, none⟩ (.int .i64 1)).setCell ⟨J, 4, none⟩ (.int .i64 2)).setCell ⟨J, 5, none⟩ (.bool false)).setCell ⟨J, 6, none⟩ (.slice (some ⟨cb, 0, none⟩) n n)).alloc (.cells #[.int .i64 0, .int .i64 1, .int .i64 2, .bool false, .slice (some ⟨cb, 0, none⟩) n n] 40)) :=
  (((((hb2.setCell (p := ⟨J, 2, none⟩) (by simp; omega) _).setCell (p := ⟨J, 3, none⟩) (by simp; omega) _).setCell (p := ⟨J, 4, none⟩) (by simp; omega) _).setCell (p := ⟨J, 5, none⟩) (by simp; omega) _).setCell (p := ⟨J, 6, none⟩) (by simp; omega) _).alloc (by simp; omega) _
 have hcX : (((((((w2.setCell ⟨J, 2, none⟩ (.int .i64 0)).setCell ⟨J, 3, none⟩ (.int .i64 1)).setCell ⟨J, 4, none⟩ (.int .i64 2)).setCell ⟨J, 5, none⟩ (.bool false)).setCell ⟨J, 6, none⟩ (.slice (some ⟨cb, 0, none⟩) n n)).alloc (.cells #[.int .i64 0, .int .i64 1, .int .i64 2, .bool false, .slice (some ⟨cb, 0, none⟩) n n] 40))).cell? ⟨J, 3, none⟩ = some (.int .i64 1) := by
  rw [(ak _ _).cell (p := ⟨J, 3, none⟩) (by simp; omega)]
  simp [World.cell?, World.setCell, Array.getElem?_modify, q2]
 have HIX : Bx _ := ⟨(⟨hbX, hcX⟩ : _ /\ _)⟩
 clear hbX hcX
 have HR : Bx (∀ X i (h : i < n), Below H w X /\ X.cell? ⟨J, 3, none⟩ = some (.int .i64 1) -> ∃ op a : Int, X.cell? ⟨cb, i * 4, none⟩ = some (.int .i64 op) /\ X.cell? ⟨cb, i * 4 + 1, none⟩ = some (.int .i64 a) /\ X.cell? ⟨cb, i * 4 + 2, none⟩ = some (.int .i64 0) /\ X.cell? ⟨cb, i * 4 + 3, none⟩ = some (.slice none 0 0) /\ cb < X.heap.size /\ Bx (∀ o, Calls Tryd.prog 36 #[.pointer (some ⟨J, 0, none⟩), .int .i64 i, .agg #[.int .i64 op, .int .i64 a, .int .i64 0, .slice none 0 0]] (X.alloc o) fun e w' => e = .returned (.int .i64 0) /\ Bx (Below H w w' /\ w'.cell? ⟨J, 3, none⟩ = some (.int .i64 1)))) := ⟨fun X i h ⟨hX, hc⟩ => by
  have hUX : UE X pb cb l := hU.below (hH ▸ hX)
  have hi : i < l.length := by omega
  obtain ⟨u0, u1, u2, u3⟩ := hUX.cell i hi
  refine ⟨_, _, u0, u1, u2, u3, hUX.lt.2, ⟨fun o => ?_⟩⟩
  obtain ⟨v, hv⟩ := hU.all _ (List.getElem_mem hi)
  have hJX : J < X.heap.size := World.block_lt_of_cell? X _ hc
  have hcc : (X.alloc o).cell? ⟨J, 3, none⟩ = some (.int .i64 1) := ((ak X o).cell (p := ⟨J, 3, none⟩) hJX).trans hc
  have hsX : H <= X.heap.size := by have := hX.size; omega
  refine (wL (X.alloc o) (hV.below (hH ▸ hX.alloc hsX o)) J hcc _ _ v hv i).mono ?_
  rintro e w' ⟨rfl, hb⟩
  exact ⟨rfl, ⟨(hX.alloc hsX o).trans (hb.mono (by simp; omega)), (hb.cell (p := ⟨J, 3, none⟩) (by simp; omega)).trans hcc⟩⟩⟩
 have hn3 : n <= 3 := hn ▸ hU.len
 have HU2 : Bx _ := ⟨hU⟩
 have HV2 : Bx _ := ⟨hV⟩
 have HB2 : Bx _ := ⟨hb2⟩
 have HQ2 : Bx _ := ⟨q2⟩
 clear hw2 hw0 hw3 HW3 q2 qp hU hV HC HD hb2 b2 hz1 hbr b0 hHeld HU2 HV2 HB2 HQ2
 go_wp2
 refine wp_loop_rounds 2 ?_
 rw [rounds_succ]
 go_wp2
 go_loopw [33] (fun x wr => ∃ i : Nat, i <= n /\ x = .int .i64 i /\ Bx (Below H w wr /\ wr.cell? ⟨J, 3, none⟩ = some (.int .i64 1))) (fun x _ => n - (intOf x).toNat)
 case atStart => exact ⟨0, Nat.zero_le _, rfl, HIX⟩
 case round =>
  clear HIX j2 j3 j4 j5 j6 jf p0 p1 p2 p3 p4 f0 f1
  obtain ⟨i, hi, rfl, HI⟩ := hrel
  by_cases hlt : i < n
  ·obtain ⟨op, a, u0, u1, u2, u3, hcl, HWR⟩ := HR.out _ i hlt HI.out
   go_wp2_with (first
    | (go_at_call 36; refine (HWR.out _).mono ?_; rintro e w9 ⟨rfl, HI'⟩))
   go_roundw
   case rel => exact ⟨i + 1, by omega, by go_num, HI'⟩
   case measure => simp [intOf]; omega
  ·go_wp2
   rw [rounds_succ]
   go_wp2
   go_returns
   exact ⟨rfl, HI.out.1⟩
end Go.Proofs.YtadmpgegolmkgaaDoor
