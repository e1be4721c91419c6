import Derived.Test.YtadmpgegolmkgaaDoorBWjD
set_option linter.unusedVariables false
set_option linter.unusedSimpArgs false
set_option maxHeartbeats 4000000
set_option maxRecDepth 100000
namespace Go.Proofs.YtadmpgegolmkgaaDoor
open Go.RowKit Go.MapKept Go.ChangeMaps Go.WideShapes
theorem jN {P : Program} {w w' : World} {ops : Array Oper} {rest : List Oper} {o : Oper} {a : Act} {Q : Exit -> Act -> World -> Prop} (hgd : o.guard = none) (x : Operand) (t : TypeId)
  (ho : o.op = .call { callee := .builtin .clear, args := #[x], argTypes := #[t] }) {u : Value} (hx : a.eval x = u) (hr : ∀ ty, (Builtin.clear_ #[t] ty #[u]).run P w = .ok (.tuple #[]) w')
  (h : wpList P ops Q rest (a.put o.dst (.tuple #[])) w') : wpList P ops Q (o :: rest) a w := by
 refine wpList_plain hgd fun K hK => ?_
 unfold Oper.wp
 simp [execOp, ho, resolve, invoke, builtin, hx, hr, Result.andThen]
 exact hK _ _ h
theorem vT (W : World) (o : Option Nat) : (binOp .eql 71 (.map o) (.map none)).run Tryd.prog W = .ok (.bool o.isNone) W := by
 have hu : Tryd.prog.underlying 71 = some (.map 120 64) := Tryd.underlying71
 have e : ∀ d, (Op.equalIn (d + 1) 71 (.map o) (.map none)).run Tryd.prog W = .ok o.isNone W := fun d => by cases o <;> simp [Op.equalIn, run_underlying hu]
 simp only [binOp]
 simp [Op.equal, Op.maxDepth, e 9999]
theorem lZ : ∀ (f x : Nat), x < 2 ^ f -> x < 2 ^ Lib.bitLenAux f x
 | 0, x, h => h
 | f + 1, x, h => by
  simp only [Lib.bitLenAux]
  split
  ·rename_i e; subst e; exact Nat.two_pow_pos _
  ·have ih := lZ f (x / 2) (by rw [Nat.pow_succ] at h; omega)
   rw [Nat.pow_add, Nat.pow_one]
   omega
def lvS (many : Nat) : Nat := Lib.bitLen (many / 64)
theorem qy {many : Nat} (h : many <= 2147483648) : lvS many <= 26 := by
 have e : (2 : Nat) ^ 26 = 67108864 := by decide
 exact Lib.bitLenAux_le 64 _ 26 (by omega)
theorem vU {many : Nat} (h : many <= 2147483648) : many < 2 ^ (6 + lvS many) := by
 have e : (2 : Nat) ^ 64 = 18446744073709551616 := by decide
 have := lZ 64 (many / 64) (by omega)
 rw [Nat.pow_add]
 show many < 2 ^ 6 * 2 ^ Lib.bitLenAux 64 (many / 64)
 omega
theorem MpP.more {W : World} {mb n m : Nat} {N : Nat × Nat -> Option Nat} (h : MpP W mb n N) (hm : n <= m) : MpP W mb m N := by
 obtain ⟨D, ⟨es, clock, h0, h3, h4, h5⟩, h2⟩ := h.ex
 exact ⟨D, ⟨es, clock, h0, h3, Nat.le_trans h4 hm, h5⟩, h2⟩
theorem rM : lkP [pz] = fun _ => none := by
 funext p
 unfold lkP
 exact if_neg fun h => h.2 (List.mem_singleton.1 h.1)
theorem oF : eP [pz] := ⟨by simp, rfl⟩
theorem oG {w : World} {wb : Nat} {h : WH} {lv l2 : Int} {pv mv : Value} (q : w.heap[wb]? = some (wkA h lv pv mv)) : (w.setCell ⟨wb, 7, none⟩ (.int .i64 l2)).heap[wb]? = some (wkA h l2 pv mv) := by
 unfold wkA at q ⊢
 have := Lib.heap_setCell_same (i := 7) q (.int .i64 l2)
 simpa using this
theorem oH {w : World} {wb : Nat} {h : WH} {lv : Int} {pv p2 mv : Value} (q : w.heap[wb]? = some (wkA h lv pv mv)) : (w.setCell ⟨wb, 8, none⟩ p2).heap[wb]? = some (wkA h lv p2 mv) := by
 unfold wkA at q ⊢
 have := Lib.heap_setCell_same (i := 8) q p2
 simpa using this
theorem vV {w : World} {wb : Nat} {h : WH} {lv : Int} {pv mv m2 : Value} (q : w.heap[wb]? = some (wkA h lv pv mv)) : (w.setCell ⟨wb, 9, none⟩ m2).heap[wb]? = some (wkA h lv pv m2) := by
 unfold wkA at q ⊢
 have := Lib.heap_setCell_same (i := 9) q m2
 simpa using this
theorem Fx.low {P Q : Nat -> Prop} {a w : World} (h : Fx P a w) (hq : ∀ k, k < a.heap.size -> P k -> Q k) : Fx Q a w := ⟨h.os, h.tape, h.output, h.size, fun k hk hn => h.block k hk fun e => hn (hq k hk e)⟩
theorem lL {Q : Nat -> Prop} {a b : World} (h : a.grownBy b none) : Fx Q a b := ⟨h.os, h.tape, h.output, h.size, fun k hk _ => h.block k hk fun e => by cases e⟩
theorem qz (w : World) (wb : Nat) (h : WH) (L gb gc mb : Nat) (P : Prs) (s : SeM w wb h L gb gc mb P) (many : Nat) (hm : many <= 2147483648) :
  Calls Tryd.prog 40 #[.pointer (some ⟨wb, 7, none⟩), .int .i64 (many : Int)] w fun e w' => e = .returned (.tuple #[]) /\ Bx (aY w wb h (lvS many) gb mb [pz] w') := by
 obtain ⟨n1, n2, n3⟩ := s.ne
 obtain ⟨l1, l2, l3⟩ := s.lt
 have HL : Bx (∀ W, Calls Tryd.prog 59 #[.int .u64 ((many : Int) / 64)] W fun e w' => e = .returned (.int .i64 (lvS many : Nat)) /\ w' = W) := ⟨fun W => by
  have := Tryd.bits_Len ((many : Int) / 64) W (by omega) (by omega)
  rw [show ((many : Int) / 64).toNat = many / 64 by omega] at this
  exact this⟩
 obtain ⟨W1, hW1⟩ : ∃ W1, w.setCell ⟨wb, 7, none⟩ (.int .i64 (lvS many : Nat)) = W1 := ⟨_, rfl⟩
 have k1 : W1.heap[wb]? = some (wkA h (lvS many : Nat) (.slice (some ⟨gb, 0, none⟩) P.length gc) (.map (some mb))) := by rw [← hW1]; exact oG s.wk
 have z1 : W1.heap.size = w.heap.size := by rw [← hW1]; simp
 have x1 : Fx (jD wb gb mb) w W1 := by rw [← hW1]; exact Fx.set (p := ⟨wb, 7, none⟩) (Fx.refl _ w) (.inl (.inl rfl)) _
 have y1 : Fx (· = wb) w W1 := by rw [← hW1]; exact Fx.set (P := (· = wb)) (p := ⟨wb, 7, none⟩) (Fx.refl _ w) (.inl rfl) _
 have o1 : W1.ownsRow 0 120 2 (.slice (some ⟨gb, 0, none⟩) P.length gc) P.length ([] ++ prC P) := bS s.row fun g o hg ho => by
  simp only [Value.ownBlock, Option.some.injEq] at hg
  subst hg
  exact (y1.block gb l2 (fun e => n1 e.symm)).trans ho
 have o2 := oh (m := 0) (xs := []) o1 rfl (Nat.zero_le _)
 have m1 : MpP W1 mb P.length (lkP P) := s.mp.same (y1.block mb l3 (fun e => n2 e.symm))
 have hcap : P.length <= gc := by
  rcases s.row.2 with ⟨q, _⟩ | ⟨g', cap, cur, q, _, _, q3, _⟩
  ·cases q
  ·simp only [Value.slice.injEq] at q
   obtain ⟨_, -, rfl⟩ := q
   exact q3
 obtain ⟨i0, hi0, hz0, hz1, hz2⟩ := info_parts qo
 obtain ⟨g, cc, W3, r1, r2, r3, r4, r5⟩ := app1 (t := 70) Tryd.underlying70 hi0 hz0 hz1 hz2 rfl (by decide) W1 0 _ 0 [] o2 #[.int .u64 0, .int .u64 0] rfl (by intro u hu; simp at hu; subst hu; rfl) (by unfold maxLen; omega) (by omega) (Nat.zero_le _)
 simp only [Nat.zero_add] at r1 r2
 simp only [Value.ownBlock, Option.some.injEq] at r3 r5
 have hgw : wb ≠ g := by rcases r5 with e | e <;> omega
 have hgm : mb ≠ g := by rcases r5 with e | e <;> omega
 have s3 := r3.size
 have hk3 : ∀ k, k < W1.heap.size -> k ≠ gb -> W3.heap[k]? = W1.heap[k]? := fun k hk hn => r3.block k hk fun e => hn (by cases e; rfl)
 have k3 := (hk3 wb (by omega) n1).trans k1
 have m3 : MpP W3 mb P.length (lkP P) := m1.same (hk3 mb (by omega) (fun e => n3 e.symm))
 obtain ⟨W4, hW4⟩ : ∃ W4, W3.setCell ⟨wb, 8, none⟩ (.slice (some ⟨g, 0, none⟩) 1 cc) = W4 := ⟨_, rfl⟩
 have k4 : W4.heap[wb]? = some (wkA h (lvS many : Nat) (.slice (some ⟨g, 0, none⟩) 1 cc) (.map (some mb))) := by rw [← hW4]; exact oH k3
 have hk4 : ∀ k, k ≠ wb -> W4.heap[k]? = W3.heap[k]? := fun k hk => by rw [← hW4]; exact Below.heap_setCell W3 ⟨wb, 8, none⟩ _ k hk
 have m4 : MpP W4 mb P.length (lkP P) := m3.same (hk4 mb (fun e => n2 e.symm))
 obtain ⟨W5, run5, m5, g5⟩ := m4.clear
 have s43 : W4.heap.size = W3.heap.size := by rw [← hW4]; simp
 have h54 : ∀ k, k < W4.heap.size -> k ≠ mb -> W5.heap[k]? = W4.heap[k]? := fun k hk hn => g5.block k hk fun e => hn (by cases e; rfl)
 have hg3 := (aD r2 (g := g) rfl).2
 have k5 := (h54 wb (by omega) n2).trans k4
 have HF : Bx (aY w wb h (lvS many) gb mb [pz] W5) := ⟨g, cc, ⟨k5, bS r2 fun y ob hy ho => by
   simp only [Value.ownBlock, Option.some.injEq] at hy
   subst hy
   exact (h54 g (by omega) (fun e => hgm e.symm)).trans ((hk4 g (fun e => hgw e.symm)).trans ho), by rw [rM]; exact m5.more (Nat.zero_le _), oF, fun p hp => by rw [List.mem_singleton.1 hp]; exact ⟨(by decide : (0 : Nat) < 18446744073709551616), (by decide : (0 : Nat) < 18446744073709551616)⟩, by simp⟩,
  x1.trans ((iA r3 (.inr (.inl rfl))).trans ((by rw [← hW4]; exact Fx.set (p := ⟨wb, 8, none⟩) (Fx.refl _ W3) (.inl (.inl rfl)) _ : Fx (jD wb gb mb) W3 W4).trans (iA g5 (.inr (.inr rfl))))), r5.elim (fun e => .inl e.symm) fun e => .inr (by omega)⟩
 have k0 := s.wk
 unfold wkA at k0 k1 k3 k4
 have a7 : w.cell? ⟨wb, 7, none⟩ = some (.int .i64 L) := aa k0 rfl
 have f7 : w.frozen? ⟨wb, 7, none⟩ = false := aL k0
 have b8 : W1.cell? ⟨wb, 8, none⟩ = some (.slice (some ⟨gb, 0, none⟩) P.length gc) := aa k1 rfl
 have c8 : W3.cell? ⟨wb, 8, none⟩ = some (.slice (some ⟨gb, 0, none⟩) P.length gc) := aa k3 rfl
 have g8 : W3.frozen? ⟨wb, 8, none⟩ = false := aL k3
 have d9 : W4.cell? ⟨wb, 9, none⟩ = some (.map (some mb)) := aa k4 rfl
 have hmi := fun W => vT W (some mb)
 generalize lvS many = LV at *
 clear s n1 n2 n3 l1 l2 l3 k0 k1 k3 k4 k5 x1 y1 o1 o2 m1 m3 m4 m5 g5 r2 r3 r4 r5 hi0 hz0 hz1 hz2 hgw hgm hk3 hk4 h54 hg3 s43 s3 z1
 go_enter Tryd.func40, Tryd.ntmps40
 go_wp2_with (first
  | (go_at_call 59; refine (HL.out _).mono ?_; rintro e w1 ⟨rfl, rfl⟩)
  | (at_builtin; refine aJ rfl (.tmp 16) (.tmp 18) 70 rfl rfl rfl r1 ?_; clear r1)
  | (at_builtin; refine jN rfl (.tmp 34) 71 rfl rfl run5 ?_; clear run5))
 go_returns
 exact ⟨rfl, HF⟩
theorem oI (w : World) (wb : Nat) (h : WH) (lv : Int) (hwk : w.heap[wb]? = some (wkA h lv (.slice none 0 0) (.map none))) (many : Nat) (hm : many <= 2147483648) :
  Calls Tryd.prog 40 #[.pointer (some ⟨wb, 7, none⟩), .int .i64 (many : Int)] w fun e w' => e = .returned (.tuple #[]) /\ Bx (∃ gb gc mb, SeM w' wb h (lvS many) gb gc mb [pz] /\ Fx (· = wb) w w' /\ w.heap.size <= gb /\ w.heap.size <= mb) := by
 have l1 := ah hwk
 have HL : Bx (∀ W, Calls Tryd.prog 59 #[.int .u64 ((many : Int) / 64)] W fun e w' => e = .returned (.int .i64 (lvS many : Nat)) /\ w' = W) := ⟨fun W => by
  have := Tryd.bits_Len ((many : Int) / 64) W (by omega) (by omega)
  rw [show ((many : Int) / 64).toNat = many / 64 by omega] at this
  exact this⟩
 obtain ⟨W1, hW1⟩ : ∃ W1, w.setCell ⟨wb, 7, none⟩ (.int .i64 (lvS many : Nat)) = W1 := ⟨_, rfl⟩
 have k1 : W1.heap[wb]? = some (wkA h (lvS many : Nat) (.slice none 0 0) (.map none)) := by rw [← hW1]; exact oG hwk
 have z1 : W1.heap.size = w.heap.size := by rw [← hW1]; simp
 have y1 : Fx (· = wb) w W1 := by rw [← hW1]; exact Fx.set (P := (· = wb)) (p := ⟨wb, 7, none⟩) (Fx.refl _ w) (.inl rfl) _
 obtain ⟨i0, hi0, hz0, hz1, hz2⟩ := info_parts qo
 obtain ⟨g, cc, W3, r1, r2, r3, r4, r5⟩ := app1 (t := 70) Tryd.underlying70 hi0 hz0 hz1 hz2 rfl (by decide) W1 0 (.slice none 0 0) 0 [] ⟨rfl, .inl ⟨rfl, rfl⟩⟩ #[.int .u64 0, .int .u64 0] rfl (by intro u hu; simp at hu; subst hu; rfl) (by unfold maxLen; omega) (by omega) (Nat.zero_le _)
 simp only [Nat.zero_add] at r1 r2
 have hgg : W1.heap.size <= g := by
  rcases r5 with e | e
  ·cases e
  ·exact e
 have hgw : wb ≠ g := by omega
 have s3 := r3.size
 have hk3 : ∀ k, k < W1.heap.size -> W3.heap[k]? = W1.heap[k]? := fun k hk => r3.block k hk fun e => by cases e
 have k3 := (hk3 wb (by omega)).trans k1
 obtain ⟨W4, hW4⟩ : ∃ W4, W3.setCell ⟨wb, 8, none⟩ (.slice (some ⟨g, 0, none⟩) 1 cc) = W4 := ⟨_, rfl⟩
 have k4 : W4.heap[wb]? = some (wkA h (lvS many : Nat) (.slice (some ⟨g, 0, none⟩) 1 cc) (.map none)) := by rw [← hW4]; exact oH k3
 have hk4 : ∀ k, k ≠ wb -> W4.heap[k]? = W3.heap[k]? := fun k hk => by rw [← hW4]; exact Below.heap_setCell W3 ⟨wb, 8, none⟩ _ k hk
 have s43 : W4.heap.size = W3.heap.size := by rw [← hW4]; simp
 obtain ⟨M, hM⟩ : ∃ M, W4.heap.size = M := ⟨_, rfl⟩
 obtain ⟨W5, hW5⟩ : ∃ W5, W4.alloc (.map #[] 0) = W5 := ⟨_, rfl⟩
 have b5 : Below M W4 W5 := by rw [← hW5, ← hM]; exact ak _ _
 have k5 := (b5.block wb (by omega)).trans k4
 have m5 : MpP W5 M 0 (fun _ => none) := by rw [← hW5, ← hM]; exact Bd W4
 obtain ⟨W6, hW6⟩ : ∃ W6, W5.setCell ⟨wb, 9, none⟩ (.map (some M)) = W6 := ⟨_, rfl⟩
 have k6 : W6.heap[wb]? = some (wkA h (lvS many : Nat) (.slice (some ⟨g, 0, none⟩) 1 cc) (.map (some M))) := by rw [← hW6]; exact vV k5
 have hk6 : ∀ k, k ≠ wb -> W6.heap[k]? = W5.heap[k]? := fun k hk => by rw [← hW6]; exact Below.heap_setCell W5 ⟨wb, 9, none⟩ _ k hk
 have m6 : MpP W6 M 0 (fun _ => none) := m5.same (hk6 M (by omega))
 obtain ⟨W7, run7, m7, g7⟩ := m6.clear
 have s6 : W6.heap.size = M + 1 := by rw [← hW6, ← hW5]; simp [hM]
 have h7 : ∀ k, k < W6.heap.size -> k ≠ M -> W7.heap[k]? = W6.heap[k]? := fun k hk hn => g7.block k hk fun e => hn (by cases e; rfl)
 have hg3 := (aD r2 (g := g) rfl).2
 have k7 := (h7 wb (by omega) (by omega)).trans k6
 have x7 : Fx (fun k => k = wb ∨ k = M) w W7 := (Fx.low y1 fun k hk e => .inl e).trans ((lL r3).trans ((by rw [← hW4]; exact Fx.set (p := ⟨wb, 8, none⟩) (Fx.refl _ W3) (.inl (.inl rfl)) _ : Fx (fun k => k = wb ∨ k = M) W3 W4).trans ((Fx.of (hM.symm ▸ b5)).trans ((by rw [← hW6]; exact Fx.set (p := ⟨wb, 9, none⟩) (Fx.refl _ W5) (.inl (.inl rfl)) _ : Fx (fun k => k = wb ∨ k = M) W5 W6).trans (iA g7 (.inr rfl))))))
 have HF : Bx (∃ gb gc mb, SeM W7 wb h (lvS many) gb gc mb [pz] /\ Fx (· = wb) w W7 /\ w.heap.size <= gb /\ w.heap.size <= mb) := ⟨g, cc, M, ⟨k7, bS r2 fun y ob hy ho => by
   simp only [Value.ownBlock, Option.some.injEq] at hy
   subst hy
   exact (h7 g (by omega) (by omega)).trans ((hk6 g (fun e => hgw e.symm)).trans ((b5.block g (by omega)).trans ((hk4 g (fun e => hgw e.symm)).trans ho))), by rw [rM]; exact m7.more (Nat.zero_le _), oF, fun p hp => by rw [List.mem_singleton.1 hp]; exact ⟨(by decide : (0 : Nat) < 18446744073709551616), (by decide : (0 : Nat) < 18446744073709551616)⟩, by simp⟩,
  x7.low fun k hk e => e.elim id fun e => by omega, by omega, by omega⟩
 have k0 := hwk
 unfold wkA at k0 k1 k3 k4 k5 k6
 have a7 : w.cell? ⟨wb, 7, none⟩ = some (.int .i64 lv) := aa k0 rfl
 have f7 : w.frozen? ⟨wb, 7, none⟩ = false := aL k0
 have b8 : W1.cell? ⟨wb, 8, none⟩ = some (.slice none 0 0) := aa k1 rfl
 have c8 : W3.cell? ⟨wb, 8, none⟩ = some (.slice none 0 0) := aa k3 rfl
 have g8 : W3.frozen? ⟨wb, 8, none⟩ = false := aL k3
 have d9 : W4.cell? ⟨wb, 9, none⟩ = some (.map none) := aa k4 rfl
 have e9 : W5.cell? ⟨wb, 9, none⟩ = some (.map none) := aa k5 rfl
 have i9 : W5.frozen? ⟨wb, 9, none⟩ = false := aL k5
 have l9 : W6.cell? ⟨wb, 9, none⟩ = some (.map (some M)) := aa k6 rfl
 have hmi := fun W => vT W none
 have hmm := @run_makeMap Tryd.prog
 generalize lvS many = LV at *
 clear l1 hwk k0 k1 k3 k4 k5 k6 k7 x7 y1 b5 m5 m6 m7 g7 r2 r3 r4 r5 hi0 hz0 hz1 hz2 hgw hgg hk3 hk4 hk6 h7 hg3 s43 s3 s6 z1
 go_enter Tryd.func40, Tryd.ntmps40
 go_wp2_with (first
  | (go_at_call 59; refine (HL.out _).mono ?_; rintro e w1 ⟨rfl, rfl⟩)
  | (at_builtin; refine aJ rfl (.tmp 16) (.tmp 18) 70 rfl rfl rfl r1 ?_; clear r1)
  | (at_builtin; refine jN rfl (.tmp 34) 71 rfl rfl run7 ?_; clear run7))
 go_returns
 exact ⟨rfl, HF⟩
structure WG where
 kb : Nat
 n : Nat
 db : Nat
 dc : Nat
 L : Nat
 mb : Nat
 eb : Nat -> Nat
structure WA where
 a0 : Value
 a1 : Value
 a2 : Value
 a3 : Value
 a4 : Value
def WG.h (g : WG) (A : WA) : WH := ⟨A.a0, A.a1, A.a2, A.a3, A.a4, .slice (some ⟨g.kb, 0, none⟩) g.n g.n, .slice (some ⟨g.db, 0, none⟩) g.L g.dc⟩
abbrev Wy := Nat × Nat
def kN (K : List Wy) : List Value := K.flatMap fun p => [Value.int .i64 (p.1 : Int), .int .u64 (p.2 : Int)]
theorem mW : ∀ (K : List Wy) (i : Nat) (p : Wy), K[i]? = some p -> (kN K)[i * 2]? = some (.int .i64 (p.1 : Int)) /\ (kN K)[i * 2 + 1]? = some (.int .u64 (p.2 : Int))
 | q :: r, 0, p, h => by simp at h; subst h; exact ⟨rfl, rfl⟩
 | q :: r, i + 1, p, h => by
  have ih := mW r i p (by simpa using h)
  have e : ∀ j, (kN (q :: r))[j + 2]? = (kN r)[j]? := fun j => rfl
  rw [show (i + 1) * 2 = i * 2 + 2 by omega, show i * 2 + 2 + 1 = i * 2 + 1 + 2 by omega, e, e]
  exact ih
theorem vW : ∀ (K : List Wy) (i : Nat) (h : i < K.length) (p : Wy), ((kN K).set (i * 2) (.int .i64 (p.1 : Int))).set (i * 2 + 1) (.int .u64 (p.2 : Int)) = kN (K.set i p)
 | q :: r, 0, _, p => by simp [kN]
 | q :: r, i + 1, h, p => by
  have := vW r i (by simpa using h) p
  rw [show (i + 1) * 2 = i * 2 + 1 + 1 by omega]
  simp only [kN, List.flatMap_cons, List.set_cons_succ, List.cons_append, List.nil_append] at this ⊢
  rw [this]
structure WkM (w : World) (wb : Nat) (g : WG) (A : WA) (L gb : Nat) (P : Prs) (K : List Wy) (D : Nat -> Bool) : Prop where
 se : ∃ gc, SeM w wb (g.h A) L gb gc g.mb P
 kn : w.heap[g.kb]? = some (.cells (kN K).toArray 66 (0, 0))
 kl : K.length = g.n
 du : DuE w g.db g.dc g.eb g.L g.n fun _ => D
 nd : g.db ≠ wb /\ g.db ≠ g.kb /\ g.db ≠ gb /\ g.db ≠ g.mb
def iJ (wb : Nat) (g : WG) (gb : Nat) : Nat -> Prop := fun k => jD wb gb g.mb k ∨ k = g.kb ∨ mK g.eb g.L k
theorem dh {w : World} {a b : Nat} {ca cb : Array Value} {ta tb : TypeId} {fa fb : Nat × Nat} (ha : w.heap[a]? = some (.cells ca ta fa)) (hb : w.heap[b]? = some (.cells cb tb fb)) (ht : ta ≠ tb) : a ≠ b := fun e => by
 subst e
 rw [ha] at hb
 injection hb with hb
 injection hb with _ q
 exact ht q
theorem jE {w : World} {a b : Nat} {ca : Array Value} {ta : TypeId} {fa : Nat × Nat} (ha : w.heap[a]? = some (.cells ca ta fa)) (hb : ∃ es clock, w.heap[b]? = some (.map es clock)) : a ≠ b := fun e => by
 subst e
 obtain ⟨es, clock, hb⟩ := hb
 rw [ha] at hb
 injection hb with hb
 cases hb
theorem WkM.ne {w : World} {wb : Nat} {g : WG} {A : WA} {L gb : Nat} {P : Prs} {K : List Wy} {D : Nat -> Bool} (h : WkM w wb g A L gb P K D) : g.kb ≠ wb /\ g.kb ≠ gb /\ g.kb ≠ g.mb /\ ∀ l, l < g.L -> g.eb l ≠ wb /\ g.eb l ≠ gb /\ g.eb l ≠ g.mb /\ g.eb l ≠ g.kb := by
 obtain ⟨gc, s⟩ := h.se
 have hw := s.wk
 unfold wkA at hw
 obtain ⟨c, f, hg⟩ := bM s.row gb rfl
 refine ⟨dh h.kn hw (by decide), dh h.kn hg (by decide), jE h.kn s.mp.obj, fun l hl => ?_⟩
 have he := h.du.wrd l hl
 exact ⟨dh he hw (by decide), dh he hg (by decide), jE he s.mp.obj, dh he h.kn (by decide)⟩
theorem WkM.lt {w : World} {wb : Nat} {g : WG} {A : WA} {L gb : Nat} {P : Prs} {K : List Wy} {D : Nat -> Bool} (h : WkM w wb g A L gb P K D) : wb < w.heap.size /\ gb < w.heap.size /\ g.mb < w.heap.size /\ g.kb < w.heap.size /\ g.db < w.heap.size /\ ∀ l, l < g.L -> g.eb l < w.heap.size := by
 obtain ⟨gc, s⟩ := h.se
 obtain ⟨l1, l2, l3⟩ := s.lt
 exact ⟨l1, l2, l3, ah h.kn, h.du.dlt, fun l hl => h.du.elt hl⟩
theorem WkM.fx {w w' : World} {wb : Nat} {g : WG} {A : WA} {L gb : Nat} {P : Prs} {K : List Wy} {D : Nat -> Bool} (h : WkM w wb g A L gb P K D) {Q : Nat -> Prop} (hb : Fx Q w w') (h1 : ∀ k, iJ wb g gb k -> ¬ Q k) (h2 : ¬ Q g.db) : WkM w' wb g A L gb P K D := by
 obtain ⟨gc, s⟩ := h.se
 obtain ⟨l1, l2, l3, l4, l5, l6⟩ := h.lt
 exact ⟨⟨gc, s.fx hb (h1 _ (.inl (.inl rfl))) (h1 _ (.inl (.inr (.inl rfl)))) (h1 _ (.inl (.inr (.inr rfl))))⟩, (hb.block _ l4 (h1 _ (.inr (.inl rfl)))).trans h.kn, h.kl, h.du.fx hb h2 fun l hl => h1 _ (.inr (.inr ⟨l, hl, rfl⟩)), h.nd⟩
theorem WkM.below {w w' : World} {wb : Nat} {g : WG} {A : WA} {L gb : Nat} {P : Prs} {K : List Wy} {D : Nat -> Bool} (h : WkM w wb g A L gb P K D) (hb : Below w.heap.size w w') : WkM w' wb g A L gb P K D := h.fx (Q := fun _ => False) (Fx.of hb) (fun _ _ => id) id
theorem WkM.cells {w : World} {wb : Nat} {g : WG} {A : WA} {L gb : Nat} {P : Prs} {K : List Wy} {D : Nat -> Bool} (h : WkM w wb g A L gb P K D) : w.cell? ⟨wb, 0, none⟩ = some A.a0 /\ w.cell? ⟨wb, 1, none⟩ = some A.a1 /\ w.cell? ⟨wb, 2, none⟩ = some A.a2 /\ w.cell? ⟨wb, 3, none⟩ = some A.a3 /\ w.cell? ⟨wb, 4, none⟩ = some A.a4 /\ w.cell? ⟨wb, 5, none⟩ = some (.slice (some ⟨g.kb, 0, none⟩) g.n g.n) /\ w.cell? ⟨wb, 6, none⟩ = some (.slice (some ⟨g.db, 0, none⟩) g.L g.dc) /\ w.cell? ⟨wb, 7, none⟩ = some (.int .i64 L) := by
 obtain ⟨gc, s⟩ := h.se
 have hw := s.wk
 unfold wkA at hw
 exact ⟨aa hw rfl, aa hw rfl, aa hw rfl, aa hw rfl, aa hw rfl, aa hw rfl, aa hw rfl, aa hw rfl⟩
theorem WkM.known {w : World} {wb : Nat} {g : WG} {A : WA} {L gb : Nat} {P : Prs} {K : List Wy} {D : Nat -> Bool} (h : WkM w wb g A L gb P K D) {i : Nat} {p : Wy} (hp : K[i]? = some p) : w.cell? ⟨g.kb, i * 2, none⟩ = some (.int .i64 (p.1 : Int)) /\ w.cell? ⟨g.kb, i * 2 + 1, none⟩ = some (.int .u64 (p.2 : Int)) := by
 obtain ⟨h1, h2⟩ := mW K i p hp
 exact ⟨aa h.kn (by simpa using h1), aa h.kn (by simpa using h2)⟩
theorem WkM.set {w : World} {wb : Nat} {g : WG} {A : WA} {L gb : Nat} {P : Prs} {K : List Wy} {D : Nat -> Bool} (h : WkM w wb g A L gb P K D) {i : Nat} (hi : i < g.n) (p : Wy) : WkM ((w.setCell ⟨g.kb, i * 2, none⟩ (.int .i64 (p.1 : Int))).setCell ⟨g.kb, i * 2 + 1, none⟩ (.int .u64 (p.2 : Int))) wb g A L gb P (K.set i p) D /\ Fx (· = g.kb) w ((w.setCell ⟨g.kb, i * 2, none⟩ (.int .i64 (p.1 : Int))).setCell ⟨g.kb, i * 2 + 1, none⟩ (.int .u64 (p.2 : Int))) := by
 have x : Fx (· = g.kb) w ((w.setCell ⟨g.kb, i * 2, none⟩ (.int .i64 (p.1 : Int))).setCell ⟨g.kb, i * 2 + 1, none⟩ (.int .u64 (p.2 : Int))) := Fx.set (P := (· = g.kb)) (p := ⟨g.kb, i * 2 + 1, none⟩) (Fx.set (P := (· = g.kb)) (p := ⟨g.kb, i * 2, none⟩) (Fx.refl _ w) (.inl rfl) _) (.inl rfl) _
 have e1 := heap_setCell_same w g.kb (i * 2) (kN K).toArray 66 (.int .i64 (p.1 : Int)) h.kn
 have e2 := heap_setCell_same _ g.kb (i * 2 + 1) _ 66 (.int .u64 (p.2 : Int)) e1
 simp only [List.setIfInBounds_toArray] at e2
 rw [vW K i (by rw [h.kl]; exact hi) p] at e2
 obtain ⟨n1, n2, n3, n4⟩ := h.ne
 obtain ⟨gc, s⟩ := h.se
 exact ⟨⟨⟨gc, s.fx x (fun e => n1 e.symm) (fun e => n2 e.symm) (fun e => n3 e.symm)⟩, e2, by rw [List.length_set]; exact h.kl, h.du.fx x h.nd.2.1 fun l hl => (n4 l hl).2.2.2, h.nd⟩, x⟩
theorem vX (p q : Wy) (W : World) : (binOp .eql 66 (.agg #[.int .i64 (p.1 : Int), .int .u64 (p.2 : Int)]) (.agg #[.int .i64 (q.1 : Int), .int .u64 (q.2 : Int)])).run Tryd.prog W = .ok (.bool (decide (p = q))) W := by
 obtain ⟨a, b⟩ := p
 obtain ⟨c, d⟩ := q
 simp only
 by_cases ha : a = c
 ·subst ha
  by_cases hb : b = d
  ·subst hb
   have h0 : ((a : Int) == (a : Int)) = true := by simp
   have h1 : ((b : Int) == (b : Int)) = true := by simp
   have h2 : decide ((a, b) = (a, b)) = true := by simp
   rw [h2]
   go_simp
  ·have h0 : ((a : Int) == (a : Int)) = true := by simp
   have h1 : ((b : Int) == (d : Int)) = false := by simp; omega
   have h2 : decide ((a, b) = (a, d)) = false := decide_eq_false fun e => hb (by cases e; rfl)
   rw [h2]
   go_simp
 ·have h1 : ((a : Int) == (c : Int)) = false := by simp; omega
  have h2 : decide ((a, b) = (c, d)) = false := decide_eq_false fun e => ha (by cases e; rfl)
  rw [h2]
  go_simp
def aI (K : List Wy) (i : Nat) (p : Wy) : List Wy := if (K[i]?.getD (0, 0)).1 = 0 then K.set i p else K
def aP (K : List Wy) (i : Nat) (D : Nat -> Bool) : Nat -> Bool := if (K[i]?.getD (0, 0)).1 = 0 then ins i D else D
def bI (K : List Wy) (i : Nat) (p : Wy) : Bool := decide ((aI K i p)[i]?.getD (0, 0) = p)
def aK (w : World) (wb : Nat) (g : WG) (A : WA) (L gb : Nat) (P : Prs) (K : List Wy) (D : Nat -> Bool) (w' : World) : Prop := ∃ gb', WkM w' wb g A L gb' P K D /\ Fx (iJ wb g gb) w w' /\ (gb' = gb ∨ w.heap.size <= gb')
theorem aK.refl {w w' : World} {wb : Nat} {g : WG} {A : WA} {L gb : Nat} {P : Prs} {K : List Wy} {D : Nat -> Bool} (h : WkM w wb g A L gb P K D) (hb : Below w.heap.size w w') : aK w wb g A L gb P K D w' := ⟨gb, h.below hb, Fx.of hb, .inl rfl⟩
theorem aK.trans {w w1 w2 : World} {wb : Nat} {g : WG} {A : WA} {L gb gb1 : Nat} {P2 : Prs} {K2 : List Wy} {D2 : Nat -> Bool} (x : Fx (iJ wb g gb) w w1) (hg : gb1 = gb ∨ w.heap.size <= gb1) (h2 : aK w1 wb g A L gb1 P2 K2 D2 w2) : aK w wb g A L gb P2 K2 D2 w2 := by
 obtain ⟨gb', s, y, hg'⟩ := h2
 have hs := x.size
 refine ⟨gb', s, ⟨y.os.trans x.os, y.tape.trans x.tape, y.output.trans x.output, Nat.le_trans x.size y.size, fun k hk hn => ?_⟩, ?_⟩
 ·refine (y.block k (Nat.lt_of_lt_of_le hk x.size) fun q => hn ?_).trans (x.block k hk hn)
  rcases q with (q | q | q) | q | q
  ·exact .inl (.inl q)
  ·rcases hg with e | e
   ·exact .inl (.inr (.inl (q.trans e)))
   ·omega
  ·exact .inl (.inr (.inr q))
  ·exact .inr (.inl q)
  ·exact .inr (.inr q)
 ·rcases hg' with e | e
  ·rcases hg with e2 | e2
   ·exact .inl (e.trans e2)
   ·exact .inr (by omega)
  ·exact .inr (by omega)
theorem aK.own {w w' : World} {wb : Nat} {g : WG} {A : WA} {L gb : Nat} {P : Prs} {K : List Wy} {D : Nat -> Bool} (h : aK w wb g A L gb P K D w') {k : Nat} {o : Obj} (hk : w.heap[k]? = some o) (hn : ¬ iJ wb g gb k) : w'.heap[k]? = some o := by
 obtain ⟨gb', s, x, _⟩ := h
 exact (x.block k (ah hk) hn).trans hk
theorem WkM.own {w : World} {wb : Nat} {g : WG} {A : WA} {L gb : Nat} {P : Prs} {K : List Wy} {D : Nat -> Bool} (h : WkM w wb g A L gb P K D) {k : Nat} (hk : w.heap.size <= k) : ¬ iJ wb g gb k := by
 obtain ⟨l1, l2, l3, l4, l5, l6⟩ := h.lt
 rintro ((q | q | q) | q | ⟨l, hl, q⟩)
 ·omega
 ·omega
 ·omega
 ·omega
 ·have := l6 l hl; omega
theorem ja (w : World) (wb : Nat) (g : WG) (A : WA) (L gb : Nat) (P : Prs) (K : List Wy) (D : Nat -> Bool) (h : WkM w wb g A L gb P K D) (i : Nat) (hi : i < g.n) (p : Wy) :
  Calls Tryd.prog 41 #[.pointer (some ⟨wb, 0, none⟩), .int .i64 (i : Int), .agg #[.int .i64 (p.1 : Int), .int .u64 (p.2 : Int)]] w fun e w' => e = .returned (.bool (bI K i p)) /\ Bx (aK w wb g A L gb P (aI K i p) (aP K i D) w') := by
 obtain ⟨H, hH⟩ : ∃ H, w.heap.size = H := ⟨_, rfl⟩
 obtain ⟨q, hq⟩ : ∃ q, K[i]? = some q := ⟨_, List.getElem?_eq_getElem (by rw [h.kl]; exact hi)⟩
 have hiK : i < K.length := by rw [h.kl]; exact hi
 obtain ⟨w0, hw0⟩ : ∃ w0, w.alloc (.cells #[.int .i64 (p.1 : Int), .int .u64 (p.2 : Int)] 66) = w0 := ⟨_, rfl⟩
 have b0 : Below w.heap.size w w0 := by rw [← hw0]; exact ak w _
 have s0 : w0.heap.size = H + 1 := by rw [← hw0]; simp [hH]
 have q0 : w0.heap[H]? = some (.cells #[.int .i64 (p.1 : Int), .int .u64 (p.2 : Int)] 66 (0, 0)) := by rw [← hw0]; exact aj _ _ _ hH
 have h0 := h.below b0
 have nH : ¬ iJ wb g gb H := h.own (by omega)
 obtain ⟨_, _, _, _, _, c5, c6, _⟩ := h0.cells
 obtain ⟨ca, ca1⟩ := h0.known hq
 have p0 : w0.cell? ⟨H, 0, none⟩ = some (.int .i64 (p.1 : Int)) := aa q0 rfl
 have p1 : w0.cell? ⟨H, 1, none⟩ = some (.int .u64 (p.2 : Int)) := aa q0 rfl
 have fz : ∀ j, w0.frozen? ⟨g.kb, j, none⟩ = false := fun j => aL h0.kn
 have hxI : (i : Int) < (g.n : Int) := by omega
 unfold bI aI aP
 rw [hq]
 simp only [Option.getD_some]
 by_cases hz : q.1 = 0
 ·simp only [if_pos hz]
  have e1 : ((K.set i p)[i]?.getD (0, 0)) = p := by rw [List.getElem?_set_self hiK]; rfl
  rw [e1]
  have e2 : decide (p = p) = true := by simp
  rw [e2]
  rw [hz] at ca
  have HA : Bx (∀ k, (((w0.drewN k).setCell ⟨g.kb, i * 2, none⟩ (.int .i64 (p.1 : Int))).setCell ⟨g.kb, i * 2 + 1, none⟩ (.int .u64 (p.2 : Int))).cell? ⟨wb, 6, none⟩ = some (.slice (some ⟨g.db, 0, none⟩) g.L g.dc) /\ Calls Tryd.prog 60 #[.slice (some ⟨g.db, 0, none⟩) g.L g.dc, .int .i64 (i : Int)] (((w0.drewN k).setCell ⟨g.kb, i * 2, none⟩ (.int .i64 (p.1 : Int))).setCell ⟨g.kb, i * 2 + 1, none⟩ (.int .u64 (p.2 : Int))) fun e w' => e = .returned (.tuple #[]) /\ w'.cell? ⟨wb, 5, none⟩ = some (.slice (some ⟨g.kb, 0, none⟩) g.n g.n) /\ w'.cell? ⟨g.kb, i * 2, none⟩ = some (.int .i64 (p.1 : Int)) /\ w'.cell? ⟨g.kb, i * 2 + 1, none⟩ = some (.int .u64 (p.2 : Int)) /\ w'.cell? ⟨H, 0, none⟩ = some (.int .i64 (p.1 : Int)) /\ w'.cell? ⟨H, 1, none⟩ = some (.int .u64 (p.2 : Int)) /\ Bx (∀ m, aK w wb g A L gb P (K.set i p) (ins i D) (w'.drewN m))) := ⟨fun k => by
   have hk := h0.below (below_drewN (Below.refl _ w0) k)
   obtain ⟨hX, xX⟩ := hk.set hi p
   have xX' : Fx (· = g.kb) w0 (((w0.drewN k).setCell ⟨g.kb, i * 2, none⟩ (.int .i64 (p.1 : Int))).setCell ⟨g.kb, i * 2 + 1, none⟩ (.int .u64 (p.2 : Int))) := (Fx.of (below_drewN (Below.refl _ w0) k)).trans xX
   generalize ((w0.drewN k).setCell ⟨g.kb, i * 2, none⟩ (.int .i64 (p.1 : Int))).setCell ⟨g.kb, i * 2 + 1, none⟩ (.int .u64 (p.2 : Int)) = X at *
   obtain ⟨_, _, _, _, _, y5, y6, _⟩ := hX.cells
   have qX : X.heap[H]? = some (.cells #[.int .i64 (p.1 : Int), .int .u64 (p.2 : Int)] 66 (0, 0)) := (xX'.block H (by omega) (fun e => nH (.inr (.inl e)))).trans q0
   refine ⟨y6, (zb X g.db g.dc g.eb g.L g.n D hX.du i hi).mono ?_⟩
   rintro e w' ⟨rfl, hb⟩
   obtain ⟨hd, hx⟩ := hb.out
   obtain ⟨n1, n2, n3, n4⟩ := hX.ne
   obtain ⟨l1, l2, l3, l4, l5, l6⟩ := hX.lt
   obtain ⟨gc, sX⟩ := hX.se
   have k' := (hx.block g.kb l4 (fun ⟨l, hl, e⟩ => (n4 l hl).2.2.2 e.symm)).trans hX.kn
   have hW' : WkM w' wb g A L gb P (K.set i p) (ins i D) := ⟨⟨gc, sX.fx hx (fun ⟨l, hl, e⟩ => (n4 l hl).1 e.symm) (fun ⟨l, hl, e⟩ => (n4 l hl).2.1 e.symm) (fun ⟨l, hl, e⟩ => (n4 l hl).2.2.1 e.symm)⟩, k', hX.kl, hd, hX.nd⟩
   have x' : Fx (iJ wb g gb) w w' := (Fx.of b0).trans ((xX'.mono fun k _ e => .inr (.inl e)).trans (hx.mono fun k _ e => .inr (.inr e)))
   have qw : w'.heap[H]? = some (.cells #[.int .i64 (p.1 : Int), .int .u64 (p.2 : Int)] 66 (0, 0)) := (hx.block H (ah qX) (fun e => nH (.inr (.inr e)))).trans qX
   obtain ⟨_, _, _, _, _, z5, _, _⟩ := hW'.cells
   obtain ⟨v0, v1⟩ := hW'.known (List.getElem?_set_self hiK)
   exact ⟨rfl, z5, v0, v1, aa qw rfl, aa qw rfl, ⟨fun m => ⟨gb, hW'.below (below_drewN (Below.refl _ w') m), x'.drewN m, .inl rfl⟩⟩⟩⟩
  have hpp := vX p p
  rw [e2] at hpp
  have hkl0 : g.kb < w0.heap.size := h0.lt.2.2.2.1
  have hHl0 : H < w0.heap.size := by omega
  have hkH : g.kb ≠ H := fun e => nH (.inr (.inl e.symm))
  have hwk : wb ≠ g.kb := fun e => h0.ne.1 e.symm
  clear h0 h q0 nH b0 hq e1 e2
  generalize ins i D = D' at *
  generalize q.2 = z at *
  go_enter Tryd.func41, Tryd.ntmps41
  go_wp2
  go_region
  go_wp2_with (first
   | (go_at_call 60; refine Calls.mono (HA.out 1).2 ?_; rintro e w2 ⟨rfl, y5, y0, y1, z0, z1, HX⟩; clear HA c5 c6 ca ca1 fz p0 p1))
  go_quiet (fail)
  go_wp2
  go_ret
  exact ⟨rfl, ⟨HX.out _⟩⟩
 ·simp only [if_neg hz]
  rw [hq]
  simp only [Option.getD_some]
  have hzI : ((q.1 : Int) == 0) = false := by simp; omega
  have hpp := vX q p
  have HX : Bx (∀ k, aK w wb g A L gb P K D (w0.drewN k)) := ⟨fun k => aK.refl h (below_drewN b0 k)⟩
  generalize decide (q = p) = r at *
  clear h0 h q0 nH b0 hq hz
  go_enter Tryd.func41, Tryd.ntmps41
  go_wp2
  go_quiet (fail)
  go_wp2
  go_ret
  exact ⟨rfl, ⟨HX.out _⟩⟩
theorem aK.Az {w w' : World} {wb : Nat} {g : WG} {A : WA} {L gb : Nat} {P P' : Prs} {K : List Wy} {D : Nat -> Bool} (h : WkM w wb g A L gb P K D) (s : aY w wb (g.h A) L gb g.mb P' w') : aK w wb g A L gb P' K D w' := by
 obtain ⟨gb', gc', s', x, hg⟩ := s
 obtain ⟨n1, n2, n3, n4⟩ := h.ne
 obtain ⟨l1, l2, l3, l4, l5, l6⟩ := h.lt
 have nd := h.nd
 refine ⟨gb', ⟨⟨gc', s'⟩, (x.block g.kb l4 fun e => ?_).trans h.kn, h.kl, h.du.fx x (fun e => ?_) (fun l hl e => ?_), ⟨nd.1, nd.2.1, ?_, nd.2.2.2⟩⟩, x.mono fun k _ e => .inl e, hg⟩
 ·rcases e with e | e | e
  ·exact n1 e
  ·exact n2 e
  ·exact n3 e
 ·rcases e with e | e | e
  ·exact nd.1 e
  ·exact nd.2.2.1 e
  ·exact nd.2.2.2 e
 ·have := n4 l hl
  rcases e with e | e | e
  ·exact this.1 e
  ·exact this.2.1 e
  ·exact this.2.2.1 e
 ·rcases hg with e | e
  ·rw [e]; exact nd.2.2.1
  ·omega
def past (L : Nat) (P : Prs) (s : Nat) (op a : Int) : Prs × Nat := if op = 5 then dM L P s a.toNat (2 ^ (a.toNat % 64)) else if op = 6 then dM L P s a.toNat 0 else (P, s)
theorem jO (w : World) (wb : Nat) (r : Bool) (h : w.cell? ⟨wb, 3, none⟩ = some (.bool r)) : Calls Tryd.prog 65 #[.pointer (some ⟨wb, 0, none⟩)] w fun e w' => e = .returned (.int .i64 (if r then 1 else 0)) /\ w = w' := by
 go_enter Tryd.func65, Tryd.ntmps65
 cases r with
 | true =>
  go_wp2
  go_ret
  exact ⟨rfl, rfl⟩
 | false =>
  go_wp2
  go_ret
  exact ⟨rfl, rfl⟩
theorem bO (op : Int) (w : World) : Calls Tryd.prog 66 #[.int .i64 op] w fun e w' => e = .returned (.bool (op == 4 || op == 6 || op == 16)) /\ w = w' := by
 go_enter Tryd.func66, Tryd.ntmps66
 cases h4 : (op == 4) with
 | true =>
  go_wp2
  go_ret
  exact ⟨rfl, rfl⟩
 | false =>
  cases h6 : (op == 6) with
  | true =>
   go_wp2
   go_ret
   exact ⟨rfl, rfl⟩
  | false =>
   cases h16 : (op == 16) with
   | true =>
    go_wp2
    go_ret
    exact ⟨rfl, rfl⟩
   | false =>
    go_wp2
    go_ret
    exact ⟨rfl, rfl⟩
theorem bP (op : Int) (w : World) : Calls Tryd.prog 68 #[.int .i64 op] w fun e w' => e = .returned (.bool (!(op == 19 || op == 21 || op == 25 || op == 27))) /\ w = w' := by
 go_enter Tryd.func68, Tryd.ntmps68
 cases h1 : (op == 19) with
 | true => go_wp2; go_ret; exact ⟨rfl, rfl⟩
 | false =>
  cases h2 : (op == 21) with
  | true => go_wp2; go_ret; exact ⟨rfl, rfl⟩
  | false =>
   cases h3 : (op == 25) with
   | true => go_wp2; go_ret; exact ⟨rfl, rfl⟩
   | false =>
    cases h4 : (op == 27) with
    | true => go_wp2; go_ret; exact ⟨rfl, rfl⟩
    | false => go_wp2; go_ret; exact ⟨rfl, rfl⟩
theorem lM (w : World) (wb : Nat) (g : WG) (A : WA) (L gb : Nat) (P : Prs) (K : List Wy) (D : Nat -> Bool) (h : WkM w wb g A L gb P K D) (hL : L < 60) (hP : P.length + L < 1099511627776) (op a b : Int) (lv : Value) (ha : op = 5 ∨ op = 6 -> 0 <= a /\ a <= 2147483648) (s : Nat) (hs : vsP L P s) :
  Calls Tryd.prog 69 #[.pointer (some ⟨wb, 0, none⟩), .agg #[.int .i64 op, .int .i64 a, .int .i64 b, lv], .int .u64 (s : Int)] w fun e w' => e = .returned (.int .u64 ((past L P s op a).2 : Int)) /\ Bx (aK w wb g A L gb (past L P s op a).1 K D w') := by
 obtain ⟨H, hH⟩ : ∃ H, w.heap.size = H := ⟨_, rfl⟩
 obtain ⟨w0, hw0⟩ : ∃ w0, w.alloc (.cells #[.int .i64 op, .int .i64 a, .int .i64 b, lv] 43) = w0 := ⟨_, rfl⟩
 have b0 : Below w.heap.size w w0 := by rw [← hw0]; exact ak w _
 have q0 : w0.heap[H]? = some (.cells #[.int .i64 op, .int .i64 a, .int .i64 b, lv] 43 (0, 0)) := by rw [← hw0]; exact aj _ _ _ hH
 have p0 : w0.cell? ⟨H, 0, none⟩ = some (.int .i64 op) := aa q0 rfl
 have p1 : w0.cell? ⟨H, 1, none⟩ = some (.int .i64 a) := aa q0 rfl
 have h0 := h.below b0
 have h1 := h0.below (below_drewN (Below.refl _ w0) 1)
 obtain ⟨gc, s1⟩ := h1.se
 have HT : Bx (∀ P' w', aY (w0.drewN 1) wb (g.h A) L gb g.mb P' w' -> aK w wb g A L gb P' K D w') := ⟨fun P' w' q => aK.trans (Fx.of (below_drewN b0 1)) (.inl rfl) (aK.Az h1 q)⟩
 have HR : Bx (aK w wb g A L gb P K D w0) := ⟨aK.refl h b0⟩
 by_cases h5 : op = 5
 ·subst h5
  obtain ⟨ha0, ha1⟩ := ha (.inl rfl)
  obtain ⟨n, rfl⟩ : ∃ n : Nat, a = n := ⟨a.toNat, by omega⟩
  have e : past L P s 5 (n : Int) = dM L P s n (2 ^ (n % 64)) := rfl
  rw [e]
  have HC : Bx _ := ⟨vR (w0.drewN 1) wb (g.h A) L gb gc g.mb P s1 hL hP s n (by omega) hs⟩
  clear e h h0 h1 s1 b0 q0 HR hs ha
  generalize dM L P s n (2 ^ (n % 64)) = R at *
  go_enter Tryd.func69, Tryd.ntmps69
  go_wp2
  go_region_with (first
   | (go_at_call 82; refine HC.out.mono ?_; rintro e w1 ⟨rfl, hw⟩; replace hw : Bx _ := ⟨HT.out _ _ hw.out⟩))
  all_goals
   go_wp2
   go_ret
   exact ⟨rfl, hw⟩
 ·by_cases h6 : op = 6
  ·subst h6
   obtain ⟨ha0, ha1⟩ := ha (.inr rfl)
   obtain ⟨n, rfl⟩ : ∃ n : Nat, a = n := ⟨a.toNat, by omega⟩
   have e : past L P s 6 (n : Int) = dM L P s n 0 := rfl
   rw [e]
   have HC : Bx _ := ⟨oD (w0.drewN 1) wb (g.h A) L gb gc g.mb P s1 hL hP s n (by omega) hs⟩
   clear e h h0 h1 s1 b0 q0 HR hs ha h5
   generalize dM L P s n 0 = R at *
   go_enter Tryd.func69, Tryd.ntmps69
   go_wp2
   go_region_with (first
    | (go_at_call 83; refine HC.out.mono ?_; rintro e w1 ⟨rfl, hw⟩; replace hw : Bx _ := ⟨HT.out _ _ hw.out⟩))
   all_goals
    go_wp2
    go_ret
    exact ⟨rfl, hw⟩
  ·have e : past L P s op a = (P, s) := by unfold past; rw [if_neg h5, if_neg h6]
   rw [e]
   have b5 : (op == 5) = false := by simp [h5]
   have b6 : (op == 6) = false := by simp [h6]
   clear e h h0 h1 s1 b0 q0 hs HT ha h5 h6
   go_enter Tryd.func69, Tryd.ntmps69
   go_wp2
   go_ret
   exact ⟨rfl, HR⟩
end Go.Proofs.YtadmpgegolmkgaaDoor
