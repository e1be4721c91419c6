import Derived.Test.YtadmpgegolmkgaaDoorCWdN
namespace Go.Proofs.YtadmpgegolmkgaaDoor
open Go.RowKit Go.MapKept Go.ChangeMaps Go.WideShapes
set_option linter.unusedVariables false
set_option linter.unusedSimpArgs false

theorem step_appI {P : Program} {ops : Array Oper} {o : Oper} {a : Act} {w w' : World} {K : Act → World → Prop} {Q : Exit → Act → World → Prop} {E : Prop}
    (hg : o.guard = none) (s x : Operand) (t : TypeId) (hop : o.op = Op.call { callee := Callee.builtin Builtin.append, args := #[s, x], argTypes := #[t, t] })
    {v u r : Value} (hs : a.eval s = v) (hx : a.eval x = u) (hr : ∀ ty, (Builtin.append_ #[t, t] ty #[v, u]).run P w = .ok r w') (hK : K (a.put o.dst r) w') :
    if Region.wanted o (yielded ops a.tmps) = true then Oper.wp P o a w K Q else E := by
  have hw : Region.wanted o (yielded ops a.tmps) = true := by simp [Region.wanted, hg]
  rw [if_pos hw]
  unfold Oper.wp
  simp [execOp, hop, resolve, invoke, builtin, hs, hx, hr, Result.andThen]
  exact hK
theorem step_call {P : Program} {ops : Array Oper} {o : Oper} {a : Act} {w : World} {K : Act → World → Prop} {Q : Exit → Act → World → Prop} {E : Prop} (hg : o.guard = none) (f : FuncId) (xs : Array Operand) (ts : Array TypeId) (hop : o.op = Op.call { callee := Callee.value (.func f), args := xs, argTypes := ts }) (args : Array Value) (hr : (execOp a.eval o).run P w = .ok (.enter f args) w) {Post : Ending → World → Prop} (hc : Calls P f args w Post) (hK : ∀ e w', Post e w' → ∃ r, e = .returned r ∧ K (a.put o.dst r) w') :
    if Region.wanted o (yielded ops a.tmps) = true then Oper.wp P o a w K Q else E := by
  have hw : Region.wanted o (yielded ops a.tmps) = true := by simp [Region.wanted, hg]
  rw [if_pos hw]
  unfold Oper.wp
  rw [hr, Oper.upon_enter]
  refine Calls.mono hc ?_
  intro e w' h
  obtain ⟨r, rfl, hk⟩ := hK e w' h
  exact hk
/-! ### the sets of a walker, in memory -/
structure WH where
  a0 : Value
  a1 : Value
  a2 : Value
  a3 : Value
  a4 : Value
  a5 : Value
  a6 : Value
def wkA (h : WH) (lv : Int) (pv mv : Value) : Obj := .cells #[h.a0, h.a1, h.a2, h.a3, h.a4, h.a5, h.a6, .int .i64 lv, pv, mv] 75 (0, 0)
def prC (P : Prs) : List Value := P.flatMap fun p => [.int .u64 (p.1 : Int), .int .u64 (p.2 : Int)]
theorem prC_len (P : Prs) : (prC P).length = P.length * 2 := by
  induction P with
  | nil => rfl
  | cons p r ih => simp only [prC, List.flatMap_cons, List.length_append] at ih ⊢; rw [ih]; simp; omega
theorem prC_snoc (P : Prs) (p : Nat × Nat) : prC (P ++ [p]) = prC P ++ [.int .u64 (p.1 : Int), .int .u64 (p.2 : Int)] := by simp [prC]
theorem prC_at : ∀ (P : Prs) (i : Nat) (p : Nat × Nat), P[i]? = some p → (prC P)[i * 2]? = some (.int .u64 (p.1 : Int)) ∧ (prC P)[i * 2 + 1]? = some (.int .u64 (p.2 : Int))
  | q :: r, 0, p, h => by simp at h; subst h; exact ⟨rfl, rfl⟩
  | q :: r, i + 1, p, h => by
    have ih := prC_at r i p (by simpa using h)
    have e : ∀ j, (prC (q :: r))[j + 2]? = (prC r)[j]? := fun j => rfl
    rw [show (i + 1) * 2 = i * 2 + 2 by omega, show i * 2 + 2 + 1 = i * 2 + 1 + 2 by omega, e, e]
    exact ih
/-- what the map tells -/
def lkP (P : Prs) (p : Nat × Nat) : Option Nat := if p ∈ P ∧ p ≠ pz then some (P.idxOf p) else none
structure SeM (w : World) (wb : Nat) (h : WH) (L gb gc mb : Nat) (P : Prs) : Prop where
  wk : w.heap[wb]? = some (wkA h L (.slice (some ⟨gb, 0, none⟩) P.length gc) (.map (some mb)))
  row : w.ownsRow 0 120 2 (.slice (some ⟨gb, 0, none⟩) P.length gc) P.length (prC P)
  mp : MpP w mb P.length (lkP P)
  ok : PrOk P
  p64 : ∀ p ∈ P, Pr64 p
  lim : P.length ≤ 1099511627776
def sOwn (wb gb mb : Nat) : Nat → Prop := fun k => k = wb ∨ k = gb ∨ k = mb
theorem SeM.lt {w : World} {wb : Nat} {h : WH} {L gb gc mb : Nat} {P : Prs} (s : SeM w wb h L gb gc mb P) : wb < w.heap.size ∧ gb < w.heap.size ∧ mb < w.heap.size := by
  obtain ⟨es, clock, hm⟩ := s.mp.obj
  exact ⟨heap_lt s.wk, (owns_block s.row (g := gb) rfl).2, heap_lt hm⟩
theorem SeM.ne {w : World} {wb : Nat} {h : WH} {L gb gc mb : Nat} {P : Prs} (s : SeM w wb h L gb gc mb P) : wb ≠ gb ∧ wb ≠ mb ∧ gb ≠ mb := by
  obtain ⟨es, clock, hm⟩ := s.mp.obj
  obtain ⟨c, f, hg⟩ := owns_kind s.row gb rfl
  have hw := s.wk
  refine ⟨fun e => ?_, fun e => ?_, fun e => ?_⟩
  · subst e; rw [hw] at hg; injection hg with hg; injection hg with _ q; exact absurd q (by decide)
  · subst e; rw [hw] at hm; injection hm with hm; cases hm
  · subst e; rw [hg] at hm; injection hm with hm; cases hm
theorem SeM.fx {w w' : World} {wb : Nat} {h : WH} {L gb gc mb : Nat} {P : Prs} (s : SeM w wb h L gb gc mb P) {Q : Nat → Prop} (hb : Fx Q w w') (h1 : ¬ Q wb) (h2 : ¬ Q gb) (h3 : ¬ Q mb) : SeM w' wb h L gb gc mb P := by
  obtain ⟨l1, l2, l3⟩ := s.lt
  refine ⟨(hb.block wb l1 h1).trans s.wk, own_same s.row fun g o hg ho => ?_, s.mp.same (hb.block mb l3 h3), s.ok, s.p64, s.lim⟩
  simp only [Value.ownBlock, Option.some.injEq] at hg
  subst hg
  exact (hb.block gb l2 h2).trans ho
theorem infoPr : (Tryd.prog.info? 120).map (fun i => (i.zero, i.size, i.bytes)) = some (some (.agg #[.int .u64 0, .int .u64 0]), 2, 16) := by kernel_rfl
theorem below_drewN {B : Nat} {a w : World} (h : Below B a w) (n : Nat) : Below B a (w.drewN n) := ⟨h.os, h.tape, h.output, h.size, h.block⟩
theorem pair_eq (p : Nat × Nat) (W : World) : (binOp .eql 120 (prV p) (.agg #[.int .u64 0, .int .u64 0])).run Tryd.prog W = .ok (.bool (decide (p = pz))) W := by
  obtain ⟨a, b⟩ := p
  unfold prV pz
  simp only
  by_cases ha : a = 0
  · subst ha
    by_cases hb : b = 0
    · subst hb
      go_simp
    · have h1 : ((b : Int) == 0) = false := by simp; omega
      have h2 : decide (((0 : Nat), b) = (0, 0)) = false := decide_eq_false fun e => hb (by cases e; rfl)
      rw [h2]
      go_simp
  · have h1 : ((a : Int) == 0) = false := by simp; omega
    have h2 : decide ((a, b) = ((0 : Nat), (0 : Nat))) = false := decide_eq_false fun e => ha (by cases e; rfl)
    rw [h2]
    go_simp
theorem lkP_snoc {P : Prs} {p : Nat × Nat} (hz : p ≠ pz) (hm : p ∉ P) : (fun q => if q = p then some P.length else lkP P q) = lkP (P ++ [p]) := by
  funext q
  unfold lkP
  by_cases e : q = p
  · subst e
    rw [if_pos rfl, if_pos ⟨List.mem_append.2 (.inr (by simp)), hz⟩, List.idxOf_append, if_neg hm]
    simp
  · rw [if_neg e]
    by_cases h : q ∈ P ∧ q ≠ pz
    · rw [if_pos h, if_pos ⟨List.mem_append.2 (.inl h.1), h.2⟩, List.idxOf_append, if_pos h.1]
    · rw [if_neg h, if_neg fun k => h ⟨by
        rcases List.mem_append.1 k.1 with k1 | k1
        · exact k1
        · exact absurd (List.mem_singleton.1 k1) e, k.2⟩]
theorem grown_fx {Q : Nat → Prop} {a b : World} {r : Nat} (h : a.grownBy b (some r)) (hq : Q r) : Fx Q a b := ⟨h.os, h.tape, h.output, h.size, fun k hk hn => h.block k hk fun e => hn (by cases e; exact hq)⟩
/-- the worlds of a pair more -/
theorem num_world {w V W3 : World} {wb : Nat} {h : WH} {L gb gc mb g c : Nat} {P : Prs} {p : Nat × Nat} {E : Nat} (hz : p ≠ pz) (hm : p ∉ P) (hp : Pr64 p) (hl : P.length < 1099511627776) (sV : SeM V wb h L gb gc mb P) (hVs : V.heap.size = w.heap.size + 1) (bV : Below w.heap.size w V) (hE : E = w.heap.size) (hEw : wb < E ∧ gb < E ∧ mb < E)
    (heV : V.heap[E]? = some (.cells #[.int .u64 (p.1 : Int), .int .u64 (p.2 : Int)] 120 (0, 0)))
    (o : W3.ownsRow 0 120 2 (.slice (some ⟨g, 0, none⟩) (P.length + 1) c) (P.length + 1) (prC P ++ [.int .u64 (p.1 : Int), .int .u64 (p.2 : Int)])) (gr : V.grownBy W3 (some gb)) (hgg : gb = g ∨ V.heap.size ≤ g) (W4 : World) (hW4 : W3.setCell ⟨wb, 8, none⟩ (.slice (some ⟨g, 0, none⟩) (P.length + 1) c) = W4) :
    ∃ W5, (Instr.mapUpdate 71 (.map (some mb)) (prV p) (.int .u64 (P.length : Int))).run Tryd.prog W4.drew = .ok () W5 ∧ W3.cell? ⟨wb, 9, none⟩ = some (.map (some mb)) ∧ W3.cell? ⟨E, 0, none⟩ = some (.int .u64 (p.1 : Int)) ∧ W3.cell? ⟨E, 1, none⟩ = some (.int .u64 (p.2 : Int)) ∧ SeM W5 wb h L g c mb (P ++ [p]) ∧ Fx (sOwn wb gb mb) w W5 ∧ (g = gb ∨ w.heap.size ≤ g) := by
  obtain ⟨n1, n2, n3⟩ := sV.ne
  obtain ⟨l1, l2, l3⟩ := hEw
  have hgw : wb ≠ g := by rcases hgg with e | e <;> omega
  have hgm : mb ≠ g := by rcases hgg with e | e <;> omega
  have hgE : E ≠ gb := by omega
  have hk3 : ∀ k, k < V.heap.size → k ≠ gb → W3.heap[k]? = V.heap[k]? := fun k hk hn => gr.block k hk fun e => hn (by cases e; rfl)
  have hk4 : ∀ k, k ≠ wb → W4.heap[k]? = W3.heap[k]? := fun k hk => by rw [← hW4]; exact Below.heap_setCell W3 ⟨wb, 8, none⟩ _ k hk
  have hw3 : W3.heap[wb]? = some (wkA h L (.slice (some ⟨gb, 0, none⟩) P.length gc) (.map (some mb))) := (hk3 wb (by omega) n1).trans sV.wk
  have hw4 : W4.heap[wb]? = some (wkA h L (.slice (some ⟨g, 0, none⟩) (P.length + 1) c) (.map (some mb))) := by
    rw [← hW4]
    unfold wkA at hw3 ⊢
    have := Lib.heap_setCell_same (i := 8) hw3 (.slice (some ⟨g, 0, none⟩) (P.length + 1) c)
    simpa using this
  have he3 : W3.heap[E]? = some (.cells #[.int .u64 (p.1 : Int), .int .u64 (p.2 : Int)] 120 (0, 0)) := (hk3 E (by omega) hgE).trans heV
  have he4 : W4.heap[E]? = some (.cells #[.int .u64 (p.1 : Int), .int .u64 (p.2 : Int)] 120 (0, 0)) := (hk4 E (by omega)).trans ((hk3 E (by omega) hgE).trans heV)
  have hm4 : MpP W4.drew mb P.length (lkP P) := sV.mp.same ((hk4 mb (fun e => n2 e.symm)).trans (hk3 mb (by omega) (fun e => n3 e.symm)))
  obtain ⟨W5, hr, hN, hg5⟩ := hm4.put p hp (by unfold maxLen; omega) P.length
  rw [lkP_snoc hz hm] at hN
  have h54 : ∀ k, k < W4.heap.size → k ≠ mb → W5.heap[k]? = W4.heap[k]? := fun k hk hn => hg5.block k hk fun e => hn (by cases e; rfl)
  have s43 : W4.heap.size = W3.heap.size := by rw [← hW4]; simp
  have s3V := gr.size
  have hg3 := (owns_block o (g := g) rfl).2
  have hw3' := hw3
  unfold wkA at hw4 hw3'
  refine ⟨W5, hr, cell_blk hw3' rfl, cell_blk he3 rfl, cell_blk he3 rfl, ⟨?_, ?_, ?_, ?_, fun q hq => ?_, by simp; omega⟩, ?_, ?_⟩
  · rw [h54 wb (by omega) n2, hw4]
    simp [wkA]
  · rw [prC_snoc, List.length_append]
    have o4 : W4.ownsRow 0 120 2 (.slice (some ⟨g, 0, none⟩) (P.length + 1) c) (P.length + 1) (prC P ++ [.int .u64 (p.1 : Int), .int .u64 (p.2 : Int)]) := own_same o fun y ob hy ho => by
      simp only [Value.ownBlock, Option.some.injEq] at hy
      subst hy
      exact (hk4 g (fun e => hgw e.symm)).trans ho
    exact own_same o4 fun y ob hy ho => by
      simp only [Value.ownBlock, Option.some.injEq] at hy
      subst hy
      exact (h54 g (by omega) (fun e => hgm e.symm)).trans ho
  · rw [List.length_append]; exact hN
  · have := (numP_spec sV.ok p).2.1
    unfold numP at this
    rw [if_neg hm] at this
    exact this
  · rcases List.mem_append.1 hq with hq | hq
    · exact sV.p64 q hq
    · rw [List.mem_singleton.1 hq]; exact hp
  · have x1 : Fx (sOwn wb gb mb) w V := Fx.of bV
    have x2 : Fx (sOwn wb gb mb) V W3 := grown_fx gr (.inr (.inl rfl))
    have x3 : Fx (sOwn wb gb mb) W3 W4 := by rw [← hW4]; exact Fx.set (p := ⟨wb, 8, none⟩) (Fx.refl _ W3) (.inl (.inl rfl)) _
    exact x1.trans (x2.trans (x3.trans ((Fx.refl _ W4).drew.trans (grown_fx hg5 (.inr (.inr rfl))))))
  · rcases hgg with e | e
    · exact .inl e.symm
    · exact .inr (by omega)
set_option maxRecDepth 100000 in
set_option maxHeartbeats 2000000 in
theorem number_new (w : World) (wb : Nat) (h : WH) (L gb gc mb : Nat) (P : Prs) (s : SeM w wb h L gb gc mb P) (hl : P.length < 1099511627776) (p : Nat × Nat) (hp : Pr64 p) (hz : p ≠ pz) (hm : p ∉ P) :
    Calls Tryd.prog 62 #[.pointer (some ⟨wb, 7, none⟩), prV p] w fun e w' => e = .returned (.int .u64 (P.length : Int)) ∧ Bx (∃ gb' gc', SeM w' wb h L gb' gc' mb (P ++ [p]) ∧ Fx (sOwn wb gb mb) w w' ∧ (gb' = gb ∨ w.heap.size ≤ gb')) := by
  obtain ⟨W1, hW1⟩ : ∃ W1, w.alloc (.cells #[.int .u64 (p.1 : Int), .int .u64 (p.2 : Int)] 120) = W1 := ⟨_, rfl⟩
  have hs1 : W1.heap.size = w.heap.size + 1 := by rw [← hW1]; simp
  have b1 : Below w.heap.size w W1 := by rw [← hW1]; exact below1 _ _
  have he : W1.heap[w.heap.size]? = some (.cells #[.int .u64 (p.1 : Int), .int .u64 (p.2 : Int)] 120 (0, 0)) := by rw [← hW1]; exact heap_newH _ _ _ rfl
  have s1 := s.fx (Fx.of (P := fun _ => False) b1) id id id
  have hwk := s1.wk
  unfold wkA at hwk
  have c8 : W1.cell? ⟨wb, 8, none⟩ = some (.slice (some ⟨gb, 0, none⟩) P.length gc) := cell_blk hwk rfl
  have c9 : W1.cell? ⟨wb, 9, none⟩ = some (.map (some mb)) := cell_blk hwk rfl
  have f8 : W1.frozen? ⟨wb, 8, none⟩ = false := frz_blk hwk
  have e0 : W1.cell? ⟨w.heap.size, 0, none⟩ = some (.int .u64 (p.1 : Int)) := cell_blk he rfl
  have e1 : W1.cell? ⟨w.heap.size, 1, none⟩ = some (.int .u64 (p.2 : Int)) := cell_blk he rfl
  have hlk : ∀ k, (Instr.lookup 71 (.map (some mb)) (prV p) true).run Tryd.prog (W1.drewN k) = .ok (.tuple #[.int .u64 0, .bool false]) (W1.drewN k) := fun k => by
    have := (s1.mp.same (W' := W1.drewN k) rfl).look p hp
    have e : lkP P p = none := if_neg fun q => hm q.1
    rw [e] at this
    exact this
  have hpe := pair_eq p
  rw [decide_eq_false hz] at hpe
  have hcv : IntKind.u64.wrap (P.length : Int) = (P.length : Int) := by rw [IntKind.wrap_u64]; omega
  unfold prV at hlk hpe ⊢
  clear hwk
  go_enter Tryd.func62, Tryd.ntmps62
  go_wp2
  go_quiet (fail)
  go_wp2
  obtain ⟨V, hV⟩ : ∃ V, W1.drewN nq = V := ⟨_, rfl⟩
  have sV : SeM V wb h L gb gc mb P := by rw [← hV]; exact s1.fx (P := P) (Q := fun _ => False) ((Fx.refl _ _).drewN _) id id id
  have hVs : V.heap.size = w.heap.size + 1 := by rw [← hV]; exact hs1
  have bV : Below w.heap.size w V := by rw [← hV]; exact below_drewN b1 nq
  have heV : V.heap[w.heap.size]? = some (.cells #[.int .u64 (p.1 : Int), .int .u64 (p.2 : Int)] 120 (0, 0)) := by rw [← hV]; exact he
  obtain ⟨i0, hi0, iz0, iz1, iz2⟩ := info_parts infoPr
  obtain ⟨g, c, W3, r, o, gr, hc, hgg⟩ := app1 Tryd.underlying70 hi0 iz0 iz1 iz2 rfl (by decide) V.drew 0 (.slice (some ⟨gb, 0, none⟩) P.length gc) P.length (prC P) (own_same sV.row fun _ _ _ h => h) #[.int .u64 (p.1 : Int), .int .u64 (p.2 : Int)] rfl (by simp [Value.oneCell']) (by unfold maxLen; omega) (by omega) (Nat.zero_le _)
  have hwV := sV.wk
  unfold wkA at hwV
  have x8 : V.cell? ⟨wb, 8, none⟩ = some (.slice (some ⟨gb, 0, none⟩) P.length gc) := cell_blk hwV rfl
  have y0 : V.cell? ⟨w.heap.size, 0, none⟩ = some (.int .u64 (p.1 : Int)) := cell_blk heV rfl
  have y1 : V.cell? ⟨w.heap.size, 1, none⟩ = some (.int .u64 (p.2 : Int)) := cell_blk heV rfl
  have hw3 := grown_at gr (show V.drew.heap[wb]? = _ from hwV) (fun e => by simp only [Value.ownBlock, Option.some.injEq] at e; exact sV.ne.1 e.symm)
  have z8 : W3.cell? ⟨wb, 8, none⟩ = some (.slice (some ⟨gb, 0, none⟩) P.length gc) := cell_blk hw3 rfl
  have zf : W3.frozen? ⟨wb, 8, none⟩ = false := frz_blk hw3
  rw [hV]
  have a8 : (V.alloc (.cells #[.int .u64 (p.1 : Int), .int .u64 (p.2 : Int)] 120)).cell? ⟨wb, 8, none⟩ = some (.slice (some ⟨gb, 0, none⟩) P.length gc) := ((below1 V _).cell (p := ⟨wb, 8, none⟩) sV.lt.1).trans x8
  have a0 : (V.alloc (.cells #[.int .u64 (p.1 : Int), .int .u64 (p.2 : Int)] 120)).cell? ⟨w.heap.size, 0, none⟩ = some (.int .u64 (p.1 : Int)) := ((below1 V _).cell (p := ⟨w.heap.size, 0, none⟩) (heap_lt heV)).trans y0
  have a1 : (V.alloc (.cells #[.int .u64 (p.1 : Int), .int .u64 (p.2 : Int)] 120)).cell? ⟨w.heap.size, 1, none⟩ = some (.int .u64 (p.2 : Int)) := ((below1 V _).cell (p := ⟨w.heap.size, 1, none⟩) (heap_lt heV)).trans y1
  obtain ⟨W4, hW4⟩ : ∃ W4, W3.setCell ⟨wb, 8, none⟩ (.slice (some ⟨g, 0, none⟩) (P.length + 1) c) = W4 := ⟨_, rfl⟩
  obtain ⟨W5, hr5, k9, k0, k1, hS5⟩ := num_world hz hm hp hl sV hVs bV rfl s.lt heV o ⟨gr.os, gr.tape, gr.output, gr.size, gr.block⟩ (by simpa [Value.ownBlock] using hgg) W4 hW4
  have HS5 : Bx _ := ⟨hS5⟩
  unfold prV at hr5
  subst hW4
  clear hS5 o gr hgg hw3 hwV sV s1 heV bV he
  clear c8 c9 f8 e0 e1 hlk hpe
  go_region_law (first
    | (refine step_appI rfl (.tmp 31) (.tmp 33) 70 rfl (by simp [Act.eval, Act.put]) (by simp [Act.eval, Act.put]) r ?_))
  all_goals
    clear a8 a0 a1 x8 y0 y1 z8 zf
    go_wp2
    go_region
    go_wp2
    go_returns
    exact ⟨rfl, ⟨g, c, HS5.out⟩⟩
end Go.Proofs.YtadmpgegolmkgaaDoor
namespace Go.Proofs.YtadmpgegolmkgaaDoor
open Go.RowKit Go.MapKept Go.ChangeMaps Go.WideShapes
set_option linter.unusedVariables false
set_option linter.unusedSimpArgs false

theorem idx_pz {P : Prs} (h : PrOk P) : pz ∈ P ∧ P.idxOf pz = 0 := by
  have hz := h.z
  cases P with
  | nil => cases hz
  | cons q r =>
    simp at hz
    subst hz
    exact ⟨List.mem_cons_self, by simp⟩
/-- what a call of the sets leaves behind -/
def SePost (w : World) (wb : Nat) (h : WH) (L gb mb : Nat) (P' : Prs) (w' : World) : Prop := ∃ gb' gc', SeM w' wb h L gb' gc' mb P' ∧ Fx (sOwn wb gb mb) w w' ∧ (gb' = gb ∨ w.heap.size ≤ gb')
theorem SePost.refl {w w' : World} {wb : Nat} {h : WH} {L gb gc mb : Nat} {P : Prs} (s : SeM w wb h L gb gc mb P) (hb : Below w.heap.size w w') : SePost w wb h L gb mb P w' := ⟨gb, gc, s.fx (Q := fun _ => False) (Fx.of hb) id id id, Fx.of hb, .inl rfl⟩
theorem SePost.trans {w w1 w2 : World} {wb : Nat} {h : WH} {L gb gb1 mb : Nat} {P2 : Prs} (hx : Fx (sOwn wb gb mb) w w1) (hg : gb1 = gb ∨ w.heap.size ≤ gb1) (s2 : SePost w1 wb h L gb1 mb P2 w2) : SePost w wb h L gb mb P2 w2 := by
  obtain ⟨gb', gc', s, x, hg'⟩ := s2
  refine ⟨gb', gc', s, ⟨x.os.trans hx.os, x.tape.trans hx.tape, x.output.trans hx.output, Nat.le_trans hx.size x.size, fun k hk hn => ?_⟩, ?_⟩
  · refine (x.block k (Nat.lt_of_lt_of_le hk hx.size) fun q => hn ?_).trans (hx.block k hk hn)
    rcases q with q | q | q
    · exact .inl q
    · rcases hg with e | e
      · exact .inr (.inl (q.trans e))
      · omega
    · exact .inr (.inr q)
  · have := hx.size
    rcases hg' with e | e
    · rcases hg with e2 | e2
      · exact .inl (e.trans e2)
      · exact .inr (by omega)
    · exact .inr (by omega)
set_option maxRecDepth 100000 in
set_option maxHeartbeats 2000000 in
theorem number_any (w : World) (wb : Nat) (h : WH) (L gb gc mb : Nat) (P : Prs) (s : SeM w wb h L gb gc mb P) (hl : P.length < 1099511627776) (p : Nat × Nat) (hp : Pr64 p) :
    Calls Tryd.prog 62 #[.pointer (some ⟨wb, 7, none⟩), .agg #[.int .u64 (p.1 : Int), .int .u64 (p.2 : Int)]] w fun e w' => e = .returned (.int .u64 ((numP P p).2 : Int)) ∧ Bx (SePost w wb h L gb mb (numP P p).1 w') := by
  by_cases hm : p ∈ P
  · have en : numP P p = (P, P.idxOf p) := if_pos hm
    rw [en]
    simp only
    obtain ⟨W1, hW1⟩ : ∃ W1, w.alloc (.cells #[.int .u64 (p.1 : Int), .int .u64 (p.2 : Int)] 120) = W1 := ⟨_, rfl⟩
    have b1 : Below w.heap.size w W1 := by rw [← hW1]; exact below1 _ _
    have he : W1.heap[w.heap.size]? = some (.cells #[.int .u64 (p.1 : Int), .int .u64 (p.2 : Int)] 120 (0, 0)) := by rw [← hW1]; exact heap_newH _ _ _ rfl
    have e0 : W1.cell? ⟨w.heap.size, 0, none⟩ = some (.int .u64 (p.1 : Int)) := cell_blk he rfl
    have e1 : W1.cell? ⟨w.heap.size, 1, none⟩ = some (.int .u64 (p.2 : Int)) := cell_blk he rfl
    have HF : Bx (∀ k, SePost w wb h L gb mb P (W1.drewN k)) := ⟨fun k => SePost.refl s (below_drewN b1 k)⟩
    have hpe := pair_eq p
    by_cases hz : p = pz
    · rw [decide_eq_true hz] at hpe
      unfold prV at hpe
      have hi : P.idxOf p = 0 := by rw [hz]; exact (idx_pz s.ok).2
      rw [hi]
      have HF0 : Bx (SePost w wb h L gb mb P W1) := ⟨SePost.refl s b1⟩
      clear s hi he b1 hz en
      go_enter Tryd.func62, Tryd.ntmps62
      go_wp2
      go_ret
      exact ⟨rfl, HF0⟩
    · rw [decide_eq_false hz] at hpe
      have s1 := s.fx (Fx.of (P := fun _ => False) b1) id id id
      have hwk := s1.wk
      unfold wkA at hwk
      have c9 : W1.cell? ⟨wb, 9, none⟩ = some (.map (some mb)) := cell_blk hwk rfl
      have hlk : ∀ k, (Instr.lookup 71 (.map (some mb)) (prV p) true).run Tryd.prog (W1.drewN k) = .ok (.tuple #[.int .u64 (P.idxOf p : Int), .bool true]) (W1.drewN k) := fun k => by
        have := (s1.mp.same (W' := W1.drewN k) rfl).look p hp
        have e : lkP P p = some (P.idxOf p) := if_pos ⟨hm, hz⟩
        rw [e] at this
        exact this
      unfold prV at hpe hlk
      clear hwk s1 s he b1 en
      generalize P.idxOf p = ix at *
      go_enter Tryd.func62, Tryd.ntmps62
      go_wp2
      go_quiet (fail)
      go_wp2
      go_ret
      exact ⟨rfl, ⟨HF.out _⟩⟩
  · have hz : p ≠ pz := fun e => hm (by rw [e]; exact (idx_pz s.ok).1)
    have en : numP P p = (P ++ [p], P.length) := if_neg hm
    rw [en]
    refine (number_new w wb h L gb gc mb P s hl p hp hz hm).mono ?_
    rintro e w' ⟨rfl, hb⟩
    obtain ⟨gb', gc', h1, h2, h3⟩ := hb.out
    exact ⟨rfl, ⟨gb', gc', h1, h2, h3⟩⟩
theorem numP_lim {P : Prs} {p : Nat × Nat} : (numP P p).1.length ≤ P.length + 1 := by
  unfold numP
  split
  · exact Nat.le_succ _
  · simp
theorem vs_64 {P : Prs} (hP : P.length ≤ 1099511627776) : ∀ {l s : Nat}, vsP l P s → s < 18446744073709551616
  | 0, s, h => h
  | l + 1, s, ⟨⟨p, hp⟩, _⟩ => by
    have := (List.getElem?_eq_some_iff.1 hp).1
    omega
/-- a half is written, and the pair's number asked for -/
theorem half_put {w w2 : World} {wb : Nat} {h : WH} {L gb gb2 gc2 mb E : Nat} {P2 : Prs} {a b : Value} (hE : E = w.heap.size) (hw : wb < E ∧ gb < E ∧ mb < E) (W1 : World) (hW1 : w.alloc (.cells #[a, b] 120) = W1) (s2 : SeM w2 wb h L gb2 gc2 mb P2) (x : Fx (sOwn wb gb mb) W1 w2) (hg : gb2 = gb ∨ W1.heap.size ≤ gb2) :
    w2.heap[E]? = some (.cells #[a, b] 120 (0, 0)) ∧ ∀ (i : Nat) (v : Value), i < 2 → SeM (w2.setCell ⟨E, i, none⟩ v) wb h L gb2 gc2 mb P2 ∧ Fx (sOwn wb gb mb) w (w2.setCell ⟨E, i, none⟩ v) ∧ (gb2 = gb ∨ w.heap.size ≤ gb2) := by
  obtain ⟨h1, h2, h3⟩ := hw
  have he : W1.heap[E]? = some (.cells #[a, b] 120 (0, 0)) := by rw [← hW1, hE]; exact heap_newH _ _ _ rfl
  have hs1 : W1.heap.size = E + 1 := by rw [← hW1, hE]; simp
  have hEg : E ≠ gb2 := by rcases hg with e | e <;> omega
  have he2 : w2.heap[E]? = some (.cells #[a, b] 120 (0, 0)) := (x.block E (by omega) (fun q => by rcases q with q | q | q <;> omega)).trans he
  refine ⟨he2, fun i v hi => ⟨s2.fx (Q := fun k => k = E) (Fx.set (P := fun k => k = E) (p := ⟨E, i, none⟩) (Fx.refl _ w2) (.inl rfl) v) (by omega) (fun e => hEg e.symm) (by omega), ?_, ?_⟩⟩
  · have x1 : Fx (sOwn wb gb mb) w W1 := by rw [← hW1]; exact Fx.of (below1 w _)
    exact Fx.set (p := ⟨E, i, none⟩) (x1.trans x) (.inr (by show w.heap.size ≤ E; omega)) v
  · rcases hg with e | e
    · exact .inl e
    · exact .inr (by omega)
set_option maxRecDepth 100000 in
set_option maxHeartbeats 2000000 in
/-- a slot's bit becomes another one -/
theorem changed_any (slot to : Nat) (hs : slot ≤ 2147483648) (ht : to = 0 ∨ to = 2 ^ (slot % 64)) : ∀ (l : Nat) (hl : l < 60) (w : World) (wb : Nat) (h : WH) (L gb gc mb : Nat) (P : Prs) (s : SeM w wb h L gb gc mb P) (hP : P.length + l < 1099511627776) (x : Nat) (hx : vsP l P x),
    Calls Tryd.prog 89 #[.pointer (some ⟨wb, 7, none⟩), .int .u64 (x : Int), .int .i64 (l : Int), .int .i64 (slot : Int), .int .u64 (to : Int)] w fun e w' => e = .returned (.int .u64 ((chgP l P x slot to).2 : Int)) ∧ Bx (SePost w wb h L gb mb (chgP l P x slot to).1 w')
  | 0, hl, w, wb, h, L, gb, gc, mb, P, s, hP, x, hx => by
    have HB := fun W => bitOf_any slot hs W
    have hx64 : x < 18446744073709551616 := hx
    have hb : slot % 64 < 64 := Nat.mod_lt _ (by decide)
    have ht64 : to < 18446744073709551616 := by
      rcases ht with rfl | rfl
      · decide
      · exact Nat.pow_lt_pow_right (by decide) hb
    have o1 := bits_andNot_u64_nat x (2 ^ (slot % 64)) hx64 (Nat.pow_lt_pow_right (by decide) hb)
    have o2 := bits_or_u64_nat (x &&& (18446744073709551615 - 2 ^ (slot % 64))) to (Nat.lt_of_le_of_lt Nat.and_le_left hx64) ht64
    obtain ⟨q, hq⟩ : ∃ q, 2 ^ (slot % 64) = q := ⟨_, rfl⟩
    have HF : Bx (SePost w wb h L gb mb P w) := ⟨SePost.refl s (Below.refl _ _)⟩
    rw [chgP]
    rw [hq] at o1 o2 HB ⊢
    obtain ⟨y, hy⟩ : ∃ y, x &&& (18446744073709551615 - q) = y := ⟨_, rfl⟩
    rw [hy] at o1 o2 ⊢
    obtain ⟨z, hzz⟩ : ∃ z, y ||| to = z := ⟨_, rfl⟩
    rw [hzz] at o2 ⊢
    clear hy hzz hq s hx hx64 ht64 ht hb
    go_enter Tryd.func89, Tryd.ntmps89
    go_wp2_with (first
      | (go_at_call 81; refine (HB _).mono ?_; rintro e w1 ⟨rfl, rfl⟩))
    go_ret
    exact ⟨rfl, HF⟩
  | l + 1, hl, w, wb, h, L, gb, gc, mb, P, s, hP, x, hx => by
    obtain ⟨⟨p, hpx⟩, h1, h2⟩ := hx
    have hat := atP_eq hpx
    rw [hat] at h1 h2
    have hxl := (List.getElem?_eq_some_iff.1 hpx).1
    have hp64 := s.p64 p (List.mem_of_getElem? hpx)
    obtain ⟨W1, hW1⟩ : ∃ W1, w.alloc (.cells #[.int .u64 (p.1 : Int), .int .u64 (p.2 : Int)] 120) = W1 := ⟨_, rfl⟩
    have b1 : Below w.heap.size w W1 := by rw [← hW1]; exact below1 _ _
    have he : W1.heap[w.heap.size]? = some (.cells #[.int .u64 (p.1 : Int), .int .u64 (p.2 : Int)] 120 (0, 0)) := by rw [← hW1]; exact heap_newH _ _ _ rfl
    have s1 := s.fx (Fx.of (P := fun _ => False) b1) id id id
    have hwk := s.wk
    unfold wkA at hwk
    have c8 : w.cell? ⟨wb, 8, none⟩ = some (.slice (some ⟨gb, 0, none⟩) P.length gc) := cell_blk hwk rfl
    obtain ⟨z0, z1⟩ := prC_at P x p hpx
    have d0 : w.cell? ⟨gb, x * 2, none⟩ = some (.int .u64 (p.1 : Int)) := owns_cellj s.row z0
    have d1 : w.cell? ⟨gb, x * 2 + 1, none⟩ = some (.int .u64 (p.2 : Int)) := owns_cellj s.row z1
    have e0 : W1.cell? ⟨w.heap.size, 0, none⟩ = some (.int .u64 (p.1 : Int)) := cell_blk he rfl
    have e1 : W1.cell? ⟨w.heap.size, 1, none⟩ = some (.int .u64 (p.2 : Int)) := cell_blk he rfl
    have hlv : ((l + 1 : Nat) : Int) = (l : Int) + 1 := by omega
    have hlm : (l : Int) + 1 - 1 = (l : Int) := by omega
    have hl0 : ((l : Int) + 1 == 0) = false := by simp; omega
    have HH := fun W => isHigh_any slot l hs (by omega) W
    have hxI : (x : Int) < (P.length : Int) := by omega
    have hcu : P.length ≤ gc := by
      rcases s.row.2 with ⟨q, _⟩ | ⟨g', cap, cur, q, _, _, q3, _⟩
      · cases q
      · simp only [Value.slice.injEq] at q
        obtain ⟨_, _, rfl⟩ := q
        exact q3
    have hlw := s.lt
    rw [chgP, hat, hlv]
    cases hb : (slot / 64).testBit l with
    | true =>
      rw [if_pos rfl]
      rw [hb] at HH
      have HC := changed_any slot to hs ht l (by omega) W1 wb h L gb gc mb P s1 (by omega) p.2 h2
      obtain ⟨g1, g2, g3, _, g5⟩ := chg_spec ht l s.ok h2
      generalize chgP l P p.2 slot to = R at *
      obtain ⟨P2, y⟩ := R
      simp only at HC g1 g2 g3 g5 ⊢
      have hy64 := vs_64 (by omega) g3
      have HNUM : Bx (∀ w2, SePost W1 wb h L gb mb P2 w2 → w2.cell? ⟨w.heap.size, 0, none⟩ = some (.int .u64 (p.1 : Int)) ∧ w2.cell? ⟨w.heap.size, 1, none⟩ = some (.int .u64 (p.2 : Int)) ∧ w2.frozen? ⟨w.heap.size, 1, none⟩ = false ∧ Calls Tryd.prog 62 #[.pointer (some ⟨wb, 7, none⟩), .agg #[.int .u64 (p.1 : Int), .int .u64 (y : Int)]] (w2.setCell ⟨w.heap.size, 1, none⟩ (.int .u64 (y : Int))) fun e w' => e = .returned (.int .u64 ((numP P2 (p.1, y)).2 : Int)) ∧ Bx (SePost w wb h L gb mb (numP P2 (p.1, y)).1 w')) := ⟨fun w2 hp2 => by
        obtain ⟨gb2, gc2, s2, x2, hg2⟩ := hp2
        obtain ⟨he2, hput⟩ := half_put rfl hlw W1 hW1 s2 x2 hg2
        obtain ⟨s3, x3, hg3⟩ := hput 1 (.int .u64 (y : Int)) (by omega)
        refine ⟨cell_blk he2 rfl, cell_blk he2 rfl, frz_blk he2, (number_any _ wb h L gb2 gc2 mb P2 s3 (by omega) (p.1, y) ⟨hp64.1, hy64⟩).mono ?_⟩
        rintro e w' ⟨rfl, hb⟩
        exact ⟨rfl, ⟨SePost.trans x3 hg3 hb.out⟩⟩⟩
      clear he s1 s hwk b1 hp64 hy64 g1 g2 g3 g5 h1 h2 hb hlw hpx hat z0 z1 hP
      go_enter Tryd.func89, Tryd.ntmps89
      go_wp2_with (first
        | (simp only [hlm])
        | (go_at_call 61; refine (HH _).mono ?_; rintro e w1 ⟨rfl, rfl⟩)
        | (go_at_call 89; refine HC.mono ?_; rintro e w2 ⟨rfl, hb2⟩; obtain ⟨y0, y1, yf, HN⟩ := HNUM.out w2 hb2.out; clear HNUM HC)
        | (go_at_call 62; refine HN.mono ?_; rintro e w3 ⟨rfl, hb3⟩))
      go_ret
      exact ⟨rfl, hb3⟩
    | false =>
      simp only [Bool.false_eq_true, if_false]
      rw [hb] at HH
      have HC := changed_any slot to hs ht l (by omega) W1 wb h L gb gc mb P s1 (by omega) p.1 h1
      obtain ⟨g1, g2, g3, _, g5⟩ := chg_spec ht l s.ok h1
      generalize chgP l P p.1 slot to = R at *
      obtain ⟨P2, y⟩ := R
      simp only at HC g1 g2 g3 g5 ⊢
      have hy64 := vs_64 (by omega) g3
      have HNUM : Bx (∀ w2, SePost W1 wb h L gb mb P2 w2 → w2.cell? ⟨w.heap.size, 0, none⟩ = some (.int .u64 (p.1 : Int)) ∧ w2.cell? ⟨w.heap.size, 1, none⟩ = some (.int .u64 (p.2 : Int)) ∧ w2.frozen? ⟨w.heap.size, 0, none⟩ = false ∧ Calls Tryd.prog 62 #[.pointer (some ⟨wb, 7, none⟩), .agg #[.int .u64 (y : Int), .int .u64 (p.2 : Int)]] (w2.setCell ⟨w.heap.size, 0, none⟩ (.int .u64 (y : Int))) fun e w' => e = .returned (.int .u64 ((numP P2 (y, p.2)).2 : Int)) ∧ Bx (SePost w wb h L gb mb (numP P2 (y, p.2)).1 w')) := ⟨fun w2 hp2 => by
        obtain ⟨gb2, gc2, s2, x2, hg2⟩ := hp2
        obtain ⟨he2, hput⟩ := half_put rfl hlw W1 hW1 s2 x2 hg2
        obtain ⟨s3, x3, hg3⟩ := hput 0 (.int .u64 (y : Int)) (by omega)
        refine ⟨cell_blk he2 rfl, cell_blk he2 rfl, frz_blk he2, (number_any _ wb h L gb2 gc2 mb P2 s3 (by omega) (y, p.2) ⟨hy64, hp64.2⟩).mono ?_⟩
        rintro e w' ⟨rfl, hb⟩
        exact ⟨rfl, ⟨SePost.trans x3 hg3 hb.out⟩⟩⟩
      clear he s1 s hwk b1 hp64 hy64 g1 g2 g3 g5 h1 h2 hb hlw hpx hat z0 z1 hP
      go_enter Tryd.func89, Tryd.ntmps89
      go_wp2_with (first
        | (simp only [hlm])
        | (go_at_call 61; refine (HH _).mono ?_; rintro e w1 ⟨rfl, rfl⟩)
        | (go_at_call 89; refine HC.mono ?_; rintro e w2 ⟨rfl, hb2⟩; obtain ⟨y0, y1, yf, HN⟩ := HNUM.out w2 hb2.out; clear HNUM HC)
        | (go_at_call 62; refine HN.mono ?_; rintro e w3 ⟨rfl, hb3⟩))
      go_ret
      exact ⟨rfl, hb3⟩
end Go.Proofs.YtadmpgegolmkgaaDoor
