import Derived.Test.YtecpknpcjoiliabDoorCUXm
import Derived.Test.YtecpknpcjoiliabDoorCUY
import Derived.Test.YtecpknpcjoiliabDoorCUKr
namespace Go.Proofs.YtecpknpcjoiliabDoor
open Go.RowKit Go.Shelf
set_option linter.unusedVariables false
set_option linter.unusedSimpArgs false

abbrev scB (m : Lm) (b : Bool) (pv : Value) : Obj := .cells #[.int .i64 m.a, .int .i64 m.b, .int .i64 m.c, .int .i64 m.d, .int .i64 m.e, .int .i64 m.f, .int .i64 m.g, .bool b, pv] 31 (0, 0)
abbrev st9 (W : World) (bk : Nat) (m : Lm) (b : Bool) (pv : Value) : World := set9 W bk (.int .i64 m.a) (.int .i64 m.b) (.int .i64 m.c) (.int .i64 m.d) (.int .i64 m.e) (.int .i64 m.f) (.int .i64 m.g) (.bool b) pv
theorem st9_blk {W : World} {bk : Nat} {m0 : Lm} {b0 : Bool} {v0 : Value} (h : W.heap[bk]? = some (scB m0 b0 v0)) (m : Lm) (b : Bool) (pv : Value) : (st9 W bk m b pv).heap[bk]? = some (scB m b pv) := by
  have g0 := Lib.heap_setCell_same (i := 0) h (.int .i64 m.a)
  have g1 := Lib.heap_setCell_same (i := 1) g0 (.int .i64 m.b)
  have g2 := Lib.heap_setCell_same (i := 2) g1 (.int .i64 m.c)
  have g3 := Lib.heap_setCell_same (i := 3) g2 (.int .i64 m.d)
  have g4 := Lib.heap_setCell_same (i := 4) g3 (.int .i64 m.e)
  have g5 := Lib.heap_setCell_same (i := 5) g4 (.int .i64 m.f)
  have g6 := Lib.heap_setCell_same (i := 6) g5 (.int .i64 m.g)
  have g7 := Lib.heap_setCell_same (i := 7) g6 (.bool b)
  have g8 := Lib.heap_setCell_same (i := 8) g7 pv
  simpa using g8
theorem st9_kx (W : World) (bk : Nat) (m : Lm) (b : Bool) (pv : Value) : Kx (fun z => z = bk) W (st9 W bk m b pv) := kx9 W bk _ _ _ _ _ _ _ _ _
/-- the reference's Parse under way -/
structure RpS (w W : World) (H : Nat) (s : Sc) (pv vl : Value) (L : List (List UInt8)) : Prop where
  bel : Below H w W
  re : W.heap[H]? = some (scB zrM false (.slice none 0 0))
  sc : W.heap[H + 1]? = some (scB s.lim s.reap pv)
  pk : PkO W (H + 2) pv s.picks
  ln : SRo W (H + 2) vl L
/-- behind a line -/
structure RpT (w W : World) (H : Nat) (s : Sc) (pv vl : Value) (L : List (List UInt8)) (R : Got Sc Int) (m : Lm) (b : Bool) (pv' : Value) : Prop where
  bel : Below H w W
  re : W.heap[H]? = some (scB zrM false (.slice none 0 0))
  sc : W.heap[H + 1]? = some (scB s.lim s.reap pv)
  ln : SRo W (H + 2) vl L
  pk : ∀ s', R = .yes s' → m = s'.lim ∧ b = s'.reap ∧ PkO W (H + 2) pv' s'.picks
section
variable {w W W' : World} {H : Nat} {s : Sc} {pv vl : Value} {L : List (List UInt8)} {R : Got Sc Int} {m : Lm} {b : Bool} {pv' : Value}
theorem RpS.sz (h : RpS w W H s pv vl L) : H + 2 ≤ W.heap.size := heap_lt h.sc
theorem RpT.sz (h : RpT w W H s pv vl L R m b pv') : H + 2 ≤ W.heap.size := heap_lt h.sc
theorem RpS.on (h : RpS w W H s pv vl L) (hb : Below W.heap.size W W') : RpS w W' H s pv vl L := by
  have hz := h.sz
  exact ⟨h.bel.trans (hb.mono (by omega)), below_heap hb h.re, below_heap hb h.sc, owns_same h.pk fun q _ hq => hb.block q hq, h.ln.below hb⟩
theorem RpT.on (h : RpT w W H s pv vl L R m b pv') (hb : Below W.heap.size W W') : RpT w W' H s pv vl L R m b pv' := by
  have hz := h.sz
  exact ⟨h.bel.trans (hb.mono (by omega)), below_heap hb h.re, below_heap hb h.sc, h.ln.below hb, fun s' e => ⟨(h.pk s' e).1, (h.pk s' e).2.1, owns_same (h.pk s' e).2.2 fun q _ hq => hb.block q hq⟩⟩
/-- what a line leaves -/
theorem RpS.line (h : RpS w W H s pv vl L) (hg : W.grownBy W' pv.ownBlock) (hp : ∀ s', R = .yes s' → m = s'.lim ∧ b = s'.reap ∧ PkO W' (H + 2) pv' s'.picks) : RpT w W' H s pv vl L R m b pv' := by
  have hz := h.sz
  have ho : ∀ g, pv.ownBlock = some g → H + 2 ≤ g := fun g hgg => (owns_block h.pk.own hgg).1
  have ne : ∀ k, k < H + 2 → some k ≠ pv.ownBlock := fun k hk e => by have := ho k e.symm; omega
  refine ⟨h.bel.trans ((Below.refl H W).grown hg (by omega) fun k hk => by have := ho k hk; omega), by rw [hg.block H (by omega) (ne H (by omega))]; exact h.re, by rw [hg.block (H + 1) (by omega) (ne (H + 1) (by omega))]; exact h.sc, ?_, hp⟩
  have hl : W.ownsRow (H + 2) 9 1 vl L.length (L.map strV) := h.ln
  show W'.ownsRow (H + 2) 9 1 vl L.length (L.map strV)
  refine ⟨hl.1, ?_⟩
  rcases hl.2 with q | ⟨g, cap, cur, q1, q2, q3, q4⟩
  · exact .inl q
  · refine .inr ⟨g, cap, cur, q1, q2, ?_, q4⟩
    rw [hg.block g (heap_lt q3) (fun e => by
      obtain ⟨c, fz, q5⟩ := owns_kind h.pk.own g e.symm
      rw [q3] at q5
      injection q5 with q5
      injection q5 with _ q5
      exact absurd q5 (by decide))]
    exact q3
theorem grown_keep (h : PkO W (H + 2) pv s.picks) (hg : W.grownBy W' pv.ownBlock) {g : Nat} {m0 : Lm} {b0 : Bool} {v0 : Value} (hb : W.heap[g]? = some (scB m0 b0 v0)) : W'.heap[g]? = some (scB m0 b0 v0) := by
  rw [hg.block g (heap_lt hb) (fun e => by
    obtain ⟨c, fz, q5⟩ := owns_kind h.own g e.symm
    rw [hb] at q5
    injection q5 with q5
    injection q5 with _ q5
    exact absurd q5 (by decide))]
  exact hb
theorem kx_own {e : TypeId} {B sz n g : Nat} {v : Value} {cs : List Value} (h : W.ownsRow B e sz v n cs) (hk : Kx (fun z => z = g) W W') {m0 : Lm} {b0 : Bool} {v0 : Value} (hb : W.heap[g]? = some (scB m0 b0 v0)) (hne : e ≠ 31) : W'.ownsRow B e sz v n cs := owns_kx h hk fun q hq e1 => by
  obtain ⟨c, fz, q5⟩ := owns_kind h q hq
  rw [e1, hb] at q5
  injection q5 with q5
  injection q5 with _ q5
  exact hne q5.symm
/-- the answer is laid by -/
theorem RpT.lay (h : RpT w W H s pv vl L R m b pv') {G : Nat} (hG : H + 2 ≤ G) (hb : W.heap[G]? = some (scB zrM false (.slice none 0 0))) : RpT w (st9 W G m b pv') H s pv vl L R m b pv' ∧ (st9 W G m b pv').heap[G]? = some (scB m b pv') := by
  have hk := st9_kx W G m b pv'
  have hz := h.sz
  refine ⟨⟨h.bel.trans (hk.below (by omega) (fun x hx => by omega)), hk.at_ h.re (by omega), hk.at_ h.sc (by omega), kx_own (show W.ownsRow (H + 2) 9 1 vl L.length (L.map strV) from h.ln) hk hb (by decide), fun s' e => ⟨(h.pk s' e).1, (h.pk s' e).2.1, kx_own (h.pk s' e).2.2.own hk hb (by decide)⟩⟩, st9_blk hb m b pv'⟩
/-- and is the script then -/
theorem RpT.next {s' : Sc} (h : RpT w W H s pv vl L (.yes s') m b pv') : RpS w (st9 W (H + 1) m b pv') H s' pv' vl L := by
  have hk := st9_kx W (H + 1) m b pv'
  have hz := h.sz
  obtain ⟨e1, e2, e3⟩ := h.pk s' rfl
  subst e1 e2
  exact ⟨h.bel.trans (hk.below (by omega) (fun x hx => by omega)), hk.at_ h.re (by omega), st9_blk h.sc _ _ _, kx_own e3.own hk h.sc (by decide), kx_own (show W.ownsRow (H + 2) 9 1 vl L.length (L.map strV) from h.ln) hk h.sc (by decide)⟩
end
theorem RpS.start {w W1 : World} {H : Nat} {vl : Value} {L : List (List UInt8)} (hH : w.heap.size = H) (hb : Below ((w.alloc (scB zrM false (.slice none 0 0))).alloc (scB zrM false (.slice none 0 0))).heap.size ((w.alloc (scB zrM false (.slice none 0 0))).alloc (scB zrM false (.slice none 0 0))) W1) (hl : SRo W1 (H + 2) vl L) : RpS w W1 H ⟨zrM, false, []⟩ (.slice none 0 0) vl L := by
  have hs : ((w.alloc (scB zrM false (.slice none 0 0))).alloc (scB zrM false (.slice none 0 0))).heap.size = H + 2 := by simp; omega
  have b0 : Below H w ((w.alloc (scB zrM false (.slice none 0 0))).alloc (scB zrM false (.slice none 0 0))) := by rw [← hH]; exact two_below w _ _
  have h0 : ((w.alloc (scB zrM false (.slice none 0 0))).alloc (scB zrM false (.slice none 0 0))).heap[H]? = some (scB zrM false (.slice none 0 0)) := by
    rw [Below.heap_alloc _ _ H (by simp; omega), ← hH]
    exact heap_alloc_new w _
  have h1 : ((w.alloc (scB zrM false (.slice none 0 0))).alloc (scB zrM false (.slice none 0 0))).heap[H + 1]? = some (scB zrM false (.slice none 0 0)) := by
    have := heap_alloc_new (w.alloc (scB zrM false (.slice none 0 0))) (scB zrM false (.slice none 0 0))
    simpa [hH] using this
  rw [hs] at hb
  exact ⟨b0.trans (hb.mono (by omega)), by rw [hb.block H (by omega)]; exact h0, by rw [hb.block (H + 1) (by omega)]; exact h1, ⟨rfl, .inl ⟨rfl, rfl⟩⟩, hl⟩
/-- a call in a region that draws, where it is wanted -/
theorem step_callG {P : Program} {ops : Array Oper} {o : Oper} {a : Act} {w : World} {K : Act → World → Prop} {Q : Exit → Act → World → Prop} {E : Prop} (hw : Region.wanted o (yielded ops a.tmps) = true) (f : FuncId) (args : Array Value) (hr : (execOp a.eval o).run P w = .ok (.enter f args) w) {Post : Ending → World → Prop} (hc : Calls P f args w Post) (hK : ∀ e w', Post e w' → ∃ r, e = .returned r ∧ K (a.put o.dst r) w') :
    if Region.wanted o (yielded ops a.tmps) = true then Oper.wp P o a w K Q else E := by
  rw [if_pos hw]
  unfold Oper.wp
  rw [hr, Oper.upon_enter]
  refine Calls.mono hc ?_
  intro e w' h
  obtain ⟨r, rfl, hk⟩ := hK e w' h
  exact hk
end Go.Proofs.YtecpknpcjoiliabDoor
