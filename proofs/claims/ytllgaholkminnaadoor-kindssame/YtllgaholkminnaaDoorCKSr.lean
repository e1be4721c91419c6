import Derived.Test.YtllgaholkminnaaDoorCKRow
namespace Go.Proofs.YtllgaholkminnaaDoor
open Go.RowKit
set_option linter.unusedVariables false
set_option linter.unusedSimpArgs false

/-- a row of bools that are false -/
structure BRow (W : World) (rb n : Nat) : Prop where
  ex : ∃ C : Array Value, W.heap[rb]? = some (.cells C 4 (0, 0)) ∧ C.size = n ∧ ∀ j, j < n → C[j]? = some (.bool false)
theorem BRow.cell {W : World} {fb n : Nat} (h : BRow W fb n) (j : Nat) (hj : j < n) : W.cell? ⟨fb, j, none⟩ = some (.bool false) := by
  obtain ⟨C, h1, h2, h3⟩ := h.ex
  rw [cell_of_row W fb j C 4 (0, 0) h1]
  exact h3 j hj
theorem BRow.frozen {W : World} {fb n : Nat} (h : BRow W fb n) (j : Nat) : W.frozen? ⟨fb, j, none⟩ = false := by
  obtain ⟨C, h1, _⟩ := h.ex
  simp [World.frozen?, h1]
theorem BRow.lt {W : World} {fb n : Nat} (h : BRow W fb n) : fb < W.heap.size := by
  obtain ⟨C, h1, _⟩ := h.ex
  exact (Array.getElem?_eq_some_iff.1 h1).1
theorem BRow.same {W W' : World} {fb n : Nat} (h : BRow W fb n) (hb : W'.heap[fb]? = W.heap[fb]?) : BRow W' fb n := by
  obtain ⟨C, h1, h2⟩ := h.ex
  exact ⟨C, by rw [hb]; exact h1, h2⟩
theorem BRow.set {W : World} {fb n : Nat} (h : BRow W fb n) (i : Nat) : BRow (W.setCell ⟨fb, i, none⟩ (.bool false)) fb n := by
  obtain ⟨C, h1, h2, h3⟩ := h.ex
  refine ⟨C.setIfInBounds i (.bool false), heap_setCell_same W fb i C 4 _ h1, by simp [h2], fun j hj => ?_⟩
  rw [Array.getElem?_setIfInBounds]
  by_cases e : i = j
  · rw [if_pos e, if_pos (by omega)]
  · rw [if_neg e, h3 j hj]
theorem infoBool : (Tryd.prog.info? 4).map (fun i => (i.zero, i.size, i.bytes)) = some (some (.bool false), 1, 1) := by kernel_rfl
def falses (N : Nat) : Array Value := madeCells #[.bool false] (N * 1)
theorem make_bools (w : World) (N : Nat) (hN : N ≤ 2147483647) : (Instr.makeSlice 58 (.int .i64 N) (.int .i64 N)).run Tryd.prog w = .ok (.slice (some ⟨w.heap.size, 0, none⟩) N N) (w.alloc (.cells (falses N) 4)) := by
  obtain ⟨i0, hi, hz0, hz1, hz2⟩ := info_parts infoBool
  have := run_make (P := Tryd.prog) w 58 4 i0 (.bool false) Tryd.underlying58 hi hz0 .i64 .i64 (N : Int) (N : Int) (by omega) (by omega) (by rw [hz2]; omega) (by omega)
  rw [hz1] at this
  simpa [falses, Value.cells] using this
theorem brow_new (w : World) (N : Nat) : BRow (w.alloc (.cells (falses N) 4)) w.heap.size N := by
  refine ⟨falses N, heap_alloc_new w _, by simp [falses, madeCells], fun j hj => ?_⟩
  simp [falses, madeCells, hj, Nat.mod_one]

def intsL (xs : List Int) : List Value := xs.map fun x => Value.int .i64 x
def stepsL (ss : List (Int × Int)) : List Value := ss.flatMap fun p => [.int .i64 p.1, .int .i64 p.2]
def slV (b n : Nat) : Value := .slice (some ⟨b, 0, none⟩) n n
def srO (lV mV : Value) (wb bb rb n : Nat) (c : Int) (wy gr : Value) : Obj := .cells #[lV, mV, slV wb n, slV bb n, slV rb n, .int .i64 c, wy, gr] 71 (0, 0)
/-- the search in memory -/
structure SrS (w0 W : World) (s0 s1 sb wb bb rb : Nat) (lV mV : Value) (n : Nat) (c : Int) (ws bs : List Int) (wy gr : Value) (ss : List (Int × Int)) (gs : List Int) : Prop where
  bel : Below s0 w0 W
  blk : W.heap[sb]? = some (srO lV mV wb bb rb n c wy gr)
  wrow : IRow W wb ws
  wlen : ws.length = n
  brow : IRow W bb bs
  blen : bs.length = n
  rrow : BRow W rb n
  way : W.ownsRow s1 81 2 wy ss.length (stepsL ss)
  grp : W.ownsRow s1 3 1 gr gs.length (intsL gs)
  ne1 : sb ≠ wb
  ne2 : sb ≠ bb
  ne3 : sb ≠ rb
  ne4 : wb ≠ bb
  ne5 : wb ≠ rb
  ne6 : bb ≠ rb
  l1 : sb < s1
  l2 : wb < s1
  l3 : bb < s1
  l4 : rb < s1
  h1 : s0 ≤ sb
  h2 : s0 ≤ wb
  h3 : s0 ≤ bb
  h4 : s0 ≤ rb
  sz : s1 ≤ W.heap.size
variable {w0 W : World} {s0 s1 sb wb bb rb : Nat} {lV mV : Value} {n : Nat} {c : Int} {ws bs : List Int} {wy gr : Value} {ss : List (Int × Int)} {gs : List Int}
/-- blocks that are not the search's may turn -/
theorem SrS.ext {W' : World} (h : SrS w0 W s0 s1 sb wb bb rb lV mV n c ws bs wy gr ss gs) (hb : Below W.heap.size W W') : SrS w0 W' s0 s1 sb wb bb rb lV mV n c ws bs wy gr ss gs := by
  have hs := h.sz
  have l1 := h.l1
  have l2 := h.l2
  have l3 := h.l3
  have l4 := h.l4
  have h1 := h.h1
  exact ⟨h.bel.trans (hb.mono (by omega)), by rw [hb.block _ (by omega)]; exact h.blk, h.wrow.below hb, h.wlen, h.brow.below hb, h.blen, h.rrow.same (hb.block _ (by omega)), owns_same h.way fun g _ hg => hb.block g hg, owns_same h.grp fun g _ hg => hb.block g hg, h.ne1, h.ne2, h.ne3, h.ne4, h.ne5, h.ne6, h.l1, h.l2, h.l3, h.l4, h.h1, h.h2, h.h3, h.h4, Nat.le_trans hs hb.size⟩
theorem SrS.setW (h : SrS w0 W s0 s1 sb wb bb rb lV mV n c ws bs wy gr ss gs) (i : Nat) (x : Int) (hi : i < n) : SrS w0 (W.setCell ⟨wb, i, none⟩ (.int .i64 x)) s0 s1 sb wb bb rb lV mV n c (ws.set i x) bs wy gr ss gs := by
  have ho := Only.set wb W i (.int .i64 x)
  have l2 := h.l2
  exact ⟨ho.bel _ _ h.h2 h.bel, by rw [ho.block _ h.ne1]; exact h.blk, h.wrow.set i x (by rw [h.wlen]; exact hi), by simpa using h.wlen, h.brow.same (ho.block _ h.ne4.symm), h.blen, h.rrow.same (ho.block _ h.ne5.symm), owns_same h.way fun g hg _ => ho.block g (by omega), owns_same h.grp fun g hg _ => ho.block g (by omega), h.ne1, h.ne2, h.ne3, h.ne4, h.ne5, h.ne6, h.l1, h.l2, h.l3, h.l4, h.h1, h.h2, h.h3, h.h4, by rw [ho.size]; exact h.sz⟩
theorem SrS.setB (h : SrS w0 W s0 s1 sb wb bb rb lV mV n c ws bs wy gr ss gs) (i : Nat) (x : Int) (hi : i < n) : SrS w0 (W.setCell ⟨bb, i, none⟩ (.int .i64 x)) s0 s1 sb wb bb rb lV mV n c ws (bs.set i x) wy gr ss gs := by
  have ho := Only.set bb W i (.int .i64 x)
  have l2 := h.l3
  exact ⟨ho.bel _ _ h.h3 h.bel, by rw [ho.block _ h.ne2]; exact h.blk, h.wrow.same (ho.block _ h.ne4), h.wlen, h.brow.set i x (by rw [h.blen]; exact hi), by simpa using h.blen, h.rrow.same (ho.block _ h.ne6.symm), owns_same h.way fun g hg _ => ho.block g (by omega), owns_same h.grp fun g hg _ => ho.block g (by omega), h.ne1, h.ne2, h.ne3, h.ne4, h.ne5, h.ne6, h.l1, h.l2, h.l3, h.l4, h.h1, h.h2, h.h3, h.h4, by rw [ho.size]; exact h.sz⟩
theorem SrS.setR (h : SrS w0 W s0 s1 sb wb bb rb lV mV n c ws bs wy gr ss gs) (i : Nat) : SrS w0 (W.setCell ⟨rb, i, none⟩ (.bool false)) s0 s1 sb wb bb rb lV mV n c ws bs wy gr ss gs := by
  have ho := Only.set rb W i (.bool false)
  have l2 := h.l4
  exact ⟨ho.bel _ _ h.h4 h.bel, by rw [ho.block _ h.ne3]; exact h.blk, h.wrow.same (ho.block _ h.ne5), h.wlen, h.brow.same (ho.block _ h.ne6), h.blen, h.rrow.set i, owns_same h.way fun g hg _ => ho.block g (by omega), owns_same h.grp fun g hg _ => ho.block g (by omega), h.ne1, h.ne2, h.ne3, h.ne4, h.ne5, h.ne6, h.l1, h.l2, h.l3, h.l4, h.h1, h.h2, h.h3, h.h4, by rw [ho.size]; exact h.sz⟩
theorem SrS.setC (h : SrS w0 W s0 s1 sb wb bb rb lV mV n c ws bs wy gr ss gs) (x : Int) : SrS w0 (W.setCell ⟨sb, 5, none⟩ (.int .i64 x)) s0 s1 sb wb bb rb lV mV n x ws bs wy gr ss gs := by
  have ho := Only.set sb W 5 (.int .i64 x)
  have l2 := h.l1
  exact ⟨ho.bel _ _ h.h1 h.bel, heap_setCell_same W sb 5 _ _ _ h.blk, h.wrow.same (ho.block _ h.ne1.symm), h.wlen, h.brow.same (ho.block _ h.ne2.symm), h.blen, h.rrow.same (ho.block _ h.ne3.symm), owns_same h.way fun g hg _ => ho.block g (by omega), owns_same h.grp fun g hg _ => ho.block g (by omega), h.ne1, h.ne2, h.ne3, h.ne4, h.ne5, h.ne6, h.l1, h.l2, h.l3, h.l4, h.h1, h.h2, h.h3, h.h4, by rw [ho.size]; exact h.sz⟩
theorem SrS.setWay (h : SrS w0 W s0 s1 sb wb bb rb lV mV n c ws bs wy gr ss gs) (v : Value) (tt : List (Int × Int)) (hv : W.ownsRow s1 81 2 v tt.length (stepsL tt)) : SrS w0 (W.setCell ⟨sb, 6, none⟩ v) s0 s1 sb wb bb rb lV mV n c ws bs v gr tt gs := by
  have ho := Only.set sb W 6 v
  have l2 := h.l1
  exact ⟨ho.bel _ _ h.h1 h.bel, heap_setCell_same W sb 6 _ _ _ h.blk, h.wrow.same (ho.block _ h.ne1.symm), h.wlen, h.brow.same (ho.block _ h.ne2.symm), h.blen, h.rrow.same (ho.block _ h.ne3.symm), owns_same hv fun g hg _ => ho.block g (by omega), owns_same h.grp fun g hg _ => ho.block g (by omega), h.ne1, h.ne2, h.ne3, h.ne4, h.ne5, h.ne6, h.l1, h.l2, h.l3, h.l4, h.h1, h.h2, h.h3, h.h4, by rw [ho.size]; exact h.sz⟩
theorem SrS.setGrp (h : SrS w0 W s0 s1 sb wb bb rb lV mV n c ws bs wy gr ss gs) (v : Value) (hs : List Int) (hv : W.ownsRow s1 3 1 v hs.length (intsL hs)) : SrS w0 (W.setCell ⟨sb, 7, none⟩ v) s0 s1 sb wb bb rb lV mV n c ws bs wy v ss hs := by
  have ho := Only.set sb W 7 v
  have l2 := h.l1
  exact ⟨ho.bel _ _ h.h1 h.bel, heap_setCell_same W sb 7 _ _ _ h.blk, h.wrow.same (ho.block _ h.ne1.symm), h.wlen, h.brow.same (ho.block _ h.ne2.symm), h.blen, h.rrow.same (ho.block _ h.ne3.symm), owns_same h.way fun g hg _ => ho.block g (by omega), owns_same hv fun g hg _ => ho.block g (by omega), h.ne1, h.ne2, h.ne3, h.ne4, h.ne5, h.ne6, h.l1, h.l2, h.l3, h.l4, h.h1, h.h2, h.h3, h.h4, by rw [ho.size]; exact h.sz⟩
theorem owns_ty {W : World} {B : Nat} {e e' : TypeId} {s s' : Nat} {v v' : Value} {n n' : Nat} {cs cs' : List Value} (h : W.ownsRow B e s v n cs) (h' : W.ownsRow B e' s' v' n' cs') (hne : e ≠ e') {g : Nat} (hg : v.ownBlock = some g) : v'.ownBlock ≠ some g := by
  intro e2
  rcases h.2 with ⟨rfl, _⟩ | ⟨x, cp, cur, rfl, _, hgg, _⟩
  · cases hg
  · rcases h'.2 with ⟨rfl, _⟩ | ⟨x', cp', cur', rfl, _, hgg', _⟩
    · cases e2
    · simp only [Value.ownBlock, Option.some.injEq] at hg e2
      subst hg
      subst e2
      rw [hgg] at hgg'
      simp only [Option.some.injEq, Obj.cells.injEq] at hgg'
      exact hne hgg'.2.1
/-- a step is appended behind the way -/
theorem SrS.pushWay {w8 : World} {o : Obj} {v : Value} {tt : List (Int × Int)} (h : SrS w0 W s0 s1 sb wb bb rb lV mV n c ws bs wy gr ss gs) (hg : (W.alloc o).grownBy w8 wy.ownBlock) (hown : w8.ownsRow s1 81 2 v tt.length (stepsL tt)) : SrS w0 (w8.setCell ⟨sb, 6, none⟩ v) s0 s1 sb wb bb rb lV mV n c ws bs v gr tt gs := by
  have hs := h.sz
  have l1 := h.l1
  have l2 := h.l2
  have l3 := h.l3
  have l4 := h.l4
  have h1 := h.h1
  have hz := hg.size
  simp at hz
  have hwl : ∀ g, wy.ownBlock = some g → s1 ≤ g := fun g hg => (owns_block h.way hg).1
  have same : ∀ x, x < W.heap.size → wy.ownBlock ≠ some x → w8.heap[x]? = W.heap[x]? := fun x hx hne => by rw [hg.block x (by simp; omega) (fun e => hne e.symm), (below1 W o).block x hx]
  have low : ∀ x, x < s1 → w8.heap[x]? = W.heap[x]? := fun x hx => same x (by omega) (fun e => by have := hwl x e; omega)
  have base : SrS w0 w8 s0 s1 sb wb bb rb lV mV n c ws bs v gr tt gs → SrS w0 (w8.setCell ⟨sb, 6, none⟩ v) s0 s1 sb wb bb rb lV mV n c ws bs v gr tt gs := fun q => q.setWay v tt hown
  have ho := Only.set sb w8 6 v
  have hgr : w8.ownsRow s1 3 1 gr gs.length (intsL gs) := by
    refine ⟨h.grp.1, ?_⟩
    rcases h.grp.2 with hn | ⟨g, cap, cur, rfl, hB, hgg, rest⟩
    · exact .inl hn
    · exact .inr ⟨g, cap, cur, rfl, hB, by rw [same g (Array.getElem?_eq_some_iff.1 hgg).1 (owns_ty h.grp h.way (by decide) rfl)]; exact hgg, rest⟩
  have hblk : w8.heap[sb]? = some (srO lV mV wb bb rb n c wy gr) := by rw [low _ l1]; exact h.blk
  exact ⟨ho.bel _ _ h.h1 ((h.bel.trans ((below1 W o).mono (by omega))).grown hg (by simp; omega) (fun k hk => by have := hwl k hk; omega)), heap_setCell_same w8 sb 6 _ _ _ hblk, h.wrow.same (by rw [ho.block _ h.ne1.symm, low _ l2]), h.wlen, h.brow.same (by rw [ho.block _ h.ne2.symm, low _ l3]), h.blen, h.rrow.same (by rw [ho.block _ h.ne3.symm, low _ l4]), owns_same hown fun g hg _ => ho.block g (by omega), owns_same hgr fun g hg _ => ho.block g (by omega), h.ne1, h.ne2, h.ne3, h.ne4, h.ne5, h.ne6, h.l1, h.l2, h.l3, h.l4, h.h1, h.h2, h.h3, h.h4, by rw [ho.size]; omega⟩
theorem SrS.pushGrp {w8 : World} {o : Obj} {v : Value} {hs' : List Int} (h : SrS w0 W s0 s1 sb wb bb rb lV mV n c ws bs wy gr ss gs) (hg : (W.alloc o).grownBy w8 gr.ownBlock) (hown : w8.ownsRow s1 3 1 v hs'.length (intsL hs')) : SrS w0 (w8.setCell ⟨sb, 7, none⟩ v) s0 s1 sb wb bb rb lV mV n c ws bs wy v ss hs' := by
  have hs := h.sz
  have l1 := h.l1
  have l2 := h.l2
  have l3 := h.l3
  have l4 := h.l4
  have h1 := h.h1
  have hz := hg.size
  simp at hz
  have hwl : ∀ g, gr.ownBlock = some g → s1 ≤ g := fun g hg => (owns_block h.grp hg).1
  have same : ∀ x, x < W.heap.size → gr.ownBlock ≠ some x → w8.heap[x]? = W.heap[x]? := fun x hx hne => by rw [hg.block x (by simp; omega) (fun e => hne e.symm), (below1 W o).block x hx]
  have low : ∀ x, x < s1 → w8.heap[x]? = W.heap[x]? := fun x hx => same x (by omega) (fun e => by have := hwl x e; omega)
  have ho := Only.set sb w8 7 v
  have hwy : w8.ownsRow s1 81 2 wy ss.length (stepsL ss) := by
    refine ⟨h.way.1, ?_⟩
    rcases h.way.2 with hn | ⟨g, cap, cur, rfl, hB, hgg, rest⟩
    · exact .inl hn
    · exact .inr ⟨g, cap, cur, rfl, hB, by rw [same g (Array.getElem?_eq_some_iff.1 hgg).1 (owns_ty h.way h.grp (by decide) rfl)]; exact hgg, rest⟩
  have hblk : w8.heap[sb]? = some (srO lV mV wb bb rb n c wy gr) := by rw [low _ l1]; exact h.blk
  exact ⟨ho.bel _ _ h.h1 ((h.bel.trans ((below1 W o).mono (by omega))).grown hg (by simp; omega) (fun k hk => by have := hwl k hk; omega)), heap_setCell_same w8 sb 7 _ _ _ hblk, h.wrow.same (by rw [ho.block _ h.ne1.symm, low _ l2]), h.wlen, h.brow.same (by rw [ho.block _ h.ne2.symm, low _ l3]), h.blen, h.rrow.same (by rw [ho.block _ h.ne3.symm, low _ l4]), owns_same hwy fun g hg _ => ho.block g (by omega), owns_same hown fun g hg _ => ho.block g (by omega), h.ne1, h.ne2, h.ne3, h.ne4, h.ne5, h.ne6, h.l1, h.l2, h.l3, h.l4, h.h1, h.h2, h.h3, h.h4, by rw [ho.size]; omega⟩
theorem SrS.eight (h : SrS w0 W s0 s1 sb wb bb rb lV mV n c ws bs wy gr ss gs) : W.cell? ⟨sb, 0, none⟩ = some lV ∧ W.cell? ⟨sb, 1, none⟩ = some mV ∧ W.cell? ⟨sb, 2, none⟩ = some (slV wb n) ∧ W.cell? ⟨sb, 3, none⟩ = some (slV bb n) ∧ W.cell? ⟨sb, 4, none⟩ = some (slV rb n) ∧ W.cell? ⟨sb, 5, none⟩ = some (.int .i64 c) ∧ W.cell? ⟨sb, 6, none⟩ = some wy ∧ W.cell? ⟨sb, 7, none⟩ = some gr ∧ (∀ i, W.frozen? ⟨sb, i, none⟩ = false) ∧ sb < W.heap.size := by
  have hc : ∀ i, W.cell? ⟨sb, i, none⟩ = (#[lV, mV, slV wb n, slV bb n, slV rb n, .int .i64 c, wy, gr] : Array Value)[i]? := fun i => cell_of_row W sb i _ _ (0, 0) h.blk
  exact ⟨hc 0, hc 1, hc 2, hc 3, hc 4, hc 5, hc 6, hc 7, fun i => by simp [World.frozen?, h.blk, srO], (Array.getElem?_eq_some_iff.1 h.blk).1⟩
end Go.Proofs.YtllgaholkminnaaDoor
namespace Go.Proofs.YtllgaholkminnaaDoor
open Go.RowKit
set_option linter.unusedVariables false
set_option linter.unusedSimpArgs false

set_option maxRecDepth 100000 in
set_option maxHeartbeats 1000000 in
theorem leads_leaf (W : World) (sb nb no nc n x nk kc : Nat) (kd ps num k : Int) (ka : Option Addr) (nm : ByteArray) (h0 : W.cell? ⟨sb, 0, none⟩ = some (.slice (some ⟨nb, no, none⟩) n nc)) (h5 : Five W nb (no + x * 5) kd ps ka nk kc nm num) (hx : x < n) (k3 : kd ≠ 3) (k5 : kd ≠ 5) :
    Calls Tryd.prog 41 #[.pointer (some ⟨sb, 0, none⟩), .int .i64 x, .int .i64 k] W fun e w' => e = .returned (.int .i64 (-1)) ∧ Below W.heap.size W w' := by
  obtain ⟨c0, c1, c2, c3, c4⟩ := h5
  have e3 : (kd == 3) = false := by rw [beq_eq_false_iff_ne]; exact k3
  have e5 : (kd == 5) = false := by rw [beq_eq_false_iff_ne]; exact k5
  clear k3 k5
  go_enter Tryd.func41, Tryd.ntmps41
  go_wp2
  go_ret
  exact ⟨rfl, below1 _ _⟩

variable {w0 W : World} {s0 s1 sb wb bb rb : Nat} {lV mV : Value} {n : Nat} {c : Int} {ws bs : List Int} {wy gr : Value}
theorem infoStep : (Tryd.prog.info? 81).map (fun i => (i.zero, i.size, i.bytes)) = some (some (.agg #[.int .i64 0, .int .i64 0]), 2, 16) := by kernel_rfl
theorem step_news (X : World) (H : Nat) (hH : X.heap.size = H) (a b : Value) : ∀ (j : Nat) (u : Value), [a, b][j]? = some u → (X.alloc (.cells #[a, b] 81)).cell? ((⟨H, 0, none⟩ : Addr).add j) = some u := by
  subst hH
  exact World.news_of_block (w := X.alloc (.cells #[a, b] 81)) (cs := #[a, b]) (heap_alloc_new X (.cells #[a, b] 81))
theorem int_news (X : World) (H : Nat) (hH : X.heap.size = H) (a : Value) : ∀ (j : Nat) (u : Value), [a][j]? = some u → (X.alloc (.cells #[a] 3)).cell? ((⟨H, 0, none⟩ : Addr).add j) = some u := by
  subst hH
  exact World.news_of_block (w := X.alloc (.cells #[a] 3)) (cs := #[a]) (heap_alloc_new X (.cells #[a] 3))
theorem int_one (x : Int) : ∀ u ∈ [Value.int .i64 x], u.oneCell' = true := by
  intro u hu
  simp at hu
  subst hu
  rfl
theorem SrS.lowWay {w8 : World} {o : Obj} {ss : List (Int × Int)} {gs : List Int} (h : SrS w0 W s0 s1 sb wb bb rb lV mV n c ws bs wy gr ss gs) (hg : (W.alloc o).grownBy w8 wy.ownBlock) : w8.cell? ⟨sb, 6, none⟩ = some wy ∧ w8.frozen? ⟨sb, 6, none⟩ = false ∧ sb < w8.heap.size := by
  have hs := h.sz
  have l1 := h.l1
  have e : w8.heap[sb]? = some (srO lV mV wb bb rb n c wy gr) := by
    rw [hg.block sb (by simp; omega) (fun e => by have := (owns_block h.way e.symm).1; omega), (below1 W o).block sb (by omega)]
    exact h.blk
  exact ⟨cell_of_row w8 sb 6 _ _ (0, 0) e, by simp [World.frozen?, e, srO], (Array.getElem?_eq_some_iff.1 e).1⟩
theorem SrS.lowGrp {w8 : World} {o : Obj} {ss : List (Int × Int)} {gs : List Int} (h : SrS w0 W s0 s1 sb wb bb rb lV mV n c ws bs wy gr ss gs) (hg : (W.alloc o).grownBy w8 gr.ownBlock) : w8.cell? ⟨sb, 7, none⟩ = some gr ∧ w8.frozen? ⟨sb, 7, none⟩ = false ∧ sb < w8.heap.size := by
  have hs := h.sz
  have l1 := h.l1
  have e : w8.heap[sb]? = some (srO lV mV wb bb rb n c wy gr) := by
    rw [hg.block sb (by simp; omega) (fun e => by have := (owns_block h.grp e.symm).1; omega), (below1 W o).block sb (by omega)]
    exact h.blk
  exact ⟨cell_of_row w8 sb 7 _ _ (0, 0) e, by simp [World.frozen?, e, srO], (Array.getElem?_eq_some_iff.1 e).1⟩
set_option maxRecDepth 100000 in
set_option maxHeartbeats 4000000 in
theorem enter_leaf (x : Nat) (HS : SrS w0 W s0 s1 sb wb bb rb lV mV n c ws bs wy gr [] []) (hx : x < n) (hn : n ≤ 2147483647) (hc0 : 0 ≤ c) (hc : c ≤ 2147483647) :
    Calls Tryd.prog 40 #[.pointer (some ⟨sb, 0, none⟩), .int .i64 x] W fun e w' => e = .returned (.tuple #[]) ∧ Bx (∃ gg cg gh ch, SrS w0 w' s0 s1 sb wb bb rb lV mV n (c + 1) (ws.set x (c + 1)) (bs.set x (c + 1)) (.slice (some ⟨gg, 0, none⟩) 1 cg) (.slice (some ⟨gh, 0, none⟩) 1 ch) [((x : Int), 0)] [(x : Int)]) := by
  obtain ⟨e0, e1, e2, e3, e4, e5, e6, e7, ef, el⟩ := HS.eight
  unfold slV at e2 e3 e4
  have w1 := HS.wrow.cell x (by rw [HS.wlen]; exact hx)
  have w2 := HS.wrow.frozen x
  have w3 := HS.wrow.lt
  have b1 := HS.brow.cell x (by rw [HS.blen]; exact hx)
  have b2 := HS.brow.frozen x
  have b3 := HS.brow.lt
  have n1 := HS.ne1
  have n2 := HS.ne2
  have n4 := HS.ne4
  have m1 := HS.ne1.symm
  have m2 := HS.ne2.symm
  have m4 := HS.ne4.symm
  have HSB : Bx _ := ⟨HS⟩
  have ef5 := ef 5
  have ef6 := ef 6
  have ef7 := ef 7
  obtain ⟨i0, hi, hz0, hz1, hz2⟩ := info_parts infoStep
  obtain ⟨j0, ji, jz0, jz1, jz2⟩ := info_parts info3
  clear HS ef e0 e1 e4
  generalize ws.getD x 0 = wold at *
  generalize bs.getD x 0 = bold at *
  go_enter Tryd.func40, Tryd.ntmps40
  go_wp2_with fail
  have HK : Bx (∀ X ws' bs', SrS w0 X s0 s1 sb wb bb rb lV mV n (c + 1) ws' bs' wy gr [] [] → X.drew.cell? ⟨sb, 2, none⟩ = some (.slice (some ⟨wb, 0, none⟩) n n) ∧ X.drew.cell? ⟨sb, 3, none⟩ = some (.slice (some ⟨bb, 0, none⟩) n n) ∧ X.drew.cell? ⟨sb, 5, none⟩ = some (.int .i64 (c + 1))) := ⟨fun X ws' bs' h => ⟨h.eight.2.2.1, h.eight.2.2.2.1, h.eight.2.2.2.2.2.1⟩⟩
  have A0 : Bx _ := ⟨HSB.out.setC (c + 1)⟩
  have A1 : Bx _ := ⟨(HSB.out.setC (c + 1)).setW x (c + 1) hx⟩
  have A2 : Bx _ := ⟨(HSB.out.setC (c + 1)).setB x (c + 1) hx⟩
  have A3 : Bx _ := ⟨((HSB.out.setC (c + 1)).setW x (c + 1) hx).setB x (c + 1) hx⟩
  have A4 : Bx _ := ⟨((HSB.out.setC (c + 1)).setB x (c + 1) hx).setW x (c + 1) hx⟩
  go_region_held (fun w' => w'.cell? ⟨sb, 2, none⟩ = some (.slice (some ⟨wb, 0, none⟩) n n) ∧ w'.cell? ⟨sb, 3, none⟩ = some (.slice (some ⟨bb, 0, none⟩) n n) ∧ w'.cell? ⟨sb, 5, none⟩ = some (.int .i64 (c + 1))) (first | exact HK.out _ _ _ A0.out | exact HK.out _ _ _ A1.out | exact HK.out _ _ _ A2.out | exact HK.out _ _ _ A3.out | exact HK.out _ _ _ A4.out) (fail)
  obtain ⟨X, hX⟩ : ∃ X, X = (((W.setCell ⟨sb, 5, none⟩ (.int .i64 (c + 1))).setCell ⟨wb, x, none⟩ (.int .i64 (c + 1))).setCell ⟨bb, x, none⟩ (.int .i64 (c + 1))).drew := ⟨_, rfl⟩
  have A5 : Bx (SrS w0 X s0 s1 sb wb bb rb lV mV n (c + 1) (ws.set x (c + 1)) (bs.set x (c + 1)) wy gr [] []) := ⟨by rw [hX]; exact A3.out.ext ((Below.refl _ _).drew)⟩
  rw [← hX]
  clear hX A0 A1 A2 A3 A4 HK HSB e2 e3 e5 e6 e7 el w1 w2 w3 b1 b2 b3 ef5 ef6 ef7
  obtain ⟨_, _, _, _, _, _, e6, e7, ef, el⟩ := A5.out.eight
  have ef6 := ef 6
  have hsz := A5.out.sz
  clear ef
  have HOW : Bx ((X.alloc (.cells #[.int .i64 (x : Nat), .int .i64 0] 81)).ownsRow s1 81 2 wy 0 []) := ⟨owns_same A5.out.way fun g _ hg => (below1 X _).block g hg⟩
  have HP1 : Bx (∀ gg cg w8, (X.alloc (.cells #[.int .i64 (x : Nat), .int .i64 0] 81)).grownBy w8 wy.ownBlock → w8.ownsRow s1 81 2 (.slice (some ⟨gg, 0, none⟩) (0 + 1) cg) (0 + 1) ([] ++ [.int .i64 (x : Nat), .int .i64 0]) → SrS w0 (w8.setCell ⟨sb, 6, none⟩ (.slice (some ⟨gg, 0, none⟩) 1 cg)) s0 s1 sb wb bb rb lV mV n (c + 1) (ws.set x (c + 1)) (bs.set x (c + 1)) (.slice (some ⟨gg, 0, none⟩) 1 cg) gr [((x : Int), 0)] [] ∧ w8.cell? ⟨sb, 6, none⟩ = some wy ∧ w8.frozen? ⟨sb, 6, none⟩ = false ∧ sb < w8.heap.size) := ⟨fun gg cg w8 hg ho => ⟨A5.out.pushWay hg ho, A5.out.lowWay hg⟩⟩
  clear A5
  go_wp2_with (first
    | (at_builtin; refine wpList_append_lies _ rfl (.tmp 35) (.tmp 38) 69 rfl s1 81 i0 (.agg #[.int .i64 0, .int .i64 0]) 2 16 Tryd.underlying69 hi hz0 hz1 hz2 rfl (by decide) wy 0 [] rfl HOW.out ⟨X.heap.size, 0, none⟩ 1 1 [.int .i64 (x : Nat), .int .i64 0] rfl rfl (step_news _ _ rfl _ _) (pair_one _ _) (by decide) (by unfold maxLen; omega) (by omega) (by simp; omega) (X.heap.size + 1) (by simp) ?_; intro gg cg w8 hown hgrow hat hlt8; obtain ⟨q1, q2, q3, q4⟩ := HP1.out gg cg w8 hgrow hown; have Q1 : Bx _ := ⟨q1⟩; obtain ⟨_, _, _, _, _, _, _, f7, ff, _⟩ := q1.eight; have ff7 := ff 7; have hsz8 := q1.sz; simp at hsz8; clear hgrow hat hown q1 ff HP1 HOW)
    | (at_builtin; refine wpList_append_lies _ rfl (.tmp 46) (.tmp 48) 24 rfl s1 3 j0 (.int .i64 0) 1 8 Tryd.underlying24 ji jz0 jz1 jz2 rfl (by decide) gr 0 [] rfl (owns_same Q1.out.grp fun g _ hg => (below1 _ _).block g hg) ⟨w8.heap.size, 0, none⟩ 1 1 [.int .i64 (x : Nat)] rfl rfl (int_news _ _ (by simp) _) (int_one _) (by decide) (by unfold maxLen; omega) (by omega) (by simp; omega) (w8.heap.size + 1) (by simp) ?_; intro gh ch w9 hown hgrow hat hlt9; have r1 := Q1.out.pushGrp (hs' := [(x : Int)]) hgrow hown; obtain ⟨r2, r3, r4⟩ := Q1.out.lowGrp hgrow; have R1 : Bx _ := ⟨r1⟩; clear hgrow hat hown r1))
  go_end0
  exact ⟨rfl, ⟨gg, cg, gh, ch, R1.out⟩⟩
end Go.Proofs.YtllgaholkminnaaDoor
namespace Go.Proofs.YtllgaholkminnaaDoor
open Go.RowKit
set_option linter.unusedVariables false
set_option linter.unusedSimpArgs false
variable {w0 W : World} {s0 s1 sb wb bb rb : Nat} {lV mV : Value} {n : Nat} {c : Int} {ws bs : List Int} {wy gr : Value}

/-- a group of one node -/
theorem SrS.one {ss : List (Int × Int)} {gh ch : Nat} {x : Int} (h : SrS w0 W s0 s1 sb wb bb rb lV mV n c ws bs wy (.slice (some ⟨gh, 0, none⟩) 1 ch) ss [x]) : W.cell? ⟨gh, 0, none⟩ = some (.int .i64 x) ∧ 1 ≤ ch ∧ ch ≤ maxLen ∧ s1 ≤ gh ∧ W.ownsRow s1 3 1 (.slice (some ⟨gh, 0, none⟩) 0 ch) 0 [] := by
  rcases h.grp.2 with ⟨q, _⟩ | ⟨g, cap, cur, q, hB, hgg, q1, q2, q3, q4⟩
  · simp at q
  · simp only [Value.slice.injEq, Option.some.injEq, Addr.mk.injEq, and_true, true_and] at q
    obtain ⟨rfl, _, rfl⟩ := q
    refine ⟨?_, q1, q2, hB, rfl, .inr ⟨gh, ch, cur, rfl, hB, hgg, Nat.zero_le _, q2, q3, by simp⟩⟩
    rw [cell_of_row W gh 0 cur _ (0, 0) hgg]
    have : cur.toList[0]? = some (.int .i64 x) := by
      have e := congrArg (·[0]?) q4
      simp only [intsL, List.map_cons, List.map_nil, List.getElem?_cons_zero] at e
      rw [List.getElem?_take_of_lt (by simp)] at e
      exact e
    rw [Array.getElem?_toList] at this
    exact this

/-- what leads does at a node, in whatever world that keeps it -/
def LeafAt (w0 : World) (s0 sb : Nat) (lV : Value) (x : Nat) : Prop := ∀ W, Below s0 w0 W → W.cell? ⟨sb, 0, none⟩ = some lV → ∀ k : Int, Calls Tryd.prog 41 #[.pointer (some ⟨sb, 0, none⟩), .int .i64 x, .int .i64 k] W fun e w' => e = .returned (.int .i64 (-1)) ∧ Below W.heap.size W w'

set_option maxRecDepth 100000 in
set_option maxHeartbeats 4000000 in
theorem close_leaf (x gh ch ln lc : Nat) (la : Option Addr) (HS : SrS w0 W s0 s1 sb wb bb rb (.slice la ln lc) mV n c ws bs wy (.slice (some ⟨gh, 0, none⟩) 1 ch) [] [(x : Int)]) (hx : x < n) (hn : n ≤ 2147483647) (hln : ln = n) (HL : LeafAt w0 s0 sb (.slice la ln lc) x) :
    Calls Tryd.prog 57 #[.pointer (some ⟨sb, 0, none⟩), .int .i64 x] W fun e w' => e = .returned (.tuple #[]) ∧ Bx (SrS w0 w' s0 s1 sb wb bb rb (.slice la ln lc) mV n c (ws.set x (n + 1)) bs wy (.slice (some ⟨gh, 0, none⟩) 0 ch) [] []) := by
  subst hln
  obtain ⟨g1, g2, g3, g4, g5⟩ := HS.one
  unfold maxLen at g3
  obtain ⟨e0, e1, e2, e3, e4, e5, e6, e7, ef, el⟩ := HS.eight
  have HSB : Bx _ := ⟨HS⟩
  have HLB : Bx _ := ⟨HL⟩
  have HGB : Bx (∀ W' ws' bs' c', SrS w0 W' s0 s1 sb wb bb rb (.slice la ln lc) mV ln c' ws' bs' wy (.slice (some ⟨gh, 0, none⟩) 1 ch) [] [(x : Int)] → SrS w0 (W'.setCell ⟨sb, 7, none⟩ (.slice (some ⟨gh, 0, none⟩) 0 ch)) s0 s1 sb wb bb rb (.slice la ln lc) mV ln c' ws' bs' wy (.slice (some ⟨gh, 0, none⟩) 0 ch) [] []) := ⟨fun W' ws' bs' c' h => h.setGrp _ [] h.one.2.2.2.2⟩
  have ef7 := ef 7
  have n1 := HS.ne1
  have n3 := HS.ne3
  have n5 := HS.ne5
  have m1 := HS.ne1.symm
  have m3 := HS.ne3.symm
  have m5 := HS.ne5.symm
  unfold slV at e2 e3 e4
  clear HS HL ef e1 e3 e5 e6 g5
  go_enter Tryd.func57, Tryd.ntmps57
  go_wp2
  go_loop [4] (fun v => v = .int .i64 0) (fun _ => 0)
  case atStart => rfl
  case round =>
    subst hrel
    go_wp2
    go_loopw [33] (fun q wr => (q = .int .i64 0 ∧ Bx (SrS w0 wr s0 s1 sb wb bb rb (.slice la ln lc) mV ln c ws bs wy (.slice (some ⟨gh, 0, none⟩) 1 ch) [] [(x : Int)])) ∨ (q = .int .i64 1 ∧ Bx (SrS w0 wr s0 s1 sb wb bb rb (.slice la ln lc) mV ln c (ws.set x (ln + 1)) bs wy (.slice (some ⟨gh, 0, none⟩) 1 ch) [] [(x : Int)]))) (fun q _ => 1 - (intOf q).toNat)
    case atStart => exact .inl ⟨rfl, HSB⟩
    case round =>
      clear HSB g1 e0 e2 e4 e7 ef7 el
      rcases hrel with ⟨rfl, HQ⟩ | ⟨rfl, HQ⟩
      · obtain ⟨e0, e1, e2, e3, e4, e5, e6, e7, ef, el⟩ := HQ.out.eight
        have g1 := HQ.out.one.1
        have r1 := HQ.out.rrow.cell x hx
        have r2 := HQ.out.rrow.frozen x
        have r3 := HQ.out.rrow.lt
        unfold slV at e2 e3 e4
        have A0 : Bx (SrS w0 wr.drew s0 s1 sb wb bb rb (.slice la ln lc) mV ln c ws bs wy (.slice (some ⟨gh, 0, none⟩) 1 ch) [] [(x : Int)]) := ⟨HQ.out.ext ((Below.refl _ _).drew)⟩
        have HK : Bx (∀ X, SrS w0 X s0 s1 sb wb bb rb (.slice la ln lc) mV ln c ws bs wy (.slice (some ⟨gh, 0, none⟩) 1 ch) [] [(x : Int)] → X.cell? ⟨sb, 4, none⟩ = some (.slice (some ⟨rb, 0, none⟩) ln ln) ∧ X.cell? ⟨rb, x, none⟩ = some (.bool false) ∧ X.frozen? ⟨rb, x, none⟩ = false ∧ SrS w0 X s0 s1 sb wb bb rb (.slice la ln lc) mV ln c ws bs wy (.slice (some ⟨gh, 0, none⟩) 1 ch) [] [(x : Int)]) := ⟨fun X h => ⟨h.eight.2.2.2.2.1, h.rrow.cell x hx, h.rrow.frozen x, h⟩⟩
        have hx1 : ((-1 : Int) == (x : Int)) = false := by rw [beq_eq_false_iff_ne]; omega
        clear ef e1 e3 e5 e6
        go_wp2_with fail
        go_region_held (fun w' => w'.cell? ⟨sb, 4, none⟩ = some (.slice (some ⟨rb, 0, none⟩) ln ln) ∧ w'.cell? ⟨rb, x, none⟩ = some (.bool false) ∧ w'.frozen? ⟨rb, x, none⟩ = false ∧ SrS w0 w' s0 s1 sb wb bb rb (.slice la ln lc) mV ln c ws bs wy (.slice (some ⟨gh, 0, none⟩) 1 ch) [] [(x : Int)])
          (first | exact HK.out _ A0.out | exact HK.out _ B5.out | exact HK.out _ (B5.out.setR x))
          (first | (go_at_call 41; refine Calls.mono (HLB.out _ (by first | exact B5.out.bel | exact A0.out.bel) (by first | exact B5.out.eight.1 | exact A0.out.eight.1) _) ?_; rintro e w5 ⟨rfl, hb5⟩; have B5 : Bx (SrS w0 w5 s0 s1 sb wb bb rb (.slice la ln lc) mV ln c ws bs wy (.slice (some ⟨gh, 0, none⟩) 1 ch) [] [(x : Int)]) := ⟨A0.out.ext hb5⟩; clear hb5))
        all_goals
          obtain ⟨X, hX⟩ : ∃ X, X = w5.setCell ⟨rb, x, none⟩ (.bool false) := ⟨_, rfl⟩
          have A1 : Bx (SrS w0 X s0 s1 sb wb bb rb (.slice la ln lc) mV ln c ws bs wy (.slice (some ⟨gh, 0, none⟩) 1 ch) [] [(x : Int)]) := ⟨by rw [hX]; exact B5.out.setR x⟩
          rw [← hX]
          clear hX B5 A0 HK HQ e0 e2 e4 e7 el g1 r1 r2 r3
          obtain ⟨e0, e1, e2, e3, e4, e5, e6, e7, ef, el⟩ := A1.out.eight
          unfold slV at e2
          have w1 := A1.out.wrow.cell x (by rw [A1.out.wlen]; exact hx)
          have w2 := A1.out.wrow.frozen x
          have w3 := A1.out.wrow.lt
          have HK2 : Bx (∀ X ws', SrS w0 X s0 s1 sb wb bb rb (.slice la ln lc) mV ln c ws' bs wy (.slice (some ⟨gh, 0, none⟩) 1 ch) [] [(x : Int)] → X.drew.cell? ⟨sb, 2, none⟩ = some (.slice (some ⟨wb, 0, none⟩) ln ln) ∧ X.drew.cell? ⟨sb, 0, none⟩ = some (.slice la ln lc)) := ⟨fun X ws' h => ⟨h.eight.2.2.1, h.eight.1⟩⟩
          have HWR : Bx (IntKind.i64.wrap ((ln : Int) + 1) = (ln : Int) + 1) := ⟨by rw [IntKind.wrap_i64]; omega⟩
          have A2 : Bx _ := ⟨A1.out.setW x (IntKind.i64.wrap ((ln : Int) + 1)) hx⟩
          clear e1 e3 e4 e5 e6 e7 ef
          generalize ws.getD x 0 = wold at *
          go_wp2_with fail
          go_region_held (fun w' => w'.cell? ⟨sb, 2, none⟩ = some (.slice (some ⟨wb, 0, none⟩) ln ln) ∧ w'.cell? ⟨sb, 0, none⟩ = some (.slice la ln lc)) (first | exact HK2.out _ _ A1.out | exact HK2.out _ _ A2.out) (fail)
          all_goals
            have A3 := A2.out.ext ((Below.refl _ _).drew)
            rw [HWR.out] at A3 ⊢
            have A4 : Bx _ := ⟨A3⟩
            clear A3
            go_wp2
            go_roundw
            case rel => exact .inr ⟨rfl, A4⟩
            case measure => simp [intOf]
      · obtain ⟨e0, e1, e2, e3, e4, e5, e6, e7, ef, el⟩ := HQ.out.eight
        have ef7 := ef 7
        have HE : Bx _ := ⟨HGB.out _ _ _ _ HQ.out⟩
        clear e0 e1 e2 e3 e4 e5 e6 ef
        go_wp2
        go_end0
        exact ⟨rfl, HE⟩
end Go.Proofs.YtllgaholkminnaaDoor
namespace Go.Proofs.YtllgaholkminnaaDoor
open Go.RowKit
set_option linter.unusedVariables false
set_option linter.unusedSimpArgs false
variable {w0 W : World} {s0 s1 sb wb bb rb : Nat} {lV mV : Value} {n : Nat} {c : Int} {ws bs : List Int} {wy gr : Value}

/-- a way of one step -/
theorem SrS.oneWay {gs : List Int} {gg cg : Nat} {x t : Int} (h : SrS w0 W s0 s1 sb wb bb rb lV mV n c ws bs (.slice (some ⟨gg, 0, none⟩) 1 cg) gr [(x, t)] gs) : W.cell? ⟨gg, 0, none⟩ = some (.int .i64 x) ∧ W.cell? ⟨gg, 1, none⟩ = some (.int .i64 t) ∧ 1 ≤ cg ∧ cg ≤ maxLen ∧ s1 ≤ gg ∧ gg < W.heap.size ∧ (∀ i, W.frozen? ⟨gg, i, none⟩ = false) ∧ W.ownsRow s1 81 2 (.slice (some ⟨gg, 0, none⟩) 0 cg) 0 [] ∧ ∀ t', SrS w0 (W.setCell ⟨gg, 1, none⟩ (.int .i64 t')) s0 s1 sb wb bb rb lV mV n c ws bs (.slice (some ⟨gg, 0, none⟩) 1 cg) gr [(x, t')] gs := by
  rcases h.way.2 with ⟨q, _⟩ | ⟨g, cap, cur, q, hB, hgg, q1, q2, q3, q4⟩
  · simp at q
  · simp only [Value.slice.injEq, Option.some.injEq, Addr.mk.injEq, and_true, true_and] at q
    obtain ⟨rfl, _, rfl⟩ := q
    have at_ : ∀ i, i < 2 → cur[i]? = (stepsL [(x, t)])[i]? := fun i hi => by rw [← q4, List.getElem?_take_of_lt (by simpa using hi), Array.getElem?_toList]
    have hsz : 2 ≤ cur.size := by rw [q3]; have : ([(x, t)] : List (Int × Int)).length = 1 := rfl; omega
    refine ⟨?_, ?_, q1, q2, hB, (Array.getElem?_eq_some_iff.1 hgg).1, fun i => by simp [World.frozen?, hgg], ⟨rfl, .inr ⟨gg, cg, cur, rfl, hB, hgg, Nat.zero_le _, q2, q3, by simp⟩⟩, fun t' => ?_⟩
    · rw [cell_of_row W gg 0 cur _ (0, 0) hgg, at_ 0 (by omega)]; rfl
    · rw [cell_of_row W gg 1 cur _ (0, 0) hgg, at_ 1 (by omega)]; rfl
    · have ho := Only.set gg W 1 (.int .i64 t')
      have l1 := h.l1
      have l2 := h.l2
      have l3 := h.l3
      have l4 := h.l4
      have h1 := h.h1
      have hgr : (W.setCell ⟨gg, 1, none⟩ (.int .i64 t')).ownsRow s1 3 1 gr gs.length (intsL gs) := by
        refine ⟨h.grp.1, ?_⟩
        rcases h.grp.2 with hn | ⟨g', cap', cur', e, hB', hgg', rest⟩
        · exact .inl hn
        · refine .inr ⟨g', cap', cur', e, hB', ?_, rest⟩
          rw [ho.block g' (fun e2 => by rw [e2, hgg] at hgg'; simp only [Option.some.injEq, Obj.cells.injEq] at hgg'; exact absurd hgg'.2.1 (by decide))]
          exact hgg'
      refine ⟨ho.bel _ _ (by omega) h.bel, by rw [ho.block _ (by omega)]; exact h.blk, h.wrow.same (ho.block _ (by omega)), h.wlen, h.brow.same (ho.block _ (by omega)), h.blen, h.rrow.same (ho.block _ (by omega)), ⟨by simp [stepsL], .inr ⟨gg, cg, cur.setIfInBounds 1 (.int .i64 t'), rfl, hB, heap_setCell_same W gg 1 cur _ _ hgg, q1, q2, by simpa using q3, ?_⟩⟩, hgr, h.ne1, h.ne2, h.ne3, h.ne4, h.ne5, h.ne6, h.l1, h.l2, h.l3, h.l4, h.h1, h.h2, h.h3, h.h4, by rw [ho.size]; exact h.sz⟩
      apply List.ext_getElem?
      intro i
      by_cases hi : i < 2
      · rw [List.getElem?_take_of_lt (by simpa using hi), Array.getElem?_toList, Array.getElem?_setIfInBounds]
        match i, hi with
        | 0, _ => rw [if_neg (by omega), at_ 0 (by omega)]; rfl
        | 1, _ => rw [if_pos rfl, if_pos (by omega)]; rfl
      · rw [List.getElem?_eq_none (by simp; omega), List.getElem?_eq_none (by simp [stepsL]; omega)]

set_option maxRecDepth 100000 in
set_option maxHeartbeats 4000000 in
theorem leave_leaf (x gg cg gh ch ln lc : Nat) (tk z : Int) (la : Option Addr) (HS : SrS w0 W s0 s1 sb wb bb rb (.slice la ln lc) mV n c ws bs (.slice (some ⟨gg, 0, none⟩) 1 cg) (.slice (some ⟨gh, 0, none⟩) 1 ch) [((x : Int), tk)] [(x : Int)]) (hx : x < n) (hn : n ≤ 2147483647) (hln : ln = n) (HL : LeafAt w0 s0 sb (.slice la ln lc) x) (hz : ws.getD x 0 = z) (hz' : bs.getD x 0 = z) :
    Calls Tryd.prog 42 #[.pointer (some ⟨sb, 0, none⟩), .int .i64 x] W fun e w' => e = .returned (.tuple #[]) ∧ Bx (SrS w0 w' s0 s1 sb wb bb rb (.slice la ln lc) mV n c (ws.set x (n + 1)) bs (.slice (some ⟨gg, 0, none⟩) 0 cg) (.slice (some ⟨gh, 0, none⟩) 0 ch) [] []) := by
  obtain ⟨g1, g2, g3, g4, g5, g6, g7, g8, _⟩ := HS.oneWay
  unfold maxLen at g4
  obtain ⟨e0, e1, e2, e3, e4, e5, e6, e7, ef, el⟩ := HS.eight
  have A1 : Bx _ := ⟨HS.setWay _ [] g8⟩
  have HLB : Bx _ := ⟨HL⟩
  have ef6 := ef 6
  have hzb : Bx _ := ⟨hz⟩
  have hzb' : Bx _ := ⟨hz'⟩
  clear HS HL ef e0 e1 e2 e3 e4 e5 e7 g8 hz hz' g1 g2 g7
  go_enter Tryd.func42, Tryd.ntmps42
  go_wp2_with fail
  go_region
  obtain ⟨X, hX⟩ : ∃ X, X = (W.setCell ⟨sb, 6, none⟩ (.slice (some ⟨gg, 0, none⟩) 0 cg)).drew := ⟨_, rfl⟩
  have A2 : Bx (SrS w0 X s0 s1 sb wb bb rb (.slice la ln lc) mV n c ws bs (.slice (some ⟨gg, 0, none⟩) 0 cg) (.slice (some ⟨gh, 0, none⟩) 1 ch) [] [(x : Int)]) := ⟨by rw [hX]; exact A1.out.ext ((Below.refl _ _).drew)⟩
  rw [← hX]
  clear hX A1 e6 el ef6 g6
  obtain ⟨e0, e1, e2, e3, e4, e5, e6, e7, ef, el⟩ := A2.out.eight
  unfold slV at e2 e3
  have w1 := A2.out.wrow.cell x (by rw [A2.out.wlen]; exact hx)
  have b1 := A2.out.brow.cell x (by rw [A2.out.blen]; exact hx)
  rw [hzb.out] at w1
  rw [hzb'.out] at b1
  have A3 : Bx _ := ⟨A2.out.ext ((Below.refl _ _).drew)⟩
  have HC : Bx _ := ⟨close_leaf x gh ch ln lc la A3.out hx hn hln HLB.out⟩
  have HK : Bx (X.drew.cell? ⟨sb, 3, none⟩ = some (.slice (some ⟨bb, 0, none⟩) n n) ∧ X.drew.cell? ⟨sb, 2, none⟩ = some (.slice (some ⟨wb, 0, none⟩) n n) ∧ X.drew.cell? ⟨wb, x, none⟩ = some (.int .i64 z) ∧ X.drew.cell? ⟨bb, x, none⟩ = some (.int .i64 z)) := ⟨e3, e2, w1, b1⟩
  clear e0 e1 e4 e5 e7 ef
  go_wp2_with fail
  go_region_held (fun w' => w'.cell? ⟨sb, 3, none⟩ = some (.slice (some ⟨bb, 0, none⟩) n n) ∧ w'.cell? ⟨sb, 2, none⟩ = some (.slice (some ⟨wb, 0, none⟩) n n) ∧ w'.cell? ⟨wb, x, none⟩ = some (.int .i64 z) ∧ w'.cell? ⟨bb, x, none⟩ = some (.int .i64 z)) (exact HK.out) (fail)
  go_wp2_with (first | (go_at_call 57; refine Calls.mono HC.out ?_; rintro e w5 ⟨rfl, hb5⟩))
  go_end0
  exact ⟨rfl, hb5⟩

set_option maxRecDepth 100000 in
set_option maxHeartbeats 4000000 in
theorem from_leaf (x ln lc : Nat) (la : Option Addr) (HS : SrS w0 W s0 s1 sb wb bb rb (.slice la ln lc) mV n c ws bs wy gr [] []) (hx : x < n) (hn : n ≤ 2147483647) (hln : ln = n) (HL : LeafAt w0 s0 sb (.slice la ln lc) x) (hc0 : 0 ≤ c) (hc : c ≤ 2147483647) :
    Calls Tryd.prog 32 #[.pointer (some ⟨sb, 0, none⟩), .int .i64 x] W fun e w' => e = .returned (.tuple #[]) ∧ Bx (∃ wy' gr', SrS w0 w' s0 s1 sb wb bb rb (.slice la ln lc) mV n (c + 1) (ws.set x (n + 1)) (bs.set x (c + 1)) wy' gr' [] []) := by
  have HE : Bx _ := ⟨enter_leaf x HS hx hn hc0 hc⟩
  have HLB : Bx _ := ⟨HL⟩
  have hwl := HS.wlen
  have hbl := HS.blen
  have hss : (ws.set x (c + 1)).set x (n + 1) = ws.set x (n + 1) := by rw [List.set_set]
  have h1 : (ws.set x (c + 1)).getD x 0 = c + 1 := by simp [List.getD_eq_getElem?_getD, hwl, hx]
  have h2 : (bs.set x (c + 1)).getD x 0 = c + 1 := by simp [List.getD_eq_getElem?_getD, hbl, hx]
  have HX : Bx _ := ⟨And.intro hss (And.intro h1 h2)⟩
  clear HS HL hss h1 h2 hwl hbl
  go_enter Tryd.func32, Tryd.ntmps32
  go_wp2_with (first | (go_at_call 40; refine Calls.mono HE.out ?_; rintro e w1 ⟨rfl, HB⟩))
  obtain ⟨gg, cg, gh, ch, HA⟩ := HB.out
  have HAB : Bx _ := ⟨HA⟩
  clear HA HB HE
  go_loopg [] 1 (fun k wr => (k = 1 ∧ Bx (SrS w0 wr s0 s1 sb wb bb rb (.slice la ln lc) mV n (c + 1) (ws.set x (c + 1)) (bs.set x (c + 1)) (.slice (some ⟨gg, 0, none⟩) 1 cg) (.slice (some ⟨gh, 0, none⟩) 1 ch) [((x : Int), 0)] [(x : Int)])) ∨ (k = 0 ∧ Bx (SrS w0 wr s0 s1 sb wb bb rb (.slice la ln lc) mV n (c + 1) (ws.set x (n + 1)) (bs.set x (c + 1)) (.slice (some ⟨gg, 0, none⟩) 0 cg) (.slice (some ⟨gh, 0, none⟩) 0 ch) [] [])))
  case atStart => exact .inl ⟨rfl, HAB⟩
  case round =>
    clear HAB
    rcases hrel with ⟨hk, HQ⟩ | ⟨hk, HQ⟩
    · obtain ⟨g1, g2, g3, g4, g5, g6, g7, g8, g9⟩ := HQ.out.oneWay
      unfold maxLen at g4
      obtain ⟨e0, e1, e2, e3, e4, e5, e6, e7, ef, el⟩ := HQ.out.eight
      have HG9 : Bx _ := ⟨g9⟩
      have HN1 : Bx _ := ⟨HQ.out.ext ((Below.refl _ _).drew)⟩
      clear e1 e2 e3 e4 e5 e7 ef g9 g8
      go_wp2_with fail
      go_region_held (fun w' => w'.cell? ⟨sb, 6, none⟩ = some (.slice (some ⟨gg, 0, none⟩) 1 cg)) (exact e6) (fail)
      obtain ⟨X, hX⟩ : ∃ X, X = wr.drew := ⟨_, rfl⟩
      have A1 : Bx (SrS w0 X s0 s1 sb wb bb rb (.slice la ln lc) mV n (c + 1) (ws.set x (c + 1)) (bs.set x (c + 1)) (.slice (some ⟨gg, 0, none⟩) 1 cg) (.slice (some ⟨gh, 0, none⟩) 1 ch) [((x : Int), 0)] [(x : Int)]) := ⟨by rw [hX]; exact HN1.out⟩
      rw [← hX]
      clear hX HN1 HQ e0 e6 el g1 g2 g5 g6 g7 HG9
      have A2 : Bx (SrS w0 X.drew s0 s1 sb wb bb rb (.slice la ln lc) mV n (c + 1) (ws.set x (c + 1)) (bs.set x (c + 1)) (.slice (some ⟨gg, 0, none⟩) 1 cg) (.slice (some ⟨gh, 0, none⟩) 1 ch) [((x : Int), 0)] [(x : Int)]) := ⟨A1.out.ext ((Below.refl _ _).drew)⟩
      have HK : Bx (∀ Y, SrS w0 Y s0 s1 sb wb bb rb (.slice la ln lc) mV n (c + 1) (ws.set x (c + 1)) (bs.set x (c + 1)) (.slice (some ⟨gg, 0, none⟩) 1 cg) (.slice (some ⟨gh, 0, none⟩) 1 ch) [((x : Int), 0)] [(x : Int)] → Y.cell? ⟨gg, 0, none⟩ = some (.int .i64 x) ∧ Y.cell? ⟨gg, 1, none⟩ = some (.int .i64 0) ∧ SrS w0 Y s0 s1 sb wb bb rb (.slice la ln lc) mV n (c + 1) (ws.set x (c + 1)) (bs.set x (c + 1)) (.slice (some ⟨gg, 0, none⟩) 1 cg) (.slice (some ⟨gh, 0, none⟩) 1 ch) [((x : Int), 0)] [(x : Int)]) := ⟨fun Y h => ⟨h.oneWay.1, h.oneWay.2.1, h⟩⟩
      have HT : Bx (∀ Y, SrS w0 Y s0 s1 sb wb bb rb (.slice la ln lc) mV n (c + 1) (ws.set x (c + 1)) (bs.set x (c + 1)) (.slice (some ⟨gg, 0, none⟩) 1 cg) (.slice (some ⟨gh, 0, none⟩) 1 ch) [((x : Int), 0)] [(x : Int)] → SrS w0 (Y.setCell ⟨gg, 1, none⟩ (.int .i64 1)) s0 s1 sb wb bb rb (.slice la ln lc) mV n (c + 1) (ws.set x (c + 1)) (bs.set x (c + 1)) (.slice (some ⟨gg, 0, none⟩) 1 cg) (.slice (some ⟨gh, 0, none⟩) 1 ch) [((x : Int), 1)] [(x : Int)] ∧ Y.cell? ⟨gg, 0, none⟩ = some (.int .i64 x) ∧ Y.cell? ⟨gg, 1, none⟩ = some (.int .i64 0) ∧ Y.frozen? ⟨gg, 1, none⟩ = false ∧ gg < Y.heap.size) := ⟨fun Y h => ⟨h.oneWay.2.2.2.2.2.2.2.2 1, h.oneWay.1, h.oneWay.2.1, h.oneWay.2.2.2.2.2.2.1 1, h.oneWay.2.2.2.2.2.1⟩⟩
      have HLV : Bx (∀ Y, SrS w0 Y s0 s1 sb wb bb rb (.slice la ln lc) mV n (c + 1) (ws.set x (c + 1)) (bs.set x (c + 1)) (.slice (some ⟨gg, 0, none⟩) 1 cg) (.slice (some ⟨gh, 0, none⟩) 1 ch) [((x : Int), 1)] [(x : Int)] → Calls Tryd.prog 42 #[.pointer (some ⟨sb, 0, none⟩), .int .i64 x] Y fun e w' => e = .returned (.tuple #[]) ∧ Bx (SrS w0 w' s0 s1 sb wb bb rb (.slice la ln lc) mV n (c + 1) (ws.set x (n + 1)) (bs.set x (c + 1)) (.slice (some ⟨gg, 0, none⟩) 0 cg) (.slice (some ⟨gh, 0, none⟩) 0 ch) [] [])) := ⟨fun Y h => by
        have := leave_leaf x gg cg gh ch ln lc 1 (c + 1) la h hx hn hln HLB.out HX.out.2.1 HX.out.2.2
        rw [HX.out.1] at this
        exact this⟩
      clear A1
      go_wp2_with fail
      go_region_held (fun w' => w'.cell? ⟨gg, 0, none⟩ = some (.int .i64 x) ∧ w'.cell? ⟨gg, 1, none⟩ = some (.int .i64 0) ∧ SrS w0 w' s0 s1 sb wb bb rb (.slice la ln lc) mV n (c + 1) (ws.set x (c + 1)) (bs.set x (c + 1)) (.slice (some ⟨gg, 0, none⟩) 1 cg) (.slice (some ⟨gh, 0, none⟩) 1 ch) [((x : Int), 0)] [(x : Int)])
        (first | exact HK.out _ A2.out | exact HK.out _ B5.out)
        (first | (go_at_call 41; refine Calls.mono (HLB.out _ (by first | exact B5.out.bel | exact A2.out.bel) (by first | exact B5.out.eight.1 | exact A2.out.eight.1) _) ?_; rintro e w5 ⟨rfl, hb5⟩; have B5 : Bx (SrS w0 w5 s0 s1 sb wb bb rb (.slice la ln lc) mV n (c + 1) (ws.set x (c + 1)) (bs.set x (c + 1)) (.slice (some ⟨gg, 0, none⟩) 1 cg) (.slice (some ⟨gh, 0, none⟩) 1 ch) [((x : Int), 0)] [(x : Int)]) := ⟨A2.out.ext hb5⟩; clear hb5))
      all_goals
        obtain ⟨t1, t2, t3, t4, t5⟩ := HT.out _ B5.out
        have HL1 : Bx _ := ⟨HLV.out _ t1⟩
        clear t1 HLV HT HK A2 B5
        go_wp2_with (first | (go_at_call 42; refine Calls.mono HL1.out ?_; rintro e w6 ⟨rfl, HB6⟩))
        go_roundg 0
        case measure => omega
        case rel => exact .inr ⟨rfl, HB6⟩
    · obtain ⟨e0, e1, e2, e3, e4, e5, e6, e7, ef, el⟩ := HQ.out.eight
      clear e0 e1 e2 e3 e4 e5 e7 ef
      go_wp2
      go_end0
      exact ⟨rfl, ⟨_, _, HQ.out⟩⟩
end Go.Proofs.YtllgaholkminnaaDoor
