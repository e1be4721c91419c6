import Derived.Test.YtllgaholkminnaaDoorCKRow
namespace Go.Proofs.YtllgaholkminnaaDoor
open Go.RowKit
set_option linter.unusedVariables false
set_option linter.unusedSimpArgs false

/-- a row of bools that are false -/
structure BRow (W : World) (rb n : Nat) : Prop where
  ex : ∃ C : Array Value, W.heap[rb]? = some (.cells C 4 (0, 0)) ∧ C.size = n ∧ ∀ j, j < n → C[j]? = some (.bool false)
theorem BRow.cell {W : World} {fb n : Nat} (h : BRow W fb n) (j : Nat) (hj : j < n) : W.cell? ⟨fb, j, none⟩ = some (.bool false) := by
  obtain ⟨C, h1, h2, h3⟩ := h.ex
  rw [cell_of_row W fb j C 4 (0, 0) h1]
  exact h3 j hj
theorem BRow.frozen {W : World} {fb n : Nat} (h : BRow W fb n) (j : Nat) : W.frozen? ⟨fb, j, none⟩ = false := by
  obtain ⟨C, h1, _⟩ := h.ex
  simp [World.frozen?, h1]
theorem BRow.lt {W : World} {fb n : Nat} (h : BRow W fb n) : fb < W.heap.size := by
  obtain ⟨C, h1, _⟩ := h.ex
  exact (Array.getElem?_eq_some_iff.1 h1).1
theorem BRow.same {W W' : World} {fb n : Nat} (h : BRow W fb n) (hb : W'.heap[fb]? = W.heap[fb]?) : BRow W' fb n := by
  obtain ⟨C, h1, h2⟩ := h.ex
  exact ⟨C, by rw [hb]; exact h1, h2⟩
theorem BRow.set {W : World} {fb n : Nat} (h : BRow W fb n) (i : Nat) : BRow (W.setCell ⟨fb, i, none⟩ (.bool false)) fb n := by
  obtain ⟨C, h1, h2, h3⟩ := h.ex
  refine ⟨C.setIfInBounds i (.bool false), heap_setCell_same W fb i C 4 _ h1, by simp [h2], fun j hj => ?_⟩
  rw [Array.getElem?_setIfInBounds]
  by_cases e : i = j
  · rw [if_pos e, if_pos (by omega)]
  · rw [if_neg e, h3 j hj]
theorem infoBool : (Tryd.prog.info? 4).map (fun i => (i.zero, i.size, i.bytes)) = some (some (.bool false), 1, 1) := by kernel_rfl
def falses (N : Nat) : Array Value := madeCells #[.bool false] (N * 1)
theorem make_bools (w : World) (N : Nat) (hN : N ≤ 2147483647) : (Instr.makeSlice 58 (.int .i64 N) (.int .i64 N)).run Tryd.prog w = .ok (.slice (some ⟨w.heap.size, 0, none⟩) N N) (w.alloc (.cells (falses N) 4)) := by
  obtain ⟨i0, hi, hz0, hz1, hz2⟩ := info_parts infoBool
  have := run_make (P := Tryd.prog) w 58 4 i0 (.bool false) Tryd.underlying58 hi hz0 .i64 .i64 (N : Int) (N : Int) (by omega) (by omega) (by rw [hz2]; omega) (by omega)
  rw [hz1] at this
  simpa [falses, Value.cells] using this
theorem brow_new (w : World) (N : Nat) : BRow (w.alloc (.cells (falses N) 4)) w.heap.size N := by
  refine ⟨falses N, heap_alloc_new w _, by simp [falses, madeCells], fun j hj => ?_⟩
  simp [falses, madeCells, hj, Nat.mod_one]

def intsL (xs : List Int) : List Value := xs.map fun x => Value.int .i64 x
def stepsL (ss : List (Int × Int)) : List Value := ss.flatMap fun p => [.int .i64 p.1, .int .i64 p.2]
def slV (b n : Nat) : Value := .slice (some ⟨b, 0, none⟩) n n
def srO (lV mV : Value) (wb bb rb n : Nat) (c : Int) (wy gr : Value) : Obj := .cells #[lV, mV, slV wb n, slV bb n, slV rb n, .int .i64 c, wy, gr] 71 (0, 0)
/-- the search in memory -/
structure SrS (w0 W : World) (s0 s1 sb wb bb rb : Nat) (lV mV : Value) (n : Nat) (c : Int) (ws bs : List Int) (wy gr : Value) (ss : List (Int × Int)) (gs : List Int) : Prop where
  bel : Below s0 w0 W
  blk : W.heap[sb]? = some (srO lV mV wb bb rb n c wy gr)
  wrow : IRow W wb ws
  wlen : ws.length = n
  brow : IRow W bb bs
  blen : bs.length = n
  rrow : BRow W rb n
  way : W.ownsRow s1 81 2 wy ss.length (stepsL ss)
  grp : W.ownsRow s1 3 1 gr gs.length (intsL gs)
  ne1 : sb ≠ wb
  ne2 : sb ≠ bb
  ne3 : sb ≠ rb
  ne4 : wb ≠ bb
  ne5 : wb ≠ rb
  ne6 : bb ≠ rb
  l1 : sb < s1
  l2 : wb < s1
  l3 : bb < s1
  l4 : rb < s1
  h1 : s0 ≤ sb
  h2 : s0 ≤ wb
  h3 : s0 ≤ bb
  h4 : s0 ≤ rb
  sz : s1 ≤ W.heap.size
variable {w0 W : World} {s0 s1 sb wb bb rb : Nat} {lV mV : Value} {n : Nat} {c : Int} {ws bs : List Int} {wy gr : Value} {ss : List (Int × Int)} {gs : List Int}
/-- blocks that are not the search's may turn -/
theorem SrS.ext {W' : World} (h : SrS w0 W s0 s1 sb wb bb rb lV mV n c ws bs wy gr ss gs) (hb : Below W.heap.size W W') : SrS w0 W' s0 s1 sb wb bb rb lV mV n c ws bs wy gr ss gs := by
  have hs := h.sz
  have l1 := h.l1
  have l2 := h.l2
  have l3 := h.l3
  have l4 := h.l4
  have h1 := h.h1
  exact ⟨h.bel.trans (hb.mono (by omega)), by rw [hb.block _ (by omega)]; exact h.blk, h.wrow.below hb, h.wlen, h.brow.below hb, h.blen, h.rrow.same (hb.block _ (by omega)), owns_same h.way fun g _ hg => hb.block g hg, owns_same h.grp fun g _ hg => hb.block g hg, h.ne1, h.ne2, h.ne3, h.ne4, h.ne5, h.ne6, h.l1, h.l2, h.l3, h.l4, h.h1, h.h2, h.h3, h.h4, Nat.le_trans hs hb.size⟩
theorem SrS.setW (h : SrS w0 W s0 s1 sb wb bb rb lV mV n c ws bs wy gr ss gs) (i : Nat) (x : Int) (hi : i < n) : SrS w0 (W.setCell ⟨wb, i, none⟩ (.int .i64 x)) s0 s1 sb wb bb rb lV mV n c (ws.set i x) bs wy gr ss gs := by
  have ho := Only.set wb W i (.int .i64 x)
  have l2 := h.l2
  exact ⟨ho.bel _ _ h.h2 h.bel, by rw [ho.block _ h.ne1]; exact h.blk, h.wrow.set i x (by rw [h.wlen]; exact hi), by simpa using h.wlen, h.brow.same (ho.block _ h.ne4.symm), h.blen, h.rrow.same (ho.block _ h.ne5.symm), owns_same h.way fun g hg _ => ho.block g (by omega), owns_same h.grp fun g hg _ => ho.block g (by omega), h.ne1, h.ne2, h.ne3, h.ne4, h.ne5, h.ne6, h.l1, h.l2, h.l3, h.l4, h.h1, h.h2, h.h3, h.h4, by rw [ho.size]; exact h.sz⟩
theorem SrS.setB (h : SrS w0 W s0 s1 sb wb bb rb lV mV n c ws bs wy gr ss gs) (i : Nat) (x : Int) (hi : i < n) : SrS w0 (W.setCell ⟨bb, i, none⟩ (.int .i64 x)) s0 s1 sb wb bb rb lV mV n c ws (bs.set i x) wy gr ss gs := by
  have ho := Only.set bb W i (.int .i64 x)
  have l2 := h.l3
  exact ⟨ho.bel _ _ h.h3 h.bel, by rw [ho.block _ h.ne2]; exact h.blk, h.wrow.same (ho.block _ h.ne4), h.wlen, h.brow.set i x (by rw [h.blen]; exact hi), by simpa using h.blen, h.rrow.same (ho.block _ h.ne6.symm), owns_same h.way fun g hg _ => ho.block g (by omega), owns_same h.grp fun g hg _ => ho.block g (by omega), h.ne1, h.ne2, h.ne3, h.ne4, h.ne5, h.ne6, h.l1, h.l2, h.l3, h.l4, h.h1, h.h2, h.h3, h.h4, by rw [ho.size]; exact h.sz⟩
theorem SrS.setR (h : SrS w0 W s0 s1 sb wb bb rb lV mV n c ws bs wy gr ss gs) (i : Nat) : SrS w0 (W.setCell ⟨rb, i, none⟩ (.bool false)) s0 s1 sb wb bb rb lV mV n c ws bs wy gr ss gs := by
  have ho := Only.set rb W i (.bool false)
  have l2 := h.l4
  exact ⟨ho.bel _ _ h.h4 h.bel, by rw [ho.block _ h.ne3]; exact h.blk, h.wrow.same (ho.block _ h.ne5), h.wlen, h.brow.same (ho.block _ h.ne6), h.blen, h.rrow.set i, owns_same h.way fun g hg _ => ho.block g (by omega), owns_same h.grp fun g hg _ => ho.block g (by omega), h.ne1, h.ne2, h.ne3, h.ne4, h.ne5, h.ne6, h.l1, h.l2, h.l3, h.l4, h.h1, h.h2, h.h3, h.h4, by rw [ho.size]; exact h.sz⟩
theorem SrS.setC (h : SrS w0 W s0 s1 sb wb bb rb lV mV n c ws bs wy gr ss gs) (x : Int) : SrS w0 (W.setCell ⟨sb, 5, none⟩ (.int .i64 x)) s0 s1 sb wb bb rb lV mV n x ws bs wy gr ss gs := by
  have ho := Only.set sb W 5 (.int .i64 x)
  have l2 := h.l1
  exact ⟨ho.bel _ _ h.h1 h.bel, heap_setCell_same W sb 5 _ _ _ h.blk, h.wrow.same (ho.block _ h.ne1.symm), h.wlen, h.brow.same (ho.block _ h.ne2.symm), h.blen, h.rrow.same (ho.block _ h.ne3.symm), owns_same h.way fun g hg _ => ho.block g (by omega), owns_same h.grp fun g hg _ => ho.block g (by omega), h.ne1, h.ne2, h.ne3, h.ne4, h.ne5, h.ne6, h.l1, h.l2, h.l3, h.l4, h.h1, h.h2, h.h3, h.h4, by rw [ho.size]; exact h.sz⟩
theorem SrS.setWay (h : SrS w0 W s0 s1 sb wb bb rb lV mV n c ws bs wy gr ss gs) (v : Value) (tt : List (Int × Int)) (hv : W.ownsRow s1 81 2 v tt.length (stepsL tt)) : SrS w0 (W.setCell ⟨sb, 6, none⟩ v) s0 s1 sb wb bb rb lV mV n c ws bs v gr tt gs := by
  have ho := Only.set sb W 6 v
  have l2 := h.l1
  exact ⟨ho.bel _ _ h.h1 h.bel, heap_setCell_same W sb 6 _ _ _ h.blk, h.wrow.same (ho.block _ h.ne1.symm), h.wlen, h.brow.same (ho.block _ h.ne2.symm), h.blen, h.rrow.same (ho.block _ h.ne3.symm), owns_same hv fun g hg _ => ho.block g (by omega), owns_same h.grp fun g hg _ => ho.block g (by omega), h.ne1, h.ne2, h.ne3, h.ne4, h.ne5, h.ne6, h.l1, h.l2, h.l3, h.l4, h.h1, h.h2, h.h3, h.h4, by rw [ho.size]; exact h.sz⟩
theorem SrS.setGrp (h : SrS w0 W s0 s1 sb wb bb rb lV mV n c ws bs wy gr ss gs) (v : Value) (hs : List Int) (hv : W.ownsRow s1 3 1 v hs.length (intsL hs)) : SrS w0 (W.setCell ⟨sb, 7, none⟩ v) s0 s1 sb wb bb rb lV mV n c ws bs wy v ss hs := by
  have ho := Only.set sb W 7 v
  have l2 := h.l1
  exact ⟨ho.bel _ _ h.h1 h.bel, heap_setCell_same W sb 7 _ _ _ h.blk, h.wrow.same (ho.block _ h.ne1.symm), h.wlen, h.brow.same (ho.block _ h.ne2.symm), h.blen, h.rrow.same (ho.block _ h.ne3.symm), owns_same h.way fun g hg _ => ho.block g (by omega), owns_same hv fun g hg _ => ho.block g (by omega), h.ne1, h.ne2, h.ne3, h.ne4, h.ne5, h.ne6, h.l1, h.l2, h.l3, h.l4, h.h1, h.h2, h.h3, h.h4, by rw [ho.size]; exact h.sz⟩
theorem owns_ty {W : World} {B : Nat} {e e' : TypeId} {s s' : Nat} {v v' : Value} {n n' : Nat} {cs cs' : List Value} (h : W.ownsRow B e s v n cs) (h' : W.ownsRow B e' s' v' n' cs') (hne : e ≠ e') {g : Nat} (hg : v.ownBlock = some g) : v'.ownBlock ≠ some g := by
  intro e2
  rcases h.2 with ⟨rfl, _⟩ | ⟨x, cp, cur, rfl, _, hgg, _⟩
  · cases hg
  · rcases h'.2 with ⟨rfl, _⟩ | ⟨x', cp', cur', rfl, _, hgg', _⟩
    · cases e2
    · simp only [Value.ownBlock, Option.some.injEq] at hg e2
      subst hg
      subst e2
      rw [hgg] at hgg'
      simp only [Option.some.injEq, Obj.cells.injEq] at hgg'
      exact hne hgg'.2.1
/-- a step is appended behind the way -/
theorem SrS.pushWay {w8 : World} {o : Obj} {v : Value} {tt : List (Int × Int)} (h : SrS w0 W s0 s1 sb wb bb rb lV mV n c ws bs wy gr ss gs) (hg : (W.alloc o).grownBy w8 wy.ownBlock) (hown : w8.ownsRow s1 81 2 v tt.length (stepsL tt)) : SrS w0 (w8.setCell ⟨sb, 6, none⟩ v) s0 s1 sb wb bb rb lV mV n c ws bs v gr tt gs := by
  have hs := h.sz
  have l1 := h.l1
  have l2 := h.l2
  have l3 := h.l3
  have l4 := h.l4
  have h1 := h.h1
  have hz := hg.size
  simp at hz
  have hwl : ∀ g, wy.ownBlock = some g → s1 ≤ g := fun g hg => (owns_block h.way hg).1
  have same : ∀ x, x < W.heap.size → wy.ownBlock ≠ some x → w8.heap[x]? = W.heap[x]? := fun x hx hne => by rw [hg.block x (by simp; omega) (fun e => hne e.symm), (below1 W o).block x hx]
  have low : ∀ x, x < s1 → w8.heap[x]? = W.heap[x]? := fun x hx => same x (by omega) (fun e => by have := hwl x e; omega)
  have base : SrS w0 w8 s0 s1 sb wb bb rb lV mV n c ws bs v gr tt gs → SrS w0 (w8.setCell ⟨sb, 6, none⟩ v) s0 s1 sb wb bb rb lV mV n c ws bs v gr tt gs := fun q => q.setWay v tt hown
  have ho := Only.set sb w8 6 v
  have hgr : w8.ownsRow s1 3 1 gr gs.length (intsL gs) := by
    refine ⟨h.grp.1, ?_⟩
    rcases h.grp.2 with hn | ⟨g, cap, cur, rfl, hB, hgg, rest⟩
    · exact .inl hn
    · exact .inr ⟨g, cap, cur, rfl, hB, by rw [same g (Array.getElem?_eq_some_iff.1 hgg).1 (owns_ty h.grp h.way (by decide) rfl)]; exact hgg, rest⟩
  have hblk : w8.heap[sb]? = some (srO lV mV wb bb rb n c wy gr) := by rw [low _ l1]; exact h.blk
  exact ⟨ho.bel _ _ h.h1 ((h.bel.trans ((below1 W o).mono (by omega))).grown hg (by simp; omega) (fun k hk => by have := hwl k hk; omega)), heap_setCell_same w8 sb 6 _ _ _ hblk, h.wrow.same (by rw [ho.block _ h.ne1.symm, low _ l2]), h.wlen, h.brow.same (by rw [ho.block _ h.ne2.symm, low _ l3]), h.blen, h.rrow.same (by rw [ho.block _ h.ne3.symm, low _ l4]), owns_same hown fun g hg _ => ho.block g (by omega), owns_same hgr fun g hg _ => ho.block g (by omega), h.ne1, h.ne2, h.ne3, h.ne4, h.ne5, h.ne6, h.l1, h.l2, h.l3, h.l4, h.h1, h.h2, h.h3, h.h4, by rw [ho.size]; omega⟩
theorem SrS.pushGrp {w8 : World} {o : Obj} {v : Value} {hs' : List Int} (h : SrS w0 W s0 s1 sb wb bb rb lV mV n c ws bs wy gr ss gs) (hg : (W.alloc o).grownBy w8 gr.ownBlock) (hown : w8.ownsRow s1 3 1 v hs'.length (intsL hs')) : SrS w0 (w8.setCell ⟨sb, 7, none⟩ v) s0 s1 sb wb bb rb lV mV n c ws bs wy v ss hs' := by
  have hs := h.sz
  have l1 := h.l1
  have l2 := h.l2
  have l3 := h.l3
  have l4 := h.l4
  have h1 := h.h1
  have hz := hg.size
  simp at hz
  have hwl : ∀ g, gr.ownBlock = some g → s1 ≤ g := fun g hg => (owns_block h.grp hg).1
  have same : ∀ x, x < W.heap.size → gr.ownBlock ≠ some x → w8.heap[x]? = W.heap[x]? := fun x hx hne => by rw [hg.block x (by simp; omega) (fun e => hne e.symm), (below1 W o).block x hx]
  have low : ∀ x, x < s1 → w8.heap[x]? = W.heap[x]? := fun x hx => same x (by omega) (fun e => by have := hwl x e; omega)
  have ho := Only.set sb w8 7 v
  have hwy : w8.ownsRow s1 81 2 wy ss.length (stepsL ss) := by
    refine ⟨h.way.1, ?_⟩
    rcases h.way.2 with hn | ⟨g, cap, cur, rfl, hB, hgg, rest⟩
    · exact .inl hn
    · exact .inr ⟨g, cap, cur, rfl, hB, by rw [same g (Array.getElem?_eq_some_iff.1 hgg).1 (owns_ty h.way h.grp (by decide) rfl)]; exact hgg, rest⟩
  have hblk : w8.heap[sb]? = some (srO lV mV wb bb rb n c wy gr) := by rw [low _ l1]; exact h.blk
  exact ⟨ho.bel _ _ h.h1 ((h.bel.trans ((below1 W o).mono (by omega))).grown hg (by simp; omega) (fun k hk => by have := hwl k hk; omega)), heap_setCell_same w8 sb 7 _ _ _ hblk, h.wrow.same (by rw [ho.block _ h.ne1.symm, low _ l2]), h.wlen, h.brow.same (by rw [ho.block _ h.ne2.symm, low _ l3]), h.blen, h.rrow.same (by rw [ho.block _ h.ne3.symm, low _ l4]), owns_same hwy fun g hg _ => ho.block g (by omega), owns_same hown fun g hg _ => ho.block g (by omega), h.ne1, h.ne2, h.ne3, h.ne4, h.ne5, h.ne6, h.l1, h.l2, h.l3, h.l4, h.h1, h.h2, h.h3, h.h4, by rw [ho.size]; omega⟩
theorem SrS.eight (h : SrS w0 W s0 s1 sb wb bb rb lV mV n c ws bs wy gr ss gs) : W.cell? ⟨sb, 0, none⟩ = some lV ∧ W.cell? ⟨sb, 1, none⟩ = some mV ∧ W.cell? ⟨sb, 2, none⟩ = some (slV wb n) ∧ W.cell? ⟨sb, 3, none⟩ = some (slV bb n) ∧ W.cell? ⟨sb, 4, none⟩ = some (slV rb n) ∧ W.cell? ⟨sb, 5, none⟩ = some (.int .i64 c) ∧ W.cell? ⟨sb, 6, none⟩ = some wy ∧ W.cell? ⟨sb, 7, none⟩ = some gr ∧ (∀ i, W.frozen? ⟨sb, i, none⟩ = false) ∧ sb < W.heap.size := by
  have hc : ∀ i, W.cell? ⟨sb, i, none⟩ = (#[lV, mV, slV wb n, slV bb n, slV rb n, .int .i64 c, wy, gr] : Array Value)[i]? := fun i => cell_of_row W sb i _ _ (0, 0) h.blk
  exact ⟨hc 0, hc 1, hc 2, hc 3, hc 4, hc 5, hc 6, hc 7, fun i => by simp [World.frozen?, h.blk, srO], (Array.getElem?_eq_some_iff.1 h.blk).1⟩
end Go.Proofs.YtllgaholkminnaaDoor
