import Derived.Test.YteinpijbdgcehaaCOLc
import Derived.Laws.OwnMore
import Derived.Deep.RegionLaw
namespace Go.Proofs.Yteinpijbdgcehaa
open Go.RowKit Go.Shelf
set_option linter.unusedVariables false
set_option linter.unusedSimpArgs false

/-! ### the row of arms -/
structure RwA (W : World) (B : Nat → Nat) (l : List OWt) (rb : Nat) : Prop where
  at_ : ∀ j, j < l.length → W.cell? ⟨rb, j, none⟩ = some (.slice (some ⟨B j, 0, none⟩) ((armsOf l j).length + 1) ((armsOf l j).length + 1))
  ne : ∀ j, j < l.length → B j ≠ rb
theorem rowC_at (B : Nat → Nat) (f : Nat → List OArm) (n j : Nat) (h : j < n) : (rowC B f n)[j]? = some (.slice (some ⟨B j, 0, none⟩) ((f j).length + 1) ((f j).length + 1)) := by
  unfold rowC
  simp [h]
theorem rw_of {W : World} {ab : Nat} {B : Nat → Nat} {l : List OWt} {rv : Value} {f : Nat → List OArm} (hl : Ln W ab B l f l.length) (h : W.ownsRow (ab + 1) 36 1 rv l.length (rowC B (armsOf l) l.length)) (h0 : 0 < l.length) :
    ∃ rb rc, rv = .slice (some ⟨rb, 0, none⟩) l.length rc ∧ l.length ≤ rc ∧ rc ≤ maxLen ∧ RwA W B l rb := by
  have h' := h
  rcases h.2 with ⟨_, h2⟩ | ⟨g, cap, cur, rfl, h3, h4, h5, h6, _⟩
  · omega
  · refine ⟨g, cap, rfl, h5, h6, fun j hj => ?_, fun j hj e => ?_⟩
    · exact (h'.cellAt j (by omega)).trans (rowC_at _ _ _ _ hj)
    · have := hl.vs j hj
      rw [e, h4] at this
      simp at this
theorem RwA.keep {W W' : World} {B : Nat → Nat} {l : List OWt} {rb : Nat} (h : RwA W B l rb) (hk : W'.heap[rb]? = W.heap[rb]?) : RwA W' B l rb :=
  ⟨fun j hj => by rw [World.cell?_of_block (w := W) (a := ⟨rb, j, none⟩) hk]; exact h.at_ j hj, h.ne⟩
def RwV (W : World) (B : Nat → Nat) (l : List OWt) (rv : Value) : Prop := ∀ rb rc, rv = .slice (some ⟨rb, 0, none⟩) l.length rc → RwA W B l rb
theorem rwv_of {W : World} {ab : Nat} {B : Nat → Nat} {l : List OWt} {rv : Value} {f : Nat → List OArm} (hl : Ln W ab B l f l.length) (h : W.ownsRow (ab + 1) 36 1 rv l.length (rowC B (armsOf l) l.length)) : RwV W B l rv := fun rb rc e => by
  by_cases h0 : 0 < l.length
  · obtain ⟨rb', rc', e', _, _, h'⟩ := rw_of hl h h0
    rw [e] at e'
    cases e'
    exact h'
  · exact ⟨fun j hj => by omega, fun j hj => by omega⟩
/-! ### turned as far as arm k of waiter i -/
def ff (l : List OWt) (i k j : Nat) : List OArm := if j < i then (armsOf l j).map oturnA else if j = i then ((armsOf l j).take k).map oturnA ++ (armsOf l j).drop k else armsOf l j
theorem ff_zero (l : List OWt) : ff l 0 0 = armsOf l := by
  funext j
  unfold ff
  by_cases e : j = 0 <;> simp [e]
theorem ff_next (l : List OWt) (i : Nat) : ff l i (armsOf l i).length = ff l (i + 1) 0 := by
  funext j
  unfold ff
  by_cases h1 : j < i
  · rw [if_pos h1, if_pos (by omega)]
  · rw [if_neg h1]
    by_cases h2 : j = i
    · subst h2; rw [if_pos rfl, if_pos (by omega)]; simp
    · rw [if_neg h2, if_neg (by omega)]
      by_cases h3 : j = i + 1
      · rw [if_pos h3]; simp
      · rw [if_neg h3]
theorem ff_len (l : List OWt) (i k j : Nat) : (ff l i k j).length = (armsOf l j).length := by
  unfold ff
  split
  · simp
  · split
    · simp; omega
    · rfl
theorem ff_at (l : List OWt) (i k : Nat) (h : k < (armsOf l i).length) (h' : k < (ff l i k i).length) : (ff l i k i)[k] = (armsOf l i)[k] := by
  have e : ff l i k i = ((armsOf l i).take k).map oturnA ++ (armsOf l i).drop k := by unfold ff; rw [if_neg (by omega), if_pos rfl]
  have hl : (((armsOf l i).take k).map oturnA).length = k := by simp; omega
  have : (ff l i k i)[k]? = (armsOf l i)[k]? := by
    rw [e, List.getElem?_append_right (by omega), hl, Nat.sub_self, List.getElem?_drop]
    simp
  rw [List.getElem?_eq_getElem h', List.getElem?_eq_getElem h] at this
  exact Option.some.inj this
theorem ff_set (l : List OWt) (i k : Nat) (h : k < (armsOf l i).length) (h' : k < (ff l i k i).length) : (fun j => if j = i then (ff l i k i).set k (oturnA (ff l i k i)[k]) else ff l i k j) = ff l i (k + 1) := by
  funext j
  by_cases e : j = i
  · subst e
    rw [if_pos rfl, ff_at l j k h h']
    have e1 : ff l j k j = ((armsOf l j).take k).map oturnA ++ (armsOf l j).drop k := by unfold ff; rw [if_neg (by omega), if_pos rfl]
    have e2 : ff l j (k + 1) j = ((armsOf l j).take (k + 1)).map oturnA ++ (armsOf l j).drop (k + 1) := by unfold ff; rw [if_neg (by omega), if_pos rfl]
    have hl : (((armsOf l j).take k).map oturnA).length = k := by simp; omega
    rw [e1, e2, List.set_append_right _ _ (by omega), hl, Nat.sub_self, List.drop_eq_getElem_cons h, List.take_succ_eq_append_getElem h, List.set_cons_zero, List.map_append, List.append_assoc]
    rfl
  · rw [if_neg e]
    unfold ff
    by_cases h1 : j < i
    · rw [if_pos h1, if_pos h1]
    · rw [if_neg h1, if_neg h1, if_neg e, if_neg e]
theorem Ln.turn {W : World} {ab : Nat} {B : Nat → Nat} {l : List OWt} {i k : Nat} (h : Ln W ab B l (ff l i k) l.length) (hi : i < l.length) (hk : k < (armsOf l i).length) :
    Ln (W.setCell ⟨B i, k * 5 + 1, none⟩ (.bool (!((armsOf l i)[k]).send))) ab B l (ff l i (k + 1)) l.length := by
  have h' : k < (ff l i k i).length := by rw [ff_len]; exact hk
  have := h.flip hi h'
  rw [ff_set l i k hk h'] at this
  rw [ff_at l i k hk h'] at this
  exact this
theorem Ln.send {W : World} {ab : Nat} {B : Nat → Nat} {l : List OWt} {i k : Nat} (h : Ln W ab B l (ff l i k) l.length) (hi : i < l.length) (hk : k < (armsOf l i).length) : W.cell? ⟨B i, k * 5 + 1, none⟩ = some (.bool ((armsOf l i)[k]).send) ∧ ∀ j, W.frozen? ⟨B i, j, none⟩ = false := by
  have h' : k < (ff l i k i).length := by rw [ff_len]; exact hk
  have hv := h.vs i hi
  refine ⟨cell_of hv ?_, fun j => by simp [World.frozen?, hv]⟩
  rw [List.getElem?_toArray, List.getElem?_append_left (by rw [armsC_len]; omega), armsC_at _ k h' 1 (by omega), ff_at l i k hk h']
  rfl
theorem turnL_at (l : List OWt) (j : Nat) (h : j < l.length) (h' : j < (turnL l).length) : (turnL l)[j] = oturnW l[j] := by simp [turnL]
/-- the list turned, in memory -/
theorem Ln.turned {W w : World} {ab c : Nat} {Pr : Nat → Prop} {p : Option Addr} {B : Nat → Nat} {l : List OWt} (h : Ln W ab B l (ff l l.length 0) l.length) (hw : WsIn w Pr p c l) (hs : l.length + tot l ≤ 4000) :
    WsIn W (fun b => b = ab ∨ ∃ j, j < l.length ∧ b = B j) (some ⟨ab, 0, none⟩) (l.length + 1) (turnL l) ∧ ∀ b, (b = ab ∨ ∃ j, j < l.length ∧ b = B j) → ∃ o : Obj, W.heap[b]? = some o ∧ o.isCells = true := by
  refine h.ws (by simp [turnL]) (by omega) (fun j hj hj' => ?_)
  have e : ff l l.length 0 j = l[j].arms.map oturnA := by unfold ff; rw [if_pos hj, armsOf_at l j hj]
  obtain ⟨b, o, q, d, _, _, _, _, hA, h64⟩ := hw.at_ j hj
  rw [turnL_at l j hj hj', e]
  refine ⟨rfl, rfl, h64, ?_, fun k hk => ?_⟩
  · have := tot_le l j hj
    simp; omega
  · have hk' : k < l[j].arms.length := by simpa using hk
    obtain ⟨_, _, _, _, ha⟩ := hA.at_ k hk'
    have := ha.n64
    simpa [oturnA] using this
theorem turn_sr (l : List OWt) (h : tot l ≤ 4000) : (spotsP prR (turnL l)).length ≤ 1000000 := by have := spots_len prR (turnL l); rw [turn_tot] at this; omega
theorem turn_mem_at (l : List OWt) {i : Nat} (h : i < (opairs (turnL l)).length) : ∃ k, ∃ hk : k < (opairs l).length, (opairs l)[k] = oswap (opairs (turnL l))[i] := by
  obtain ⟨k, hk, e⟩ := List.mem_iff_getElem.1 (turn_mem l (List.getElem_mem h))
  exact ⟨k, hk, e⟩
/-! ### one fewer -/
/-- the cells of a list in memory -/
structure Cel (W : World) (Pr : Nat → Prop) (l : List OWt) (cs : List Value) : Prop where
  len : cs.length = l.length * 2
  at_ : ∀ i (h : i < l.length), ∃ q d, cs[i * 2]? = some (.int .i64 l[i].id) ∧ cs[i * 2 + 1]? = some (.slice q l[i].arms.length d) ∧ ArmsIn W Pr q d l[i].arms ∧ I64 l[i].id
theorem Cel.keep {Pr : Nat → Prop} {w W : World} {l : List OWt} {cs : List Value} (h : Cel w Pr l cs) (k : Kpt Pr w W) : Cel W Pr l cs :=
  ⟨h.len, fun i hi => by obtain ⟨q, d, h1, h2, h3, h4⟩ := h.at_ i hi; exact ⟨q, d, h1, h2, h3.keep k, h4⟩⟩
theorem Cel.one {Pr : Nat → Prop} {w : World} {l : List OWt} {cs : List Value} (h : Cel w Pr l cs) : ∀ u ∈ cs, u.oneCell' = true := fun u hu => by
  obtain ⟨j, hj, e⟩ := List.mem_iff_getElem.1 hu
  have hl := h.len
  obtain ⟨q, d, h1, h2, _, _⟩ := h.at_ (j / 2) (by omega)
  have e' : cs[j]? = some u := by rw [List.getElem?_eq_getElem hj, e]
  by_cases h0 : j % 2 = 0
  · rw [show j / 2 * 2 = j by omega, e'] at h1
    cases h1; rfl
  · rw [show j / 2 * 2 + 1 = j by omega, e'] at h2
    cases h2; rfl
theorem WsIn.cel {Pr : Nat → Prop} {w : World} {p : Option Addr} {c : Nat} {l : List OWt} (h : WsIn w Pr p c l) (h0 : 0 < l.length) : ∃ b o cs, p = some ⟨b, o, none⟩ ∧ Cel w Pr l cs ∧ Pr b ∧ ∀ j u, cs[j]? = some u → w.cell? ⟨b, o + j, none⟩ = some u := by
  obtain ⟨b, o, q0, d0, rfl, hb, _⟩ := h.at_ 0 h0
  have hx : ∀ j, j < l.length * 2 → ∃ u, w.cell? ⟨b, o + j, none⟩ = some u := fun j hj => by
    obtain ⟨b', o', q, d, e, _, h1, h2, _⟩ := h.at_ (j / 2) (by omega)
    cases e
    by_cases h0 : j % 2 = 0
    · exact ⟨_, by rw [show o + j = o + j / 2 * 2 by omega]; exact h1⟩
    · exact ⟨_, by rw [show o + j = o + j / 2 * 2 + 1 by omega]; exact h2⟩
  have hcs : ∀ j, j < l.length * 2 → ((List.range (l.length * 2)).map fun j => (w.cell? ⟨b, o + j, none⟩).getD (.bool false))[j]? = w.cell? ⟨b, o + j, none⟩ := fun j hj => by
    obtain ⟨u, hu⟩ := hx j hj
    simp [hj, hu]
  refine ⟨b, o, (List.range (l.length * 2)).map fun j => (w.cell? ⟨b, o + j, none⟩).getD (.bool false), rfl, ⟨by simp, fun i hi => ?_⟩, hb, fun j u hj => ?_⟩
  · obtain ⟨b', o', q, d, e, _, h1, h2, h3, h4⟩ := h.at_ i hi
    cases e
    exact ⟨q, d, by rw [hcs _ (by omega)]; exact h1, by rw [hcs _ (by omega), ← Nat.add_assoc]; exact h2, h3, h4⟩
  · have hj' : j < l.length * 2 := by have := (List.getElem?_eq_some_iff.1 hj).1; simpa using this
    rw [← hcs j hj']; exact hj
/-- a row that owns the cells of the list without its n-th -/
theorem left_ws {W : World} {Pr : Nat → Prop} {l : List OWt} {cs : List Value} {base : Nat} {v : Value} {n : Nat} (hc : Cel W Pr l cs) (hn : n < l.length) (h : W.ownsRow base 38 2 v (l.length - 1) (cs.take (n * 2) ++ cs.drop ((n + 1) * 2))) (hPr : ∀ b, Pr b → ∃ o : Obj, W.heap[b]? = some o ∧ o.isCells = true) :
    ∃ p c, v = .slice p (l.take n ++ l.drop (n + 1)).length c ∧ WsIn W (fun b => Pr b ∨ v.ownBlock = some b) p c (l.take n ++ l.drop (n + 1)) ∧ ∀ b, (Pr b ∨ v.ownBlock = some b) → ∃ o : Obj, W.heap[b]? = some o ∧ o.isCells = true := by
  have hlen : (l.take n ++ l.drop (n + 1)).length = l.length - 1 := by simp; omega
  have hX : ∀ b, (Pr b ∨ v.ownBlock = some b) → ∃ o : Obj, W.heap[b]? = some o ∧ o.isCells = true := fun b hb => by
    rcases hb with hb | hb
    · exact hPr b hb
    · exact own_cells h hb
  have hcl := hc.len
  rcases h.2 with ⟨rfl, h2⟩ | ⟨g, cap, cur, rfl, h3, h4, h5, h6, _⟩
  · exact ⟨none, 0, by rw [hlen, h2], ⟨by rw [hlen]; omega, by simp [maxLen], fun i hi => by rw [hlen] at hi; omega⟩, hX⟩
  · refine ⟨some ⟨g, 0, none⟩, cap, by rw [hlen], ⟨by rw [hlen]; exact h5, h6, fun i hi => ?_⟩, hX⟩
    have hi' : i < l.length - 1 := by rw [hlen] at hi; exact hi
    have hcell : ∀ j, j < (l.length - 1) * 2 → W.cell? ⟨g, j, none⟩ = (cs.take (n * 2) ++ cs.drop ((n + 1) * 2))[j]? := fun j hj => h.cellAt j hj
    have htk : (cs.take (n * 2)).length = n * 2 := by simp; omega
    by_cases hin : i < n
    · obtain ⟨q, d, k1, k2, k3, k4⟩ := hc.at_ i (by omega)
      have e : (l.take n ++ l.drop (n + 1))[i] = l[i] := by rw [List.getElem_append_left (by simp; omega)]; simp
      rw [e]
      refine ⟨g, 0, q, d, rfl, .inr rfl, ?_, ?_, k3.mono (fun b hb => .inl hb), k4⟩
      · rw [Nat.zero_add, hcell _ (by omega), List.getElem?_append_left (by omega), List.getElem?_take, if_pos (by omega)]; exact k1
      · rw [Nat.zero_add, hcell _ (by omega), List.getElem?_append_left (by omega), List.getElem?_take, if_pos (by omega)]; exact k2
    · obtain ⟨q, d, k1, k2, k3, k4⟩ := hc.at_ (i + 1) (by omega)
      have e : (l.take n ++ l.drop (n + 1))[i] = l[i + 1] := by
        have : (l.take n ++ l.drop (n + 1))[i]? = l[i + 1]? := by
          have hl : (l.take n).length = n := by simp; omega
          rw [List.getElem?_append_right (by omega), hl, List.getElem?_drop]
          congr 1; omega
        rw [List.getElem?_eq_getElem hi, List.getElem?_eq_getElem (by omega)] at this
        exact Option.some.inj this
      rw [e]
      refine ⟨g, 0, q, d, rfl, .inr rfl, ?_, ?_, k3.mono (fun b hb => .inl hb), k4⟩
      · rw [Nat.zero_add, hcell _ (by omega), List.getElem?_append_right (by omega), htk, List.getElem?_drop, show (n + 1) * 2 + (i * 2 - n * 2) = (i + 1) * 2 by omega]; exact k1
      · rw [Nat.zero_add, hcell _ (by omega), List.getElem?_append_right (by omega), htk, List.getElem?_drop, show (n + 1) * 2 + (i * 2 + 1 - n * 2) = (i + 1) * 2 + 1 by omega]; exact k2
theorem grown_bel {w W W' : World} {row : Option Nat} (h : Below w.heap.size w W) (hg : W.grownBy W' row) (hrow : ∀ k, row = some k → w.heap.size ≤ k) : Below w.heap.size w W' :=
  ⟨hg.os.trans h.os, hg.tape.trans h.tape, hg.output.trans h.output, Nat.le_trans h.size hg.size, fun b hb => (hg.block b (Nat.lt_of_lt_of_le hb h.size) (fun e => by have := hrow b e.symm; omega)).trans (h.block b hb)⟩
theorem own_new0 (w : World) (t : TypeId) (s : Nat) : ((w.alloc (.cells #[] t)).drew).ownsRow w.heap.size t s (.slice (some ⟨w.heap.size, 0, none⟩) 0 0) 0 [] :=
  ⟨by simp, .inr ⟨w.heap.size, 0, #[], rfl, Nat.le_refl _, World.alloc_heap_new w (.cells #[] t), Nat.le_refl _, by simp [maxLen], by simp, by simp⟩⟩
theorem Cel.src1 {w X : World} {Pr : Nat → Prop} {l : List OWt} {cs : List Value} {b o n : Nat} (h : ∀ j u, cs[j]? = some u → X.cell? ⟨b, o + j, none⟩ = some u) : 0 < n → ∃ ad, some (⟨b, o, none⟩ : Addr) = some ad ∧ ∀ j u, (cs.take (n * 2))[j]? = some u → X.cell? (ad.add j) = some u := fun _ =>
  ⟨_, rfl, fun j u hj => by
    rw [List.getElem?_take] at hj
    split at hj
    · have := h j u hj
      cases j <;> simpa [Addr.add] using this
    · cases hj⟩
theorem Cel.src2 {w X : World} {Pr : Nat → Prop} {l : List OWt} {cs : List Value} {b o n L c : Nat} (hL : L ≤ c) (h : ∀ j u, cs[j]? = some u → X.cell? ⟨b, o + j, none⟩ = some u) : 0 < L - (n + 1) → ∃ ad, (if c = n + 1 then some (⟨b, o, none⟩ : Addr) else some ⟨b, o + (n + 1) * 2, none⟩) = some ad ∧ ∀ j u, (cs.drop ((n + 1) * 2))[j]? = some u → X.cell? (ad.add j) = some u := fun h0 =>
  ⟨⟨b, o + (n + 1) * 2, none⟩, by rw [if_neg (by omega)], fun j u hj => by
    rw [List.getElem?_drop] at hj
    have := h _ u hj
    rw [← Nat.add_assoc] at this
    cases j <;> simpa [Addr.add] using this⟩
theorem run_append_zero {P : Program} {w : World} (base : Nat) (t ty e : TypeId) (i : TypeInfo) (size : Nat) (ht : P.underlying t = some (.slice e)) (hi : P.info? e = some i)
    (v : Value) (n : Nat) (xs : List Value) (hown : w.ownsRow base e size v n xs) (p : Option Addr) (c : Nat) :
    (Builtin.append_ #[t, t] ty #[v, .slice p 0 c]).run P w = .ok v w := by
  have hl : ∀ a : Addr, (Go.loadCells a 0).run P w = .ok #[] w := fun a => by
    have := run_loadCells_list (P := P) w a [] (by simp)
    simpa using this
  rcases hown.2 with ⟨rfl, rfl⟩ | ⟨g, cap, cur, rfl, _, _, hnc, _⟩
  · cases p <;> simp [Builtin.append_, run_underlying ht, sizeOf, typeInfo, hi, Builtin.lenOf, Builtin.firstCells, storeCells, hl]
  · cases p <;> simp [Builtin.append_, run_underlying ht, sizeOf, typeInfo, hi, Builtin.lenOf, Builtin.firstCells, storeCells, hl, hnc]
/-- append, a step of a drawn region -/
theorem step_app {P : Program} {ops : Array Oper} {o : Oper} {a : Act} {w : World} {K : Act → World → Prop} {Q : Exit → Act → World → Prop} {E : Prop}
    (hg : o.guard = none) (s x : Operand) (t : TypeId) (hop : o.op = Op.call { callee := Callee.builtin Builtin.append, args := #[s, x], argTypes := #[t, t] })
    (base : Nat) (e : TypeId) (i : TypeInfo) (z : Value) (size bytes : Nat) (h1 : P.underlying t = some (.slice e)) (h2 : P.info? e = some i) (h3 : i.zero = some z) (h4 : i.size = size) (h5 : i.bytes = bytes) (h6 : z.cells.size = size) (h7 : 0 < size)
    (v : Value) (k : Nat) (xs : List Value) (hs : a.eval s = v) (hown : w.ownsRow base e size v k xs) (p : Option Addr) (m c : Nat) (news : List Value) (hx : a.eval x = .slice p m c) (hn : news.length = m * size)
    (hc : 0 < m → ∃ ad, p = some ad ∧ ∀ j u, news[j]? = some u → w.cell? (ad.add j) = some u) (h1c : ∀ u ∈ news, u.oneCell' = true) (b1 : k + m ≤ maxLen) (b2 : (k + m) * bytes ≤ 140737488355328) (b3 : base ≤ w.heap.size)
    (hK : ∀ v' w', w'.ownsRow base e size v' (k + m) (xs ++ news) → w.grownBy w' v.ownBlock → (v'.ownBlock = v.ownBlock ∨ v'.ownBlock = some w.heap.size) → K (a.put o.dst v') w') :
    if Region.wanted o (yielded ops a.tmps) = true then Oper.wp P o a w K Q else E := by
  have hw : Region.wanted o (yielded ops a.tmps) = true := by simp [Region.wanted, hg]
  rw [if_pos hw]
  by_cases b0 : 0 < m
  · obtain ⟨ad, rfl, hc'⟩ := hc b0
    obtain ⟨g, cap, w', hrun, r1, r2, r3, r4⟩ := run_append_lies (P := P) w t o.type base e i z size bytes h1 h2 h3 h4 h5 h6 h7 v k xs hown ad m c news hn hc' h1c b0 b1 b2 b3 w.heap.size rfl
    unfold Oper.wp
    simp [execOp, hop, resolve, invoke, builtin, hs, hx, hrun, Result.andThen]
    exact hK _ _ r1 r2 (by rcases r3 with r3 | rfl
                           · exact .inl r3.symm
                           · exact .inr rfl)
  · obtain rfl : m = 0 := by omega
    obtain rfl : news = [] := List.eq_nil_of_length_eq_zero (by omega)
    have hrun := run_append_zero (P := P) (w := w) base t o.type e i size h1 h2 v k xs hown p c
    unfold Oper.wp
    simp [execOp, hop, resolve, invoke, builtin, hs, hx, hrun, Result.andThen]
    exact hK v w (by simpa using hown) ⟨rfl, rfl, rfl, Nat.le_refl _, fun _ _ _ => rfl⟩ (.inl rfl)
theorem tot_without : ∀ (l : List OWt) (n : Nat), tot (l.take n ++ l.drop (n + 1)) ≤ tot l
  | [], n => by simp [tot]
  | x :: r, 0 => by simp [tot]
  | x :: r, n + 1 => by
    have := tot_without r n
    simp only [List.take_succ_cons, List.drop_succ_cons, List.cons_append, tot]
    omega
/-- what is left, held against what was -/
theorem left_same (l : List OWt) (n : Nat) (hn : n < l.length) : opairs (l.take n ++ l.drop (n + 1)) = (opairs l).filter (onot l[n].id) ∨ (opairs l).length = 0 := by
  by_cases hr : oright l = true
  · exact .inl (opairs_without l hr n l[n] (List.getElem?_eq_getElem hn))
  · right
    unfold opairs
    rw [if_neg hr]
    rfl
theorem same_any (Y : World) (p1 p2 : Option Addr) (c1 c2 : Nat) (ms fs zs : List OPr) (id : Int) (hf : zs.filter (onot id) = fs) (h : ms = fs ∨ zs.length = 0) (h1 : PrsAt Y p1 c1 ms) (h2 : PrsAt Y p2 c2 fs) :
    Calls Try.prog 20 #[.slice p1 ms.length c1, .slice p2 fs.length c2] Y fun e w' => ∃ fb, e = .returned (.bool fb) ∧ (fb = true ∨ zs.length = 0) ∧ Below Y.heap.size Y w' := by
  by_cases e : ms = fs
  · subst e
    exact (same_yes Y p1 p2 c1 c2 ms h1 h2).mono (by rintro e w' ⟨rfl, hb⟩; exact ⟨true, rfl, .inl rfl, hb⟩)
  · have h0 : zs.length = 0 := by rcases h with h | h; exact absurd h e; exact h
    have hf0 : fs = [] := by rw [← hf, List.eq_nil_of_length_eq_zero h0]; rfl
    have hne : ms.length ≠ fs.length := fun h => e (by rw [hf0] at h ⊢; exact List.eq_nil_of_length_eq_zero h)
    exact (same_no Y p1 p2 _ _ c1 c2 hne).mono (by rintro e w' ⟨rfl, hb⟩; exact ⟨false, rfl, .inr h0, hb⟩)
end Go.Proofs.Yteinpijbdgcehaa
