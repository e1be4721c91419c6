import Derived.Test.YteinpijbdgcehaaCOR0
namespace Go.Proofs.Yteinpijbdgcehaa
open Go.RowKit Go.Shelf
set_option linter.unusedVariables false
set_option linter.unusedSimpArgs false

/-! ### who receives where: the map of receivers -/
def grC (g : OGr) : List Value := [.int .i64 g.id, .slice g.gp g.places.length g.gc]
def grsC (l : List OGr) : List Value := l.flatMap grC
theorem grsC_len (l : List OGr) : (grsC l).length = l.length * 2 := by
  induction l with
  | nil => rfl
  | cons x xs ih => simp only [grsC, List.flatMap_cons, List.length_append] at ih ⊢; rw [ih]; simp [grC]; omega
theorem grsC_snoc (l : List OGr) (x : OGr) : grsC (l ++ [x]) = grsC l ++ grC x := by simp [grsC]
theorem grsC_at (l : List OGr) (i : Nat) (h : i < l.length) : (grsC l)[i * 2]? = some (.int .i64 l[i].id) ∧ (grsC l)[i * 2 + 1]? = some (.slice l[i].gp l[i].places.length l[i].gc) := by
  have e : l = l.take i ++ l[i] :: l.drop (i + 1) := by rw [← List.drop_eq_getElem_cons h, List.take_append_drop]
  have e2 : grsC l = grsC (l.take i) ++ (grC l[i] ++ grsC (l.drop (i + 1))) := (congrArg grsC e).trans (by simp only [grsC, List.flatMap_append, List.flatMap_cons])
  have hl : (grsC (l.take i)).length = i * 2 := by rw [grsC_len]; simp; omega
  rw [e2]
  constructor
  · rw [List.getElem?_append_right (by omega), hl, Nat.sub_self]; rfl
  · rw [List.getElem?_append_right (by omega), hl, show i * 2 + 1 - i * 2 = 1 by omega]; rfl
def plsC (l : List Nat) : List Value := l.map fun (j : Nat) => Value.int .i64 (j : Int)
theorem infoG : (Try.prog.info? 61).map (fun i => (i.zero, i.size, i.bytes)) = some (some (.agg #[.int .i64 0, .slice none 0 0]), 2, 32) := by kernel_rfl
theorem infoI : (Try.prog.info? 3).map (fun i => (i.zero, i.size, i.bytes)) = some (some (.int .i64 0), 1, 8) := by kernel_rfl
/-- a row's cells in memory -/
theorem own_cell {W : World} {base : Nat} {e : TypeId} {s g n c : Nat} {xs : List Value} (h : W.ownsRow base e s (.slice (some ⟨g, 0, none⟩) n c) n xs) {j : Nat} {u : Value} (hj : xs[j]? = some u) : W.cell? ⟨g, j, none⟩ = some u ∧ W.frozen? ⟨g, j, none⟩ = false := by
  obtain ⟨h1, h2⟩ := h
  rcases h2 with ⟨h2, _⟩ | ⟨g', cap, cur, e2, h3, h4, h5, h6, h7, h8⟩
  · cases h2
  · cases e2
    have hj2 : j < n * s := by rw [← h1]; exact (List.getElem?_eq_some_iff.1 hj).1
    have hc : cur[j]? = some u := by rw [← h8, List.getElem?_take_of_lt hj2, Array.getElem?_toList] at hj; exact hj
    exact ⟨cell_of h4 hc, by simp [World.frozen?, h4]⟩
theorem own_set {W : World} {base : Nat} {e : TypeId} {s g n c : Nat} {xs : List Value} (h : W.ownsRow base e s (.slice (some ⟨g, 0, none⟩) n c) n xs) {j : Nat} (hj : j < xs.length) (u : Value) : (W.setCell ⟨g, j, none⟩ u).ownsRow base e s (.slice (some ⟨g, 0, none⟩) n c) n (xs.set j u) := by
  obtain ⟨h1, h2⟩ := h
  rcases h2 with ⟨h2, _⟩ | ⟨g', cap, cur, e2, h3, h4, h5, h6, h7, h8⟩
  · cases h2
  · cases e2
    refine ⟨by simpa using h1, .inr ⟨g, c, cur.setIfInBounds j u, rfl, h3, ?_, h5, h6, by simpa using h7, ?_⟩⟩
    · simp [World.setCell, Array.getElem?_modify, h4]
    · rw [Array.toList_setIfInBounds, List.take_set, h8]
/-- the rows -/
structure RcR (W : World) (base : Nat) (own : Nat → Option (Int × Option Nat)) (M : Int → Value) (gs : Int → List OGr) : Prop where
  row : ∀ ch, W.ownsRow base 61 2 (M ch) (gs ch).length (grsC (gs ch))
  rl : ∀ ch b, (M ch).ownBlock = some b → own b = some (ch, none)
  prow : ∀ ch i (h : i < (gs ch).length), W.ownsRow base 3 1 (.slice (gs ch)[i].gp (gs ch)[i].places.length (gs ch)[i].gc) (gs ch)[i].places.length (plsC (gs ch)[i].places)
  pl : ∀ ch i (h : i < (gs ch).length) b, (Value.slice (gs ch)[i].gp (gs ch)[i].places.length (gs ch)[i].gc).ownBlock = some b → own b = some (ch, some i)
  cel : ∀ b, own b ≠ none → ∃ o : Obj, W.heap[b]? = some o ∧ o.isCells = true
  low : ∀ b, own b ≠ none → base ≤ b
theorem RcR.keep {W W' : World} {base : Nat} {own : Nat → Option (Int × Option Nat)} {M : Int → Value} {gs : Int → List OGr} (h : RcR W base own M gs) (hk : ∀ b o, own b ≠ none → W.heap[b]? = some o → W'.heap[b]? = some o) : RcR W' base own M gs :=
  ⟨fun ch => own_same (h.row ch) (fun g o hg ho => hk g o (by rw [h.rl ch g hg]; simp) ho), h.rl, fun ch i hi => own_same (h.prow ch i hi) (fun g o hg ho => hk g o (by rw [h.pl ch i hi g hg]; simp) ho), h.pl, fun b hb => by
    obtain ⟨o, h1, h2⟩ := h.cel b hb
    exact ⟨o, hk b o hb h1, h2⟩, h.low⟩
theorem RcR.grown {W W' : World} {base : Nat} {own : Nat → Option (Int × Option Nat)} {M : Int → Value} {gs : Int → List OGr} {row : Option Nat} (h : RcR W base own M gs) (hg : W.grownBy W' row) (hr : ∀ r, row = some r → own r = none) : RcR W' base own M gs :=
  h.keep (fun b o hb ho => grownBy_oth hg ho (fun e => hb (hr b e)))
def upd {α : Type} (f : Int → α) (ch : Int) (x : α) : Int → α := fun c => if c = ch then x else f c
theorem upd_same {α : Type} (f : Int → α) (ch : Int) (x : α) : upd f ch x ch = x := if_pos rfl
theorem upd_other {α : Type} (f : Int → α) {ch c : Int} (x : α) (h : c ≠ ch) : upd f ch x c = f c := if_neg h
/-- a label moves to another block -/
def relab (own : Nat → Option (Int × Option Nat)) (L : Int × Option Nat) (g : Nat) : Nat → Option (Int × Option Nat) := fun b => if b = g then some L else if own b = some L then none else own b
theorem relab_at (own : Nat → Option (Int × Option Nat)) (L : Int × Option Nat) (g : Nat) : relab own L g g = some L := if_pos rfl
theorem relab_other {own : Nat → Option (Int × Option Nat)} {L : Int × Option Nat} {g b : Nat} {L' : Int × Option Nat} (h : own b = some L') (hne : L' ≠ L) (hg : b ≠ g) : relab own L g b = some L' := by
  unfold relab
  rw [if_neg hg, if_neg (by rw [h]; exact fun e => hne (Option.some.inj e)), h]
theorem relab_some {own : Nat → Option (Int × Option Nat)} {L : Int × Option Nat} {g b : Nat} (h : relab own L g b ≠ none) : b = g ∨ own b ≠ none ∧ own b ≠ some L := by
  unfold relab at h
  split at h
  · exact .inl ‹_›
  · split at h
    · exact absurd rfl h
    · exact .inr ⟨h, ‹_›⟩
/-- a row of ours has grown, or has moved to a new block -/
structure Grew (W w4 : World) (own : Nat → Option (Int × Option Nat)) (L : Int × Option Nat) (v : Value) (g : Nat) : Prop where
  was : ∀ b, v.ownBlock = some b → own b = some L
  grown : W.grownBy w4 v.ownBlock
  at_ : v.ownBlock = some g ∨ W.heap.size ≤ g
  cell : ∃ o : Obj, w4.heap[g]? = some o ∧ o.isCells = true
theorem Grew.keep {W w4 : World} {own : Nat → Option (Int × Option Nat)} {L : Int × Option Nat} {v : Value} {g b : Nat} {o : Obj} (h : Grew W w4 own L v g) (hb : own b ≠ some L) (ho : W.heap[b]? = some o) : w4.heap[b]? = some o := grownBy_oth h.grown ho (fun e => hb (h.was b e))
theorem Grew.ne {W w4 : World} {own : Nat → Option (Int × Option Nat)} {L : Int × Option Nat} {v : Value} {g b : Nat} {o : Obj} (h : Grew W w4 own L v g) (hb : own b ≠ some L) (ho : W.heap[b]? = some o) : b ≠ g := fun e => by
  rcases h.at_ with h1 | h1
  · exact hb (by rw [e]; exact h.was g h1)
  · have := (Array.getElem?_eq_some_iff.1 ho).1
    omega
theorem Grew.cel {W w4 : World} {own : Nat → Option (Int × Option Nat)} {L : Int × Option Nat} {v : Value} {g : Nat} (h : Grew W w4 own L v g) (hc : ∀ b, own b ≠ none → ∃ o : Obj, W.heap[b]? = some o ∧ o.isCells = true) : ∀ b, relab own L g b ≠ none → ∃ o : Obj, w4.heap[b]? = some o ∧ o.isCells = true := fun b hb => by
  rcases relab_some hb with rfl | ⟨h1, h2⟩
  · exact h.cell
  · obtain ⟨o, h3, h4⟩ := hc b h1
    exact ⟨o, h.keep h2 h3, h4⟩
/-- what the others keep -/
theorem Grew.sep {W w4 : World} {own : Nat → Option (Int × Option Nat)} {L : Int × Option Nat} {v : Value} {g hi : Nat} (h : Grew W w4 own L v g) (hc : ∀ b, own b ≠ none → ∃ o : Obj, W.heap[b]? = some o ∧ o.isCells = true) : Sep hi (fun b => own b ≠ none) (fun b => relab own L g b ≠ none) W w4 :=
  ⟨h.grown.size, fun b o hb _ hf => h.keep (fun e => hf (by rw [e]; simp)) hb, fun b o hb ho _ => h.keep (fun e => by
    obtain ⟨o2, h1, h2⟩ := hc b (by rw [e]; simp)
    rw [hb] at h1; cases h1; rw [ho] at h2; cases h2) hb, fun b hb => by
    rcases relab_some hb with rfl | ⟨h1, h2⟩
    · rcases h.at_ with h3 | h3
      · exact .inl (by rw [h.was _ h3]; simp)
      · exact .inr h3
    · exact .inl h1⟩
/-- a process more that receives there -/
theorem RcR.add {W w4 : World} {base : Nat} {own : Nat → Option (Int × Option Nat)} {M : Int → Value} {gs : Int → List OGr} (h : RcR W base own M gs) {ch : Int} {id : Int} {g cap : Nat} (hG : Grew W w4 own (ch, none) (M ch) g)
    (hown : w4.ownsRow base 61 2 (.slice (some ⟨g, 0, none⟩) ((gs ch).length + 1) cap) ((gs ch).length + 1) (grsC (gs ch) ++ [.int .i64 id, .slice none 0 0])) :
    RcR w4 base (relab own (ch, none) g) (upd M ch (.slice (some ⟨g, 0, none⟩) ((gs ch).length + 1) cap)) (upd gs ch (gs ch ++ [⟨id, [], none, 0⟩])) := by
  have hpk : ∀ c i (hi : i < (gs c).length), w4.ownsRow base 3 1 (.slice (gs c)[i].gp (gs c)[i].places.length (gs c)[i].gc) (gs c)[i].places.length (plsC (gs c)[i].places) := fun c i hi =>
    own_same (h.prow c i hi) (fun g' o hg' ho => hG.keep (by rw [h.pl c i hi g' hg']; simp) ho)
  have hpl : ∀ c i (hi : i < (gs c).length) b, (Value.slice (gs c)[i].gp (gs c)[i].places.length (gs c)[i].gc).ownBlock = some b → relab own (ch, none) g b = some (c, some i) := fun c i hi b hb => by
    obtain ⟨o, h1, _⟩ := own_cells (h.prow c i hi) hb
    exact relab_other (h.pl c i hi b hb) (by simp) (hG.ne (by rw [h.pl c i hi b hb]; simp) h1)
  refine ⟨fun c => ?_, fun c b hb => ?_, fun c i hi => ?_, fun c i hi b hb => ?_, hG.cel h.cel, fun b hb => (relab_some hb).elim (fun e => by rw [e]; exact own_base hown g rfl) (fun h2 => h.low b h2.1)⟩
  · by_cases e : c = ch
    · subst e
      rw [upd_same, upd_same, grsC_snoc]
      simpa [grC] using hown
    · rw [upd_other _ _ e, upd_other _ _ e]
      exact own_same (h.row c) (fun g' o hg' ho => hG.keep (by rw [h.rl c g' hg']; simpa using e) ho)
  · by_cases e : c = ch
    · subst e
      rw [upd_same, ownB] at hb
      cases hb
      exact relab_at _ _ _
    · rw [upd_other _ _ e] at hb
      obtain ⟨o, h1, _⟩ := own_cells (h.row c) hb
      exact relab_other (h.rl c b hb) (by simpa using e) (hG.ne (by rw [h.rl c b hb]; simpa using e) h1)
  · by_cases e : c = ch
    · subst e
      have hu := upd_same gs c (gs c ++ [⟨id, [], none, 0⟩])
      simp only [hu, List.length_append, List.length_singleton] at hi ⊢
      by_cases hlt : i < (gs c).length
      · simp only [List.getElem_append_left hlt]
        exact hpk c i hlt
      · have : i = (gs c).length := by omega
        subst this
        simp only [List.getElem_concat_length]
        exact ⟨rfl, .inl ⟨rfl, rfl⟩⟩
    · have hu := upd_other gs (gs ch ++ [⟨id, [], none, 0⟩]) e
      simp only [hu] at hi ⊢
      exact hpk c i hi
  · by_cases e : c = ch
    · subst e
      have hu := upd_same gs c (gs c ++ [⟨id, [], none, 0⟩])
      simp only [hu, List.length_append, List.length_singleton] at hi hb
      by_cases hlt : i < (gs c).length
      · simp only [List.getElem_append_left hlt] at hb
        exact hpl c i hlt b hb
      · have : i = (gs c).length := by omega
        subst this
        simp only [List.getElem_concat_length] at hb
        cases hb
    · have hu := upd_other gs (gs ch ++ [⟨id, [], none, 0⟩]) e
      simp only [hu] at hi hb
      exact hpl c i hi b hb
end Go.Proofs.Yteinpijbdgcehaa
