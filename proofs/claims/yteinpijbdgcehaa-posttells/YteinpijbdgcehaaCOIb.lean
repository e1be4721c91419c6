import Derived.Test.YteinpijbdgcehaaCOIa
namespace Go.Proofs.Yteinpijbdgcehaa
open Go.RowKit Go.Shelf
set_option linter.unusedVariables false
set_option linter.unusedSimpArgs false

/-- a pair's cells -/
def prC (x : OPr) : List Value := [.int .i64 x.p, .int .i64 x.i, .int .i64 x.q, .int .i64 x.j, .int .i64 x.ch]
def prsC (l : List OPr) : List Value := l.flatMap prC
theorem prsC_len (l : List OPr) : (prsC l).length = l.length * 5 := by
  induction l with
  | nil => rfl
  | cons x xs ih => simp only [prsC, List.flatMap_cons, List.length_append] at ih ⊢; rw [ih]; simp [prC]; omega
theorem prsC_snoc (l : List OPr) (x : OPr) : prsC (l ++ [x]) = prsC l ++ prC x := by simp [prsC]
theorem infoP : (Try.prog.info? 47).map (fun i => (i.zero, i.size, i.bytes)) = some (some (.agg #[.int .i64 0, .int .i64 0, .int .i64 0, .int .i64 0, .int .i64 0]), 5, 40) := by kernel_rfl
/-- where the arms that have a property stand -/
def spotsP (pr : OArm → Bool) (l : List OWt) : List (Int × Nat × Int) := if oright l then l.flatMap fun V => ofm (fun i a => if pr a then [(V.id, i, a.chan)] else []) 0 V.arms else []
theorem ofm_map {α β γ : Type} (f : Nat → α → List β) (g : β → γ) : ∀ (l : List α) (n : Nat), (ofm f n l).map g = ofm (fun i a => (f i a).map g) n l
  | [], n => rfl
  | a :: r, n => by rw [ofm, List.map_append, ofm_map f g r, ofm]
theorem ofm_if {α β γ : Type} (pr : α → Bool) (f : Nat → α → β) (g : β → γ) (l : List α) (n : Nat) : (ofm (fun i a => if pr a then [f i a] else []) n l).map g = ofm (fun i a => if pr a then [g (f i a)] else []) n l := by
  rw [ofm_map]
  exact ofm_congr (fun i a => by cases pr a <;> rfl) _ _
theorem spX_map (pr : OArm → Bool) (l : List OWt) : spX pr l = (spotsP pr l).map fun t => #[spV t.1 t.2.1 t.2.2] := by
  unfold spX spotsP
  split
  · rw [List.map_flatMap]
    refine flat_congr (fun V _ => ?_)
    rw [ofm_if]
    rfl
  · rfl
def mkI (t : Int × Nat × Int) : OPr := ⟨-1, 0, t.1, t.2.1, t.2.2⟩
def mkO (t : Int × Nat × Int) : OPr := ⟨t.1, t.2.1, -1, 0, t.2.2⟩
theorem oins_map (l : List OWt) : oins l = (spotsP prI l).map mkI := by
  unfold oins spotsP
  split
  · rw [List.map_flatMap]
    refine flat_congr (fun V _ => ?_)
    rw [ofm_if]
    refine ofm_congr (fun i a => ?_) _ _
    by_cases h : a.send = false ∧ a.chan = 1
    · rw [if_pos h, if_pos (by simp [prI, h.1, h.2])]; simp [mkI, h.2]
    · rw [if_neg h, if_neg (by simpa [prI] using h)]
  · rfl
theorem oouts_map (l : List OWt) : oouts l = (spotsP prO l).map mkO := by
  unfold oouts spotsP
  split
  · rw [List.map_flatMap]
    refine flat_congr (fun V _ => ?_)
    rw [ofm_if]
    refine ofm_congr (fun i a => ?_) _ _
    by_cases h : a.send = true ∧ a.chan = 2
    · rw [if_pos h, if_pos (by simp [prO, h.1, h.2])]; simp [mkO, h.2]
    · rw [if_neg h, if_neg (by simpa [prO] using h)]
  · rfl
/-- the variable out, and its row -/
structure OutP (A B : Nat) (G : Nat → Prop) (W : World) (zs : List OPr) : Prop where
  ex : ∃ sv, W.heap[A]? = some (.cells #[sv] 33) ∧ W.ownsRow B 47 5 sv zs.length (prsC zs) ∧ ∀ b, G b ↔ b = A ∨ sv.ownBlock = some b
theorem OutP.keep {A B : Nat} {G : Nat → Prop} {W W' : World} {zs : List OPr} (h : OutP A B G W zs) (hk : ∀ b o, G b → W.heap[b]? = some o → W'.heap[b]? = some o) : OutP A B G W' zs := by
  obtain ⟨sv, e1, e2, e3⟩ := h.ex
  exact ⟨sv, hk A _ ((e3 A).2 (.inl rfl)) e1, own_same e2 (fun g o hg hgo => hk g o ((e3 g).2 (.inr hg)) hgo), e3⟩
theorem OutP.cells {A B : Nat} {G : Nat → Prop} {W : World} {zs : List OPr} (h : OutP A B G W zs) {b : Nat} (hb : G b) : (b = A ∨ B ≤ b) ∧ ∃ o : Obj, W.heap[b]? = some o ∧ o.isCells = true := by
  obtain ⟨sv, e1, e2, e3⟩ := h.ex
  rcases (e3 b).1 hb with rfl | h
  · exact ⟨.inl rfl, _, e1, rfl⟩
  · exact ⟨.inr (own_base e2 b h), own_cells e2 h⟩
theorem OutP.grown {A B hi : Nat} {G : Nat → Prop} {W W' : World} {row : Option Nat} {zs : List OPr} (h : OutP A B G W zs) (hg : W.grownBy W' row) (hr : ∀ r, row = some r → hi ≤ r ∧ ¬ G r) : OutP A B G W' zs :=
  h.keep (fun b o hb ho => grownBy_oth hg ho (fun e => (hr b e).2 hb))
theorem OutP.abi {A B hi : Nat} {w : World} (hA : A ≤ w.heap.size) (hh : A ≤ hi) (f : Nat → List OPr) (R : World → Prop) (hR : ∀ X Y row, R X → X.grownBy Y row → (∀ r, row = some r → hi ≤ r) → R Y) : Abi hi (fun k G W => OutP A B G W (f k) ∧ Below A w W ∧ R W) :=
  ⟨fun s G X Y row hs hg hr => ⟨hs.1.grown hg hr, hs.2.1.grown hg (by have := hs.2.1.size; omega) (fun k e => by have := (hr k e).1; omega), hR X Y row hs.2.2 hg (fun r e => (hr r e).1)⟩, fun s G X b hs hb => (hs.1.cells hb).2⟩
/-- a pair more -/
theorem OutP.push {A B : Nat} {W w4 : World} {G : Nat → Prop} {zs : List OPr} {sv : Value} {g cap : Nat} {y : OPr} (hAB : A < B) (e1 : W.heap[A]? = some (.cells #[sv] 33)) (e2 : W.ownsRow B 47 5 sv zs.length (prsC zs)) (e3 : ∀ b, G b ↔ b = A ∨ sv.ownBlock = some b) {o : Obj}
    (hown : w4.ownsRow B 47 5 (.slice (some ⟨g, 0, none⟩) (zs.length + 1) cap) (zs.length + 1) (prsC zs ++ prC y)) (hg : (W.alloc o).grownBy w4 sv.ownBlock) (hat : sv.ownBlock = some g ∨ g = W.heap.size + 1) :
    let W' := w4.setCell ⟨A, 0, none⟩ (.slice (some ⟨g, 0, none⟩) (zs.length + 1) cap)
    (∃ G2, OutP A B G2 W' (zs ++ [y]) ∧ ∀ hi, Sep hi G G2 W W') ∧ (∀ w, Below A w W → Below A w W') ∧ Boxed w4 A 33 sv ∧ (∀ b, b < W.heap.size → b < B → b ≠ A → W'.heap[b]? = W.heap[b]?) := by
  intro W'
  have hA2 : A + 1 ≤ W.heap.size := (Array.getElem?_eq_some_iff.1 e1).1
  have hne : ∀ b, sv.ownBlock = some b → B ≤ b := fun b hb => own_base e2 b hb
  have hX : ∀ b o', W.heap[b]? = some o' → (W.alloc o).heap[b]? = some o' := fun b o' hb => (Below.heap_alloc _ _ _ (Array.getElem?_eq_some_iff.1 hb).1).trans hb
  have b4 : Boxed w4 A 33 sv := grownBy_oth hg (hX _ _ e1) (fun e => by have := hne _ e; omega)
  have b5 : Boxed W' A 33 (.slice (some ⟨g, 0, none⟩) (zs.length + 1) cap) := b4.set _
  have hg3 : B ≤ g := own_base hown g rfl
  have ho5 : W'.ownsRow B 47 5 (.slice (some ⟨g, 0, none⟩) (zs.length + 1) cap) (zs.length + 1) (prsC zs ++ prC y) := own_same hown (fun g' o' hg' ho' => by
    rw [ownB] at hg'; cases hg'
    exact (Below.heap_setCell _ _ _ _ (by show g ≠ A; omega)).trans ho')
  have hsz : W.heap.size ≤ W'.heap.size := by
    have h1 := hg.size
    have h2 : W'.heap.size = w4.heap.size := World.size_setCell _ _ _
    rw [h2]; simp at h1; omega
  have hsame : ∀ b o', W.heap[b]? = some o' → sv.ownBlock ≠ some b → b ≠ A → W'.heap[b]? = some o' := fun b o' hb h1 h2 =>
    (Below.heap_setCell _ _ _ _ h2).trans (grownBy_oth hg (hX _ _ hb) h1)
  refine ⟨⟨fun b => b = A ∨ b = g, ⟨_, b5, by rw [prsC_snoc]; simpa using ho5, fun b => ⟨fun h => h.elim .inl (fun h => .inr (by rw [h]; rfl)), fun h => h.elim .inl (fun h => .inr (by rw [ownB] at h; cases h; rfl))⟩⟩, fun hi => ⟨hsz, fun b o' hb _ hf => hsame b o' hb (fun e => hf ((e3 b).2 (.inr e))) (fun e => hf ((e3 b).2 (.inl e))), fun b o' hb ho' _ => hsame b o' hb (fun e => ?_) (fun e => ?_), fun b hf => ?_⟩⟩, fun w hb => ?_, b4, fun b h1 h2 h3 => ?_⟩
  · obtain ⟨o2, h1, h2⟩ := own_cells e2 e
    rw [hb] at h1; cases h1; rw [ho'] at h2; cases h2
  · subst e; rw [e1] at hb; cases hb; cases ho'
  · rcases hf with h | h
    · exact .inl ((e3 b).2 (.inl h))
    · rcases hat with h2 | h2
      · exact .inl ((e3 b).2 (.inr (by rw [h]; exact h2)))
      · exact .inr (by omega)
  · exact ((hb.alloc (by omega) o).grown hg (by simp; omega) (fun k e => by have := hne k e; omega)).setCell (p := ⟨A, 0, none⟩) (by show A ≤ A; omega) _
  · rw [Array.getElem?_eq_getElem h1]
    exact hsame b _ (Array.getElem?_eq_getElem h1) (fun e => by have := hne _ e; omega) h3
/-- what post's calls answer -/
def PrPost (w : World) (zs : List OPr) (e : Ending) (w' : World) : Prop := ∃ v, e = .returned v ∧ w'.ownsRow w.heap.size 47 5 v zs.length (prsC zs) ∧ Below w.heap.size w w'
end Go.Proofs.Yteinpijbdgcehaa
