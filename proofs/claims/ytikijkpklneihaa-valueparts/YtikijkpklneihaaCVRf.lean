import Derived.RangeFuncNested
import Derived.RangeFuncLeaves
namespace Go.Proofs.Ytikijkpklneihaa
open Go Go.RowKit
set_option linter.unusedVariables false

/-- what a round of the body keeps, but for the body's own blocks -/
structure Sep (lo : Nat) (foot : World → Nat → Prop) (A B : World) : Prop where
  low : ∀ b, b < lo → B.heap[b]? = A.heap[b]?
  size : A.heap.size ≤ B.heap.size
  same : ∀ b o, A.heap[b]? = some o → o.isCells = true → ¬ foot A b → B.heap[b]? = some o
  new : ∀ b, foot B b → foot A b ∨ A.heap.size ≤ b

theorem Sep.refl (lo : Nat) (foot : World → Nat → Prop) (A : World) : Sep lo foot A A := ⟨fun _ _ => rfl, Nat.le_refl _, fun _ _ h _ _ => h, fun _ h => .inl h⟩

theorem Sep.trans {lo : Nat} {foot : World → Nat → Prop} {A B C : World} (h : Sep lo foot A B) (k : Sep lo foot B C) : Sep lo foot A C :=
  ⟨fun b hb => (k.low b hb).trans (h.low b hb), Nat.le_trans h.size k.size, fun b o hb ho hf => k.same b o (h.same b o hb ho hf) ho (fun h2 => by
    rcases h.new b h2 with h3 | h3
    · exact hf h3
    · have := (Array.getElem?_eq_some_iff.1 hb).1
      omega), fun b hf => by
    rcases k.new b hf with h2 | h2
    · exact h.new b h2
    · exact .inr (Nat.le_trans h.size h2)⟩

/-- what is said abides whatever is done to blocks that are not the body's own -/
structure Abid (lo : Nat) (foot : World → Nat → Prop) {β : Type} (J : β → World → Prop) : Prop where
  go : ∀ s A B row, J s A → A.grownBy B row → (∀ r, row = some r → lo ≤ r ∧ ¬ foot A r) → J s B ∧ ∀ b, foot B b → foot A b
  cells : ∀ s A b, J s A → foot A b → lo ≤ b ∧ ∃ o : Obj, A.heap[b]? = some o ∧ o.isCells = true

/-- .. to rows of cells -/
structure AbidC (lo : Nat) (foot : World → Nat → Prop) {β : Type} (J : β → World → Prop) : Prop where
  go : ∀ s A B row, J s A → A.grownBy B row → (∀ r, row = some r → lo ≤ r ∧ ¬ foot A r ∧ ∃ o : Obj, A.heap[r]? = some o ∧ o.isCells = true) → J s B ∧ ∀ b, foot B b → foot A b
  cells : ∀ s A b, J s A → foot A b → lo ≤ b ∧ b < A.heap.size

/-- an iterator that has rows of its own in memory -/
def SeqSep {α : Type} (F : Fence) (n : Nat) (P : Program) (g : Nat) (lb : Array Value) (encs : α → Array Value) (Rx : α → World → Prop) (S Sp : List α → Prop) (N lo : Nat) (w : World) : Prop :=
  ∀ (l : Nat) (foot : World → Nat → Prop) (J Jx : List α → World → Prop) (W : World), Below w.heap.size w W → AbidC lo foot J →
    (∀ pre x W1, J pre W1 → Rx x W1 → pre.length < N → YieldAt F (n - 1) P l (encs x) W1 fun e W' =>
      (e = .returned (.bool true) ∧ J (pre ++ [x]) W' ∧ Sep lo foot W1 W') ∨ (e = .returned (.bool false) ∧ Jx (pre ++ [x]) W')) →
    J [] W →
    CallsIn F n P g (#[.func (.yield l) #[] #[]] ++ lb) W fun e W' => (∃ v, e = .returned v) ∧ ((∃ xs, S xs ∧ J xs W') ∨ (∃ pre, Sp pre ∧ Jx pre W'))

/-- how the body of a round may be left -/
def sepPost {α : Type} (lo : Nat) (foot : World → Nat → Prop) (I : List α → World → Prop) (Ix : Code → List α → World → Prop) (xs : List α) (W : World) : Exit → Act → World → Prop
  | .normal, _, W' => KeepsOthers W W' ∧ Sep lo foot W W' ∧ I xs W'
  | .ret, _, W' => KeepsOthers W W' ∧ Ix .ret xs W'
  | .exit id, _, W' => KeepsOthers W W' ∧ Ix (.exit id) xs W'
  | .goto t, _, W' => KeepsOthers W W' ∧ Ix (.goto t) xs W'
  | .panic _, _, _ => False
  | .outgrown, _, _ => False

theorem not_cells_loop {r : Loop} : (Obj.loop r).isCells = false := rfl

theorem Abid.putObj {lo : Nat} {foot : World → Nat → Prop} {β : Type} {J : β → World → Prop} (h : Abid lo foot J) {s : β} {A : World} {l : Nat} {o : Obj} (o' : Obj) (hs : J s A) (hl : A.heap[l]? = some o) (ho : o.isCells = false) (hlo : lo ≤ l) : J s (A.putObj l o') ∧ ∀ b, foot (A.putObj l o') b → foot A b :=
  h.go s A _ (some l) hs (grownBy_putObj' A l o') (fun r e => by
    cases e
    refine ⟨hlo, fun hf => ?_⟩
    obtain ⟨_, o2, h2, h3⟩ := h.cells s A _ hs hf
    rw [hl] at h2; cases h2; rw [ho] at h3; cases h3)

theorem grownBy_other {A B : World} {row : Option Nat} (hg : A.grownBy B row) {b : Nat} {o : Obj} (h : A.heap[b]? = some o) (hr : row ≠ some b) : B.heap[b]? = some o := by
  refine (hg.block b (Array.getElem?_eq_some_iff.1 h).1 (fun e => hr e.symm)).trans h

variable {F : Fence} {n : Nat} {P : Program}

/-- a range over a function whose iterator has rows of its own -/
theorem wpIn_rangeFunc_sep {α : Type} {g : Operand} {ps : Array Tmp} {assign body : Code} {Q : Exit → Act → World → Prop} {a : Act} {w : World}
    (hro : F.round = none) (h1 : 1 ≤ n) {gf : Nat} {lb : Array Value} (hg : a.eval g = .func (.func gf) #[] lb) (hFg : F.fn gf) (eg : ∀ args w, (callFunc gf args).run P w = .ok (.enter gf args) w)
    {encs : α → Array Value} {Rx : α → World → Prop} {S Sp : List α → Prop} {w0 : World} {N lo : Nat} (hlo : lo ≤ w.heap.size) (hseq : SeqSep F (n - 1) P gf lb encs Rx S Sp N lo w0) (hb0 : Below w0.heap.size w0 w) (hps : ∀ x, (encs x).size = ps.size)
    (foot : World → Nat → Prop) (I : List α → World → Prop) (Ix : Code → List α → World → Prop) (hI : Abid lo foot I) (hIx : ∀ c, OwnFrom w.heap.size (Ix c))
    (h0 : I [] w) (Ax : α → Act → World → Prop) (hAx : ∀ x a', OwnFrom w.heap.size (fun (_ : Unit) W => Ax x a' W))
    (hassign : ∀ (l : Nat) (pre : List α) (x : α) (W : World) (K : Act → World → Prop), I pre W → Rx x W → (∀ a' W', KeepsOthers W W' → Sep lo foot W W' → I pre W' → Ax x a' W' → K a' W') →
      assign.wpIn (F.inRound l) (n - 1 - 1) P (Exit.then K (fun _ _ _ => False)) { tmps := (ps.zip (encs x)).foldl (fun t (p, v) => t.setIfInBounds p v) a.tmps, defers := [] } W)
    (hbody : ∀ (l : Nat) (pre : List α) (x : α) (a' : Act) (W : World), I pre W → Ax x a' W → pre.length < N → body.wpIn (F.inRound l) (n - 1 - 1) P (sepPost lo foot I Ix (pre ++ [x]) W) a' W)
    (hdone : ∀ (D : Nat) (xs : List α) (W : World), w.heap.size ≤ D → S xs → I xs W → W.heap[D]? = some (.deferred (some [])) → Q .normal { a with defers := { target := .collected D, args := #[] } :: a.defers } W)
    (hstop : ∀ (D : Nat) (c : Code) (pre : List α) (W : World), w.heap.size ≤ D → Sp pre → Ix c pre W → W.heap[D]? = some (.deferred (some [])) → c.wpIn F n P Q { a with defers := { target := .collected D, args := #[] } :: a.defers } W) :
    (Code.rangeFunc g ps assign body).wpIn F n P Q a w := by
  refine wpIn_rangeFunc ?_
  intro fn hfn
  rw [hro]
  let rec' : LoopState → Option Code → Loop := fun st pe => { state := st, pending := pe, fn, tmps := a.tmps, params := ps, assign, body, defers := w.heap.size }
  obtain ⟨rc, hrc⟩ : ∃ rc, rec' = rc := ⟨_, rfl⟩
  obtain ⟨W1, hW1⟩ : ∃ W1, (w.alloc (.deferred (some []))).alloc (.loop (rc .ready none)) = W1 := ⟨_, rfl⟩
  have hL : W1.heap[w.heap.size + 1]? = some (.loop (rc .ready none)) := by
    rw [← hW1]; have := World.alloc_heap_new (w.alloc (.deferred (some []))) (.loop (rc .ready none)); rwa [World.size_alloc] at this
  have hD : W1.heap[w.heap.size]? = some (.deferred (some [])) := by
    rw [← hW1]; exact (Below.heap_alloc _ _ _ (by simp)).trans (World.alloc_heap_new w _)
  have hJ0 : I [] W1 := by
    rw [← hW1]
    exact (hI.go [] _ _ none (hI.go [] w _ none h0 (World.grownBy_alloc w _ none) (fun r e => by cases e)).1 (World.grownBy_alloc _ _ none) (fun r e => by cases e)).1
  have hbl : Below w0.heap.size w0 W1 := by
    rw [← hW1]; exact hb0.trans ((((Below.refl _ w).alloc (Nat.le_refl _) _).alloc (by simp) _).mono hb0.size)
  -- the invariant with the loop's two blocks
  let J : List α → World → Prop := fun pre W => I pre W ∧ W.heap[w.heap.size + 1]? = some (.loop (rc .ready none)) ∧ W.heap[w.heap.size]? = some (.deferred (some []))
  let Jx : List α → World → Prop := fun pre W => ∃ c, Ix c pre W ∧ W.heap[w.heap.size + 1]? = some (.loop (rc .done (some c))) ∧ W.heap[w.heap.size]? = some (.deferred (some []))
  refine ⟨w.heap.size + 1, [{ target := .collected w.heap.size, args := #[] }], W1, { target := .fn (.func gf) lb, args := #[.func (.yield (w.heap.size + 1)) #[] #[]] }, W1, gf,
    #[.func (.yield (w.heap.size + 1)) #[] #[]] ++ lb, W1, ?_, ?_, ?_, ?_, fun _ => h1, ?_⟩
  · rw [← hW1, ← hrc]; exact run_enterLoop_outer _ _ _ _ _
  · simp only [resolve, hg]
    simp [go_sem]
  · intro f' hf'; simp [Target.leads] at hf'; subst hf'; exact hFg
  · simp [invoke, go_sem, eg]
  have hJ : AbidC lo foot J := ⟨fun s A B row hs hg' hr => by
      obtain ⟨h1, h2⟩ := hI.go s A B row hs.1 hg' (fun r e => ⟨(hr r e).1, (hr r e).2.1⟩)
      have key : ∀ (b : Nat) (o : Obj), A.heap[b]? = some o → o.isCells = false → B.heap[b]? = some o := fun b o hb ho => by
        refine grownBy_other hg' hb (fun e => ?_)
        obtain ⟨_, _, o2, ho2, hc⟩ := hr b e
        rw [hb] at ho2; cases ho2; rw [ho] at hc; cases hc
      exact ⟨⟨h1, key _ _ hs.2.1 rfl, key _ _ hs.2.2 rfl⟩, h2⟩, fun s A b hs hf => by
      obtain ⟨h1, o, h2, _⟩ := hI.cells s A b hs.1 hf
      exact ⟨h1, (Array.getElem?_eq_some_iff.1 h2).1⟩⟩
  refine (hseq (w.heap.size + 1) foot J Jx W1 hbl hJ ?_ ⟨hJ0, hL, hD⟩).mono ?_
  · rintro pre x W0 ⟨hi0, hl0, hk0⟩ hx hlen
    have hy := run_yield (P := P) (args := encs x) hl0 (by rw [← hrc]; exact hps x)
    rw [← hrc] at hy
    refine ⟨fn, _, assign, body, hy, roundIn_of_wpIn hfn (hassign _ pre x W0 _ hi0 hx ?_)⟩
    clear hy
    intro a' W hka hsa hi hax
    have hl := hka.same _ _ hl0 rfl
    have hk := hka.same _ _ hk0 rfl
    refine ⟨_, run_beginRound hl (by rw [← hrc]), ?_⟩
    obtain ⟨Wb, hWb⟩ : ∃ Wb, W.putObj (w.heap.size + 1) (.loop { rc .ready none with state := .busy }) = Wb := ⟨_, rfl⟩
    rw [hWb]
    obtain ⟨hib, hfb⟩ := hI.putObj (.loop { rc .ready none with state := .busy }) hi hl rfl (by omega)
    rw [hWb] at hib hfb
    have hlb : Wb.heap[w.heap.size + 1]? = some (.loop { rc .ready none with state := .busy }) := by
      rw [← hWb]; exact World.putObj_heap_same (Array.getElem?_eq_some_iff.1 hl).1
    have hkb : Wb.heap[w.heap.size]? = some (.deferred (some [])) := by
      rw [← hWb]; exact (World.putObj_heap_other (by omega)).trans hk
    have hsb : Wb.heap.size = W.heap.size := by rw [← hWb]; simp
    have hot : ∀ b, b ≠ w.heap.size + 1 → Wb.heap[b]? = W.heap[b]? := fun b hb => by rw [← hWb]; exact World.putObj_heap_other hb
    have hxb : Ax x a' Wb := by
      rw [← hWb]
      exact hAx x a' () _ _ (some (w.heap.size + 1)) hax (grownBy_putObj' _ _ _) (fun r e => by cases e; exact ⟨by omega, _, hl, rfl⟩)
    have fin : ∀ (jump : Option Code) (W3 : World), KeepsOthers Wb W3 →
        ∃ W4, (Instr.endRound (w.heap.size + 1) jump).run P W3 = .ok (.bool jump.isNone) W4 ∧ W4 = W3.putObj (w.heap.size + 1) (.loop (rc (if jump.isNone then .ready else .done) jump)) ∧
          W3.heap[w.heap.size + 1]? = some (.loop { rc .ready none with state := .busy }) ∧
          W4.heap[w.heap.size + 1]? = some (.loop (rc (if jump.isNone then .ready else .done) jump)) ∧ W4.heap[w.heap.size]? = some (.deferred (some [])) := fun jump W3 h3 => by
      have hl3 := h3.same _ _ hlb rfl
      have hr := run_endRound (P := P) jump hl3
      refine ⟨_, ?_, rfl, hl3, World.putObj_heap_same (Array.getElem?_eq_some_iff.1 hl3).1, (World.putObj_heap_other (by omega)).trans (h3.same _ _ hkb rfl)⟩
      rw [← hrc] at hr ⊢
      exact hr
    refine wpIn_mono (hbody _ pre x a' Wb hib hxb hlen) ?_
    rintro e a3 W3 hp
    cases e with
    | normal =>
      obtain ⟨hk3, hs3, hi3⟩ := hp
      obtain ⟨W4, hr, e4, hl3, hl4, hk4⟩ := fin none W3 hk3
      obtain ⟨hi4, hf4⟩ := hI.putObj (.loop (rc .ready none)) hi3 hl3 rfl (by omega)
      have e4' : W4 = W3.putObj (w.heap.size + 1) (.loop (rc .ready none)) := by simpa using e4
      rw [← e4'] at hi4 hf4
      refine ⟨_, _, hr, .inl ⟨rfl, ⟨hi4, by simpa using hl4, hk4⟩, hsa.trans ⟨fun b hb => by rw [e4', World.putObj_heap_other (by omega)]; exact (hs3.low b hb).trans (hot b (by omega)), by rw [e4', World.putObj_size, ← hsb]; exact hs3.size, fun b o hb ho hf => ?_, fun b hf => ?_⟩⟩⟩
      · have hne : b ≠ w.heap.size + 1 := fun e => by subst e; rw [hl] at hb; cases hb; cases ho
        rw [e4', World.putObj_heap_other hne]
        exact hs3.same b o ((hot b hne).trans hb) ho (fun h => hf (hfb b h))
      · rcases hs3.new b (hf4 b hf) with h | h
        · exact .inl (hfb b h)
        · exact .inr (by rw [← hsb]; exact h)
    | ret =>
      obtain ⟨hk3, hi3⟩ := hp
      obtain ⟨W4, hr, e4, hl3, hl4, hk4⟩ := fin (some .ret) W3 hk3
      exact ⟨_, _, hr, .inr ⟨rfl, .ret, by rw [e4]; exact (hIx _).putObj _ hi3 (by omega) hl3 rfl, hl4, hk4⟩⟩
    | exit id =>
      obtain ⟨hk3, hi3⟩ := hp
      obtain ⟨W4, hr, e4, hl3, hl4, hk4⟩ := fin (some (.exit id)) W3 hk3
      exact ⟨_, _, hr, .inr ⟨rfl, .exit id, by rw [e4]; exact (hIx _).putObj _ hi3 (by omega) hl3 rfl, hl4, hk4⟩⟩
    | goto t =>
      obtain ⟨hk3, hi3⟩ := hp
      obtain ⟨W4, hr, e4, hl3, hl4, hk4⟩ := fin (some (.goto t)) W3 hk3
      exact ⟨_, _, hr, .inr ⟨rfl, .goto t, by rw [e4]; exact (hIx _).putObj _ hi3 (by omega) hl3 rfl, hl4, hk4⟩⟩
    | panic ch => exact hp.elim
    | outgrown => exact hp.elim
  · rintro e W2 ⟨⟨v, rfl⟩, (⟨xs, hS, hi, hl, hk⟩ | ⟨pre, hSp, c, hi, hl, hk⟩)⟩
    · have hr := run_endLoop (P := P) hl (by rw [← hrc]; simp)
      refine ⟨none, _, by rw [← hrc] at hr; exact hr, hdone _ xs _ (Nat.le_refl _) hS (hI.putObj _ hi hl rfl (by omega)).1 ((World.putObj_heap_other (by omega)).trans hk)⟩
    · have hr := run_endLoop (P := P) hl (by rw [← hrc]; simp)
      refine ⟨some c, _, by rw [← hrc] at hr; exact hr, hstop _ c pre _ (Nat.le_refl _) hSp ((hIx c).putObj _ hi (by omega) hl rfl) ((World.putObj_heap_other (by omega)).trans hk)⟩

end Go.Proofs.Ytikijkpklneihaa
