import Derived.RangeFuncNested
import Derived.RangeFuncLeaves
namespace Go.Proofs.Yteinpijbdgcehaa
open Go Go.RowKit
set_option linter.unusedVariables false

/-- what a round of the body keeps, but for the body's own blocks (G ahead of it, G' behind it) -/
structure Sep (hi : Nat) (G G' : Nat → Prop) (A B : World) : Prop where
  size : A.heap.size ≤ B.heap.size
  same : ∀ b o, A.heap[b]? = some o → o.isCells = true → ¬ G b → B.heap[b]? = some o
  oth : ∀ b o, A.heap[b]? = some o → o.isCells = false → hi ≤ b → B.heap[b]? = some o
  new : ∀ b, G' b → G b ∨ A.heap.size ≤ b

theorem Sep.refl (hi : Nat) (G : Nat → Prop) (A : World) : Sep hi G G A A := ⟨Nat.le_refl _, fun _ _ h _ _ => h, fun _ _ h _ _ => h, fun _ h => .inl h⟩
theorem Sep.trans {hi : Nat} {G G' G'' : Nat → Prop} {A B C : World} (h : Sep hi G G' A B) (k : Sep hi G' G'' B C) : Sep hi G G'' A C :=
  ⟨Nat.le_trans h.size k.size, fun b o hb ho hf => k.same b o (h.same b o hb ho hf) ho (fun h2 => by
    rcases h.new b h2 with h3 | h3
    · exact hf h3
    · have := (Array.getElem?_eq_some_iff.1 hb).1
      omega), fun b o hb ho hi => k.oth b o (h.oth b o hb ho hi) ho hi, fun b hf => by
    rcases k.new b hf with h2 | h2
    · exact h.new b h2
    · exact .inr (Nat.le_trans h.size h2)⟩
theorem Sep.hi {hi hi' : Nat} {G G' : Nat → Prop} {A B : World} (h : Sep hi G G' A B) (hh : hi ≤ hi') : Sep hi' G G' A B := ⟨h.size, h.same, fun b o hb ho hl => h.oth b o hb ho (Nat.le_trans hh hl), h.new⟩
theorem Sep.below {hi : Nat} {G : Nat → Prop} {A B : World} (h : Below A.heap.size A B) : Sep hi G G A B :=
  ⟨h.size, fun b o hb _ _ => (h.block b (Array.getElem?_eq_some_iff.1 hb).1).trans hb, fun b o hb _ _ => (h.block b (Array.getElem?_eq_some_iff.1 hb).1).trans hb, fun _ h => .inl h⟩

/-- what is said abides whatever is done to blocks that are not the body's own and lie from hi on -/
structure Abi (hi : Nat) (J : Nat → (Nat → Prop) → World → Prop) : Prop where
  go : ∀ s G A B row, J s G A → A.grownBy B row → (∀ r, row = some r → hi ≤ r ∧ ¬ G r) → J s G B
  cells : ∀ s G A b, J s G A → G b → ∃ o : Obj, A.heap[b]? = some o ∧ o.isCells = true
theorem Abi.hi {hi hi' : Nat} {J : Nat → (Nat → Prop) → World → Prop} (h : Abi hi J) (hh : hi ≤ hi') : Abi hi' J := ⟨fun s G A B row hs hg hr => h.go s G A B row hs hg (fun r e => ⟨Nat.le_trans hh (hr r e).1, (hr r e).2⟩), h.cells⟩
theorem Abi.alloc {hi : Nat} {J : Nat → (Nat → Prop) → World → Prop} (h : Abi hi J) {s : Nat} {G : Nat → Prop} {A : World} (o : Obj) (hs : J s G A) : J s G (A.alloc o) := h.go s G A _ none hs (World.grownBy_alloc A o none) (fun r e => by cases e)
theorem Abi.putObj {hi : Nat} {J : Nat → (Nat → Prop) → World → Prop} (h : Abi hi J) {s : Nat} {G : Nat → Prop} {A : World} {l : Nat} {o : Obj} (o' : Obj) (hs : J s G A) (hl : A.heap[l]? = some o) (ho : o.isCells = false) (hh : hi ≤ l) : J s G (A.putObj l o') :=
  h.go s G A _ (some l) hs (grownBy_putObj' A l o') (fun r e => by
    cases e
    refine ⟨hh, fun hf => ?_⟩
    obtain ⟨o2, h2, h3⟩ := h.cells s G A _ hs hf
    rw [hl] at h2; cases h2; rw [ho] at h3; cases h3)
theorem Abi.below {hi : Nat} {J : Nat → (Nat → Prop) → World → Prop} (h : Abi hi J) {s : Nat} {G : Nat → Prop} {A B : World} (hs : J s G A) (hb : Below A.heap.size A B) (hg : A.grownBy B none) : J s G B := h.go s G A B none hs hg (fun r e => by cases e)

/-- an iterator that hands out just xs; Pr: the blocks that it reads -/
def SeqT (F : Fence) (n : Nat) (P : Program) (g : Nat) (lb : Array Value) (xs : List (Array Value)) (Pr : Nat → Prop) (w : World) : Prop :=
  ∀ (l : Nat) (J : Nat → (Nat → Prop) → World → Prop) (G : Nat → Prop) (W : World), Below w.heap.size w W → Abi W.heap.size J → (∀ b, G b → ¬ Pr b) →
    (∀ k x G1 W1, xs[k]? = some x → J k G1 W1 → YieldAt F (n - 1) P l x W1 fun e W' => e = .returned (.bool true) ∧ ∃ G2, J (k + 1) G2 W' ∧ Sep W.heap.size G1 G2 W1 W') →
    J 0 G W →
    CallsIn F n P g (#[.func (.yield l) #[] #[]] ++ lb) W fun e W' => (∃ v, e = .returned v) ∧ ∃ G', J xs.length G' W'

/-- how the body of a round may be left -/
def tPost (hi : Nat) (I : Nat → (Nat → Prop) → World → Prop) (k : Nat) (G : Nat → Prop) (W : World) : Exit → Act → World → Prop
  | .normal, _, W' => ∃ G2, I (k + 1) G2 W' ∧ Sep hi G G2 W W'
  | _, _, _ => False

theorem grownBy_oth {A B : World} {row : Option Nat} (hg : A.grownBy B row) {b : Nat} {o : Obj} (h : A.heap[b]? = some o) (hr : row ≠ some b) : B.heap[b]? = some o := (hg.block b (Array.getElem?_eq_some_iff.1 h).1 (fun e => hr e.symm)).trans h

variable {F : Fence} {n : Nat} {P : Program}

theorem seqT_core {gf : Nat} {lb : Array Value} {xs : List (Array Value)} {Pr : Nat → Prop} {w w0 W1 : World} (hseq : SeqT F (n - 1) P gf lb xs Pr w0) (hb0 : Below w0.heap.size w0 W1) (hw : w.heap.size ≤ W1.heap.size)
    {ps : Array Tmp} {assign body : Code} {fn : FuncId} (hfn : F.fn fn) {tm : Array Value} {dn : Nat} (hps : ∀ x ∈ xs, x.size = ps.size) {Lb : Nat} (hLw : w.heap.size ≤ Lb) (hLl : Lb < W1.heap.size)
    (hL : W1.heap[Lb]? = some (.loop { state := .ready, pending := none, fn, tmps := tm, params := ps, assign, body, defers := dn }))
    (I : Nat → (Nat → Prop) → World → Prop) (G0 : Nat → Prop) (hI : Abi w.heap.size I) (hG0 : ∀ b, G0 b → ¬ Pr b) (h0 : I 0 G0 W1) (Ex : World → Prop) (hEx : ∀ A B row, Ex A → A.grownBy B row → (∀ r, row = some r → W1.heap.size ≤ r ∨ r = Lb) → Ex B)
    (hEs : ∀ G1 G2 A B, Ex A → Sep w.heap.size G1 G2 A B → Ex B) (hE1 : Ex W1)
    (Ax : Nat → (Nat → Prop) → Array Value → Act → World → Prop) (hAx : ∀ k G x a', OwnFrom w.heap.size (fun (_ : Unit) W => Ax k G x a' W))
    (hassign : ∀ (k : Nat) (x : Array Value) (G : Nat → Prop) (W : World) (K : Act → World → Prop), xs[k]? = some x → I k G W → (∀ a' W', Sep w.heap.size G G W W' → I k G W' → Ax k G x a' W' → K a' W') →
      assign.wpIn (F.inRound Lb) (n - 1 - 1) P (Exit.then K (fun _ _ _ => False)) { tmps := (ps.zip x).foldl (fun t (p, v) => t.setIfInBounds p v) tm, defers := [] } W)
    (hbody : ∀ (k : Nat) (x : Array Value) (a' : Act) (G : Nat → Prop) (W : World), (∃ r, W.heap[Lb]? = some (.loop r)) → xs[k]? = some x → I k G W → Ax k G x a' W → body.wpIn (F.inRound Lb) (n - 1 - 1) P (tPost w.heap.size I k G W) a' W) :
    CallsIn F (n - 1) P gf (#[.func (.yield Lb) #[] #[]] ++ lb) W1 fun e W' => (∃ v, e = .returned v) ∧ ∃ G', I xs.length G' W' ∧ W'.heap[Lb]? = some (.loop { state := .ready, pending := none, fn, tmps := tm, params := ps, assign, body, defers := dn }) ∧ Ex W' := by
  obtain ⟨rc, hrc⟩ : ∃ rc : LoopState → Loop, rc = fun st => { state := st, pending := none, fn, tmps := tm, params := ps, assign, body, defers := dn } := ⟨_, rfl⟩
  have hL : W1.heap[Lb]? = some (.loop (rc .ready)) := by rw [hrc]; exact hL
  have key := hseq Lb (fun k G W => I k G W ∧ W.heap[Lb]? = some (.loop (rc .ready)) ∧ Ex W) G0 W1 hb0
    ⟨fun s G A B row hs hg hr => ⟨(hI.hi hw).go s G A B row hs.1 hg hr, grownBy_oth hg hs.2.1 (fun e => by have := (hr _ e).1; omega), hEx A B row hs.2.2 hg (fun r e => .inl (hr r e).1)⟩, fun s G A b hs hg => hI.cells s G A b hs.1 hg⟩ hG0 ?_ ⟨h0, hL, hE1⟩
  · refine key.mono ?_
    rintro e W' ⟨hv, G', h1, h2, h3⟩
    rw [hrc] at h2
    exact ⟨hv, G', h1, h2, h3⟩
  · rintro k x G1 W0 hx ⟨hi0, hl0, he0⟩
    have hy := run_yield (P := P) (args := x) hl0 (by rw [hrc]; exact hps x (List.mem_of_getElem? hx))
    rw [hrc] at hy
    refine ⟨fn, _, assign, body, hy, roundIn_of_wpIn hfn (hassign k x G1 W0 _ hx hi0 ?_)⟩
    clear hy
    intro a' W hsa hi hax
    have hl := hsa.oth _ _ hl0 rfl hLw
    have he := hEs _ _ _ _ he0 hsa
    refine ⟨_, run_beginRound hl (by rw [hrc]), ?_⟩
    obtain ⟨Wb, hWb⟩ : ∃ Wb, W.putObj Lb (.loop { rc .ready with state := .busy }) = Wb := ⟨_, rfl⟩
    rw [hWb]
    have hib : I k G1 Wb := by rw [← hWb]; exact hI.putObj _ hi hl rfl hLw
    have heb : Ex Wb := by rw [← hWb]; exact hEx _ _ _ he (grownBy_putObj' _ _ _) (fun r e => by cases e; exact .inr rfl)
    have hlb : Wb.heap[Lb]? = some (.loop { rc .ready with state := .busy }) := by
      rw [← hWb]; exact World.putObj_heap_same (Array.getElem?_eq_some_iff.1 hl).1
    have hsb : Wb.heap.size = W.heap.size := by rw [← hWb]; simp
    have hot : ∀ b, b ≠ Lb → Wb.heap[b]? = W.heap[b]? := fun b hb => by rw [← hWb]; exact World.putObj_heap_other hb
    have hxb : Ax k G1 x a' Wb := by
      rw [← hWb]
      exact hAx k G1 x a' () _ _ (some Lb) hax (grownBy_putObj' _ _ _) (fun r e => by cases e; exact ⟨hLw, _, hl, rfl⟩)
    refine wpIn_mono (hbody k x a' G1 Wb ⟨_, hlb⟩ hx hib hxb) ?_
    rintro e a3 W3 hp
    cases e with
    | normal =>
      obtain ⟨G2, hi3, hs3⟩ := hp
      have hl3 := hs3.oth _ _ hlb rfl hLw
      have he3 := hEs _ _ _ _ heb hs3
      have hr := run_endRound (P := P) none hl3
      obtain ⟨W4, hW4⟩ : ∃ W4, W3.putObj Lb (.loop (rc .ready)) = W4 := ⟨_, rfl⟩
      have hr' : (Instr.endRound Lb none).run P W3 = .ok (.bool true) W4 := by
        rw [← hW4]; rw [hrc] at hr ⊢; exact hr
      have hi4 : I (k + 1) G2 W4 := by rw [← hW4]; exact hI.putObj _ hi3 hl3 rfl hLw
      have hl4 : W4.heap[Lb]? = some (.loop (rc .ready)) := by rw [← hW4]; exact World.putObj_heap_same (Array.getElem?_eq_some_iff.1 hl3).1
      have hot4 : ∀ b, b ≠ Lb → W4.heap[b]? = W3.heap[b]? := fun b hb => by rw [← hW4]; exact World.putObj_heap_other hb
      refine ⟨_, _, hr', rfl, G2, ⟨hi4, hl4, by rw [← hW4]; exact hEx _ _ _ he3 (grownBy_putObj' _ _ _) (fun r e => by cases e; exact .inr rfl)⟩, (hsa.hi hw).trans ⟨by rw [← hW4, World.putObj_size, ← hsb]; exact hs3.size, fun b o hb ho hf => ?_, fun b o hb ho hl5 => ?_, fun b hf => by rw [← hsb]; exact hs3.new b hf⟩⟩
      · have hne : b ≠ Lb := fun e => by subst e; rw [hl] at hb; cases hb; cases ho
        rw [hot4 b hne]
        exact hs3.same b o ((hot b hne).trans hb) ho hf
      · have hne : b ≠ Lb := fun e => by subst e; omega
        rw [hot4 b hne]
        exact hs3.oth b o ((hot b hne).trans hb) ho (by omega)
    | ret => exact hp.elim
    | exit id => exact hp.elim
    | goto t => exact hp.elim
    | panic ch => exact hp.elim
    | outgrown => exact hp.elim
/-- a range over a function, on its own -/
theorem rangeT {g : Operand} {ps : Array Tmp} {assign body : Code} {Q : Exit → Act → World → Prop} {a : Act} {w : World}
    (hro : F.round = none) (h1 : 1 ≤ n) {gf : Nat} {lb : Array Value} (hg : a.eval g = .func (.func gf) #[] lb) (hFg : F.fn gf) (eg : ∀ args w, (callFunc gf args).run P w = .ok (.enter gf args) w)
    {xs : List (Array Value)} {Pr : Nat → Prop} (hseq : SeqT F (n - 1) P gf lb xs Pr w) (hps : ∀ x ∈ xs, x.size = ps.size)
    (I : Nat → (Nat → Prop) → World → Prop) (G0 : Nat → Prop) (hI : Abi w.heap.size I) (hG0 : ∀ b, G0 b → ¬ Pr b) (h0 : I 0 G0 w)
    (Ax : Nat → (Nat → Prop) → Array Value → Act → World → Prop) (hAx : ∀ k G x a', OwnFrom w.heap.size (fun (_ : Unit) W => Ax k G x a' W))
    (hassign : ∀ (l k : Nat) (x : Array Value) (G : Nat → Prop) (W : World) (K : Act → World → Prop), xs[k]? = some x → I k G W → (∀ a' W', Sep w.heap.size G G W W' → I k G W' → Ax k G x a' W' → K a' W') →
      assign.wpIn (F.inRound l) (n - 1 - 1) P (Exit.then K (fun _ _ _ => False)) { tmps := (ps.zip x).foldl (fun t (p, v) => t.setIfInBounds p v) a.tmps, defers := [] } W)
    (hbody : ∀ (l k : Nat) (x : Array Value) (a' : Act) (G : Nat → Prop) (W : World), w.heap.size ≤ l → (∃ r, W.heap[l]? = some (.loop r)) → xs[k]? = some x → I k G W → Ax k G x a' W → body.wpIn (F.inRound l) (n - 1 - 1) P (tPost w.heap.size I k G W) a' W)
    (hdone : ∀ (D : Nat) (G : Nat → Prop) (W : World), w.heap.size ≤ D → I xs.length G W → W.heap[D]? = some (.deferred (some [])) → Q .normal { a with defers := { target := .collected D, args := #[] } :: a.defers } W) :
    (Code.rangeFunc g ps assign body).wpIn F n P Q a w := by
  refine wpIn_rangeFunc ?_
  intro fn hfn
  rw [hro]
  obtain ⟨W1, hW1⟩ : ∃ W1, (w.alloc (.deferred (some []))).alloc (.loop { state := .ready, pending := none, fn, tmps := a.tmps, params := ps, assign, body, defers := w.heap.size }) = W1 := ⟨_, rfl⟩
  have hL : W1.heap[w.heap.size + 1]? = some (.loop { state := .ready, pending := none, fn, tmps := a.tmps, params := ps, assign, body, defers := w.heap.size }) := by
    rw [← hW1]; have := World.alloc_heap_new (w.alloc (.deferred (some []))) (.loop { state := .ready, pending := none, fn, tmps := a.tmps, params := ps, assign, body, defers := w.heap.size }); rwa [World.size_alloc] at this
  have hD : W1.heap[w.heap.size]? = some (.deferred (some [])) := by
    rw [← hW1]; exact (Below.heap_alloc _ _ _ (by simp)).trans (World.alloc_heap_new w _)
  have hz : W1.heap.size = w.heap.size + 2 := by rw [← hW1]; simp
  have hJ0 : I 0 G0 W1 := by rw [← hW1]; exact hI.alloc _ (hI.alloc _ h0)
  have hbl : Below w.heap.size w W1 := by
    rw [← hW1]; exact ((Below.refl _ w).alloc (Nat.le_refl _) _).alloc (by simp) _
  refine ⟨w.heap.size + 1, [{ target := .collected w.heap.size, args := #[] }], W1, { target := .fn (.func gf) lb, args := #[.func (.yield (w.heap.size + 1)) #[] #[]] }, W1, gf,
    #[.func (.yield (w.heap.size + 1)) #[] #[]] ++ lb, W1, ?_, ?_, ?_, ?_, fun _ => h1, ?_⟩
  · rw [← hW1]; exact run_enterLoop_outer _ _ _ _ _
  · simp only [resolve, hg]
    simp [go_sem]
  · intro f' hf'; simp [Target.leads] at hf'; subst hf'; exact hFg
  · simp [invoke, go_sem, eg]
  refine (seqT_core hseq hbl (by omega) hfn hps (by omega) (by omega) hL I G0 hI hG0 hJ0 (fun W => W.heap[w.heap.size]? = some (.deferred (some []))) (fun A B row h hg' hr => grownBy_oth hg' h (fun e => by rcases hr _ e with h2 | h2 <;> omega)) (fun _ _ A B h hs => hs.oth _ _ h rfl (Nat.le_refl _)) hD Ax hAx (fun k x G W K => hassign _ k x G W K) (fun k x a' G W => hbody _ k x a' G W (by omega))).mono ?_
  rintro e W2 ⟨⟨v, rfl⟩, G', hi, hl, hk⟩
  have hr := run_endLoop (P := P) hl (by simp)
  exact ⟨none, _, hr, hdone _ G' _ (Nat.le_refl _) (hI.putObj _ hi hl rfl (by omega)) ((World.putObj_heap_other (by omega)).trans hk)⟩
/-- a range over a function, in the body of another -/
theorem rangeN {g : Operand} {ps : Array Tmp} {assign body : Code} {Q : Exit → Act → World → Prop} {a : Act} {w : World}
    {l₀ : Nat} {r₀ : Loop} (hro : F.round = some l₀) (hl₀ : w.heap[l₀]? = some (.loop r₀)) (h1 : 1 ≤ n) {gf : Nat} {lb : Array Value} (hg : a.eval g = .func (.func gf) #[] lb) (hFg : F.fn gf) (eg : ∀ args w, (callFunc gf args).run P w = .ok (.enter gf args) w)
    {xs : List (Array Value)} {Pr : Nat → Prop} (hseq : SeqT F (n - 1) P gf lb xs Pr w) (hps : ∀ x ∈ xs, x.size = ps.size)
    (I : Nat → (Nat → Prop) → World → Prop) (G0 : Nat → Prop) (hI : Abi w.heap.size I) (hG0 : ∀ b, G0 b → ¬ Pr b) (h0 : I 0 G0 w)
    (Ax : Nat → (Nat → Prop) → Array Value → Act → World → Prop) (hAx : ∀ k G x a', OwnFrom w.heap.size (fun (_ : Unit) W => Ax k G x a' W))
    (hassign : ∀ (l k : Nat) (x : Array Value) (G : Nat → Prop) (W : World) (K : Act → World → Prop), xs[k]? = some x → I k G W → (∀ a' W', Sep w.heap.size G G W W' → I k G W' → Ax k G x a' W' → K a' W') →
      assign.wpIn (F.inRound l) (n - 1 - 1) P (Exit.then K (fun _ _ _ => False)) { tmps := (ps.zip x).foldl (fun t (p, v) => t.setIfInBounds p v) a.tmps, defers := [] } W)
    (hbody : ∀ (l k : Nat) (x : Array Value) (a' : Act) (G : Nat → Prop) (W : World), w.heap.size ≤ l → (∃ r, W.heap[l]? = some (.loop r)) → xs[k]? = some x → I k G W → Ax k G x a' W → body.wpIn (F.inRound l) (n - 1 - 1) P (tPost w.heap.size I k G W) a' W)
    (hdone : ∀ (G : Nat → Prop) (W : World), I xs.length G W → Q .normal a W) :
    (Code.rangeFunc g ps assign body).wpIn F n P Q a w := by
  refine wpIn_rangeFunc ?_
  intro fn hfn
  rw [hro]
  obtain ⟨W1, hW1⟩ : ∃ W1, w.alloc (.loop { state := .ready, pending := none, fn, tmps := a.tmps, params := ps, assign, body, defers := r₀.defers }) = W1 := ⟨_, rfl⟩
  have hL : W1.heap[w.heap.size]? = some (.loop { state := .ready, pending := none, fn, tmps := a.tmps, params := ps, assign, body, defers := r₀.defers }) := by rw [← hW1]; exact World.alloc_heap_new w _
  have hz : W1.heap.size = w.heap.size + 1 := by rw [← hW1]; simp
  have hJ0 : I 0 G0 W1 := by rw [← hW1]; exact hI.alloc _ h0
  have hbl : Below w.heap.size w W1 := by rw [← hW1]; exact (Below.refl _ w).alloc (Nat.le_refl _) _
  refine ⟨w.heap.size, [], W1, { target := .fn (.func gf) lb, args := #[.func (.yield w.heap.size) #[] #[]] }, W1, gf,
    #[.func (.yield w.heap.size) #[] #[]] ++ lb, W1, ?_, ?_, ?_, ?_, fun _ => h1, ?_⟩
  · rw [← hW1]; exact run_enterLoop_inner hl₀ _ _ _ _ _
  · simp only [resolve, hg]
    simp [go_sem]
  · intro f' hf'; simp [Target.leads] at hf'; subst hf'; exact hFg
  · simp [invoke, go_sem, eg]
  refine (seqT_core hseq hbl (by omega) hfn hps (by omega) (by omega) hL I G0 hI hG0 hJ0 (fun _ => True) (fun _ _ _ _ _ _ => trivial) (fun _ _ _ _ _ _ => trivial) trivial Ax hAx (fun k x G W K => hassign _ k x G W K) (fun k x a' G W => hbody _ k x a' G W (by omega))).mono ?_
  rintro e W2 ⟨⟨v, rfl⟩, G', hi, hl, _⟩
  have hr := run_endLoop (P := P) hl (by simp)
  exact ⟨none, _, hr, hdone G' _ (hI.putObj _ hi hl rfl (by omega))⟩

theorem SeqT.inRound {gf : Nat} {lb : Array Value} {xs : List (Array Value)} {Pr : Nat → Prop} {w : World} (l : Nat) (h : SeqT F n P gf lb xs Pr w) : SeqT (F.inRound l) n P gf lb xs Pr w := h

end Go.Proofs.Yteinpijbdgcehaa
