import Derived.Test.YtjabdhmkibahlaaCGT
import Derived.OwnWalk
namespace Go.Proofs.Ytjabdhmkibahlaa
open Go.RowKit Go.MapKept Go.ChangeMaps Go.WideShapes
set_option linter.unusedVariables false
set_option linter.unusedSimpArgs false

/-- all stays but rows of agents -/
structure KA (A X : World) : Prop where
  size : A.heap.size ≤ X.heap.size
  keep : ∀ (b : Nat) (o : Obj), A.heap[b]? = some o → (∀ us fr, o ≠ Obj.cells us 53 fr) → X.heap[b]? = some o
theorem KA.refl (A : World) : KA A A := ⟨Nat.le_refl _, fun _ _ h _ => h⟩
theorem KA.trans {A B C : World} (h : KA A B) (k : KA B C) : KA A C := ⟨Nat.le_trans h.size k.size, fun b o h1 h2 => k.keep b o (h.keep b o h1 h2) h2⟩
theorem KA.below {A B : World} (h : Below A.heap.size A B) : KA A B := ⟨h.size, fun b o h1 _ => (h.block b (Array.getElem?_eq_some_iff.1 h1).1).trans h1⟩
theorem KA.cells {A X : World} (h : KA A X) {b : Nat} {us : Array Value} {t : TypeId} {fr : Nat × Nat} (hb : A.heap[b]? = some (.cells us t fr)) (ht : t ≠ 53) : X.heap[b]? = some (.cells us t fr) := h.keep b _ hb (fun us' fr' e => by cases e; exact ht rfl)
theorem KA.own {A X : World} (h : KA A X) {B : Nat} {e : TypeId} {z n : Nat} {v : Value} {cs : List Value} (ho : A.ownsRow B e z v n cs) (he : e ≠ 53) : X.ownsRow B e z v n cs := by
  refine ⟨ho.1, ?_⟩
  rcases ho.2 with h1 | ⟨g, cap, cur, rfl, h2, h3, h4⟩
  · exact .inl h1
  · exact .inr ⟨g, cap, cur, rfl, h2, h.cells h3 he, h4⟩
theorem KA.grown {A B : World} {B0 : Nat} {u : Value} {n : Nat} {cs : List Value} (ho : A.ownsRow B0 53 4 u n cs) (hg : A.grownBy B u.ownBlock) : KA A B := by
  refine ⟨hg.size, fun b o h1 h2 => (hg.block b (Array.getElem?_eq_some_iff.1 h1).1 (fun e => ?_)).trans h1⟩
  rcases ho.2 with ⟨x1, _⟩ | ⟨g, cap, cur, x1, _, x3, _⟩
  · rw [x1] at e; cases e
  · rw [x1] at e
    cases e
    rw [h1] at x3
    injection x3 with x3
    exact h2 _ _ x3
theorem KA.set {w : World} {b i : Nat} {v : Value} {C : Array Value} (h : w.heap[b]? = some (.cells C 53 (0, 0))) : KA w (w.setCell ⟨b, i, none⟩ v) :=
  ⟨by simp, fun x o hx ho => (Below.heap_setCell w ⟨b, i, none⟩ v x (fun e => by
    have e' : x = b := e
    subst e'
    rw [h] at hx
    injection hx with hx
    exact ho _ _ hx.symm)).trans hx⟩
/-- an agent in four cells, all of whose rows are one's own -/
def AgI (W : World) (B : Nat) (a : Ag) (c4 : List Value) : Prop :=
  ∃ ap ac hp hc, c4 = [.int .i64 a.id, .bool a.awake, .slice ap a.arms.length ac, .slice hp a.held.length hc] ∧ I64 a.id ∧ (∀ x ∈ a.arms, I64 x.chan) ∧ (∀ x ∈ a.held, I64 x) ∧
    W.ownsRow B 58 2 (.slice ap a.arms.length ac) a.arms.length (hdsC a.arms) ∧ W.ownsRow B 3 1 (.slice hp a.held.length hc) a.held.length (rowC a.held)
theorem AgI.keep {W X : World} {B : Nat} {a : Ag} {c4 : List Value} (h : AgI W B a c4) (k : KA W X) : AgI X B a c4 := by
  obtain ⟨ap, ac, hp, hc, e, h1, h2, h3, h4, h5⟩ := h
  exact ⟨ap, ac, hp, hc, e, h1, h2, h3, k.own h4 (by decide), k.own h5 (by decide)⟩
/-- agents in a list of cells -/
def AgC (W : World) (B : Nat) : List Ag → List Value → Prop
  | [], cs => cs = []
  | a :: r, cs => ∃ c4 cr, cs = c4 ++ cr ∧ AgI W B a c4 ∧ AgC W B r cr
theorem AgC.keep {W X : World} {B : Nat} (k : KA W X) : ∀ {gs : List Ag} {cs : List Value}, AgC W B gs cs → AgC X B gs cs
  | [], cs, h => h
  | a :: r, cs, ⟨c4, cr, e, h1, h2⟩ => ⟨c4, cr, e, h1.keep k, h2.keep k⟩
theorem AgC.add {W : World} {B : Nat} {a : Ag} {c4 : List Value} (h : AgI W B a c4) : ∀ {gs : List Ag} {cs : List Value}, AgC W B gs cs → AgC W B (gs ++ [a]) (cs ++ c4)
  | [], cs, e => ⟨c4, [], by rw [show cs = [] from e]; simp, h, rfl⟩
  | b :: r, cs, ⟨d4, cr, e, h1, h2⟩ => ⟨d4, cr ++ c4, by rw [e, List.append_assoc], h1, AgC.add h h2⟩
theorem AgI.len {W : World} {B : Nat} {a : Ag} {c4 : List Value} (h : AgI W B a c4) : c4.length = 4 := by
  obtain ⟨_, _, _, _, rfl, _⟩ := h; rfl
theorem AgC.len {W : World} {B : Nat} : ∀ {gs : List Ag} {cs : List Value}, AgC W B gs cs → cs.length = gs.length * 4
  | [], cs, e => by rw [show cs = [] from e]; rfl
  | b :: r, cs, ⟨d4, cr, e, h1, h2⟩ => by rw [e, List.length_append, h1.len, h2.len, List.length_cons]; omega
theorem AgC.at {W : World} {B : Nat} : ∀ {gs : List Ag} {cs : List Value}, AgC W B gs cs → ∀ i (h : i < gs.length), ∃ c4, AgI W B gs[i] c4 ∧ ∀ j, j < 4 → cs[i * 4 + j]? = c4[j]?
  | b :: r, cs, ⟨d4, cr, e, h1, h2⟩, 0, h => ⟨d4, h1, fun j hj => by rw [e, Nat.zero_mul, Nat.zero_add, List.getElem?_append_left (by rw [h1.len]; exact hj)]⟩
  | b :: r, cs, ⟨d4, cr, e, h1, h2⟩, i + 1, h => by
    obtain ⟨c4, x1, x2⟩ := AgC.at h2 i (by simpa using h)
    refine ⟨c4, x1, fun j hj => ?_⟩
    rw [e, List.getElem?_append_right (by rw [h1.len]; omega), h1.len, show (i + 1) * 4 + j - 4 = i * 4 + j by omega]
    exact x2 j hj
theorem ints_read {W : World} {B cap : Nat} {p : Option Addr} {l : List Int} (h : W.ownsRow B 3 1 (.slice p l.length cap) l.length (rowC l)) (h64 : ∀ x ∈ l, I64 x) : IntsR W p cap l := by
  rcases h.2 with ⟨x1, x2⟩ | ⟨g, cap', cur, x1, _⟩
  · injection x1 with y1 y2 y3
    subst y1 y3
    exact ⟨by omega, by simp [maxLen], fun i hi => by omega⟩
  · injection x1 with y1 y2 y3
    subst y1
    exact ints_own h h64
theorem hds_read {W : World} {B cap : Nat} {p : Option Addr} {l : List Hd} (h : W.ownsRow B 58 2 (.slice p l.length cap) l.length (hdsC l)) (h64 : ∀ x ∈ l, I64 x.chan) : HdsR W p cap l := by
  rcases h.2 with ⟨x1, x2⟩ | ⟨g, cap', cur, x1, _⟩
  · injection x1 with y1 y2 y3
    subst y1 y3
    exact ⟨by omega, by simp [maxLen], fun i hi => by omega⟩
  · injection x1 with y1 y2 y3
    subst y1
    exact hds_own h h64
/-- agents of one's own are to be read -/
theorem AgC.read {W : World} {B B' : Nat} {v : Value} {gs : List Ag} {cs : List Value} (ho : W.ownsRow B' 53 4 v gs.length cs) (h : AgC W B gs cs) : ∃ p c, v = .slice p gs.length c ∧ AgsR W p c gs := by
  have ho' := ho
  rcases ho.2 with ⟨x1, x2⟩ | ⟨g, cap, cur, x1, x2, x3, x4, x5, x6, x7⟩
  · exact ⟨none, 0, by rw [x1, x2], by omega, by simp [maxLen], fun i hi => by omega⟩
  · refine ⟨some ⟨g, 0, none⟩, cap, x1, x4, x5, fun i hi => ?_⟩
    obtain ⟨c4, ⟨ap, ac, hp, hc, e, h1, h2, h3, h4, h5⟩, hat⟩ := h.at i hi
    subst e
    rw [x1] at ho'
    refine ⟨g, 0, ap, ac, hp, hc, rfl, ⟨h1, hds_read h4 h2, ints_read h5 h3⟩, fun X hX => ?_⟩
    have hl := (Array.getElem?_eq_some_iff.1 x3).1
    have key : ∀ j, j < 4 → X.cell? ⟨g, i * 4 + j, none⟩ = cs[i * 4 + j]? := fun j hj => by
      rw [hX.cell (p := ⟨g, i * 4 + j, none⟩) hl, ho'.cellAt (i * 4 + j) (by omega)]
    rw [Nat.zero_add]
    exact ⟨(key 0 (by omega)).trans (hat 0 (by omega)), (key 1 (by omega)).trans (hat 1 (by omega)), (key 2 (by omega)).trans (hat 2 (by omega)), (key 3 (by omega)).trans (hat 3 (by omega))⟩
/-- what a link makes of one -/
def tkA (l : Lk) (a : Ag) : Ag := if a.id = l.waker ∨ a.id = l.woken then { a with awake := true, arms := [] } else a
end Go.Proofs.Ytjabdhmkibahlaa
