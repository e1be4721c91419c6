import Derived.Test.YtikijkpklneihaaCVRt
import Derived.Test.YtikijkpklneihaaCVRf
import Derived.OwnWalkIn
namespace Go.Proofs.Ytikijkpklneihaa
open Go.RowKit
set_option linter.unusedVariables false
set_option linter.unusedSimpArgs false

theorem wpListIn_app {F : Fence} {n : Nat} {P : Program} (w : World) {ops : Array Oper} {rest : List Oper} {o : Oper} {a : Act} {Q : Exit → Act → World → Prop}
    (hg : o.guard = none) (s x : Operand) (t : TypeId) (hop : o.op = Op.call { callee := Callee.builtin Builtin.append, args := #[s, x], argTypes := #[t, t] })
    (base : Nat) (e : TypeId) (i : TypeInfo) (z : Value) (size bytes : Nat) (h1 : P.underlying t = some (.slice e)) (h2 : P.info? e = some i) (h3 : i.zero = some z) (h4 : i.size = size) (h5 : i.bytes = bytes) (h6 : z.cells.size = size) (h7 : 0 < size)
    (v : Value) (k : Nat) (xs : List Value) (hs : a.eval s = v) (hown : w.ownsRow base e size v k xs) (ad : Addr) (m c : Nat) (news : List Value) (hx : a.eval x = .slice (some ad) m c) (hn : news.length = m * size)
    (hc : ∀ j u, news[j]? = some u → w.cell? (ad.add j) = some u) (h1c : ∀ u ∈ news, u.oneCell' = true) (b0 : 0 < m) (b1 : k + m ≤ maxLen) (b2 : (k + m) * bytes ≤ 140737488355328) (b3 : base ≤ w.heap.size) (H : Nat) (hH : w.heap.size = H)
    (hK : ∀ g cap w', w'.ownsRow base e size (.slice (some ⟨g, 0, none⟩) (k + m) cap) (k + m) (xs ++ news) → w.grownBy w' v.ownBlock → (v.ownBlock = some g ∨ g = H) → g < w'.heap.size → wpListIn F n P ops Q rest (a.put o.dst (.slice (some ⟨g, 0, none⟩) (k + m) cap)) w') :
    wpListIn F n P ops Q (o :: rest) a w := by
  refine wpListIn_plain hg fun K hK' => ?_
  obtain ⟨g, cap, w', hrun, r1, r2, r3, r4⟩ := run_append_lies (P := P) w t o.type base e i z size bytes h1 h2 h3 h4 h5 h6 h7 v k xs hown ad m c news hn hc h1c b0 b1 b2 b3 H hH
  unfold Oper.wpIn
  constructor
  · simp [Oper.about, hop, resolve, Target.leads, Sem.run_pure]
  · have hp : ∀ cl, o.op ≠ Op.defer cl := by intro cl hcl; rw [hop] at hcl; cases hcl
    rw [Oper.semAt_plain F _ _ (by rw [hop]; intro c hc'; cases hc')]
    simp [execOp, hop, resolve, invoke, builtin, hs, hx, hrun, Result.andThen]
    exact hK' _ _ (hK g cap w' r1 r2 r3 r4)

/-- slices, each of which is a list in memory -/
def RowQ (Q : Option Addr → Nat → List V → Prop) : List (List V) → List Value → Prop
  | [], xs => xs = []
  | l :: ls, xs => ∃ p c ys, xs = .slice p l.length c :: ys ∧ Q p c l ∧ RowQ Q ls ys
theorem RowQ.len {Q : Option Addr → Nat → List V → Prop} {ls : List (List V)} : ∀ {xs : List Value}, RowQ Q ls xs → xs.length = ls.length := by
  induction ls with
  | nil => intro xs h; simp [RowQ] at h; simp [h]
  | cons l ls ih =>
    intro xs h
    obtain ⟨p, c, ys, rfl, h1, h2⟩ := h
    simp [ih h2]
theorem RowQ.mono {Q Q' : Option Addr → Nat → List V → Prop} (hQ : ∀ p c l, Q p c l → Q' p c l) {ls : List (List V)} : ∀ {xs : List Value}, RowQ Q ls xs → RowQ Q' ls xs := by
  induction ls with
  | nil => intro xs h; exact h
  | cons l ls ih =>
    intro xs h
    obtain ⟨p, c, ys, rfl, h1, h2⟩ := h
    exact ⟨p, c, ys, rfl, hQ _ _ _ h1, ih h2⟩
theorem RowQ.append {Q : Option Addr → Nat → List V → Prop} {ls ms : List (List V)} {ys : List Value} : ∀ {xs : List Value}, RowQ Q ls xs → RowQ Q ms ys → RowQ Q (ls ++ ms) (xs ++ ys) := by
  induction ls with
  | nil => intro xs h k; simp [RowQ] at h; subst h; exact k
  | cons l ls ih =>
    intro xs h k
    obtain ⟨p, c, zs, rfl, h1, h2⟩ := h
    exact ⟨p, c, zs ++ ys, rfl, h1, ih h2 k⟩
theorem RowQ.last {Q : Option Addr → Nat → List V → Prop} {l : List V} {ls : List (List V)} : ∀ {xs : List Value}, RowQ Q (ls ++ [l]) xs → ∃ ys p c, xs = ys ++ [.slice p l.length c] ∧ RowQ Q ls ys ∧ Q p c l := by
  induction ls with
  | nil =>
    intro xs h
    obtain ⟨p, c, zs, rfl, h1, h2⟩ := h
    simp [RowQ] at h2
    subst h2
    exact ⟨[], p, c, rfl, rfl, h1⟩
  | cons m ls ih =>
    intro xs h
    obtain ⟨p, c, zs, rfl, h1, h2⟩ := h
    obtain ⟨ys, q, d, rfl, k1, k2⟩ := ih h2
    exact ⟨_ :: ys, q, d, rfl, ⟨p, c, ys, rfl, h1, k1⟩, k2⟩
/-- a row of such, of one's own -/
structure StkQ (W : World) (base : Nat) (Q : Option Addr → Nat → List V → Prop) (v : Value) (st : List (List V)) : Prop where
  own : ∃ xs, W.ownsRow base 22 1 v st.length xs ∧ RowQ Q st xs
theorem StkQ.val {W : World} {base : Nat} {Q : Option Addr → Nat → List V → Prop} {v : Value} {st : List (List V)} (h : StkQ W base Q v st) : (v = .slice none 0 0 ∧ st = []) ∨ ∃ g cap, v = .slice (some ⟨g, 0, none⟩) st.length cap ∧ base ≤ g ∧ g < W.heap.size ∧ st.length ≤ cap ∧ cap ≤ maxLen := by
  obtain ⟨xs, h1, h2⟩ := h.own
  rcases h1.2 with ⟨rfl, h3⟩ | ⟨g, cap, cur, rfl, h4, h5, h6, h7, _⟩
  · exact .inl ⟨rfl, List.eq_nil_of_length_eq_zero h3⟩
  · exact .inr ⟨g, cap, rfl, h4, (Array.getElem?_eq_some_iff.1 h5).1, h6, h7⟩
theorem StkQ.pop {W : World} {base : Nat} {Q : Option Addr → Nat → List V → Prop} {v : Value} {st : List (List V)} {l : List V} (h : StkQ W base Q v (st ++ [l])) :
    ∃ g cap p c, v = .slice (some ⟨g, 0, none⟩) (st.length + 1) cap ∧ base ≤ g ∧ g < W.heap.size ∧ st.length + 1 ≤ cap ∧ cap ≤ maxLen ∧ W.cell? ⟨g, st.length, none⟩ = some (.slice p l.length c) ∧ Q p c l ∧ StkQ W base Q (.slice (some ⟨g, 0, none⟩) st.length cap) st := by
  obtain ⟨xs, h1, h2⟩ := h.own
  obtain ⟨ys, p, c, rfl, h3, h4⟩ := h2.last
  obtain ⟨q1, q2⟩ := h1
  have hl := h3.len
  rcases q2 with ⟨_, h5⟩ | ⟨g, cap, cur, rfl, q3, q4, q5, q6, q7, q8⟩
  · simp at h5
  · simp only [List.length_append, List.length_singleton, Nat.mul_one] at q5 q7 q8 ⊢
    have hcur : ∀ j, j < st.length + 1 → cur[j]? = (ys ++ [Value.slice p l.length c])[j]? := fun j hj => by
      rw [← q8, List.getElem?_take_of_lt hj, Array.getElem?_toList]
    refine ⟨g, cap, p, c, rfl, q3, (Array.getElem?_eq_some_iff.1 q4).1, q5, q6, ?_, h4, ⟨ys, ⟨by omega, .inr ⟨g, cap, cur, rfl, q3, q4, by omega, q6, by omega, ?_⟩⟩, h3⟩⟩
    · simp only [World.cell?, q4]
      rw [hcur _ (by omega)]
      simp [← hl]
    · apply List.ext_getElem?
      intro j
      by_cases hj : j < st.length
      · rw [List.getElem?_take_of_lt (by omega), Array.getElem?_toList, hcur j (by omega), List.getElem?_append_left (by omega)]
      · rw [List.getElem?_eq_none (by simp; omega), List.getElem?_eq_none (by omega)]
theorem own_cells {W : World} {base : Nat} {e : TypeId} {s : Nat} {v : Value} {n : Nat} {cs : List Value} (h : W.ownsRow base e s v n cs) {g : Nat} (hg : v.ownBlock = some g) : ∃ o : Obj, W.heap[g]? = some o ∧ o.isCells = true := by
  rcases h.2 with ⟨rfl, _⟩ | ⟨g', cap, cur, rfl, h2, h3, _⟩
  · cases hg
  · cases hg; exact ⟨_, h3, rfl⟩

/-- a value and all that stands in it -/
inductive Nod : V → V → Prop
  | me (x : V) : Nod x x
  | kid {x y z : V} : z ∈ x.l → Nod z y → Nod x y
theorem nod_iff {x y : V} : Nod x y ↔ y = x ∨ ∃ z ∈ x.l, Nod z y := by
  constructor
  · intro h
    cases h with
    | me => exact .inl rfl
    | kid h1 h2 => exact .inr ⟨_, h1, h2⟩
  · rintro (rfl | ⟨z, h1, h2⟩)
    · exact .me _
    · exact .kid h1 h2
/-- .. of a list -/
def Nods (l : List V) (y : V) : Prop := ∃ z ∈ l, Nod z y
theorem nods_nil (y : V) : ¬ Nods [] y := by rintro ⟨_, h, _⟩; cases h
theorem nods_drop {l : List V} {i : Nat} (h : i < l.length) (y : V) : Nods (l.drop i) y ↔ (y = l[i] ∨ Nods l[i].l y) ∨ Nods (l.drop (i + 1)) y := by
  rw [List.drop_eq_getElem_cons h]
  constructor
  · rintro ⟨z, h1, h2⟩
    rcases List.mem_cons.1 h1 with rfl | h1
    · exact .inl (nod_iff.1 h2)
    · exact .inr ⟨z, h1, h2⟩
  · rintro (h1 | ⟨z, h1, h2⟩)
    · exact ⟨_, List.mem_cons_self, nod_iff.2 h1⟩
    · exact ⟨z, List.mem_cons_of_mem _ h1, h2⟩
def Nodst (st : List (List V)) (y : V) : Prop := ∃ l ∈ st, Nods l y
theorem nodst_snoc {st : List (List V)} {l : List V} (y : V) : Nodst (st ++ [l]) y ↔ Nodst st y ∨ Nods l y := by
  constructor
  · rintro ⟨m, h1, h2⟩
    rcases List.mem_append.1 h1 with h | h
    · exact .inl ⟨m, h, h2⟩
    · simp at h; subst h; exact .inr h2
  · rintro (⟨m, h1, h2⟩ | h)
    · exact ⟨m, by simp [h1], h2⟩
    · exact ⟨l, by simp, h⟩
end Go.Proofs.Ytikijkpklneihaa
