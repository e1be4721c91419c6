import Derived.Test.YtikijkpklneihaaCVSh
namespace Go.Proofs.Ytikijkpklneihaa
open Go.RowKit
set_option linter.unusedVariables false
set_option linter.unusedSimpArgs false

/-- values, three cells each -/
def RowV (W : World) (B : Nat) : List V → List Value → Prop
  | [], xs => xs = []
  | v :: vs, xs => ∃ p c ys, xs = .int .i64 v.k :: .int .i64 v.n :: .slice p v.l.length c :: ys ∧ SlV W B p c v.l ∧ I64 v.k ∧ I64 v.n ∧ RowV W B vs ys
theorem RowV.len {W : World} {B : Nat} {vs : List V} : ∀ {xs : List Value}, RowV W B vs xs → xs.length = vs.length * 3 := by
  induction vs with
  | nil => intro xs h; simp [RowV] at h; simp [h]
  | cons l ls ih =>
    intro xs h
    obtain ⟨p, c, ys, rfl, h1, h2, h3, h4⟩ := h
    have := ih h4; simp; omega
theorem RowV.lo {W W' : World} {B : Nat} (hB : Lo B W W') {vs : List V} : ∀ {xs : List Value}, RowV W B vs xs → RowV W' B vs xs := by
  induction vs with
  | nil => intro xs h; exact h
  | cons l ls ih =>
    intro xs h
    obtain ⟨p, c, ys, rfl, h1, h2, h3, h4⟩ := h
    exact ⟨p, c, ys, rfl, h1.lo hB, h2, h3, ih h4⟩
theorem RowV.append {W : World} {B : Nat} {ls ms : List V} {ys : List Value} : ∀ {xs : List Value}, RowV W B ls xs → RowV W B ms ys → RowV W B (ls ++ ms) (xs ++ ys) := by
  induction ls with
  | nil => intro xs h k; simp [RowV] at h; subst h; exact k
  | cons l ls ih =>
    intro xs h k
    obtain ⟨p, c, zs, rfl, h1, h2, h3, h4⟩ := h
    exact ⟨p, c, zs ++ ys, rfl, h1, h2, h3, ih h4 k⟩
theorem RowV.last {W : World} {B : Nat} {l : V} {ls : List V} : ∀ {xs : List Value}, RowV W B (ls ++ [l]) xs → ∃ ys p c, xs = ys ++ [.int .i64 l.k, .int .i64 l.n, .slice p l.l.length c] ∧ RowV W B ls ys ∧ SlV W B p c l.l ∧ I64 l.k ∧ I64 l.n := by
  induction ls with
  | nil =>
    intro xs h
    obtain ⟨p, c, zs, rfl, h1, h2, h3, h4⟩ := h
    simp [RowV] at h4
    subst h4
    exact ⟨[], p, c, rfl, rfl, h1, h2, h3⟩
  | cons m ls ih =>
    intro xs h
    obtain ⟨p, c, zs, rfl, h1, h2, h3, h4⟩ := h
    obtain ⟨ys, q, d, rfl, k1, k2, k3, k4⟩ := ih h4
    exact ⟨_ :: _ :: _ :: ys, q, d, rfl, ⟨p, c, ys, rfl, h1, h2, h3, k1⟩, k2, k3, k4⟩
/-- values that are left, as a row of one's own -/
structure StkV (W : World) (base B : Nat) (v : Value) (st : List V) : Prop where
  own : ∃ xs, W.ownsRow base 24 3 v st.length xs ∧ RowV W B st xs
theorem StkV.val {W : World} {base B : Nat} {v : Value} {st : List V} (h : StkV W base B v st) : (v = .slice none 0 0 ∧ st = []) ∨ ∃ g cap, v = .slice (some ⟨g, 0, none⟩) st.length cap ∧ base ≤ g ∧ g < W.heap.size ∧ st.length ≤ cap ∧ cap ≤ maxLen := by
  obtain ⟨xs, h1, h2⟩ := h.own
  rcases h1.2 with ⟨rfl, h3⟩ | ⟨g, cap, cur, rfl, h4, h5, h6, h7, _⟩
  · exact .inl ⟨rfl, List.eq_nil_of_length_eq_zero h3⟩
  · exact .inr ⟨g, cap, rfl, h4, (Array.getElem?_eq_some_iff.1 h5).1, h6, h7⟩
theorem StkV.pop {W : World} {base B : Nat} {v : Value} {st : List V} {l : V} (h : StkV W base B v (st ++ [l])) :
    ∃ g cap p c, v = .slice (some ⟨g, 0, none⟩) (st.length + 1) cap ∧ base ≤ g ∧ g < W.heap.size ∧ st.length + 1 ≤ cap ∧ cap ≤ maxLen ∧ W.cell? ⟨g, st.length * 3, none⟩ = some (.int .i64 l.k) ∧ W.cell? ⟨g, st.length * 3 + 1, none⟩ = some (.int .i64 l.n) ∧ W.cell? ⟨g, st.length * 3 + 2, none⟩ = some (.slice p l.l.length c) ∧
      SlV W B p c l.l ∧ I64 l.k ∧ I64 l.n ∧ StkV W base B (.slice (some ⟨g, 0, none⟩) st.length cap) st := by
  obtain ⟨xs, h1, h2⟩ := h.own
  obtain ⟨ys, p, c, rfl, h3, h4, h4k, h4n⟩ := h2.last
  obtain ⟨q1, q2⟩ := h1
  have hl := h3.len
  rcases q2 with ⟨_, h5⟩ | ⟨g, cap, cur, rfl, q3, q4, q5, q6, q7, q8⟩
  · simp at h5
  · simp only [List.length_append, List.length_singleton] at q5 q7 q8 ⊢
    have hcur : ∀ j, j < (st.length + 1) * 3 → cur[j]? = (ys ++ [Value.int .i64 l.k, .int .i64 l.n, .slice p l.l.length c])[j]? := fun j hj => by
      rw [← q8, List.getElem?_take_of_lt hj, Array.getElem?_toList]
    refine ⟨g, cap, p, c, rfl, q3, (Array.getElem?_eq_some_iff.1 q4).1, q5, q6, ?_, ?_, ?_, h4, h4k, h4n, ⟨ys, ⟨by omega, .inr ⟨g, cap, cur, rfl, q3, q4, by omega, q6, by omega, ?_⟩⟩, h3⟩⟩
    · simp only [World.cell?, q4]
      rw [hcur _ (by omega), ← hl, List.getElem?_append_right (by omega)]
      simp
    · simp only [World.cell?, q4]
      rw [hcur _ (by omega), ← hl, List.getElem?_append_right (by omega)]
      simp
    · simp only [World.cell?, q4]
      rw [hcur _ (by omega), ← hl, List.getElem?_append_right (by omega)]
      simp
    · apply List.ext_getElem?
      intro j
      by_cases hj : j < st.length * 3
      · rw [List.getElem?_take_of_lt (by omega), Array.getElem?_toList, hcur j (by omega), List.getElem?_append_left (by omega)]
      · rw [List.getElem?_eq_none (by simp; omega), List.getElem?_eq_none (by omega)]
theorem StkV.keep {W W' : World} {base B : Nat} {v : Value} {st : List V} (h : StkV W base B v st) (hB : Lo B W W') (hb : ∀ g o, v.ownBlock = some g → W.heap[g]? = some o → W'.heap[g]? = some o) : StkV W' base B v st := by
  obtain ⟨xs, h1, h2⟩ := h.own
  exact ⟨xs, own_same h1 hb, h2.lo hB⟩
theorem StkV.ext {W W' : World} {base B : Nat} {v : Value} {st : List V} (h : StkV W base B v st) (hB : B ≤ W.heap.size) (hb : Below W.heap.size W W') : StkV W' base B v st :=
  h.keep (Lo.of (hb.mono hB)) (fun g o _ hg => (hb.block g (Array.getElem?_eq_some_iff.1 hg).1).trans hg)
/-- numbers that are left -/
structure StkI (W : World) (base : Nat) (v : Value) (n : Nat) : Prop where
  own : ∃ zs : List Int, zs.length = n ∧ (∀ z ∈ zs, 0 ≤ z ∧ z ≤ 65537) ∧ W.ownsRow base 3 1 v n (zs.map (Value.int .i64))
theorem StkI.pop {W : World} {base n : Nat} {v : Value} (h : StkI W base v (n + 1)) :
    ∃ g cap z, v = .slice (some ⟨g, 0, none⟩) (n + 1) cap ∧ base ≤ g ∧ g < W.heap.size ∧ n + 1 ≤ cap ∧ cap ≤ maxLen ∧ W.cell? ⟨g, n, none⟩ = some (.int .i64 z) ∧ 0 ≤ z ∧ z ≤ 65537 ∧ StkI W base (.slice (some ⟨g, 0, none⟩) n cap) n := by
  obtain ⟨zs, hz, hb, q1, q2⟩ := h.own
  rcases q2 with ⟨_, h5⟩ | ⟨g, cap, cur, rfl, q3, q4, q5, q6, q7, q8⟩
  · omega
  · have hn : n < zs.length := by omega
    have hcur : ∀ j, j < n + 1 → cur[j]? = (zs.map (Value.int .i64))[j]? := fun j hj => by
      rw [← q8, List.getElem?_take_of_lt (by omega), Array.getElem?_toList]
    have hbz := hb _ (List.getElem_mem hn)
    refine ⟨g, cap, zs[n], rfl, q3, (Array.getElem?_eq_some_iff.1 q4).1, q5, q6, ?_, hbz.1, hbz.2, ⟨zs.take n, by simp; omega, fun z hz => hb z (List.mem_of_mem_take hz), by simp; omega, .inr ⟨g, cap, cur, rfl, q3, q4, by omega, q6, by omega, ?_⟩⟩⟩
    · simp only [World.cell?, q4]
      rw [hcur _ (by omega)]
      simp [hn]
    · apply List.ext_getElem?
      intro j
      by_cases hj : j < n
      · rw [List.getElem?_take_of_lt (by omega), Array.getElem?_toList, hcur j (by omega), List.map_take, List.getElem?_take_of_lt hj]
      · rw [List.getElem?_eq_none (by simp; omega), List.getElem?_eq_none (by simp; omega)]
theorem StkI.keep {W W' : World} {base n : Nat} {v : Value} (h : StkI W base v n) (hb : ∀ g o, v.ownBlock = some g → W.heap[g]? = some o → W'.heap[g]? = some o) : StkI W' base v n := by
  obtain ⟨zs, h1, h2, h3⟩ := h.own
  exact ⟨zs, h1, h2, own_same h3 hb⟩
theorem StkI.ext {W W' : World} {base n : Nat} {v : Value} (h : StkI W base v n) (hb : Below W.heap.size W W') : StkI W' base v n :=
  h.keep (fun g o _ hg => (hb.block g (Array.getElem?_eq_some_iff.1 hg).1).trans hg)
end Go.Proofs.Ytikijkpklneihaa
