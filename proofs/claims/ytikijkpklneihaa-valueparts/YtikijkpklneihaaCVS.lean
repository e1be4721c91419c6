import Derived.Test.YtikijkpklneihaaCVB
import Derived.Laws.AppendOwn
namespace Go.Proofs.Ytikijkpklneihaa
open Go.RowKit
set_option linter.unusedVariables false
set_option linter.unusedSimpArgs false

/-- slices of values, one behind the other -/
def SlVs (W : World) (B : Nat) : List Value → List (List V) → Prop
  | [], [] => True
  | x :: xs, l :: ls => (∃ p cap, x = .slice p l.length cap ∧ SlV W B p cap l) ∧ SlVs W B xs ls
  | _, _ => False
theorem SlVs.len {W : World} {B : Nat} : ∀ {xs : List Value} {ls : List (List V)}, SlVs W B xs ls → xs.length = ls.length
  | [], [], _ => rfl
  | x :: xs, l :: ls, h => by simp [SlVs.len h.2]
  | [], _ :: _, h => h.elim
  | _ :: _, [], h => h.elim
theorem SlVs.lo {W W' : World} {B : Nat} (hB : Lo B W W') : ∀ {xs : List Value} {ls : List (List V)}, SlVs W B xs ls → SlVs W' B xs ls
  | [], [], _ => trivial
  | x :: xs, l :: ls, ⟨⟨p, cap, e, h⟩, hs⟩ => ⟨⟨p, cap, e, h.lo hB⟩, SlVs.lo hB hs⟩
  | [], _ :: _, h => h.elim
  | _ :: _, [], h => h.elim
theorem SlVs.append {W : World} {B : Nat} : ∀ {xs ys : List Value} {ls ms : List (List V)}, SlVs W B xs ls → SlVs W B ys ms → SlVs W B (xs ++ ys) (ls ++ ms)
  | [], _, [], _, _, k => k
  | x :: xs, _, l :: ls, _, ⟨h, hs⟩, k => ⟨h, SlVs.append hs k⟩
  | [], _, _ :: _, _, h, _ => h.elim
  | _ :: _, _, [], _, h, _ => h.elim
theorem SlVs.last {W : World} {B : Nat} {xs : List Value} : ∀ {ls : List (List V)} {l : List V}, SlVs W B xs (ls ++ [l]) → ∃ ys p cap, xs = ys ++ [.slice p l.length cap] ∧ SlVs W B ys ls ∧ SlV W B p cap l := by
  induction xs with
  | nil => intro ls l h; have := h.len; simp at this
  | cons x xs ih =>
    intro ls l h
    cases ls with
    | nil =>
      obtain ⟨⟨p, cap, rfl, h1⟩, h2⟩ := h
      have := SlVs.len h2
      have e : xs = [] := by cases xs with | nil => rfl | cons a b => simp at this
      subst e
      exact ⟨[], p, cap, rfl, trivial, h1⟩
    | cons m ms =>
      obtain ⟨h1, h2⟩ := h
      obtain ⟨ys, p, cap, rfl, h3, h4⟩ := ih h2
      exact ⟨x :: ys, p, cap, rfl, ⟨h1, h3⟩, h4⟩

/-- a row that is one's own: it stays where its block stays -/
theorem own_same {W W' : World} {base : Nat} {e : TypeId} {s : Nat} {v : Value} {n : Nat} {cs : List Value} (h : W.ownsRow base e s v n cs) (hb : ∀ g o, v.ownBlock = some g → W.heap[g]? = some o → W'.heap[g]? = some o) : W'.ownsRow base e s v n cs := by
  refine ⟨h.1, ?_⟩
  rcases h.2 with h1 | ⟨g, cap, cur, rfl, h2, h3, h4⟩
  · exact .inl h1
  · exact .inr ⟨g, cap, cur, rfl, h2, hb g _ rfl h3, h4⟩

/-- what is left, as a row of slices -/
structure Stk (W : World) (base B : Nat) (v : Value) (st : List (List V)) : Prop where
  own : ∃ xs, W.ownsRow base 22 1 v st.length xs ∧ SlVs W B xs st
theorem Stk.val {W : World} {base B : Nat} {v : Value} {st : List (List V)} (h : Stk W base B v st) : (v = .slice none 0 0 ∧ st = []) ∨ ∃ g cap, v = .slice (some ⟨g, 0, none⟩) st.length cap ∧ base ≤ g ∧ g < W.heap.size ∧ st.length ≤ cap ∧ cap ≤ maxLen := by
  obtain ⟨xs, h1, h2⟩ := h.own
  rcases h1.2 with ⟨rfl, h3⟩ | ⟨g, cap, cur, rfl, h4, h5, h6, h7, _⟩
  · exact .inl ⟨rfl, List.eq_nil_of_length_eq_zero h3⟩
  · exact .inr ⟨g, cap, rfl, h4, (Array.getElem?_eq_some_iff.1 h5).1, h6, h7⟩
theorem Stk.pop {W : World} {base B : Nat} {v : Value} {st : List (List V)} {l : List V} (h : Stk W base B v (st ++ [l])) :
    ∃ g cap p c, v = .slice (some ⟨g, 0, none⟩) (st.length + 1) cap ∧ base ≤ g ∧ g < W.heap.size ∧ st.length + 1 ≤ cap ∧ cap ≤ maxLen ∧ W.cell? ⟨g, st.length, none⟩ = some (.slice p l.length c) ∧ SlV W B p c l ∧ Stk W base B (.slice (some ⟨g, 0, none⟩) st.length cap) st := by
  obtain ⟨xs, h1, h2⟩ := h.own
  obtain ⟨ys, p, c, rfl, h3, h4⟩ := h2.last
  obtain ⟨q1, q2⟩ := h1
  have hl := h3.len
  rcases q2 with ⟨_, h5⟩ | ⟨g, cap, cur, rfl, q3, q4, q5, q6, q7, q8⟩
  · simp at h5
  · simp only [List.length_append, List.length_singleton, Nat.mul_one] at q5 q7 q8 ⊢
    have hcur : ∀ j, j < st.length + 1 → cur[j]? = (ys ++ [Value.slice p l.length c])[j]? := fun j hj => by
      rw [← q8, List.getElem?_take_of_lt hj, Array.getElem?_toList]
    refine ⟨g, cap, p, c, rfl, q3, (Array.getElem?_eq_some_iff.1 q4).1, q5, q6, ?_, h4, ⟨ys, ⟨by omega, .inr ⟨g, cap, cur, rfl, q3, q4, by omega, q6, by omega, ?_⟩⟩, h3⟩⟩
    · simp only [World.cell?, q4]
      rw [hcur _ (by omega)]
      simp [← hl]
    · apply List.ext_getElem?
      intro j
      by_cases hj : j < st.length
      · rw [List.getElem?_take_of_lt (by omega), Array.getElem?_toList, hcur j (by omega), List.getElem?_append_left (by omega)]
      · rw [List.getElem?_eq_none (by simp; omega), List.getElem?_eq_none (by omega)]
theorem Stk.keep {W W' : World} {base B : Nat} {v : Value} {st : List (List V)} (h : Stk W base B v st) (hB : Lo B W W') (hb : ∀ g o, v.ownBlock = some g → W.heap[g]? = some o → W'.heap[g]? = some o) : Stk W' base B v st := by
  obtain ⟨xs, h1, h2⟩ := h.own
  exact ⟨xs, own_same h1 hb, h2.lo hB⟩
theorem Stk.ext {W W' : World} {base B : Nat} {v : Value} {st : List (List V)} (h : Stk W base B v st) (hB : B ≤ W.heap.size) (hb : Below W.heap.size W W') : Stk W' base B v st :=
  h.keep (Lo.of (hb.mono hB)) (fun g o _ hg => (hb.block g (Array.getElem?_eq_some_iff.1 hg).1).trans hg)
theorem Stk.push {W W' : World} {base B : Nat} {v' : Value} {st : List (List V)} {p : Option Addr} {c : Nat} {l : List V} {xs : List Value} (h2 : SlVs W B xs st) (hl : SlV W B p c l) (h' : W'.ownsRow base 22 1 v' (st.length + 1) (xs ++ [.slice p l.length c])) (hB : Lo B W W') : Stk W' base B v' (st ++ [l]) :=
  ⟨xs ++ [.slice p l.length c], by simpa using h', (h2.append (ys := [.slice p l.length c]) (ls := st) (ms := [l]) ⟨⟨p, c, rfl, hl⟩, trivial⟩).lo hB⟩
/-- a row that grows by itself leaves what is below -/
theorem lo_grown {W W' : World} {B base : Nat} {r : Option Nat} (hg : W.grownBy W' r) (hr : ∀ g, r = some g → base ≤ g) (hB : B ≤ base) (hs : B ≤ W.heap.size) : Lo B W W' :=
  Lo.blocks fun b hb => hg.block b (by omega) (fun e => by have := hr b e.symm; omega)
theorem slice_one (W : World) (g : Nat) (u : Value) (t : TypeId) (hg : W.heap[g]? = some (.cells #[u] t (0, 0))) : ∀ (j : Nat) (x : Value), [u][j]? = some x → W.cell? ((⟨g, 0, none⟩ : Addr).add j) = some x := by
  intro j x hx
  cases j with
  | zero =>
    simp at hx
    subst hx
    simp [World.cell?, Addr.add, hg]
  | succ j => simp at hx
theorem slice_cell (p : Option Addr) (n c : Nat) : ∀ u ∈ [Value.slice p n c], u.oneCell' = true := by
  intro u hu; simp at hu; subst hu; rfl
theorem own_base {W : World} {base : Nat} {e : TypeId} {s : Nat} {v : Value} {n : Nat} {cs : List Value} (h : W.ownsRow base e s v n cs) : ∀ g, v.ownBlock = some g → base ≤ g := by
  intro g hg
  rcases h.2 with ⟨rfl, _⟩ | ⟨g', cap, cur, rfl, h2, _⟩
  · cases hg
  · cases hg; exact h2
theorem push_all {wr X w' : World} {base B : Nat} {u v' : Value} {st : List (List V)} {xs : List Value} {r : Option Addr} {rc : Nat} {l : List V} (hown : wr.ownsRow base 22 1 u st.length xs) (hsl : SlVs wr B xs st) (hl : SlV wr B r rc l) (hX : Below wr.heap.size wr X)
    (hown' : w'.ownsRow base 22 1 v' (st.length + 1) (xs ++ [.slice r l.length rc])) (hg : X.grownBy w' u.ownBlock) (hB : B ≤ base) (hbase : base ≤ wr.heap.size) :
    Stk w' base B v' (st ++ [l]) ∧ Lo B wr w' ∧ Below base wr w' ∧ wr.heap.size ≤ w'.heap.size := by
  have hs := hX.size
  have hb : Below base wr w' := (hX.mono hbase).grown hg (by omega) (fun k e => own_base hown k e)
  have hlo : Lo B wr w' := Lo.of (hb.mono hB)
  exact ⟨Stk.push hsl hl hown' hlo, hlo, hb, Nat.le_trans hs hg.size⟩
theorem own_new {wr X : World} {base : Nat} {e : TypeId} {s : Nat} {v : Value} {n : Nat} {cs : List Value} (h : wr.ownsRow base e s v n cs) (hX : Below wr.heap.size wr X) : X.ownsRow base e s v n cs :=
  own_same h (fun g o _ hg => (hX.block g (Array.getElem?_eq_some_iff.1 hg).1).trans hg)
theorem two_new (w : World) (o o' : Obj) : Below w.heap.size w ((w.alloc o).alloc o') := (below1 _ _).trans ((below1 _ _).mono (by simp))
theorem alloc_at (w : World) (o o' : Obj) : ((w.alloc o).alloc o').heap[w.heap.size + 1]? = some o' := by
  have := World.alloc_heap_new (w.alloc o) o'; rwa [World.size_alloc] at this

/-- a value's three cells, by its number in a row -/
theorem SlV.at3 {W : World} {B : Nat} {p : Option Addr} {cap : Nat} {l : List V} (h : SlV W B p cap l) (i : Nat) (hi : i < l.length) :
    ∃ b o q c, p = some ⟨b, o, none⟩ ∧ b < B ∧ W.cell? ⟨b, o + i * 3, none⟩ = some (.int .i64 l[i].k) ∧ W.cell? ⟨b, o + i * 3 + 1, none⟩ = some (.int .i64 l[i].n) ∧ W.cell? ⟨b, o + i * 3 + 2, none⟩ = some (.slice q l[i].l.length c) ∧ SlV W B q c l[i].l ∧ I64 l[i].k ∧ I64 l[i].n := by
  obtain ⟨b, o, e, hb, h1⟩ := h.get i hi
  obtain ⟨q, c, h2, h3⟩ := h1.c2
  rw [Nat.mul_comm] at h1 h2
  exact ⟨b, o, q, c, e, hb, h1.c0, h1.c1, h2, h3, h1.k64, h1.n64⟩
theorem szs_drop {l : List V} {i : Nat} (hi : i < l.length) : szs (l.drop i) = 1 + szs l[i].l + szs (l.drop (i + 1)) := by
  rw [List.drop_eq_getElem_cons hi, szs, V.sz_eq]
theorem ownB {p : Nat} {n c : Nat} : (Value.slice (some ⟨p, 0, none⟩) n c).ownBlock = some p := rfl
end Go.Proofs.Ytikijkpklneihaa
