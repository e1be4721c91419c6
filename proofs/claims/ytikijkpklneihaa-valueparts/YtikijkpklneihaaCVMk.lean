import Derived.Test.YtikijkpklneihaaCVTr
import Derived.Deep.RegionHeld3
namespace Go.Proofs.Ytikijkpklneihaa
open Go.RowKit
set_option linter.unusedVariables false
set_option linter.unusedSimpArgs false

theorem TrV.list {W : World} {ρ : Gh} {id : Nat} {q : List Nat} {x y : V} {p : Option Addr} {c : Nat} (h : TrV W ρ id q x p c) (e : y.l = x.l) : TrV W ρ id q y p c := by
  obtain ⟨h1, h2, h3⟩ := TrV.iff.1 h
  rw [← e] at h1 h3
  exact TrV.iff.2 ⟨h1, h2, h3⟩
def mk1 (n : Int) (j : Nat) (x : V) : V := .mk 50 (-n - j) (mkV (n + j + 1) x).l
theorem mkV_l (n : Int) (x : V) : (mkV n x).l = mkL n 0 x.l := by cases x; simp [mkV, V.l]
theorem mkV_len (n : Int) (x : V) : (mkV n x).l.length = x.l.length := by rw [mkV_l, mkL_len]
theorem mkV_at (n : Int) (x : V) (j : Nat) (h : j < x.l.length) : (mkV n x).l[j]'(by rw [mkV_len]; exact h) = mk1 n j x.l[j] := by
  have h2 := mkL_at n x.l 0 j h
  simp only [Nat.zero_add] at h2
  have e : ∀ (a : List V) (q : a = mkL n 0 x.l) (h' : j < a.length), a[j] = (mkL n 0 x.l)[j]'(by rw [← q]; exact h') := by
    intro a q h'
    subst q
    rfl
  rw [e _ (mkV_l n x) _, h2]
  rfl
/-- what only turns blocks under two places, and what is new -/
structure FrM (W W' : World) (S : Nat → Prop) : Prop where
  os : W'.os = W.os
  tape : W'.tape = W.tape
  output : W'.output = W.output
  size : W.heap.size ≤ W'.heap.size
  block : ∀ b, b < W.heap.size → ¬ S b → W'.heap[b]? = W.heap[b]?
theorem FrM.refl (W : World) (S : Nat → Prop) : FrM W W S := ⟨rfl, rfl, rfl, Nat.le_refl _, fun _ _ _ => rfl⟩
theorem FrM.trans {W W' W2 : World} {S : Nat → Prop} (h : FrM W W' S) (g : FrM W' W2 S) : FrM W W2 S :=
  ⟨g.os.trans h.os, g.tape.trans h.tape, g.output.trans h.output, Nat.le_trans h.size g.size, fun b hb hs => (g.block b (Nat.lt_of_lt_of_le hb h.size) hs).trans (h.block b hb hs)⟩
theorem FrM.wide {W W' : World} {S S' : Nat → Prop} (h : FrM W W' S) (hs : ∀ b, S b → S' b) : FrM W W' S' :=
  ⟨h.os, h.tape, h.output, h.size, fun b hb hn => h.block b hb fun e => hn (hs b e)⟩
theorem FrM.of {W W' : World} {S : Nat → Prop} (h : Below W.heap.size W W') : FrM W W' S := ⟨h.os, h.tape, h.output, h.size, fun b hb _ => h.block b hb⟩
theorem FrM.set {W W' : World} {S : Nat → Prop} (h : FrM W W' S) {b : Nat} (hb : S b ∨ W.heap.size ≤ b) (o : Nat) (v : Value) : FrM W (W'.setCell ⟨b, o, none⟩ v) S :=
  ⟨h.os, h.tape, h.output, by simpa [World.size_setCell] using h.size, fun y hy hn => by
    rw [Below.heap_setCell _ ⟨b, o, none⟩ _ _ (fun e => by
      have e' : y = b := e
      subst e'
      rcases hb with hb | hb
      · exact hn hb
      · omega)]
    exact h.block y hy hn⟩
/-- a tree under way: its first places are marked -/
structure MkI (W : World) (ρ : Gh) (id : Nat) (q : List Nat) (p : Option Addr) (c : Nat) (l : List V) (n : Int) (i : Nat) : Prop where
  len : Cp id l.length c
  cap : c ≤ 2147483648
  row : (l = [] ∧ p = none ∧ c = 0) ∨ ∃ b, p = some ⟨b, 0, none⟩ ∧ ρ b = some (id, q) ∧ MRow W b (c * 3) ∧ ∀ j (h : j < l.length), TrIn W ρ id q b j (if j < i then mk1 n j l[j] else l[j])
theorem MkI.start {W : World} {ρ : Gh} {id : Nat} {q : List Nat} {x : V} {p : Option Addr} {c : Nat} (h : TrV W ρ id q x p c) (n : Int) : MkI W ρ id q p c x.l n 0 := by
  obtain ⟨h1, h2, h3⟩ := TrV.iff.1 h
  refine ⟨h1, h2, ?_⟩
  rcases h3 with h3 | ⟨b, e1, e2, e3, e4⟩
  · exact .inl h3
  · exact .inr ⟨b, e1, e2, e3, fun j hj => by
      have := e4.get j hj
      rw [Nat.zero_add] at this
      simpa using this⟩
theorem MkI.done {W : World} {ρ : Gh} {id : Nat} {q : List Nat} {x : V} {p : Option Addr} {c : Nat} {n : Int} (h : MkI W ρ id q p c x.l n x.l.length) : TrV W ρ id q (mkV n x) p c := by
  refine TrV.iff.2 ⟨by rw [mkV_len]; exact h.len, h.cap, ?_⟩
  rcases h.row with ⟨h1, h2⟩ | ⟨b, e1, e2, e3, e4⟩
  · exact .inl ⟨List.eq_nil_of_length_eq_zero (by rw [mkV_len, h1]; rfl), h2⟩
  · refine .inr ⟨b, e1, e2, e3, TrAll.of_get fun j hj => ?_⟩
    have hj2 : j < x.l.length := by rw [mkV_len] at hj; exact hj
    have := e4 j hj2
    rw [if_pos hj2] at this
    rw [Nat.zero_add, mkV_at n x j hj2]
    exact this
theorem TrIn.keep {W W' : World} {ρ : Gh} {id : Nat} {q : List Nat} {b i : Nat} {v : V} (h : TrIn W ρ id q b i v) (hbl : b < W.heap.size) (hr : ρ b = some (id, q)) (hb : ∀ y, y < W.heap.size → ρ y = some (id, q) ∨ Und ρ id (i :: q) y → W'.heap[y]? = W.heap[y]?) : TrIn W' ρ id q b i v := by
  have hc : ∀ o, W'.cell? ⟨b, o, none⟩ = W.cell? ⟨b, o, none⟩ := fun o => World.cell?_of_block (a := ⟨b, o, none⟩) (hb b hbl (.inl hr))
  obtain ⟨p, c, h1, h2⟩ := h.c2
  exact ⟨by rw [hc]; exact h.c0, by rw [hc]; exact h.c1, h.k64, h.n64, p, c, by rw [hc]; exact h1, TrV.keep v h2 fun y hy hu => hb y hy (.inr hu)⟩
/-- what turns no block of the tree leaves it -/
theorem MkI.keep {W W' : World} {ρ : Gh} {id : Nat} {q : List Nat} {p : Option Addr} {c : Nat} {l : List V} {n : Int} {i : Nat} (h : MkI W ρ id q p c l n i) (hb : ∀ y, y < W.heap.size → Und ρ id q y → W'.heap[y]? = W.heap[y]?) : MkI W' ρ id q p c l n i := by
  refine ⟨h.len, h.cap, ?_⟩
  rcases h.row with h3 | ⟨b, e1, e2, e3, e4⟩
  · exact .inl h3
  · exact .inr ⟨b, e1, e2, e3.same (hb b e3.lt (Und.self e2)), fun j hj => (e4 j hj).keep e3.lt e2 fun y hy hu => hb y hy (by
      rcases hu with hu | hu
      · exact Und.self hu
      · exact hu.kid)⟩
/-- a place's list is marked: then its number and its kind -/
theorem MkI.step {W W' : World} {ρ : Gh} {id : Nat} {q : List Nat} {p : Option Addr} {c : Nat} {l : List V} {n : Int} {i b : Nat} {p' : Option Addr} {c' : Nat} (h : MkI W ρ id q p c l n i) (hi : i < l.length) (hp : p = some ⟨b, 0, none⟩) (hc : W.cell? ⟨b, i * 3 + 2, none⟩ = some (.slice p' l[i].l.length c')) (hk : TrV W' ρ id (i :: q) (mkV (n + i + 1) l[i]) p' c') (hb : ∀ y, y < W.heap.size → Und ρ id q y → ¬ Und ρ id (i :: q) y → W'.heap[y]? = W.heap[y]?) (hn : I64 (-n - i)) :
    ∀ W2 : World, W2.heap.size = W'.heap.size → (∀ y, y ≠ b → W2.heap[y]? = W'.heap[y]?) → W2.heap[b]? = ((W'.setCell ⟨b, i * 3 + 1, none⟩ (.int .i64 (-n - i))).setCell ⟨b, i * 3, none⟩ (.int .i64 50)).heap[b]? → MkI W2 ρ id q p c l n (i + 1) := by
  intro W2 hs ho he
  refine ⟨h.len, h.cap, ?_⟩
  rcases h.row with ⟨h1, _⟩ | ⟨b', e1, e2, e3, e4⟩
  · rw [h1] at hi; simp at hi
  · rw [hp] at e1
    simp only [Option.some.injEq, Addr.mk.injEq, and_true] at e1
    subst e1
    have hbl : b < W.heap.size := e3.lt
    have hnu : ∀ j, ¬ Und ρ id (j :: q) b := fun j hu => hu.not_self e2
    have hbW : W'.heap[b]? = W.heap[b]? := hb b hbl (Und.self e2) (hnu i)
    have r1 := e3.same hbW
    have r2 := (r1.set (i * 3 + 1) (.int .i64 (-n - i))).set (i * 3) (.int .i64 50)
    have hlc := h.len.1
    obtain ⟨u0, g0⟩ := r1.cell (i * 3) (by omega)
    obtain ⟨u1, g1⟩ := r1.cell (i * 3 + 1) (by omega)
    have hcell : ∀ o, W2.cell? ⟨b, o, none⟩ = ((W'.setCell ⟨b, i * 3 + 1, none⟩ (.int .i64 (-n - i))).setCell ⟨b, i * 3, none⟩ (.int .i64 50)).cell? ⟨b, o, none⟩ := fun o => World.cell?_of_block (a := ⟨b, o, none⟩) he
    have hoth : ∀ o, o ≠ i * 3 → o ≠ i * 3 + 1 → W2.cell? ⟨b, o, none⟩ = W.cell? ⟨b, o, none⟩ := fun o h0 h1 => by
      rw [hcell, World.cell?_setCell_other (h := by intro e; cases e; exact h0 rfl), World.cell?_setCell_other (h := by intro e; cases e; exact h1 rfl)]
      exact World.cell?_of_block (a := ⟨b, o, none⟩) hbW
    have k0 : W2.cell? ⟨b, i * 3, none⟩ = some (.int .i64 50) := by
      rw [hcell]
      exact World.cell?_setCell_same _ _ _ (by rw [World.cell?_setCell_other (h := by intro e; simp at e)]; exact g0)
    have k1 : W2.cell? ⟨b, i * 3 + 1, none⟩ = some (.int .i64 (-n - i)) := by
      rw [hcell, World.cell?_setCell_other (h := by intro e; simp at e)]
      exact World.cell?_setCell_same _ _ _ g1
    have hW2 : ∀ j y, y < W.heap.size → j ≠ i → Und ρ id (j :: q) y → W2.heap[y]? = W.heap[y]? := fun j y hy hj hu => by
      rw [ho y (fun e => hnu j (e ▸ hu))]
      exact hb y hy hu.kid fun hu2 => hj (hu.apart hu2)
    refine .inr ⟨b, hp, e2, ?_, fun j hj => ?_⟩
    · obtain ⟨C, a1, a2⟩ := r2.ex
      exact ⟨C, he.trans a1, a2⟩
    · rcases Nat.lt_trichotomy j i with h1 | h1 | h1
      · have g := e4 j hj
        rw [if_pos h1] at g
        rw [if_pos (by omega)]
        obtain ⟨a, d, g3, g4⟩ := g.c2
        exact ⟨by rw [hoth _ (by omega) (by omega)]; exact g.c0, by rw [hoth _ (by omega) (by omega)]; exact g.c1, g.k64, g.n64, a, d, by rw [hoth _ (by omega) (by omega)]; exact g3, TrV.keep _ g4 fun y hy hu => hW2 j y hy (by omega) hu⟩
      · subst h1
        rw [if_pos (by omega)]
        have hlen : (mk1 n j l[j]).l.length = l[j].l.length := mkV_len _ _
        refine ⟨k0, k1, (show I64 50 from ⟨by decide, by decide⟩), hn, p', c', ?_, ?_⟩
        · rw [hlen, hoth _ (by omega) (by omega)]; exact hc
        · exact TrV.keep _ (hk.list (y := mk1 n j l[j]) rfl) fun y _ hu => ho y fun e => hnu j (e ▸ hu)
      · have g := e4 j hj
        rw [if_neg (by omega)] at g
        rw [if_neg (by omega)]
        obtain ⟨a, d, g3, g4⟩ := g.c2
        exact ⟨by rw [hoth _ (by omega) (by omega)]; exact g.c0, by rw [hoth _ (by omega) (by omega)]; exact g.c1, g.k64, g.n64, a, d, by rw [hoth _ (by omega) (by omega)]; exact g3, TrV.keep _ g4 fun y hy hu => hW2 j y hy (by omega) hu⟩
end Go.Proofs.Ytikijkpklneihaa
namespace Go.Proofs.Ytikijkpklneihaa
open Go.RowKit
set_option linter.unusedVariables false
set_option linter.unusedSimpArgs false

abbrev agV (k n : Int) (p : Option Addr) (m c : Nat) : Value := .agg #[.int .i64 k, .int .i64 n, .slice p m c]
/-- both trees, and nothing else, are marked -/
def MarkT (x : V) : Prop := ∀ (w : World) (ρ : Gh) (i1 i2 : Nat) (q1 q2 : List Nat) (p1 p2 : Option Addr) (c1 c2 : Nat) (k1 n1 k2 n2 n : Int), TrV w ρ i1 q1 x p1 c1 → TrV w ρ i2 q2 x p2 c2 → i1 ≠ i2 → (∀ b, w.heap.size ≤ b → ρ b = none) → 0 ≤ n → n + x.sz ≤ 1099511627776 →
  Calls Try.prog 26 #[agV k1 n1 p1 x.l.length c1, agV k2 n2 p2 x.l.length c2, .int .i64 n] w fun e w' => e = .returned (.tuple #[]) ∧ Bx (TrV w' ρ i1 q1 (mkV n x) p1 c1 ∧ TrV w' ρ i2 q2 (mkV n x) p2 c2 ∧ FrM w w' fun b => Und ρ i1 q1 b ∨ Und ρ i2 q2 b)
theorem Und.id {ρ : Gh} {i1 i2 b : Nat} {q1 q2 : List Nat} (h : Und ρ i1 q1 b) (g : Und ρ i2 q2 b) : i1 = i2 := by
  obtain ⟨s, hs⟩ := h
  obtain ⟨t, ht⟩ := g
  rw [hs] at ht
  simp at ht
  exact ht.1
/-- mark in the midst -/
structure MkS (w wr : World) (ρ : Gh) (i1 i2 : Nat) (q1 q2 : List Nat) (p1 p2 : Option Addr) (c1 c2 : Nat) (k1 n1 k2 n2 n : Int) (l : List V) (i : Nat) : Prop where
  va : wr.heap[w.heap.size]? = some (.cells #[.int .i64 k1, .int .i64 n1, .slice p1 l.length c1] 24 (0, 0))
  vb : wr.heap[w.heap.size + 1]? = some (.cells #[.int .i64 k2, .int .i64 n2, .slice p2 l.length c2] 24 (0, 0))
  a : MkI wr ρ i1 q1 p1 c1 l n i
  b : MkI wr ρ i2 q2 p2 c2 l n i
  fr : FrM w wr fun b => Und ρ i1 q1 b ∨ Und ρ i2 q2 b
/-- a place that is yet to be marked -/
theorem MkI.place {W : World} {ρ : Gh} {id : Nat} {q : List Nat} {p : Option Addr} {c : Nat} {l : List V} {n : Int} {i : Nat} (h : MkI W ρ id q p c l n i) (hi : i < l.length) : ∃ b p' c', p = some ⟨b, 0, none⟩ ∧ ρ b = some (id, q) ∧ b < W.heap.size ∧ (∀ o, W.frozen? ⟨b, o, none⟩ = false) ∧ W.cell? ⟨b, i * 3, none⟩ = some (.int .i64 l[i].k) ∧ W.cell? ⟨b, i * 3 + 1, none⟩ = some (.int .i64 l[i].n) ∧ W.cell? ⟨b, i * 3 + 2, none⟩ = some (.slice p' l[i].l.length c') ∧ TrV W ρ id (i :: q) l[i] p' c' := by
  rcases h.row with ⟨h1, _⟩ | ⟨b, e1, e2, e3, e4⟩
  · rw [h1] at hi; simp at hi
  · have g := e4 i hi
    rw [if_neg (by omega)] at g
    obtain ⟨a, d, g3, g4⟩ := g.c2
    exact ⟨b, a, d, e1, e2, e3.lt, e3.frozen, g.c0, g.c1, g3, g4⟩
/-- a round: the places' lists were marked, and then their numbers and kinds -/
theorem MkS.round {w wr X : World} {ρ : Gh} {i1 i2 : Nat} {q1 q2 : List Nat} {p1 p2 : Option Addr} {c1 c2 : Nat} {k1 n1 k2 n2 n : Int} {l : List V} {i b1 b2 : Nat} {p1' p2' : Option Addr} {c1' c2' : Nat} (h : MkS w wr ρ i1 i2 q1 q2 p1 p2 c1 c2 k1 n1 k2 n2 n l i) (hne : i1 ≠ i2) (hρ : ∀ b, w.heap.size ≤ b → ρ b = none) (hi : i < l.length)
    (e1 : p1 = some ⟨b1, 0, none⟩) (e2 : p2 = some ⟨b2, 0, none⟩) (r1 : ρ b1 = some (i1, q1)) (r2 : ρ b2 = some (i2, q2)) (d1 : wr.cell? ⟨b1, i * 3 + 2, none⟩ = some (.slice p1' l[i].l.length c1')) (d2 : wr.cell? ⟨b2, i * 3 + 2, none⟩ = some (.slice p2' l[i].l.length c2'))
    (t1 : TrV X ρ i1 (i :: q1) (mkV (n + i + 1) l[i]) p1' c1') (t2 : TrV X ρ i2 (i :: q2) (mkV (n + i + 1) l[i]) p2' c2') (fr : FrM wr X fun b => Und ρ i1 (i :: q1) b ∨ Und ρ i2 (i :: q2) b) (hn : I64 (-n - i)) :
    MkS w ((((X.setCell ⟨b1, i * 3 + 1, none⟩ (.int .i64 (-n - i))).setCell ⟨b2, i * 3 + 1, none⟩ (.int .i64 (-n - i))).setCell ⟨b1, i * 3, none⟩ (.int .i64 50)).setCell ⟨b2, i * 3, none⟩ (.int .i64 50)) ρ i1 i2 q1 q2 p1 p2 c1 c2 k1 n1 k2 n2 n l (i + 1) := by
  have hb12 : b1 ≠ b2 := fun e => by
    rw [e, r2] at r1
    simp at r1
    exact hne r1.1.symm
  have hw : w.heap.size ≤ wr.heap.size := h.fr.size
  have hU1 : ∀ y, Und ρ i1 q1 y → ¬ Und ρ i2 q2 y := fun y a b => hne (a.id b)
  have hlt : ∀ b, ρ b ≠ none → b < w.heap.size := fun b hb => by
    rcases Nat.lt_or_ge b w.heap.size with h1 | h1
    · exact h1
    · exact absurd (hρ b h1) hb
  have hb1 := hlt b1 (by rw [r1]; simp)
  have hb2 := hlt b2 (by rw [r2]; simp)
  obtain ⟨W2, hW2⟩ : ∃ W2, (((X.setCell ⟨b1, i * 3 + 1, none⟩ (.int .i64 (-n - i))).setCell ⟨b2, i * 3 + 1, none⟩ (.int .i64 (-n - i))).setCell ⟨b1, i * 3, none⟩ (.int .i64 50)).setCell ⟨b2, i * 3, none⟩ (.int .i64 50) = W2 := ⟨_, rfl⟩
  have hs2 : W2.heap.size = X.heap.size := by rw [← hW2]; simp [World.size_setCell]
  have ho : ∀ y, y ≠ b1 → y ≠ b2 → W2.heap[y]? = X.heap[y]? := fun y h1 h2 => by
    rw [← hW2, Below.heap_setCell _ ⟨b2, i * 3, none⟩ _ _ h2, Below.heap_setCell _ ⟨b1, i * 3, none⟩ _ _ h1, Below.heap_setCell _ ⟨b2, i * 3 + 1, none⟩ _ _ h2, Below.heap_setCell _ ⟨b1, i * 3 + 1, none⟩ _ _ h1]
  have hat1 : W2.heap[b1]? = ((X.setCell ⟨b1, i * 3 + 1, none⟩ (.int .i64 (-n - i))).setCell ⟨b1, i * 3, none⟩ (.int .i64 50)).heap[b1]? := by
    rw [← hW2, Below.heap_setCell _ ⟨b2, i * 3, none⟩ _ _ hb12]
    simp [World.setCell, Array.getElem?_modify, hb12.symm]
  have hat2 : W2.heap[b2]? = ((X.setCell ⟨b2, i * 3 + 1, none⟩ (.int .i64 (-n - i))).setCell ⟨b2, i * 3, none⟩ (.int .i64 50)).heap[b2]? := by
    rw [← hW2]
    simp [World.setCell, Array.getElem?_modify, hb12]
  rw [hW2]
  have hX1 : ∀ y, y < wr.heap.size → Und ρ i1 q1 y → ¬ Und ρ i1 (i :: q1) y → X.heap[y]? = wr.heap[y]? := fun y hy hu hn' => fr.block y hy fun e => e.elim hn' fun e2 => hU1 y hu e2.kid
  have hX2 : ∀ y, y < wr.heap.size → Und ρ i2 q2 y → ¬ Und ρ i2 (i :: q2) y → X.heap[y]? = wr.heap[y]? := fun y hy hu hn' => fr.block y hy fun e => e.elim (fun e1 => hU1 y e1.kid hu) hn'
  obtain ⟨X1, hX1d⟩ : ∃ X1, (X.setCell ⟨b1, i * 3 + 1, none⟩ (.int .i64 (-n - i))).setCell ⟨b1, i * 3, none⟩ (.int .i64 50) = X1 := ⟨_, rfl⟩
  have A1 := h.a.step (W' := X) hi e1 d1 t1 hX1 hn X1 (by rw [← hX1d]; simp [World.size_setCell]) (fun y hy => by rw [← hX1d, Below.heap_setCell _ ⟨b1, i * 3, none⟩ _ _ hy, Below.heap_setCell _ ⟨b1, i * 3 + 1, none⟩ _ _ hy]) (by rw [hX1d])
  obtain ⟨X2, hX2d⟩ : ∃ X2, (X.setCell ⟨b2, i * 3 + 1, none⟩ (.int .i64 (-n - i))).setCell ⟨b2, i * 3, none⟩ (.int .i64 50) = X2 := ⟨_, rfl⟩
  have A2 := h.b.step (W' := X) hi e2 d2 t2 hX2 hn X2 (by rw [← hX2d]; simp [World.size_setCell]) (fun y hy => by rw [← hX2d, Below.heap_setCell _ ⟨b2, i * 3, none⟩ _ _ hy, Below.heap_setCell _ ⟨b2, i * 3 + 1, none⟩ _ _ hy]) (by rw [hX2d])
  have hnone : ∀ y, w.heap.size ≤ y → y ≠ b1 ∧ y ≠ b2 := fun y hy => ⟨by omega, by omega⟩
  have hbox : ∀ y, w.heap.size ≤ y → y < wr.heap.size → W2.heap[y]? = wr.heap[y]? := fun y hy hy2 => by
    rw [ho y (hnone y hy).1 (hnone y hy).2]
    exact fr.block y hy2 fun e => by
      have hz := hρ y hy
      rcases e with ⟨s, hs⟩ | ⟨s, hs⟩ <;> rw [hz] at hs <;> cases hs
  have hva := (Array.getElem?_eq_some_iff.1 h.va).1
  have hvb := (Array.getElem?_eq_some_iff.1 h.vb).1
  refine ⟨(hbox _ (Nat.le_refl _) hva).trans h.va, (hbox _ (by omega) hvb).trans h.vb, A1.keep fun y hy hu => ?_, A2.keep fun y hy hu => ?_, ?_⟩
  · by_cases e : y = b1
    · subst e
      rw [hat1, hX1d]
    · rw [ho y e fun e' => hU1 y hu (e' ▸ Und.self r2), ← hX1d, Below.heap_setCell _ ⟨b1, i * 3, none⟩ _ _ e, Below.heap_setCell _ ⟨b1, i * 3 + 1, none⟩ _ _ e]
  · by_cases e : y = b2
    · subst e
      rw [hat2, hX2d]
    · rw [ho y (fun e' => hU1 y (e' ▸ Und.self r1) hu) e, ← hX2d, Below.heap_setCell _ ⟨b2, i * 3, none⟩ _ _ e, Below.heap_setCell _ ⟨b2, i * 3 + 1, none⟩ _ _ e]
  · rw [← hW2]
    have f0 : FrM w X fun b => Und ρ i1 q1 b ∨ Und ρ i2 q2 b := h.fr.trans (fr.wide fun b hb => hb.elim (fun e => .inl e.kid) fun e => .inr e.kid)
    exact (((f0.set (.inl (.inl (Und.self r1))) _ _).set (.inl (.inr (Und.self r2))) _ _).set (.inl (.inl (Und.self r1))) _ _).set (.inl (.inr (Und.self r2))) _ _
end Go.Proofs.Ytikijkpklneihaa
namespace Go.Proofs.Ytikijkpklneihaa
open Go.RowKit
set_option linter.unusedVariables false
set_option linter.unusedSimpArgs false

set_option maxRecDepth 100000 in
set_option maxHeartbeats 8000000 in
theorem mark_rec (x : V) (ih : ∀ y : V, y.sz < x.sz → MarkT y) : MarkT x := by
  intro w ρ i1 i2 q1 q2 p1 p2 c1 c2 k1 n1 k2 n2 n h1 h2 hne hρ hn0 hnm
  obtain ⟨H, hH⟩ : ∃ H, w.heap.size = H := ⟨_, rfl⟩
  obtain ⟨w1, hw1⟩ : ∃ w1, (w.alloc (.cells #[.int .i64 k1, .int .i64 n1, .slice p1 x.l.length c1] 24)).alloc (.cells #[.int .i64 k2, .int .i64 n2, .slice p2 x.l.length c2] 24) = w1 := ⟨_, rfl⟩
  have b1 : Below w.heap.size w w1 := by rw [← hw1]; exact two_new _ _ _
  have s1 : w1.heap.size = H + 2 := by rw [← hw1, ← hH]; simp
  have qa : w1.heap[w.heap.size]? = some (.cells #[.int .i64 k1, .int .i64 n1, .slice p1 x.l.length c1] 24 (0, 0)) := by rw [← hw1]; exact (Below.heap_alloc _ _ _ (by simp)).trans (World.alloc_heap_new _ _)
  have qb : w1.heap[w.heap.size + 1]? = some (.cells #[.int .i64 k2, .int .i64 n2, .slice p2 x.l.length c2] 24 (0, 0)) := by rw [← hw1]; exact alloc_at _ _ _
  have HS0 : Bx (MkS w w1 ρ i1 i2 q1 q2 p1 p2 c1 c2 k1 n1 k2 n2 n x.l 0) := ⟨⟨qa, qb, (MkI.start h1 n).keep fun y hy _ => b1.block y hy, (MkI.start h2 n).keep fun y hy _ => b1.block y hy, FrM.of b1⟩⟩
  have hlen := szs_len x.l
  have hsz := V.sz_eq x
  obtain ⟨u0, u1, u2, _, _, _, ul⟩ := c3 qa
  obtain ⟨v0, v1, v2, _, _, _, vl⟩ := c3 qb
  have hcap1 := (TrV.iff.1 h1).1.1
  have hcap2 := (TrV.iff.1 h2).1.1
  have HR : Bx (∀ b, w.heap.size ≤ b → ρ b = none) := ⟨hρ⟩
  have HIH : Bx _ := ⟨ih⟩
  have HSZ : Bx (∀ j (h : j < x.l.length), x.l[j].sz < x.sz ∧ (j : Int) + 1 + x.l[j].sz ≤ x.sz) := ⟨fun j hj => by
    have h3 : szs (x.l.take j) + (x.l[j].sz + szs (x.l.drop (j + 1))) = szs x.l := by
      conv => rhs; rw [← List.take_append_drop j x.l, szs_append, List.drop_eq_getElem_cons hj]
      simp [szs]
    have h4 := szs_len (x.l.take j)
    rw [List.length_take_of_le (by omega)] at h4
    omega⟩
  have hl31 : x.l.length ≤ 1099511627776 := by omega
  clear h1 h2 b1 qa qb hρ ih
  rw [hH] at u0 u1 u2 v0 v1 v2 ul vl
  go_enter Try.func26, Try.ntmps26
  go_wp2
  go_loopg [6] (x.l.length + 1) (fun f v6 wr => ∃ i : Nat, f = x.l.length + 1 - i ∧ i ≤ x.l.length ∧ v6 = .int .i64 i ∧ Bx (MkS w wr ρ i1 i2 q1 q2 p1 p2 c1 c2 k1 n1 k2 n2 n x.l i))
  case atStart => exact ⟨0, by simp, Nat.zero_le _, rfl, HS0⟩
  case round =>
    clear HS0 u0 u1 u2 v0 v1 v2 ul vl hw1
    obtain ⟨i, hf, hi, rfl, HS⟩ := hrel
    have hva := HS.out.va
    have hvb := HS.out.vb
    rw [hH] at hva hvb
    obtain ⟨u0, u1, u2, _, _, _, ul⟩ := c3 hva
    obtain ⟨v0, v1, v2, _, _, _, vl⟩ := c3 hvb
    clear hva hvb
    by_cases hlt : i < x.l.length
    · have hlx : i < x.l.length := by omega
      obtain ⟨b1, p1', c1', rfl, r1, l1, f1, a0, a1, a2, t1⟩ := HS.out.a.place hlx
      obtain ⟨b2, p2', c2', rfl, r2, l2, f2, d0, d1, d2, t2⟩ := HS.out.b.place hlx
      have hsz1 := HSZ.out i hlx
      have hkI : (i : Int) < (x.l.length : Int) := by omega
      have hw1 : IntKind.i64.wrap (n + (i : Int)) = n + i := by rw [IntKind.wrap_i64]; omega
      have hw2 : IntKind.i64.wrap (n + (i : Int) + 1) = n + i + 1 := by rw [IntKind.wrap_i64]; omega
      have hw3 : IntKind.i64.wrap (-n) = -n := by rw [IntKind.wrap_i64]; omega
      have hw4 : IntKind.i64.wrap (-n - (i : Int)) = -n - i := by rw [IntKind.wrap_i64]; omega
      have hρ2 : ∀ b, ρ b ≠ none → b < H := fun b hb => by
        rcases Nat.lt_or_ge b H with h1 | h1
        · exact h1
        · exact absurd (HR.out b (by omega)) hb
      have g1 := hρ2 b1 (by rw [r1]; simp)
      have g2 := hρ2 b2 (by rw [r2]; simp)
      have g12 : b1 ≠ b2 := fun e => by
        rw [e, r2] at r1
        simp at r1
        exact hne r1.1.symm
      have HC : Bx (∀ X, Below wr.heap.size wr X → Calls Try.prog 26 #[agV x.l[i].k x.l[i].n p1' x.l[i].l.length c1', agV x.l[i].k x.l[i].n p2' x.l[i].l.length c2', .int .i64 (n + i + 1)] X fun e w' => e = .returned (.tuple #[]) ∧ Bx (TrV w' ρ i1 (i :: q1) (mkV (n + i + 1) x.l[i]) p1' c1' ∧ TrV w' ρ i2 (i :: q2) (mkV (n + i + 1) x.l[i]) p2' c2' ∧ FrM X w' fun b => Und ρ i1 (i :: q1) b ∨ Und ρ i2 (i :: q2) b)) := ⟨fun X hX => HIH.out x.l[i] hsz1.1 X ρ i1 i2 (i :: q1) (i :: q2) p1' p2' c1' c2' _ _ _ _ _ (TrV.keep _ t1 fun y hy _ => hX.block y hy) (TrV.keep _ t2 fun y hy _ => hX.block y hy) hne (fun b hb => HR.out b (by have := HS.out.fr.size; have := hX.size; omega)) (by omega) (by omega)⟩
      have HN : Bx (∀ X, FrM wr X (fun b => Und ρ i1 (i :: q1) b ∨ Und ρ i2 (i :: q2) b) → TrV X ρ i1 (i :: q1) (mkV (n + i + 1) x.l[i]) p1' c1' → TrV X ρ i2 (i :: q2) (mkV (n + i + 1) x.l[i]) p2' c2' → MkS w ((((X.setCell ⟨b1, i * 3 + 1, none⟩ (.int .i64 (-n - i))).setCell ⟨b2, i * 3 + 1, none⟩ (.int .i64 (-n - i))).setCell ⟨b1, i * 3, none⟩ (.int .i64 50)).setCell ⟨b2, i * 3, none⟩ (.int .i64 50)) ρ i1 i2 q1 q2 (some ⟨b1, 0, none⟩) (some ⟨b2, 0, none⟩) c1 c2 k1 n1 k2 n2 n x.l (i + 1)) := ⟨fun X hX z1 z2 => HS.out.round hne HR.out hlx rfl rfl r1 r2 a2 d2 z1 z2 hX (by unfold I64; omega)⟩
      have HX : Bx (∀ X, FrM wr X (fun b => Und ρ i1 (i :: q1) b ∨ Und ρ i2 (i :: q2) b) → (X.cell? ⟨H, 2, none⟩ = some (.slice (some ⟨b1, 0, none⟩) x.l.length c1) ∧ X.cell? ⟨H + 1, 2, none⟩ = some (.slice (some ⟨b2, 0, none⟩) x.l.length c2) ∧ X.cell? ⟨b1, i * 3, none⟩ = some (.int .i64 x.l[i].k) ∧ X.cell? ⟨b1, i * 3 + 1, none⟩ = some (.int .i64 x.l[i].n) ∧ X.cell? ⟨b1, i * 3 + 2, none⟩ = some (.slice p1' x.l[i].l.length c1') ∧ X.cell? ⟨b2, i * 3, none⟩ = some (.int .i64 x.l[i].k) ∧ X.cell? ⟨b2, i * 3 + 1, none⟩ = some (.int .i64 x.l[i].n) ∧ X.cell? ⟨b2, i * 3 + 2, none⟩ = some (.slice p2' x.l[i].l.length c2')) ∧ (X.frozen? ⟨b1, i * 3, none⟩ = false ∧ X.frozen? ⟨b1, i * 3 + 1, none⟩ = false ∧ X.frozen? ⟨b2, i * 3, none⟩ = false ∧ X.frozen? ⟨b2, i * 3 + 1, none⟩ = false) ∧ b1 < X.heap.size ∧ b2 < X.heap.size ∧ H < X.heap.size ∧ H + 1 < X.heap.size) := ⟨fun X hX => by
        have n1 : ∀ y, H ≤ y → ¬ (Und ρ i1 (i :: q1) y ∨ Und ρ i2 (i :: q2) y) := fun y hy e => by
          have hz := HR.out y (by omega)
          rcases e with ⟨s, hs⟩ | ⟨s, hs⟩ <;> rw [hz] at hs <;> cases hs
        have n2 : ¬ (Und ρ i1 (i :: q1) b1 ∨ Und ρ i2 (i :: q2) b1) := fun e => e.elim (fun e1 => e1.not_self r1) fun e2 => hne ((Und.self r1).id e2)
        have n3 : ¬ (Und ρ i1 (i :: q1) b2 ∨ Und ρ i2 (i :: q2) b2) := fun e => e.elim (fun e1 => hne (e1.id (Und.self r2))) fun e2 => e2.not_self r2
        have k1 := hX.block H ul (n1 H (Nat.le_refl _))
        have k2 := hX.block (H + 1) vl (n1 (H + 1) (by omega))
        have k3 := hX.block b1 l1 n2
        have k4 := hX.block b2 l2 n3
        have hs := hX.size
        exact ⟨⟨(World.cell?_of_block (a := ⟨H, 2, none⟩) k1).trans u2, (World.cell?_of_block (a := ⟨H + 1, 2, none⟩) k2).trans v2, (World.cell?_of_block (a := ⟨b1, _, none⟩) k3).trans a0, (World.cell?_of_block (a := ⟨b1, _, none⟩) k3).trans a1, (World.cell?_of_block (a := ⟨b1, _, none⟩) k3).trans a2, (World.cell?_of_block (a := ⟨b2, _, none⟩) k4).trans d0, (World.cell?_of_block (a := ⟨b2, _, none⟩) k4).trans d1, (World.cell?_of_block (a := ⟨b2, _, none⟩) k4).trans d2⟩, ⟨(World.frozen?_of_block (a := ⟨b1, _, none⟩) k3).trans (f1 _), (World.frozen?_of_block (a := ⟨b1, _, none⟩) k3).trans (f1 _), (World.frozen?_of_block (a := ⟨b2, _, none⟩) k4).trans (f2 _), (World.frozen?_of_block (a := ⟨b2, _, none⟩) k4).trans (f2 _)⟩, by omega, by omega, by omega, by omega⟩⟩
      clear t1 t2 HS hsz1 r1 r2 HIH hρ2
      have e1 : b1 ≠ H := by omega
      have e2 : b1 ≠ H + 1 := by omega
      have e3 : b2 ≠ H := by omega
      have e4 : b2 ≠ H + 1 := by omega
      generalize x.l[i].k = xk at *
      generalize x.l[i].n = xn at *
      go_wp2
      go_region_held3 (fun Y => Y.cell? ⟨H, 2, none⟩ = some (.slice (some ⟨b1, 0, none⟩) x.l.length c1) ∧ Y.cell? ⟨H + 1, 2, none⟩ = some (.slice (some ⟨b2, 0, none⟩) x.l.length c2) ∧ Y.cell? ⟨b1, i * 3, none⟩ = some (.int .i64 xk) ∧ Y.cell? ⟨b1, i * 3 + 1, none⟩ = some (.int .i64 xn) ∧ Y.cell? ⟨b1, i * 3 + 2, none⟩ = some (.slice p1' x.l[i].l.length c1') ∧ Y.cell? ⟨b2, i * 3, none⟩ = some (.int .i64 xk) ∧ Y.cell? ⟨b2, i * 3 + 1, none⟩ = some (.int .i64 xn) ∧ Y.cell? ⟨b2, i * 3 + 2, none⟩ = some (.slice p2' x.l[i].l.length c2'))
        (first | exact ⟨u2, v2, a0, a1, a2, d0, d1, d2⟩ | exact SA.out | go_keep)
        (first
          | (go_at_call 26; refine (HC.out _ (Below.refl _ _).drew).mono ?_; rintro e X ⟨rfl, HM⟩; have HFX : Bx (FrM wr X fun b => Und ρ i1 (i :: q1) b ∨ Und ρ i2 (i :: q2) b) := ⟨⟨HM.out.2.2.os, HM.out.2.2.tape, HM.out.2.2.output, HM.out.2.2.size, HM.out.2.2.block⟩⟩; have SA : Bx _ := ⟨(HX.out X HFX.out).1⟩))
      have HN2 : Bx _ := ⟨HN.out X HFX.out HM.out.1 HM.out.2.1⟩
      obtain ⟨_, ⟨m1, m2, m3, m4⟩, m5, m6, m7, m8⟩ := HX.out X HFX.out
      obtain ⟨j0, j1, j2, j3, j4, j5, j6, j7⟩ := SA.out
      clear SA HX HN HM HC u0 u1 u2 v0 v1 v2 a0 a1 a2 d0 d1 d2 f1 f2 l1 l2 HFX ul vl
      go_wp2
      go_roundg (x.l.length + 1 - (i + 1))
      case measure => omega
      case rel => exact ⟨i + 1, rfl, by omega, by go_num, HN2⟩
    · obtain rfl : i = x.l.length := by omega
      have HD : Bx (TrV wr ρ i1 q1 (mkV n x) p1 c1 ∧ TrV wr ρ i2 q2 (mkV n x) p2 c2 ∧ FrM w wr fun b => Und ρ i1 q1 b ∨ Und ρ i2 q2 b) := ⟨by
        have h := HS.out
        exact ⟨h.a.done, h.b.done, h.fr⟩⟩
      clear HS
      go_wp2
      refine bodyPost_end (v := .tuple #[]) (by simp [results, Try.results26, go_sem]) rfl ?_
      exact ⟨rfl, HD⟩
/-- **MARK**: both trees, and nothing else -/
theorem mark_any (x : V) : MarkT x := by
  have key : ∀ N : Nat, ∀ y : V, y.sz ≤ N → MarkT y := by
    intro N
    induction N with
    | zero => intro y h; have := y.sz_pos; omega
    | succ N ih => intro y h; exact mark_rec y fun z hz => ih z (by omega)
  exact key x.sz x (Nat.le_refl _)
end Go.Proofs.Ytikijkpklneihaa
