import Derived.Test.YtikijkpklneihaaCVOn
namespace Go.Proofs.Ytikijkpklneihaa
open Go.RowKit
set_option linter.unusedVariables false
set_option linter.unusedSimpArgs false

/-- whose a block is: a tree's number, and the way to the list that lies in it (the last step first) -/
abbrev Gh := Nat → Option (Nat × List Nat)
/-- a list's capacity: what was handed out (a tree of an even number) has no room behind it -/
def Cp (id n c : Nat) : Prop := n ≤ c ∧ (id % 2 = 0 → c = n)
mutual
/-- a value's list, each list of it in a block of its own, which the ghost knows -/
def TrV (W : World) (ρ : Gh) (id : Nat) (q : List Nat) : V → Option Addr → Nat → Prop
  | .mk _ _ l, p, c => Cp id l.length c ∧ c ≤ 2147483648 ∧ ((l = [] ∧ p = none ∧ c = 0) ∨ ∃ b, p = some ⟨b, 0, none⟩ ∧ ρ b = some (id, q) ∧ MRow W b (c * 3) ∧ TrAll W ρ id q b 0 l)
def TrAll (W : World) (ρ : Gh) (id : Nat) (q : List Nat) (b i : Nat) : List V → Prop
  | [] => True
  | v :: vs => (W.cell? ⟨b, i * 3, none⟩ = some (.int .i64 v.k) ∧ W.cell? ⟨b, i * 3 + 1, none⟩ = some (.int .i64 v.n) ∧ I64 v.k ∧ I64 v.n ∧ ∃ p c, W.cell? ⟨b, i * 3 + 2, none⟩ = some (.slice p v.l.length c) ∧ TrV W ρ id (i :: q) v p c) ∧ TrAll W ρ id q b (i + 1) vs
end
/-- one of them -/
structure TrIn (W : World) (ρ : Gh) (id : Nat) (q : List Nat) (b i : Nat) (v : V) : Prop where
  c0 : W.cell? ⟨b, i * 3, none⟩ = some (.int .i64 v.k)
  c1 : W.cell? ⟨b, i * 3 + 1, none⟩ = some (.int .i64 v.n)
  k64 : I64 v.k
  n64 : I64 v.n
  c2 : ∃ p c, W.cell? ⟨b, i * 3 + 2, none⟩ = some (.slice p v.l.length c) ∧ TrV W ρ id (i :: q) v p c
theorem TrAll.get {W : World} {ρ : Gh} {id : Nat} {q : List Nat} {b : Nat} {l : List V} : ∀ {i : Nat}, TrAll W ρ id q b i l → ∀ j (h : j < l.length), TrIn W ρ id q b (i + j) l[j] := by
  induction l with
  | nil => intro i _ j h; simp at h
  | cons v vs ih =>
    intro i h j hj
    simp only [TrAll] at h
    cases j with
    | zero => obtain ⟨⟨h0, h1, h2, h3, h4⟩, _⟩ := h; exact ⟨h0, h1, h2, h3, h4⟩
    | succ j =>
      have := ih h.2 j (by simpa using hj)
      have e : i + 1 + j = i + (j + 1) := by omega
      rw [e] at this
      simpa using this
theorem TrAll.of_get {W : World} {ρ : Gh} {id : Nat} {q : List Nat} {b : Nat} {l : List V} : ∀ {i : Nat}, (∀ j (h : j < l.length), TrIn W ρ id q b (i + j) l[j]) → TrAll W ρ id q b i l := by
  induction l with
  | nil => intro i _; simp [TrAll]
  | cons v vs ih =>
    intro i h
    simp only [TrAll]
    have h0 := h 0 (by simp)
    rw [List.getElem_cons_zero, Nat.add_zero] at h0
    refine ⟨⟨h0.c0, h0.c1, h0.k64, h0.n64, h0.c2⟩, ih (fun j hj => ?_)⟩
    have := h (j + 1) (by simpa using hj)
    have e : i + 1 + j = i + (j + 1) := by omega
    rw [e]
    simpa using this
theorem TrV.iff {W : World} {ρ : Gh} {id : Nat} {q : List Nat} {x : V} {p : Option Addr} {c : Nat} : TrV W ρ id q x p c ↔ Cp id x.l.length c ∧ c ≤ 2147483648 ∧ ((x.l = [] ∧ p = none ∧ c = 0) ∨ ∃ b, p = some ⟨b, 0, none⟩ ∧ ρ b = some (id, q) ∧ MRow W b (c * 3) ∧ TrAll W ρ id q b 0 x.l) := by
  cases x; simp only [TrV, V.l]
/-- the blocks of a tree, from a place on -/
def Und (ρ : Gh) (id : Nat) (q : List Nat) (b : Nat) : Prop := ∃ s, ρ b = some (id, s ++ q)
theorem Und.kid {ρ : Gh} {id i b : Nat} {q : List Nat} (h : Und ρ id (i :: q) b) : Und ρ id q b := by
  obtain ⟨s, hs⟩ := h
  exact ⟨s ++ [i], by rw [hs]; simp⟩
theorem Und.self {ρ : Gh} {id b : Nat} {q : List Nat} (h : ρ b = some (id, q)) : Und ρ id q b := ⟨[], by simpa using h⟩
/-- two places of a list have no block in common, nor has the list's own -/
theorem Und.apart {ρ : Gh} {id i j b : Nat} {q : List Nat} (h : Und ρ id (i :: q) b) (h2 : Und ρ id (j :: q) b) : i = j := by
  obtain ⟨s, hs⟩ := h
  obtain ⟨t, ht⟩ := h2
  rw [hs] at ht
  simp only [Option.some.injEq, Prod.mk.injEq, true_and] at ht
  have hl : s.length = t.length := by
    have := congrArg List.length ht
    simp at this
    exact this
  have := (List.append_inj ht hl).2
  simp at this
  exact this
theorem Und.not_self {ρ : Gh} {id i b : Nat} {q : List Nat} (h : Und ρ id (i :: q) b) : ρ b ≠ some (id, q) := fun e => by
  obtain ⟨s, hs⟩ := h
  rw [hs] at e
  simp only [Option.some.injEq, Prod.mk.injEq, true_and] at e
  have := congrArg List.length e
  simp at this
  omega
theorem MRow.same {W W' : World} {m N : Nat} (h : MRow W m N) (hb : W'.heap[m]? = W.heap[m]?) : MRow W' m N := by
  obtain ⟨C, h1, h2⟩ := h.ex
  exact ⟨C, hb.trans h1, h2⟩
/-- a tree stays where its blocks stay -/
theorem TrV.keep {W W' : World} {ρ : Gh} {id : Nat} : ∀ x : V, ∀ {q : List Nat} {p : Option Addr} {c : Nat}, TrV W ρ id q x p c → (∀ b, b < W.heap.size → Und ρ id q b → W'.heap[b]? = W.heap[b]?) → TrV W' ρ id q x p c := by
  intro x
  induction x using V.ind with
  | h k n l ih =>
    intro q p c h hb
    obtain ⟨h1, h2, h3⟩ := TrV.iff.1 h
    refine TrV.iff.2 ⟨h1, h2, ?_⟩
    rcases h3 with h3 | ⟨b, e1, e2, e3, e4⟩
    · exact .inl h3
    · have hs := hb b e3.lt (Und.self e2)
      have hc : ∀ o, W'.cell? ⟨b, o, none⟩ = W.cell? ⟨b, o, none⟩ := fun o => World.cell?_of_block (a := ⟨b, o, none⟩) hs
      refine .inr ⟨b, e1, e2, e3.same hs, TrAll.of_get fun j hj => ?_⟩
      have g := e4.get j hj
      obtain ⟨p', c', g1, g2⟩ := g.c2
      exact ⟨by rw [hc]; exact g.c0, by rw [hc]; exact g.c1, g.k64, g.n64, p', c', by rw [hc]; exact g1, ih _ (List.getElem_mem hj) g2 fun y hy hu => hb y hy (by rw [Nat.zero_add] at hu; exact hu.kid)⟩
/-- it reads as the value does -/
theorem TrV.sl {W : World} {ρ : Gh} {id : Nat} : ∀ x : V, ∀ {q : List Nat} {p : Option Addr} {c : Nat}, TrV W ρ id q x p c → SlV W W.heap.size p c x.l := by
  intro x
  induction x using V.ind with
  | h k n l ih =>
    intro q p c h
    obtain ⟨h1, h2, h3⟩ := TrV.iff.1 h
    refine ⟨h1.1, by unfold maxLen; omega, ?_⟩
    rcases h3 with h3 | ⟨b, e1, e2, e3, e4⟩
    · exact .inl h3.1
    · refine .inr ⟨b, 0, e1, e3.lt, AtVs.of_get fun j hj => ?_⟩
      have g := e4.get j hj
      obtain ⟨p', c', g1, g2⟩ := g.c2
      have ej : 0 + 3 * j = (0 + j) * 3 := by omega
      rw [ej]
      exact ⟨g.c0, g.c1, g.k64, g.n64, p', c', g1, ih _ (List.getElem_mem hj) g2⟩
mutual
/-- a tree whose places are marked -/
def mkV : Int → V → V
  | n, .mk k m l => .mk k m (mkL n 0 l)
def mkL : Int → Nat → List V → List V
  | _, _, [] => []
  | n, i, x :: xs => .mk 50 (-n - i) (mkV (n + i + 1) x).l :: mkL n (i + 1) xs
end
theorem mkL_len (n : Int) : ∀ (l : List V) (i : Nat), (mkL n i l).length = l.length
  | [], _ => by simp [mkL]
  | x :: xs, i => by simp [mkL, mkL_len n xs (i + 1)]
theorem mkL_at (n : Int) : ∀ (l : List V) (i j : Nat) (h : j < l.length), (mkL n i l)[j]'(by rw [mkL_len]; exact h) = .mk 50 (-n - ((i + j : Nat) : Int)) (mkV (n + ((i + j : Nat) : Int) + 1) l[j]).l
  | x :: xs, i, 0, h => by simp [mkL]
  | x :: xs, i, j + 1, h => by
    have := mkL_at n xs (i + 1) j (by simpa using h)
    have e : i + 1 + j = i + (j + 1) := by omega
    simp only [e] at this
    simpa [mkL] using this
end Go.Proofs.Ytikijkpklneihaa
namespace Go.Proofs.Ytikijkpklneihaa
open Go.RowKit
set_option linter.unusedVariables false
set_option linter.unusedSimpArgs false

/-- another ghost that knows as much of the tree -/
theorem TrV.re {W : World} {ρ ρ' : Gh} {id : Nat} : ∀ x : V, ∀ {q : List Nat} {p : Option Addr} {c : Nat}, TrV W ρ id q x p c → (∀ b s, ρ b = some (id, s ++ q) → ρ' b = some (id, s ++ q)) → TrV W ρ' id q x p c := by
  intro x
  induction x using V.ind with
  | h k n l ih =>
    intro q p c h hr
    obtain ⟨h1, h2, h3⟩ := TrV.iff.1 h
    refine TrV.iff.2 ⟨h1, h2, ?_⟩
    rcases h3 with h3 | ⟨b, e1, e2, e3, e4⟩
    · exact .inl h3
    · refine .inr ⟨b, e1, by have := hr b [] (by simpa using e2); simpa using this, e3, TrAll.of_get fun j hj => ?_⟩
      have g := e4.get j hj
      obtain ⟨p', c', g1, g2⟩ := g.c2
      exact ⟨g.c0, g.c1, g.k64, g.n64, p', c', g1, ih _ (List.getElem_mem hj) g2 fun b s hs => by
        have := hr b (s ++ [0 + j]) (by simpa using hs)
        simpa using this⟩
theorem TrIn.re {W : World} {ρ ρ' : Gh} {id b i : Nat} {q : List Nat} {v : V} (h : TrIn W ρ id q b i v) (hr : ∀ y s, ρ y = some (id, s ++ i :: q) → ρ' y = some (id, s ++ i :: q)) : TrIn W ρ' id q b i v := by
  obtain ⟨p, c, h1, h2⟩ := h.c2
  exact ⟨h.c0, h.c1, h.k64, h.n64, p, c, h1, TrV.re v h2 hr⟩
/-- a tree in blocks that are its own, from lo to below hi; e: 0, if it was handed out -/
def Prv (W : World) (lo hi e : Nat) (x : V) (p : Option Addr) (c : Nat) : Prop :=
  ∀ (id : Nat) (q : List Nat), id % 2 = e → ∃ ρ : Gh, TrV W ρ id q x p c ∧ (∀ b, ρ b ≠ none → lo ≤ b ∧ b < hi) ∧ ∀ b r, ρ b = some r → ∃ s, r = (id, s ++ q)
theorem Prv.keep {W W' : World} {lo hi e : Nat} {x : V} {p : Option Addr} {c : Nat} (h : Prv W lo hi e x p c) (hb : ∀ b, lo ≤ b → b < hi → b < W.heap.size → W'.heap[b]? = W.heap[b]?) : Prv W' lo hi e x p c := fun id q hid => by
  obtain ⟨ρ, h1, h2, h3⟩ := h id q hid
  exact ⟨ρ, TrV.keep x h1 fun b hlt hu => by
    obtain ⟨s, hs⟩ := hu
    have := h2 b (by rw [hs]; simp)
    exact hb b this.1 this.2 hlt, h2, h3⟩
theorem Prv.up {W : World} {lo hi lo' hi' e : Nat} {x : V} {p : Option Addr} {c : Nat} (h : Prv W lo hi e x p c) (hl : lo' ≤ lo) (hh : hi ≤ hi') : Prv W lo' hi' e x p c := fun id q hid => by
  obtain ⟨ρ, h1, h2, h3⟩ := h id q hid
  exact ⟨ρ, h1, fun b hb => by have := h2 b hb; omega, h3⟩
theorem Prv.sl {W : World} {lo hi e : Nat} {x : V} {p : Option Addr} {c : Nat} (h : Prv W lo hi e x p c) (he : e < 2) : SlV W W.heap.size p c x.l := by
  obtain ⟨ρ, h1, _⟩ := h e [] (Nat.mod_eq_of_lt he)
  exact TrV.sl x h1
theorem Prv.list {W : World} {lo hi e : Nat} {x y : V} {p : Option Addr} {c : Nat} (h : Prv W lo hi e x p c) (hl : y.l = x.l) : Prv W lo hi e y p c := fun id q hid => by
  obtain ⟨ρ, h1, h2, h3⟩ := h id q hid
  obtain ⟨a1, a2, a3⟩ := TrV.iff.1 h1
  rw [← hl] at a1 a3
  exact ⟨ρ, TrV.iff.2 ⟨a1, a2, a3⟩, h2, h3⟩
/-- the kids of a row that are made so far -/
def KidsP (W : World) (lo hi e b : Nat) (l : List V) (i : Nat) : Prop :=
  ∀ (id : Nat) (q : List Nat), id % 2 = e → ∃ ρ : Gh, (∀ j (h : j < l.length), j < i → TrIn W ρ id q b j l[j]) ∧ (∀ y, ρ y ≠ none → lo ≤ y ∧ y < hi) ∧ ∀ y r, ρ y = some r → ∃ s j, r = (id, s ++ j :: q)
theorem KidsP.start {W : World} {lo hi e b : Nat} {l : List V} : KidsP W lo hi e b l 0 := fun id q hid =>
  ⟨fun _ => none, fun j h hj => by omega, fun y hy => absurd rfl hy, fun y r h => by cases h⟩
theorem KidsP.keep {W W' : World} {lo hi e b : Nat} {l : List V} {i : Nat} (h : KidsP W lo hi e b l i) (hc : ∀ o, o < i * 3 → W'.cell? ⟨b, o, none⟩ = W.cell? ⟨b, o, none⟩) (hb : ∀ y, lo ≤ y → y < hi → y < W.heap.size → W'.heap[y]? = W.heap[y]?) : KidsP W' lo hi e b l i := fun id q hid => by
  obtain ⟨ρ, h1, h2, h3⟩ := h id q hid
  refine ⟨ρ, fun j hj hji => ?_, h2, h3⟩
  obtain ⟨p, c, g1, g2⟩ := (h1 j hj hji).c2
  have g := h1 j hj hji
  exact ⟨by rw [hc _ (by omega)]; exact g.c0, by rw [hc _ (by omega)]; exact g.c1, g.k64, g.n64, p, c, by rw [hc _ (by omega)]; exact g1, TrV.keep _ g2 fun y hy hu => by
    obtain ⟨s, hs⟩ := hu
    have := h2 y (by rw [hs]; simp)
    exact hb y this.1 this.2 hy⟩
/-- one more kid -/
theorem KidsP.step {W : World} {lo mid hi e b : Nat} {l : List V} {i : Nat} (h : KidsP W lo mid e b l i) (hm : lo ≤ mid) (hh : mid ≤ hi) (hi2 : i < l.length) {p : Option Addr} {c : Nat} (hk : Prv W mid hi e l[i] p c) (c0 : W.cell? ⟨b, i * 3, none⟩ = some (.int .i64 l[i].k)) (c1 : W.cell? ⟨b, i * 3 + 1, none⟩ = some (.int .i64 l[i].n)) (k64 : I64 l[i].k) (n64 : I64 l[i].n) (c2 : W.cell? ⟨b, i * 3 + 2, none⟩ = some (.slice p l[i].l.length c)) : KidsP W lo hi e b l (i + 1) := fun id q hid => by
  obtain ⟨ρ, h1, h2, h3⟩ := h id q hid
  obtain ⟨ρ', k1, k2, k3⟩ := hk id (i :: q) hid
  have ex : ∀ y, ρ y ≠ none → ρ' y = none := fun y hy => by
    cases hr : ρ' y with
    | none => rfl
    | some r =>
      have := h2 y hy
      have := k2 y (by rw [hr]; simp)
      omega
  refine ⟨fun y => if y < mid then ρ y else ρ' y, fun j hj hji => ?_, fun y hy => ?_, fun y r hr => ?_⟩
  · by_cases hjj : j = i
    · subst hjj
      refine ⟨c0, c1, k64, n64, p, c, c2, TrV.re _ k1 fun y s hs => ?_⟩
      have := k2 y (by rw [hs]; simp)
      simp only [if_neg (show ¬ y < mid by omega)]
      exact hs
    · exact (h1 j hj (by omega)).re fun y s hs => by
        have := h2 y (by rw [hs]; simp)
        simp only [if_pos this.2]
        exact hs
  · dsimp only at hy
    split at hy
    · have := h2 y hy; omega
    · have := k2 y hy; omega
  · dsimp only at hr
    split at hr
    · exact h3 y r hr
    · obtain ⟨s, hs⟩ := k3 y r hr
      exact ⟨s, i, hs⟩
/-- all are there -/
theorem KidsP.done {W : World} {lo lo' hi e b c : Nat} {x : V} (h : KidsP W lo hi e b x.l x.l.length) (hb : lo' ≤ b) (hbl : b < lo) (hlh : lo ≤ hi) (hc : x.l.length ≤ c) (ht : e = 0 → c = x.l.length) (hc31 : c ≤ 2147483648) (hr : MRow W b (c * 3)) : Prv W lo' hi e x (some ⟨b, 0, none⟩) c := fun id q hid => by
  obtain ⟨ρ, h1, h2, h3⟩ := h id q hid
  have hne : ∀ y s, ρ y = some s → y ≠ b := fun y s hs e => by
    have := h2 y (by rw [hs]; simp)
    omega
  refine ⟨fun y => if y = b then some (id, q) else ρ y, TrV.iff.2 ⟨⟨hc, fun h0 => ht (by omega)⟩, hc31, .inr ⟨b, rfl, by simp, hr, TrAll.of_get fun j hj => ?_⟩⟩, fun y hy => ?_, fun y r hy => ?_⟩
  · rw [Nat.zero_add]
    exact (h1 j hj hj).re fun y s hs => by
      simp only [if_neg (hne y _ hs)]
      exact hs
  · dsimp only at hy
    split at hy
    · omega
    · have := h2 y hy; omega
  · dsimp only at hy
    split at hy
    · simp only [Option.some.injEq] at hy
      exact ⟨[], by rw [← hy]; rfl⟩
    · obtain ⟨s, j, hs⟩ := h3 y r hy
      exact ⟨s ++ [j], by rw [hs]; simp⟩
/-- no list at all -/
theorem Prv.nil {W : World} {lo hi e : Nat} {x : V} (h : x.l = []) : Prv W lo hi e x none 0 := fun id q hid =>
  ⟨fun _ => none, TrV.iff.2 ⟨⟨by rw [h]; simp, fun _ => by rw [h]; rfl⟩, by omega, .inl ⟨h, rfl, rfl⟩⟩, fun y hy => absurd rfl hy, fun y r h => by cases h⟩
end Go.Proofs.Ytikijkpklneihaa
namespace Go.Proofs.Ytikijkpklneihaa
open Go.RowKit
set_option linter.unusedVariables false
set_option linter.unusedSimpArgs false

theorem KidsP.up {W : World} {lo hi hi' e b : Nat} {l : List V} {i : Nat} (h : KidsP W lo hi e b l i) (hh : hi ≤ hi') : KidsP W lo hi' e b l i := fun id q hid => by
  obtain ⟨ρ, h1, h2, h3⟩ := h id q hid
  exact ⟨ρ, h1, fun y hy => by have := h2 y hy; omega, h3⟩
theorem MRow.other {W : World} {m N : Nat} (h : MRow W m N) {b : Nat} (j : Nat) (u : Value) (hb : m ≠ b) : MRow (W.setCell ⟨b, j, none⟩ u) m N := by
  obtain ⟨C, h1, h2⟩ := h.ex
  exact ⟨C, (Below.heap_setCell W ⟨b, j, none⟩ u m hb).trans h1, h2⟩
/-- own in the midst -/
structure OwJ (w wr : World) (B : Nat) (x : V) (p : Option Addr) (c i : Nat) : Prop where
  one : OneB w wr B x p c
  z : wr.heap[w.heap.size + 1]? = some z3
  row : MRow wr (w.heap.size + 2) ((x.l.length + 1) * 3)
  els : ∀ j (h : j < x.l.length), j < i → SpIn wr (w.heap.size + 3) wr.heap.size (w.heap.size + 2) (j * 3) x.l[j]
  kp : KidsP wr (w.heap.size + 3) wr.heap.size 1 (w.heap.size + 2) x.l i
theorem OwJ.next {w wr W : World} {B : Nat} {x : V} {p : Option Addr} {c i : Nat} (h : OwJ w wr B x p c i) (hB : B ≤ w.heap.size) (hb : Below wr.heap.size wr W) : OwJ w W B x p c i :=
  ⟨h.one.next hB hb, keep_h hb h.z, h.row.next hb, fun j hj hi => (h.els j hj hi).next hb h.row.lt, KidsP.up (h.kp.keep (fun o _ => hb.cell (p := ⟨w.heap.size + 2, o, none⟩) h.row.lt) fun y _ _ hy => hb.block y hy) hb.size⟩
def OwP2 (w : World) (x : V) (e : Ending) (w' : World) : Prop := ∃ p c, e = .returned (.agg #[.int .i64 x.k, .int .i64 x.n, .slice p x.l.length c]) ∧ SpV w' w.heap.size w'.heap.size x p c ∧ Prv w' w.heap.size w'.heap.size 1 x p c ∧ Below w.heap.size w w'
/-- one more is stored -/
theorem OwJ.step {w w4 : World} {B : Nat} {x : V} {p : Option Addr} {c i : Nat} (h : OwJ w w4 B x p c i) (hB : B ≤ w.heap.size) (hi : i < x.l.length) {q : Option Addr} {d : Nat} (hk : I64 x.l[i].k) (hn : I64 x.l[i].n) (hs : SpV w4 (w.heap.size + 3) w4.heap.size x.l[i] q d) {wr : World} (hwr : OwJ w wr B x p c i) (hb4 : Below wr.heap.size wr w4) (hpv : Prv w4 wr.heap.size w4.heap.size 1 x.l[i] q d) :
    OwJ w (((w4.setCell ⟨w.heap.size + 2, i * 3, none⟩ (.int .i64 x.l[i].k)).setCell ⟨w.heap.size + 2, i * 3 + 1, none⟩ (.int .i64 x.l[i].n)).setCell ⟨w.heap.size + 2, i * 3 + 2, none⟩ (.slice q x.l[i].l.length d)) B x p c (i + 1) := by
  obtain ⟨W5, hW5⟩ : ∃ W5, ((w4.setCell ⟨w.heap.size + 2, i * 3, none⟩ (.int .i64 x.l[i].k)).setCell ⟨w.heap.size + 2, i * 3 + 1, none⟩ (.int .i64 x.l[i].n)).setCell ⟨w.heap.size + 2, i * 3 + 2, none⟩ (.slice q x.l[i].l.length d) = W5 := ⟨_, rfl⟩
  have hoth : ∀ b, b ≠ w.heap.size + 2 → W5.heap[b]? = w4.heap[b]? := fun b hb => by
    rw [← hW5, Below.heap_setCell _ _ _ _ hb, Below.heap_setCell _ _ _ _ hb, Below.heap_setCell _ _ _ _ hb]
  have hsz : W5.heap.size = w4.heap.size := by rw [← hW5]; simp [World.size_setCell]
  have hbel : Below w.heap.size w W5 := by
    rw [← hW5]
    exact ((h.one.bel.setCell (p := ⟨w.heap.size + 2, i * 3, none⟩) (by show _ ≤ w.heap.size + 2; omega) _).setCell (p := ⟨w.heap.size + 2, i * 3 + 1, none⟩) (by show _ ≤ w.heap.size + 2; omega) _).setCell (p := ⟨w.heap.size + 2, i * 3 + 2, none⟩) (by show _ ≤ w.heap.size + 2; omega) _
  have hmid : Mid (w.heap.size + 3) w4.heap.size w4 W5 := ⟨fun b o h1 h2 => by simp only [World.cell?]; rw [hoth b (by omega)]⟩
  obtain ⟨u0, e0⟩ := h.row.cell (i * 3) (by omega)
  obtain ⟨u1, e1⟩ := h.row.cell (i * 3 + 1) (by omega)
  obtain ⟨u2, e2⟩ := h.row.cell (i * 3 + 2) (by omega)
  obtain ⟨n0, n1, n2⟩ := cell_in3 (a := .int .i64 x.l[i].k) (b := .int .i64 x.l[i].n) (c := .slice q x.l[i].l.length d) e0 e1 e2
  rw [hW5] at n0 n1 n2
  rw [hW5]
  refine ⟨⟨(hoth _ (by omega)).trans h.one.a, h.one.va.lo (Lo.blocks fun b hb => hoth b (by omega)), hbel⟩, (hoth _ (by omega)).trans h.z, by rw [← hW5]; exact ((h.row.set _ _).set _ _).set _ _, fun j hj hji => ?_, ?_⟩
  rotate_left
  · have k4 : KidsP w4 (w.heap.size + 3) wr.heap.size 1 (w.heap.size + 2) x.l i := hwr.kp.keep (fun o _ => hb4.cell (p := ⟨w.heap.size + 2, o, none⟩) hwr.row.lt) fun y _ _ hy => hb4.block y hy
    have k5 : KidsP W5 (w.heap.size + 3) wr.heap.size 1 (w.heap.size + 2) x.l i := k4.keep (fun o ho => by rw [← hW5]; exact cell_set3 (.inr ⟨by omega, by omega, by omega⟩)) fun y hy _ _ => hoth y (by omega)
    have hwl := hwr.row.lt
    have p5 : Prv W5 wr.heap.size w4.heap.size 1 x.l[i] q d := hpv.keep fun y hy _ _ => hoth y (by omega)
    rw [hsz]
    exact k5.step (by omega) hb4.size hi p5 n0 n1 hk hn n2
  rw [hsz]
  rcases Nat.lt_or_ge j i with h3 | h3
  · have q := h.els j hj h3
    obtain ⟨p', c', q1, q2⟩ := q.c2
    have hc : ∀ o, o < i * 3 → W5.cell? ⟨w.heap.size + 2, o, none⟩ = w4.cell? ⟨w.heap.size + 2, o, none⟩ := fun o ho => by rw [← hW5]; exact cell_set3 (.inr ⟨by omega, by omega, by omega⟩)
    exact ⟨by rw [hc _ (by omega)]; exact q.c0, by rw [hc _ (by omega)]; exact q.c1, q.k64, q.n64, p', c', by rw [hc _ (by omega)]; exact q1, SpV.mid hmid _ q2⟩
  · have : j = i := by omega
    subst this
    exact ⟨n0, n1, hk, hn, q, d, n2, SpV.mid hmid _ hs⟩

/-- the mark is set, and it is done -/
theorem OwJ.fin {w wr : World} {B : Nat} {x : V} {p : Option Addr} {c : Nat} (h : OwJ w wr B x p c x.l.length) (hx : x.l.length + 1 ≤ 2147483648) (a b d e : Value) : ∀ W5 : World, (((((wr.setCell ⟨w.heap.size + 2, x.l.length * 3, none⟩ (.int .i64 (-99))).setCell ⟨w.heap.size, 2, none⟩ a).setCell ⟨w.heap.size + 1, 0, none⟩ b).setCell ⟨w.heap.size + 1, 1, none⟩ d).setCell ⟨w.heap.size + 1, 2, none⟩ e) = W5 →
    SpV W5 w.heap.size W5.heap.size x (some ⟨w.heap.size + 2, 0, none⟩) (x.l.length + 1) ∧ Prv W5 w.heap.size W5.heap.size 1 x (some ⟨w.heap.size + 2, 0, none⟩) (x.l.length + 1) ∧ Below w.heap.size w W5 := by
  obtain ⟨W1, hW1⟩ : ∃ W1, wr.setCell ⟨w.heap.size + 2, x.l.length * 3, none⟩ (.int .i64 (-99)) = W1 := ⟨_, rfl⟩
  intro W5 hW5
  rw [hW1] at hW5
  have hb1 : Below w.heap.size w W1 := by rw [← hW1]; exact h.one.bel.setCell (p := ⟨w.heap.size + 2, x.l.length * 3, none⟩) (by show _ ≤ w.heap.size + 2; omega) _
  have hb5 : Below w.heap.size w W5 := by
    rw [← hW5]; exact below3 (hb1.setCell (p := ⟨w.heap.size, 2, none⟩) (Nat.le_refl _) _) (by omega) _ _ _
  have hup : ∀ b o, w.heap.size + 2 ≤ b → W5.cell? ⟨b, o, none⟩ = W1.cell? ⟨b, o, none⟩ := fun b o hb => by
    simp only [World.cell?]
    rw [← hW5, set3_other _ _ _ (by omega), Below.heap_setCell _ _ _ _ (by show b ≠ w.heap.size; omega)]
  have hs1 : W1.heap.size = wr.heap.size := by rw [← hW1]; simp [World.size_setCell]
  have hs5 : W5.heap.size = wr.heap.size := by rw [← hW5, ← hs1]; simp [World.size_setCell]
  obtain ⟨u, hu⟩ := h.row.cell (x.l.length * 3) (by omega)
  have hml := h.row.lt
  have hoth : ∀ b o, b ≠ w.heap.size + 2 ∨ o ≠ x.l.length * 3 → W1.cell? ⟨b, o, none⟩ = wr.cell? ⟨b, o, none⟩ := fun b o hb => by
    rw [← hW1, World.cell?_setCell_other]
    intro e; cases e; rcases hb with hb | hb <;> exact hb rfl
  have hmid : Mid (w.heap.size + 3) wr.heap.size wr W5 := ⟨fun b o h1 h2 => by rw [hup b o (by omega), hoth b o (.inl (by omega))]⟩
  refine ⟨SpV.iff.2 ⟨w.heap.size + 2, rfl, rfl, by omega, by omega, ?_, SpAll.of_get (fun i hi => ?_)⟩, ?_, hb5⟩
  rotate_right
  · have hk : KidsP W5 (w.heap.size + 3) wr.heap.size 1 (w.heap.size + 2) x.l x.l.length := h.kp.keep (fun o ho => by rw [hup _ _ (by omega), hoth _ _ (.inr (by omega))]) fun y hy _ hy2 => by
      rw [← hW5, set3_other _ _ _ (by omega), Below.heap_setCell _ _ _ _ (by show y ≠ w.heap.size; omega), ← hW1, Below.heap_setCell _ _ _ _ (by show y ≠ w.heap.size + 2; omega)]
    rw [hs5]
    refine hk.done (by omega) (by omega) (by omega) (by omega) (by omega) hx ?_
    rw [← hW5, ← hW1]
    exact ((((h.row.set _ _).other _ _ (by omega)).other _ _ (by omega)).other _ _ (by omega)).other _ _ (by omega)
  · rw [hup _ _ (by omega), ← hW1]; exact World.cell?_setCell_same _ _ _ hu
  · have q := h.els i hi hi
    obtain ⟨p', c', q1, q2⟩ := q.c2
    have hc : ∀ o, o ≠ x.l.length * 3 → W5.cell? ⟨w.heap.size + 2, o, none⟩ = wr.cell? ⟨w.heap.size + 2, o, none⟩ := fun o ho => by rw [hup _ _ (by omega), hoth _ _ (.inr ho)]
    have e0 : 0 + i * 3 = i * 3 := by omega
    rw [e0]
    exact ⟨by rw [hc _ (by omega)]; exact q.c0, by rw [hc _ (by omega)]; exact q.c1, q.k64, q.n64, p', c', by rw [hc _ (by omega)]; exact q1, SpV.up (by omega) (by omega) _ (SpV.mid hmid _ q2)⟩

set_option maxRecDepth 100000 in
set_option maxHeartbeats 4000000 in
theorem lownP_rec (N : Nat) (ih : ∀ (x : V), x.sz < N → ∀ (w : World) (B : Nat) (v : Value), IsV w B v x → B ≤ w.heap.size → x.sz ≤ 1000000 → Calls Try.prog 6 #[v] w (OwP2 w x))
    (w : World) (B : Nat) (v : Value) (x : V) (hv : IsV w B v x) (hB : B ≤ w.heap.size) (hN : x.sz ≤ N) (h65 : x.sz ≤ 1000000) : Calls Try.prog 6 #[v] w (OwP2 w x) := by
  obtain ⟨⟨p, c, rfl, h1⟩, h2, h3⟩ := hv
  have hlen := szs_len x.l
  have hsz := V.sz_eq x
  have hlc : x.l.length ≤ c := h1.1
  have hcm : c ≤ maxLen := h1.2.1
  unfold maxLen at hcm
  obtain ⟨W0, hW0⟩ : ∃ W0, (w.alloc (Obj.cells #[.int .i64 x.k, .int .i64 x.n, .slice p x.l.length c] 24)).alloc z3 = W0 := ⟨_, rfl⟩
  have hz0 : W0.heap.size = w.heap.size + 2 := by rw [← hW0]; simp
  have ha0 : W0.heap[w.heap.size]? = some (Obj.cells #[.int .i64 x.k, .int .i64 x.n, .slice p x.l.length c] 24) := by rw [← hW0]; exact (Below.heap_alloc _ _ _ (by simp)).trans (World.alloc_heap_new _ _)
  have ha1 : W0.heap[w.heap.size + 1]? = some z3 := by rw [← hW0]; exact alloc_at _ _ _
  have hb0 : Below w.heap.size w W0 := by rw [← hW0]; exact two_new _ _ _
  have hmk := make_vals W0 (x.l.length + 1) (by omega)
  simp only [Int.natCast_add, Int.cast_ofNat_Int] at hmk
  rw [hz0] at hmk
  obtain ⟨c0, c1, c2, f0, f1, f2, cl⟩ := c3 ha0
  obtain ⟨W1, hW1⟩ : ∃ W1, W0.alloc (.cells (zerosV (x.l.length + 1)) 24) = W1 := ⟨_, rfl⟩
  rw [hW1] at hmk
  have hb1 : Below W0.heap.size W0 W1 := by rw [← hW1]; exact below1 _ _
  have HS0 : Bx (OwJ w W1 B x p c 0) := ⟨⟨⟨keep_h hb1 ha0, h1.lo (Lo.of ((hb0.trans (hb1.mono hb0.size)).mono hB)), hb0.trans (hb1.mono hb0.size)⟩, keep_h hb1 ha1, ⟨_, by rw [← hz0, ← hW1]; exact World.alloc_heap_new _ _, zerosV_size _⟩, fun j hj hi => by omega, KidsP.start⟩⟩
  have HIH : Bx _ := ⟨ih⟩
  have HK : Bx (I64 x.k ∧ I64 x.n) := ⟨h2, h3⟩
  clear h1 h2 h3 ih hb0 hb1 ha0 ha1 hz0
  go_enter Try.func6, Try.ntmps6
  go_wp2
  clear c0 c1 c2 f0 f1 f2 cl hW0 hW1 hmk
  go_loopg [4] x.l.length (fun q v wr => ∃ i : Nat, q = x.l.length - i ∧ i ≤ x.l.length ∧ v = .int .i64 i ∧ Bx (OwJ w wr B x p c i))
  case atStart => exact ⟨0, by simp, by omega, rfl, HS0⟩
  case round =>
    obtain ⟨i, hq, hil, rfl, HS⟩ := hrel
    clear HS0
    obtain ⟨r0, r1, r2, g0, g1, g2, rl⟩ := c3 HS.out.one.a
    by_cases hlt : i < x.l.length
    · obtain ⟨b, o, q1, qc, rfl, hbB, d0, d1, d2, hq1, dk, dn⟩ := HS.out.one.va.at3 i hlt
      have HC : Bx _ := ⟨HIH.out x.l[i] (by have h9 := szs_mem (List.getElem_mem hlt); omega) wr B _ ⟨⟨q1, qc, rfl, hq1⟩, dk, dn⟩ (Nat.le_trans hB HS.out.one.bel.size) (by have h9 := szs_mem (List.getElem_mem hlt); omega)⟩
      have HD : Bx (I64 x.l[i].k ∧ I64 x.l[i].n) := ⟨dk, dn⟩
      have hml := HS.out.row.lt
      clear hq1 dk dn
      go_wp2_with (first | (go_at_call 6; refine Calls.mono HC.out ?_; rintro e w4 ⟨q, d, rfl, hsp, hpv, hb4⟩; have HN : Bx _ := ⟨HS.out.next hB hb4⟩; obtain ⟨u0, t0⟩ := HN.out.row.cell (i * 3) (by omega); obtain ⟨u1, t1⟩ := HN.out.row.cell (i * 3 + 1) (by omega); obtain ⟨u2, t2⟩ := HN.out.row.cell (i * 3 + 2) (by omega); have v0 := HN.out.row.frozen (i * 3); have v1 := HN.out.row.frozen (i * 3 + 1); have v2 := HN.out.row.frozen (i * 3 + 2); have HF : Bx _ := ⟨HN.out.step hB hlt HD.out.1 HD.out.2 (SpV.up (by omega) (Nat.le_refl _) _ hsp) HS.out hb4 hpv⟩; clear hsp hpv))
      go_roundg (x.l.length - (i + 1))
      case measure => omega
      case rel => exact ⟨i + 1, rfl, by omega, by simp, HF⟩
    · have hie : i = x.l.length := by omega
      subst hie
      obtain ⟨z0, z1, z2, y0, y1, y2, zl⟩ := c3 HS.out.z
      obtain ⟨u0, t0⟩ := HS.out.row.cell (x.l.length * 3) (by omega)
      have v0 := HS.out.row.frozen (x.l.length * 3)
      have hml := HS.out.row.lt
      have HF : Bx _ := ⟨HS.out.fin (by omega) (.slice (some ⟨w.heap.size + 2, 0, none⟩) x.l.length (x.l.length + 1)) (.int .i64 x.k) (.int .i64 x.n) (.slice (some ⟨w.heap.size + 2, 0, none⟩) x.l.length (x.l.length + 1)) _ rfl⟩
      go_wp2
      refine bodyPost_ret (v := .agg #[.int .i64 x.k, .int .i64 x.n, .slice (some ⟨w.heap.size + 2, 0, none⟩) x.l.length (x.l.length + 1)]) (by simp [results, Try.results6, go_sem, z0, z1, z2, zl]) rfl ⟨_, _, rfl, HF.out.1, HF.out.2.1, HF.out.2.2⟩
/-- own: the same value in blocks of its own, with a mark behind each list -/
theorem lownP_any (w : World) (B : Nat) (v : Value) (x : V) (hv : IsV w B v x) (hB : B ≤ w.heap.size) (h65 : x.sz ≤ 1000000) : Calls Try.prog 6 #[v] w (OwP2 w x) := by
  have key : ∀ N : Nat, ∀ (x : V), x.sz ≤ N → ∀ (w : World) (B : Nat) (v : Value), IsV w B v x → B ≤ w.heap.size → x.sz ≤ 1000000 → Calls Try.prog 6 #[v] w (OwP2 w x) := by
    intro N
    induction N with
    | zero => intro x h; have := x.sz_pos; omega
    | succ N ih => intro x h w B v hv hB h65; exact lownP_rec (N + 1) (fun x' h' => ih x' (by omega)) w B v x hv hB h h65
  exact key x.sz x (Nat.le_refl _) w B v hv hB h65
end Go.Proofs.Ytikijkpklneihaa
