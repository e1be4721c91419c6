import Derived.Test.YtikijkpklneihaaCVOb
namespace Go.Proofs.Ytikijkpklneihaa
open Go.RowKit
set_option linter.unusedVariables false
set_option linter.unusedSimpArgs false

mutual
/-- a value's list in blocks of its own from lo on, with a mark behind it -/
def SpV (W : World) (lo B : Nat) : V → Option Addr → Nat → Prop
  | .mk _ _ l, p, c => ∃ b, p = some ⟨b, 0, none⟩ ∧ c = l.length + 1 ∧ lo ≤ b ∧ b < B ∧ W.cell? ⟨b, l.length * 3, none⟩ = some (.int .i64 (-99)) ∧ SpAll W lo B b 0 l
def SpAll (W : World) (lo B b off : Nat) : List V → Prop
  | [] => True
  | v :: vs => (W.cell? ⟨b, off, none⟩ = some (.int .i64 v.k) ∧ W.cell? ⟨b, off + 1, none⟩ = some (.int .i64 v.n) ∧ I64 v.k ∧ I64 v.n ∧ ∃ p c, W.cell? ⟨b, off + 2, none⟩ = some (.slice p v.l.length c) ∧ SpV W lo B v p c) ∧ SpAll W lo B b (off + 3) vs
end
/-- one of them -/
structure SpIn (W : World) (lo B b off : Nat) (v : V) : Prop where
  c0 : W.cell? ⟨b, off, none⟩ = some (.int .i64 v.k)
  c1 : W.cell? ⟨b, off + 1, none⟩ = some (.int .i64 v.n)
  k64 : I64 v.k
  n64 : I64 v.n
  c2 : ∃ p c, W.cell? ⟨b, off + 2, none⟩ = some (.slice p v.l.length c) ∧ SpV W lo B v p c
theorem SpAll.get {W : World} {lo B b : Nat} {l : List V} : ∀ {off : Nat}, SpAll W lo B b off l → ∀ i (h : i < l.length), SpIn W lo B b (off + i * 3) l[i] := by
  induction l with
  | nil => intro off _ i h; simp at h
  | cons v vs ih =>
    intro off h i hi
    simp only [SpAll] at h
    cases i with
    | zero => obtain ⟨⟨h0, h1, h2, h3, h4⟩, _⟩ := h; simpa using (⟨h0, h1, h2, h3, h4⟩ : SpIn W lo B b off v)
    | succ i =>
      have := ih h.2 i (by simpa using hi)
      have e : off + 3 + i * 3 = off + (i + 1) * 3 := by omega
      rw [e] at this
      simpa using this
theorem SpAll.of_get {W : World} {lo B b : Nat} {l : List V} : ∀ {off : Nat}, (∀ i (h : i < l.length), SpIn W lo B b (off + i * 3) l[i]) → SpAll W lo B b off l := by
  induction l with
  | nil => intro off _; simp [SpAll]
  | cons v vs ih =>
    intro off h
    simp only [SpAll]
    have h0 := h 0 (by simp)
    rw [List.getElem_cons_zero, Nat.zero_mul, Nat.add_zero] at h0
    refine ⟨⟨h0.c0, h0.c1, h0.k64, h0.n64, h0.c2⟩, ih (fun i hi => ?_)⟩
    have := h (i + 1) (by simpa using hi)
    have e : off + 3 + i * 3 = off + (i + 1) * 3 := by omega
    rw [e]
    simpa using this
/-- what lies between two numbers of blocks -/
structure Mid (lo B : Nat) (W W' : World) : Prop where
  cell : ∀ b o, lo ≤ b → b < B → W'.cell? ⟨b, o, none⟩ = W.cell? ⟨b, o, none⟩
theorem SpV.iff {W : World} {lo B : Nat} {x : V} {p : Option Addr} {c : Nat} : SpV W lo B x p c ↔ ∃ b, p = some ⟨b, 0, none⟩ ∧ c = x.l.length + 1 ∧ lo ≤ b ∧ b < B ∧ W.cell? ⟨b, x.l.length * 3, none⟩ = some (.int .i64 (-99)) ∧ SpAll W lo B b 0 x.l := by
  cases x; simp only [SpV, V.l]
theorem SpV.mid {W W' : World} {lo B : Nat} (hm : Mid lo B W W') : ∀ x : V, ∀ {p : Option Addr} {c : Nat}, SpV W lo B x p c → SpV W' lo B x p c := by
  intro x
  induction x using V.ind with
  | h k n l ih =>
    intro p c h
    obtain ⟨b, h1, h2, h3, h4, h5, h6⟩ := SpV.iff.1 h
    refine SpV.iff.2 ⟨b, h1, h2, h3, h4, by rw [hm.cell _ _ h3 h4]; exact h5, SpAll.of_get (fun i hi => ?_)⟩
    have q := h6.get i hi
    obtain ⟨p', c', q1, q2⟩ := q.c2
    exact ⟨by rw [hm.cell _ _ h3 h4]; exact q.c0, by rw [hm.cell _ _ h3 h4]; exact q.c1, q.k64, q.n64, p', c', by rw [hm.cell _ _ h3 h4]; exact q1, ih _ (List.getElem_mem hi) q2⟩
theorem SpV.up {W : World} {lo lo' B B' : Nat} (hl : lo' ≤ lo) (hB : B ≤ B') : ∀ x : V, ∀ {p : Option Addr} {c : Nat}, SpV W lo B x p c → SpV W lo' B' x p c := by
  intro x
  induction x using V.ind with
  | h k n l ih =>
    intro p c h
    obtain ⟨b, h1, h2, h3, h4, h5, h6⟩ := SpV.iff.1 h
    refine SpV.iff.2 ⟨b, h1, h2, by omega, by omega, h5, SpAll.of_get (fun i hi => ?_)⟩
    have q := h6.get i hi
    obtain ⟨p', c', q1, q2⟩ := q.c2
    exact ⟨q.c0, q.c1, q.k64, q.n64, p', c', q1, ih _ (List.getElem_mem hi) q2⟩
theorem SpV.sl {W : World} {lo B : Nat} : ∀ x : V, ∀ {p : Option Addr} {c : Nat}, SpV W lo B x p c → x.sz ≤ 70000 → SlV W B p c x.l := by
  intro x
  induction x using V.ind with
  | h k n l ih =>
    intro p c h hs
    obtain ⟨b, h1, h2, h3, h4, h5, h6⟩ := SpV.iff.1 h
    have hl := szs_len (V.mk k n l).l
    rw [V.sz_eq] at hs
    refine ⟨by omega, by unfold maxLen; omega, .inr ⟨b, 0, h1, h4, AtVs.of_get (fun i hi => ?_)⟩⟩
    have q := h6.get i hi
    rw [Nat.mul_comm i 3] at q
    obtain ⟨p', c', q1, q2⟩ := q.c2
    have hk := szs_mem (List.getElem_mem hi)
    exact ⟨q.c0, q.c1, q.k64, q.n64, p', c', q1, ih _ (List.getElem_mem hi) q2 (by omega)⟩
end Go.Proofs.Ytikijkpklneihaa
