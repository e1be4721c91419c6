import Derived.Test.YtikijkpklneihaaCVQa
import Derived.Test.YtikijkpklneihaaCFL
namespace Go.Proofs.Ytikijkpklneihaa
open Go.RowKit
set_option linter.unusedVariables false
set_option linter.unusedSimpArgs false

/-- With's end: a copy in which one place is another's -/
theorem rw_end {X w7 W9 : World} {S g cap a0 b0 lo j d : Nat} {l : List V} {cs : List Value} {z : V} {q : Option Addr} (o1 : w7.ownsRow S 24 3 (.slice (some ⟨g, 0, none⟩) l.length cap) l.length cs) (o2 : RowK w7 S (.slice (some ⟨g, 0, none⟩) l.length cap) l.length cs l) (hj : j < l.length) (hz : ∀ W', Mid a0 b0 X W' → SlV W' b0 q d z.l) (hX : Mid a0 b0 X W9) (hk : I64 z.k) (hn : I64 z.n)
    (c0 : W9.cell? ⟨g, j * 3, none⟩ = some (.int .i64 z.k)) (c1 : W9.cell? ⟨g, j * 3 + 1, none⟩ = some (.int .i64 z.n)) (c2 : W9.cell? ⟨g, j * 3 + 2, none⟩ = some (.slice q z.l.length d)) (hoth : ∀ o, o ≠ j * 3 → o ≠ j * 3 + 1 → o ≠ j * 3 + 2 → W9.cell? ⟨g, o, none⟩ = w7.cell? ⟨g, o, none⟩) (hblk : ∀ b, S ≤ b → b < w7.heap.size → b ≠ g → W9.heap[b]? = w7.heap[b]?) (hs : w7.heap.size ≤ W9.heap.size) (hb0 : b0 ≤ W9.heap.size) (hlo : lo ≤ S) (hlo2 : lo ≤ a0) :
    ∀ W', Mid lo W9.heap.size W9 W' → SlV W' W9.heap.size (some ⟨g, 0, none⟩) cap (l.set j z) := fun W' hm => by
  rcases o1.2 with ⟨e, _⟩ | ⟨g', cap', cur, e, h1, h2, h3, h4, h5, h6⟩
  · cases e
  · simp only [Value.slice.injEq, Option.some.injEq, Addr.mk.injEq, and_true, true_and] at e
    obtain ⟨rfl, rfl⟩ := e
    have hgl := heap_lt h2
    have hgW : ∀ o, W'.cell? ⟨g, o, none⟩ = W9.cell? ⟨g, o, none⟩ := fun o => hm.cell _ _ (by omega) (by omega)
    refine ⟨by rw [List.length_set]; exact h3, h4, .inr ⟨g, 0, rfl, by omega, AtVs.of_get fun i hi => ?_⟩⟩
    have e0 : 0 + 3 * i = i * 3 := by omega
    rw [e0]
    have hi2 : i < l.length := by rwa [List.length_set] at hi
    by_cases hij : i = j
    · subst hij
      rw [List.getElem_set_self]
      exact ⟨by rw [hgW]; exact c0, by rw [hgW]; exact c1, hk, hn, q, d, by rw [hgW]; exact c2, (hz W' (hX.trans (hm.narrow hlo2 hb0))).up hb0⟩
    · rw [List.getElem_set_ne (by omega)]
      obtain ⟨q', c, a, b, a1, a2, a3, a4, a5, a6, a7, a8, a9⟩ := o2 i hi2 hi2
      have hc : ∀ (o : Nat) u, o ≠ j * 3 → o ≠ j * 3 + 1 → o ≠ j * 3 + 2 → cs[o]? = some u → W'.cell? ⟨g, o, none⟩ = some u := fun o u n0 n1 n2 hu => by
        have hol := (List.getElem?_eq_some_iff.1 hu).1
        have hln := o1.1
        rw [hgW, hoth o n0 n1 n2]
        refine cell_blk h2 ?_
        rw [← h6, List.getElem?_take_of_lt (by omega), Array.getElem?_toList] at hu
        exact hu
      have hg := a8 g rfl
      exact ⟨hc _ _ (by omega) (by omega) (by omega) a1, hc _ _ (by omega) (by omega) (by omega) a2, a4, a5, q', c, hc _ _ (by omega) (by omega) (by omega) a3, (a9 W' (Mid.trans (Mid.blocks fun y h1 h2 => hblk y (by omega) (by omega) (by omega)) (hm.narrow (by omega) (by omega)))).up (by omega)⟩
/-- what With puts -/
def wzV (x : V) (ks : List Int) (y : V) : Option V := (findV x ks).map fun _ => putV x ks y
theorem wz_sz {x y z : V} {ks : List Int} (h : wzV x ks y = some z) : z.sz ≤ x.sz + y.sz := by
  cases hf : findV x ks with
  | none => simp [wzV, hf] at h
  | some p =>
    have := put_sz (y := y) hf
    simp [wzV, hf] at h
    subst h
    omega
theorem wz_cons {x y : V} {j : Nat} {ks : List Int} (hg : goesI x j = true) (hj : j < x.l.length) : wzV x ((j : Int) :: ks) y = (wzV x.l[j] ks y).map fun z => V.mk x.k x.n (x.l.set j z) := by
  unfold wzV
  rw [show findV x ((j : Int) :: ks) = findV x.l[j] ks by simp [findV, hg, List.getD, List.getElem?_eq_getElem hj]]
  cases findV x.l[j] ks with
  | none => rfl
  | some p => simp [putV, List.getD, List.getElem?_eq_getElem hj]
end Go.Proofs.Ytikijkpklneihaa
namespace Go.Proofs.Ytikijkpklneihaa
open Go.RowKit
set_option linter.unusedVariables false
set_option linter.unusedSimpArgs false

/-! ### a call that makes a value, and a box for it, in whatever order -/
theorem put_eqq (u : Vals) (j : Nat) (v : Value) : ∀ k, k ≠ j → u.put j v k = u k := fun k hk => Vals.put_ne _ _ hk
abbrev tpV (u0 u1 : Int) (p : Option Addr) (n c : Nat) (ok : Bool) : Value := .tuple #[.agg #[.int .i64 u0, .int .i64 u1, .slice p n c], .bool ok]
/-- what was told -/
def Told (z : Option V) (a b : Nat) (w : World) (u0 u1 : Int) (p : Option Addr) (n c : Nat) (ok : Bool) : Prop := (z = none ∧ ok = false) ∨ ∃ y, z = some y ∧ ok = true ∧ ∀ W', Mid a b w W' → IsV W' b (.agg #[.int .i64 u0, .int .i64 u1, .slice p n c]) y
theorem Told.mid {z : Option V} {a b : Nat} {w w' : World} {u0 u1 : Int} {p : Option Addr} {n c : Nat} {ok : Bool} (h : Told z a b w u0 u1 p n c ok) (hm : Mid a b w w') : Told z a b w' u0 u1 p n c ok := by
  rcases h with h | ⟨y, h1, h2, h3⟩
  · exact .inl h
  · exact .inr ⟨y, h1, h2, fun W' hm' => h3 W' (hm.trans hm')⟩
/-- jc the call, jt its copy, j0 j1 its parts, jb the box, js the store, jo the other's variable -/
structure WiS (w0 : World) (z : Option V) (cv : Nat → Option Value) (u : Vals) (w : World) : Prop where
  bel : Below w0.heap.size w0 w
  pur : ∀ k v, u k = some v → ∀ c, cv k = some c → v = c
  call : ∀ v, u 10 = some v → ∃ u0 u1 p n c ok a b, v = tpV u0 u1 p n c ok ∧ w0.heap.size ≤ a ∧ a ≤ b ∧ b ≤ w.heap.size ∧ (∀ A, u 14 = some (.pointer (some ⟨A, 0, none⟩)) → A < a ∨ b ≤ A) ∧ Told z a b w u0 u1 p n c ok
  al : ∀ v, u 14 = some v → ∃ A, v = .pointer (some ⟨A, 0, none⟩) ∧ w0.heap.size ≤ A ∧ A < w.heap.size ∧ (u 15 = none → w.heap[A]? = some z3) ∧ (u 15 ≠ none → ∀ u0 u1 p n c ok, u 10 = some (tpV u0 u1 p n c ok) → w.heap[A]? = some (.cells #[.int .i64 u0, .int .i64 u1, .slice p n c] 24 (0, 0)))
  e11 : ∀ v, u 11 = some v → u 10 = some v
  e12 : ∀ v, u 12 = some v → ∃ b, u 10 = some (.tuple #[v, b])
  e13 : ∀ v, u 13 = some v → ∃ a, u 10 = some (.tuple #[a, v])
  e16 : ∀ v, u 16 = some v → u 13 = some v
  d15 : u 15 ≠ none → u 10 ≠ none ∧ u 14 ≠ none
section
variable {w0 : World} {z : Option V} {cv : Nat → Option Value} {u : Vals} {w : World}
theorem WiS.get (H : WiS w0 z cv u w) {k : Nat} (hk : ∃ v, u k = some v) {c : Value} (hc : cv k = some c) : u k = some c := by
  obtain ⟨v, hv⟩ := hk
  rw [hv, H.pur k v hv c hc]
theorem WiS.low (H : WiS w0 z cv u w) {k : Nat} {v : Value} (hk : k < 10) (hv : cv k = some v) : WiS w0 z cv (u.put k v) w := by
  have e : ∀ j, 10 ≤ j → u.put k v j = u j := fun j hj => put_eqq u k v j (by omega)
  refine ⟨H.bel, fun j y hy c hc => ?_, by rw [e 10 (by omega), e 14 (by omega)]; exact H.call, by rw [e 10 (by omega), e 14 (by omega), e 15 (by omega)]; exact H.al, by rw [e 11 (by omega), e 10 (by omega)]; exact H.e11, by rw [e 12 (by omega), e 10 (by omega)]; exact H.e12, by rw [e 13 (by omega), e 10 (by omega)]; exact H.e13, by rw [e 16 (by omega), e 13 (by omega)]; exact H.e16, by rw [e 15 (by omega), e 10 (by omega), e 14 (by omega)]; exact H.d15⟩
  by_cases h : j = k
  · subst h
    rw [Vals.put_self] at hy
    rw [hv] at hc
    exact (Option.some.inj hy).symm.trans (Option.some.inj hc)
  · rw [put_eqq u k v j h] at hy
    exact H.pur j y hy c hc
/-- a value that is got from another -/
theorem WiS.part (H : WiS w0 z cv u w) {k : Nat} {v : Value} (hk : k = 11 ∨ k = 12 ∨ k = 13 ∨ k = 16) (hc : cv k = none) (hn : u k = none) (h11 : k = 11 → u 10 = some v) (h12 : k = 12 → ∃ b, u 10 = some (.tuple #[v, b])) (h13 : k = 13 → ∃ a, u 10 = some (.tuple #[a, v])) (h16 : k = 16 → u 13 = some v) : WiS w0 z cv (u.put k v) w := by
  have e : ∀ j, j ≠ k → u.put k v j = u j := fun j hj => put_eqq u k v j hj
  have m : ∀ j y, u.put k v j = some y → j ≠ k → u j = some y := fun j y hy hj => by rwa [e j hj] at hy
  have s : ∀ y, u.put k v k = some y → v = y := fun y hy => by rw [Vals.put_self] at hy; exact Option.some.inj hy
  refine ⟨H.bel, fun j y hy c hcc => ?_, by rw [e 10 (by omega), e 14 (by omega)]; exact H.call, by rw [e 10 (by omega), e 14 (by omega), e 15 (by omega)]; exact H.al, fun y hy => ?_, fun y hy => ?_, fun y hy => ?_, fun y hy => ?_, by rw [e 15 (by omega), e 10 (by omega), e 14 (by omega)]; exact H.d15⟩
  · by_cases h : j = k
    · subst h; rw [hc] at hcc; cases hcc
    · exact H.pur j y (m j y hy h) c hcc
  · rw [e 10 (by omega)]
    by_cases h : 11 = k
    · subst h; obtain rfl := s y hy; exact h11 rfl
    · exact H.e11 y (m _ y hy h)
  · rw [e 10 (by omega)]
    by_cases h : 12 = k
    · subst h; obtain rfl := s y hy; exact h12 rfl
    · exact H.e12 y (m _ y hy h)
  · rw [e 10 (by omega)]
    by_cases h : 13 = k
    · subst h; obtain rfl := s y hy; exact h13 rfl
    · exact H.e13 y (m _ y hy h)
  · by_cases h : 16 = k
    · subst h; obtain rfl := s y hy; rw [e 13 (by omega)]; exact h16 rfl
    · have h2 := H.e16 y (m _ y hy h)
      by_cases h3 : 13 = k
      · subst h3; rw [hn] at h2; cases h2
      · rw [e 13 h3]; exact h2
theorem WiS.called (H : WiS w0 z cv u w) (hc : cv 10 = none) (hn : u 10 = none) {w' : World} {u0 u1 : Int} {p : Option Addr} {n c : Nat} {ok : Bool} (hP : RPp w z (.returned (tpV u0 u1 p n c ok)) w') : WiS w0 z cv (u.put 10 (tpV u0 u1 p n c ok)) w' := by
  have e : ∀ j, j ≠ 10 → u.put 10 (tpV u0 u1 p n c ok) j = u j := fun j hj => put_eqq u 10 _ j hj
  have hb := hP.1
  have hbz := H.bel.size
  have h15 : u 15 = none := by
    cases h : u 15 with
    | none => rfl
    | some y => exact absurd hn (H.d15 (by rw [h]; simp)).1
  refine ⟨H.bel.trans (hb.mono hbz), fun j y hy c' hcc => ?_, fun v hv => ?_, fun v hv => ?_, fun y hy => ?_, fun y hy => ?_, fun y hy => ?_, by rw [e 16 (by decide), e 13 (by decide)]; exact H.e16, fun h => by rw [e 15 (by decide), h15] at h; exact absurd rfl h⟩
  · by_cases h : j = 10
    · subst h; rw [hc] at hcc; cases hcc
    · rw [e j h] at hy; exact H.pur j y hy c' hcc
  · rw [Vals.put_self] at hv
    obtain rfl := Option.some.inj hv
    refine ⟨u0, u1, p, n, c, ok, w.heap.size, w'.heap.size, rfl, hbz, hb.size, Nat.le_refl _, fun A hA => ?_, ?_⟩
    · rw [e 14 (by decide)] at hA
      obtain ⟨A', h1, _, h3, _⟩ := H.al _ hA
      simp only [Value.pointer.injEq, Option.some.injEq, Addr.mk.injEq, and_true] at h1
      exact .inl (by omega)
    · rcases hP.2 with ⟨h1, h2⟩ | ⟨y, v, h1, h2, h3⟩
      · simp at h2
        exact .inl ⟨h1, h2.2⟩
      · simp at h2
        obtain ⟨h4, h5⟩ := h2
        exact .inr ⟨y, h1, h5, fun W' hm => by rw [h4]; exact h3 W' hm⟩
  · rw [e 14 (by decide)] at hv
    obtain ⟨A, h1, h2, h3, h4, h5⟩ := H.al v hv
    rw [e 15 (by decide)]
    exact ⟨A, h1, h2, Nat.lt_of_lt_of_le h3 hb.size, fun h => (hb.block A h3).trans (h4 h), fun h => absurd h15 h⟩
  · rw [e 11 (by decide)] at hy; have := H.e11 y hy; rw [hn] at this; cases this
  · rw [e 12 (by decide)] at hy; obtain ⟨_, this⟩ := H.e12 y hy; rw [hn] at this; cases this
  · rw [e 13 (by decide)] at hy; obtain ⟨_, this⟩ := H.e13 y hy; rw [hn] at this; cases this
theorem WiS.boxed (H : WiS w0 z cv u w) (hc : cv 14 = none) (hn : u 14 = none) : WiS w0 z cv (u.put 14 (.pointer (some ⟨w.heap.size, 0, none⟩))) (w.alloc z3) := by
  have e : ∀ j, j ≠ 14 → u.put 14 (.pointer (some ⟨w.heap.size, 0, none⟩)) j = u j := fun j hj => put_eqq u 14 _ j hj
  have hb := below1 w z3
  have hbz := H.bel.size
  have h15 : u 15 = none := by
    cases h : u 15 with
    | none => rfl
    | some y => exact absurd hn (H.d15 (by rw [h]; simp)).2
  refine ⟨H.bel.trans (hb.mono hbz), fun j y hy c' hcc => ?_, fun v hv => ?_, fun v hv => ?_, by rw [e 11 (by decide), e 10 (by decide)]; exact H.e11, by rw [e 12 (by decide), e 10 (by decide)]; exact H.e12, by rw [e 13 (by decide), e 10 (by decide)]; exact H.e13, by rw [e 16 (by decide), e 13 (by decide)]; exact H.e16, fun h => by rw [e 15 (by decide), h15] at h; exact absurd rfl h⟩
  · by_cases h : j = 14
    · subst h; rw [hc] at hcc; cases hcc
    · rw [e j h] at hy; exact H.pur j y hy c' hcc
  · rw [e 10 (by decide)] at hv
    obtain ⟨u0, u1, p, n, c, ok, a, b, h1, h2, h3, h4, h5, h6⟩ := H.call v hv
    refine ⟨u0, u1, p, n, c, ok, a, b, h1, h2, h3, Nat.le_trans h4 hb.size, fun A hA => ?_, h6.mid (Mid.blocks fun y _ h => hb.block y (by omega))⟩
    rw [Vals.put_self] at hA
    simp only [Option.some.injEq, Value.pointer.injEq, Addr.mk.injEq, and_true] at hA
    exact .inr (by omega)
  · rw [Vals.put_self] at hv
    obtain rfl := Option.some.inj hv
    exact ⟨w.heap.size, rfl, hbz, by simp, fun _ => World.alloc_heap_new _ _, fun h => by rw [e 15 (by decide), h15] at h; exact absurd rfl h⟩
theorem WiS.stored (H : WiS w0 z cv u w) (hc : cv 15 = none) {A : Nat} (hA : u 14 = some (.pointer (some ⟨A, 0, none⟩))) {u0 u1 : Int} {p : Option Addr} {n c : Nat} {ok : Bool} (hcl : u 10 = some (tpV u0 u1 p n c ok)) (hn : u 15 = none) (y : Value) : WiS w0 z cv (u.put 15 y) (((w.setCell ⟨A, 0, none⟩ (.int .i64 u0)).setCell ⟨A, 1, none⟩ (.int .i64 u1)).setCell ⟨A, 2, none⟩ (.slice p n c)) := by
  have e : ∀ j, j ≠ 15 → u.put 15 y j = u j := fun j hj => put_eqq u 15 _ j hj
  obtain ⟨A', h1, h2, h3, h4, _⟩ := H.al _ hA
  simp only [Value.pointer.injEq, Option.some.injEq, Addr.mk.injEq, and_true] at h1
  subst h1
  refine ⟨below3 H.bel h2 _ _ _, fun j v hv c' hcc => ?_, fun v hv => ?_, fun v hv => ?_, by rw [e 11 (by decide), e 10 (by decide)]; exact H.e11, by rw [e 12 (by decide), e 10 (by decide)]; exact H.e12, by rw [e 13 (by decide), e 10 (by decide)]; exact H.e13, by rw [e 16 (by decide), e 13 (by decide)]; exact H.e16, fun _ => by rw [e 10 (by decide), e 14 (by decide), hA, hcl]; simp⟩
  · by_cases h : j = 15
    · subst h; rw [hc] at hcc; cases hcc
    · rw [e j h] at hv; exact H.pur j v hv c' hcc
  · rw [e 10 (by decide)] at hv
    obtain ⟨v0, v1, q, m, d, ok', a, b, k1, k2, k3, k4, k5, k6⟩ := H.call v hv
    refine ⟨v0, v1, q, m, d, ok', a, b, k1, k2, k3, by simpa [World.size_setCell] using k4, fun B hB => by rw [e 14 (by decide)] at hB; exact k5 B hB, k6.mid (Mid.blocks fun y g1 g2 => set3_other _ _ _ (by have := k5 A hA; omega))⟩
  · rw [e 14 (by decide), hA] at hv
    obtain rfl := Option.some.inj hv
    refine ⟨A, rfl, h2, by simpa [World.size_setCell] using h3, fun h => (by rw [Vals.put_self] at h; cases h), fun _ v0 v1 q m d ok' h => ?_⟩
    rw [e 10 (by decide), hcl] at h
    simp only [Option.some.injEq, tpV, Value.tuple.injEq, Array.mk.injEq, List.cons.injEq, Value.agg.injEq, Value.int.injEq, Value.slice.injEq, Value.bool.injEq, and_true, true_and] at h
    obtain ⟨⟨rfl, rfl, rfl, rfl, rfl⟩, _⟩ := h
    exact set3 (h4 hn)
end
end Go.Proofs.Ytikijkpklneihaa
