import Derived.Test.YtikijkpklneihaaCVDp
import Derived.Test.YtikijkpklneihaaCVPt
namespace Go.Proofs.Ytikijkpklneihaa
open Go.RowKit
set_option linter.unusedVariables false
set_option linter.unusedSimpArgs false

/-- where a path leads to, from a list on -/
def wq (W : World) : List Int → Option Addr → Option (Option Addr)
  | [], q => some q
  | k :: ks, some a => match W.cell? ⟨a.block, k.toNat * 3 + 2, none⟩ with
    | some (.slice q2 _ _) => wq W ks q2
    | _ => none
  | _ :: _, none => none
theorem wq_cons {W : World} {k : Int} {ks : List Int} {g n c : Nat} {q2 : Option Addr} (h : W.cell? ⟨g, k.toNat * 3 + 2, none⟩ = some (.slice q2 n c)) : wq W (k :: ks) (some ⟨g, 0, none⟩) = wq W ks q2 := by
  simp only [wq, h]
theorem wq_append {W : World} (b : List Int) {q r : Option Addr} {a : List Int} (h : wq W a q = some r) : wq W (a ++ b) q = wq W b r := by
  induction a generalizing q with
  | nil => simp [wq] at h; subst h; rfl
  | cons k ks ih =>
    cases q with
    | none => simp [wq] at h
    | some ad =>
      simp only [wq, List.cons_append] at h ⊢
      split at h
      · rename_i q2 n c he
        exact ih h
      · cases h
/-- a value is written into a place of one row -/
structure St3 (G : Gm) (W W' : World) (b k : Nat) (y : V) (q : Option Addr) (c : Nat) : Prop where
  oth : ∀ x p, G x = some p → x ≠ b → W'.heap[x]? = W.heap[x]?
  rest : ∀ o, o ≠ k * 3 → o ≠ k * 3 + 1 → o ≠ k * 3 + 2 → W'.cell? ⟨b, o, none⟩ = W.cell? ⟨b, o, none⟩
  c0 : W'.cell? ⟨b, k * 3, none⟩ = some (.int .i64 y.k)
  c1 : W'.cell? ⟨b, k * 3 + 1, none⟩ = some (.int .i64 y.n)
  c2 : W'.cell? ⟨b, k * 3 + 2, none⟩ = some (.slice q y.l.length c)
  k64 : I64 y.k
  n64 : I64 y.n
  size : W.heap.size ≤ W'.heap.size
theorem St3.lt {G : Gm} {W W' : World} {b k : Nat} {y : V} {q : Option Addr} {c : Nat} (h : St3 G W W' b k y q c) : b < W'.heap.size := by
  rcases Nat.lt_or_ge b W'.heap.size with h1 | h1
  · exact h1
  · have := h.c0
    simp [World.cell?, Array.getElem?_eq_none h1] at this
/-- what does not lie about that place is not turned -/
theorem OwT.off {W W' : World} {lo : Nat} {G : Gm} (h : OwT W lo G) {b k : Nat} {σ : List Nat} {m : List V} {y : V} {q' : Option Addr} {c' : Nat} (hb : G b = some (σ, m)) (hs : St3 G W W' b k y q' c') : ∀ x : V, ∀ {π : List Nat} {q : Option Addr} {c : Nat}, ¬ π <+: σ → ChG G π q c x.l → x.sz ≤ 1000000 → SlV W' W'.heap.size q c x.l := by
  intro x
  induction x using V.ind with
  | h k n l ih =>
    intro π q c hp hc hz
    have hl := szs_len l
    simp only [V.sz] at hz
    change SlV W' W'.heap.size q c l
    rcases hc with ⟨h1, rfl, rfl⟩ | ⟨g, rfl, hcl, hg⟩
    · change l = [] at h1
      subst h1
      exact ⟨by simp, by simp [maxLen], .inl rfl⟩
    · change c = l.length at hcl
      change G g = some (π, l) at hg
      have hr := h g π l hg
      have hgb : g ≠ b := by
        intro e
        subst e
        rw [hg] at hb
        injection hb with hb
        injection hb with e1 e2
        subst e1
        exact hp (List.prefix_refl _)
      have hc : ∀ o, W'.cell? ⟨g, o, none⟩ = W.cell? ⟨g, o, none⟩ := fun o => by simp [World.cell?, hs.oth g _ hg hgb]
      refine ⟨by omega, by unfold maxLen; omega, .inr ⟨g, 0, rfl, Nat.lt_of_lt_of_le hr.lt hs.size, AtVs.of_get fun i hi => ?_⟩⟩
      have e := hr.el i hi
      obtain ⟨q2, c2, e1, _, e3⟩ := e.c2
      have hk := szs_mem (List.getElem_mem hi)
      rw [Nat.zero_add, Nat.mul_comm 3 i]
      exact ⟨by rw [hc]; exact e.c0, by rw [hc]; exact e.c1, e.k64, e.n64, q2, c2, by rw [hc]; exact e1, ih _ (List.getElem_mem hi) (fun hq => hp ((List.prefix_append _ _).trans hq)) (e3 hi) (by omega)⟩
theorem pre_ne {π σ : List Nat} {i k : Nat} {τ : List Nat} (hs : σ = π ++ k :: τ) (hi : i ≠ k) : ¬ (π ++ [i]) <+: σ := by
  subst hs
  rintro ⟨t, ht⟩
  rw [List.append_assoc, List.append_cancel_left_eq] at ht
  simp at ht
  exact hi ht.1
theorem pre_no {π : List Nat} {i : Nat} : ¬ (π ++ [i]) <+: π := by
  intro h
  have := h.length_le
  simp only [List.length_append, List.length_singleton] at this
  omega
/-- behind the store the whole reads with the part put in -/
theorem OwT.with {W W' : World} {lo : Nat} {G : Gm} (h : OwT W lo G) {b : Nat} {k : Int} {σ : List Nat} {m : List V} {y z : V} {q' : Option Addr} {c' : Nat} (hb : G b = some (σ, m)) (hs : St3 G W W' b k.toNat y q' c') (hy : SlV W' W'.heap.size q' c' y.l) : ∀ (pre : List Int) (x : V) (π : List Nat) (q : Option Addr) (c : Nat), findV x (pre ++ [k]) = some z → ChG G π q c x.l → wq W pre q = some (some ⟨b, 0, none⟩) → σ = π ++ pre.map Int.toNat → x.sz ≤ 1000000 → SlV W' W'.heap.size q c (putV x (pre ++ [k]) y).l := by
  intro pre
  induction pre with
  | nil =>
    intro x π q c hf hc hw hsg hz
    simp only [List.nil_append] at hf ⊢
    simp only [List.map_nil, List.append_nil] at hsg
    subst hsg
    obtain ⟨hg, hl, _⟩ := find_cons hf
    have hxl := szs_len x.l
    rw [V.sz_eq] at hz
    simp only [wq, Option.some.injEq] at hw
    subst hw
    have e1 : (putV x [k] y).l = x.l.set k.toNat y := rfl
    rw [e1]
    rcases hc with ⟨h1, h2, _⟩ | ⟨g, hq, hcl, hgg⟩
    · cases h2
    · injection hq with hq
      injection hq with hq
      subst hq
      have hr := h b _ _ hgg
      refine ⟨by simp; omega, by unfold maxLen; omega, .inr ⟨b, 0, rfl, hs.lt, AtVs.of_get fun i hi => ?_⟩⟩
      rw [Nat.zero_add, Nat.mul_comm 3 i]
      have hi' : i < x.l.length := by simpa using hi
      by_cases hik : i = k.toNat
      · subst hik
        rw [List.getElem_set_self]
        exact ⟨hs.c0, hs.c1, hs.k64, hs.n64, q', c', hs.c2, hy⟩
      · rw [List.getElem_set_ne (by omega)]
        have e := hr.el i hi'
        obtain ⟨q2, c2, e1, _, e3⟩ := e.c2
        have hk := szs_mem (List.getElem_mem hi')
        exact ⟨by rw [hs.rest _ (by omega) (by omega) (by omega)]; exact e.c0, by rw [hs.rest _ (by omega) (by omega) (by omega)]; exact e.c1, e.k64, e.n64, q2, c2, by rw [hs.rest _ (by omega) (by omega) (by omega)]; exact e1, h.off hb hs _ pre_no (e3 hi') (by omega)⟩
  | cons k1 pre ih =>
    intro x π q c hf hc hw hsg hz
    rw [List.cons_append] at hf ⊢
    obtain ⟨hg, hl, hf2⟩ := find_cons hf
    have hxl := szs_len x.l
    rw [V.sz_eq] at hz
    have e1 : (putV x (k1 :: (pre ++ [k])) y).l = x.l.set k1.toNat (putV x.l[k1.toNat] (pre ++ [k]) y) := by
      rw [put_l, getD_of hl]
    rw [e1]
    rcases hc with ⟨h1, h2, _⟩ | ⟨g, rfl, hcl, hgg⟩
    · rw [h1] at hl; simp at hl
    · have hr := h g _ _ hgg
      have hgb : g ≠ b := by
        intro e
        subst e
        rw [hgg] at hb
        injection hb with hb
        injection hb with e1 e2
        rw [hsg] at e1
        have := congrArg List.length e1
        simp at this
      have hc : ∀ o, W'.cell? ⟨g, o, none⟩ = W.cell? ⟨g, o, none⟩ := fun o => by simp [World.cell?, hs.oth g _ hgg hgb]
      refine ⟨by simp; omega, by unfold maxLen; omega, .inr ⟨g, 0, rfl, Nat.lt_of_lt_of_le hr.lt hs.size, AtVs.of_get fun i hi => ?_⟩⟩
      rw [Nat.zero_add, Nat.mul_comm 3 i]
      have hi' : i < x.l.length := by simpa using hi
      have e := hr.el i hi'
      obtain ⟨q2, c2, e1, _, e3⟩ := e.c2
      have hk := szs_mem (List.getElem_mem hi')
      by_cases hik : i = k1.toNat
      · subst hik
        rw [List.getElem_set_self]
        rw [wq_cons e1] at hw
        have r := ih x.l[k1.toNat] (π ++ [k1.toNat]) q2 c2 hf2 (e3 hi') hw (by rw [hsg]; simp) (by omega)
        have hkn : ∀ v : V, ∀ ks : List Int, (putV v (ks ++ [k]) y).k = v.k ∧ (putV v (ks ++ [k]) y).n = v.n := by
          intro v ks
          cases ks with
          | nil => exact ⟨rfl, rfl⟩
          | cons a rs => exact ⟨rfl, rfl⟩
        have hln : ∀ v : V, ∀ ks : List Int, (putV v (ks ++ [k]) y).l.length = v.l.length := by
          intro v ks
          cases ks with
          | nil => rw [List.nil_append, put_l, List.length_set]
          | cons a rs => rw [List.cons_append, put_l, List.length_set]
        refine ⟨by rw [(hkn _ _).1, hc]; exact e.c0, by rw [(hkn _ _).2, hc]; exact e.c1, by rw [(hkn _ _).1]; exact e.k64, by rw [(hkn _ _).2]; exact e.n64, q2, c2, by rw [hln, hc]; exact e1, r⟩
      · rw [List.getElem_set_ne (by omega)]
        exact ⟨by rw [hc]; exact e.c0, by rw [hc]; exact e.c1, e.k64, e.n64, q2, c2, by rw [hc]; exact e1, h.off hb hs _ (pre_ne (by rw [hsg]; simp; rfl) hik) (e3 hi') (by omega)⟩
end Go.Proofs.Ytikijkpklneihaa
