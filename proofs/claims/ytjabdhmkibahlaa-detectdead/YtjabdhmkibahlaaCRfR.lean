import Derived.Test.YtjabdhmkibahlaaCEZg
import Derived.Test.YtjabdhmkibahlaaCRfM
import Derived.Test.YtjabdhmkibahlaaCRfC
namespace Go.Proofs.Ytjabdhmkibahlaa
open Go.RowKit
set_option linter.unusedVariables false
set_option linter.unusedSimpArgs false

/-! ### the reference's levels are the search's ways -/
theorem inL_at {s : List Ag} {lv : List Int} {k : Int} {ks : List Lk} (hl : ks.length = s.length) : ∀ m, m ≤ s.length → ∀ j, j < s.length → ((inL s lv k ks m).2[j]? = if j < m then some ((lnAt s lv k j).getD (ks[j]?.getD lk00)) else ks[j]?) ∧ ((j : Int) ∈ (inL s lv k ks m).1 ↔ j < m ∧ (lnAt s lv k j).isSome = true)
  | 0, _, j, hj => by rw [inL_zero]; simp
  | m + 1, hm, j, hj => by
    obtain ⟨h1, h2⟩ := inL_at hl m (by omega) j hj
    have hlen := (inL_len s lv k ks m).1
    rw [inL_succ]
    unfold inF
    cases hn : lnAt s lv k m with
    | none =>
      simp only
      rw [h1, h2]
      by_cases e : j = m
      · subst e
        rw [if_neg (Nat.lt_irrefl _), if_pos (Nat.lt_succ_self _), hn, List.getElem?_eq_getElem (by omega)]
        simp
      · refine ⟨?_, ?_⟩
        · by_cases hjm : j < m
          · rw [if_pos hjm, if_pos (by omega)]
          · rw [if_neg hjm, if_neg (by omega)]
        · constructor
          · rintro ⟨q1, q2⟩; exact ⟨by omega, q2⟩
          · rintro ⟨q1, q2⟩; exact ⟨by omega, q2⟩
    | some l =>
      simp only
      by_cases e : j = m
      · subst e
        rw [List.getElem?_set, if_pos rfl, if_pos (by omega), if_pos (Nat.lt_succ_self _), hn]
        refine ⟨rfl, ⟨fun _ => ⟨by omega, rfl⟩, fun _ => by simp⟩⟩
      · rw [List.getElem?_set, if_neg (fun q => e q.symm), h1]
        refine ⟨?_, ?_⟩
        · by_cases hjm : j < m
          · rw [if_pos hjm, if_pos (by omega)]
          · rw [if_neg hjm, if_neg (by omega)]
        · rw [List.mem_append, h2, List.mem_singleton]
          constructor
          · rintro (⟨q1, q2⟩ | q)
            · exact ⟨by omega, q2⟩
            · omega
          · rintro ⟨q1, q2⟩
            exact .inl ⟨by omega, q2⟩
theorem putL_at (x : Int) : ∀ (nx : List Int) (lv : List Int), (∀ y ∈ nx, ∃ i : Nat, y = i) → ∀ j, j < lv.length → (putL lv nx x)[j]? = if (j : Int) ∈ nx then some x else lv[j]?
  | [], lv, _, j, hj => by simp [putL]
  | y :: r, lv, hy, j, hj => by
    obtain ⟨i, rfl⟩ := hy y List.mem_cons_self
    show (putL (lv.set (i : Int).toNat x) r x)[j]? = _
    rw [Int.toNat_natCast, putL_at x r (lv.set i x) (fun z hz => hy z (List.mem_cons_of_mem _ hz)) j (by rw [List.length_set]; exact hj), List.getElem?_set]
    by_cases e : i = j
    · subst e
      rw [if_pos rfl, if_pos hj, if_pos List.mem_cons_self]
      split <;> rfl
    · rw [if_neg e]
      have : ((j : Int) ∈ (i : Int) :: r) ↔ (j : Int) ∈ r := by
        rw [List.mem_cons]
        constructor
        · rintro (q | q)
          · omega
          · exact q
        · exact .inr
      by_cases hr : (j : Int) ∈ r
      · rw [if_pos hr, if_pos (this.2 hr)]
      · rw [if_neg hr, if_neg fun q => hr (this.1 q)]
theorem lvZ_len (s : List Ag) (Z : Int → Option Wy) : (lvZ s Z).length = s.length := List.length_map _
theorem lkZ_len (s : List Ag) (Z : Int → Option Wy) : (lkZ s Z).length = s.length := List.length_map _
/-- a round, by what is found -/
theorem round_is {s : List Ag} {k : Nat} {Z : Int → Option Wy} {N' : Int → Option Lk} (h1 : ∀ i (hi : i < s.length), lnAt s (lvZ s Z) k i = N' s[i].id) (h2 : ∀ id, (N' id).isSome = true → Z id = none ∧ ∃ a ∈ s, a.id = id ∧ a.awake = false) (h3 : ∀ i (hi : i < s.length), (N' s[i].id).isSome = true → s[i].awake = false) :
    (inL s (lvZ s Z) k (lkZ s Z) s.length).2 = lkZ s (wyN ((k + 1 : Nat) : Int) Z N') ∧ putL (lvZ s Z) (inL s (lvZ s Z) k (lkZ s Z) s.length).1 ((k : Int) + 1) = lvZ s (wyN ((k + 1 : Nat) : Int) Z N') ∧ ((inL s (lvZ s Z) k (lkZ s Z) s.length).1 = [] ↔ ∀ id, N' id = none) := by
  have hA := fun j hj => inL_at (lv := lvZ s Z) (k := (k : Int)) (lkZ_len s Z) s.length (Nat.le_refl _) j hj
  obtain ⟨g1, g2, g3⟩ := inL_len s (lvZ s Z) k (lkZ s Z) s.length
  refine ⟨?_, ?_, ?_⟩
  · refine List.ext_getElem? fun j => ?_
    by_cases hj : j < s.length
    · rw [(hA j hj).1, if_pos hj, h1 j hj]
      unfold lkZ
      rw [List.getElem?_map, List.getElem?_map, List.getElem?_eq_getElem hj]
      simp only [Option.map_some, Option.getD_some]
      congr 1
      unfold lkA2 wyN
      cases N' s[j].id <;> rfl
    · rw [List.getElem?_eq_none (by rw [g1, lkZ_len]; omega), List.getElem?_eq_none (by rw [lkZ_len]; omega)]
  · refine List.ext_getElem? fun j => ?_
    by_cases hj : j < s.length
    · rw [putL_at _ _ _ (fun y hy => by obtain ⟨i, _, e⟩ := g3 y hy; exact ⟨i, e⟩) j (by rw [lvZ_len]; exact hj), lvZ_at hj, lvZ_at hj]
      by_cases hm : (j : Int) ∈ (inL s (lvZ s Z) k (lkZ s Z) s.length).1
      · rw [if_pos hm]
        have hs := ((hA j hj).2.1 hm).2
        rw [h1 j hj] at hs
        unfold lvA wyN
        rw [h3 j hj hs]
        cases hN : N' s[j].id with
        | none => rw [hN] at hs; cases hs
        | some l => simp
      · rw [if_neg hm]
        have hs : N' s[j].id = none := by
          cases hN : N' s[j].id with
          | none => rfl
          | some l => exact absurd ((hA j hj).2.2 ⟨hj, by rw [h1 j hj, hN]; rfl⟩) hm
        unfold lvA wyN
        rw [hs]
    · rw [List.getElem?_eq_none (by rw [putL_len, lvZ_len]; omega), List.getElem?_eq_none (by rw [lvZ_len]; omega)]
  · constructor
    · intro e id
      cases hN : N' id with
      | none => rfl
      | some l =>
        obtain ⟨_, a, ha, ea, _⟩ := h2 id (by rw [hN]; rfl)
        obtain ⟨m, hm, rfl⟩ := List.mem_iff_getElem.1 ha
        have := (hA m hm).2.2 ⟨hm, by rw [h1 m hm, ea, hN]; rfl⟩
        rw [e] at this; cases this
    · intro hn
      cases he : (inL s (lvZ s Z) k (lkZ s Z) s.length).1 with
      | nil => rfl
      | cons y r =>
        obtain ⟨i, hi, e⟩ := g3 y (by rw [he]; exact List.mem_cons_self)
        have := ((hA i hi).2.1 (by rw [he, ← e]; exact List.mem_cons_self)).2
        rw [h1 i hi, hn] at this; cases this
theorem agA_at {s : List Ag} {i : Nat} (hi : i < s.length) : agA s i = s[i] := by unfold agA; rw [List.getElem?_eq_getElem hi]; rfl
/-- who has a level is not looked at -/
theorem lnAt_is {s : List Ag} {k : Nat} {Z : Int → Option Wy} {N' : Int → Option Lk} {i : Nat} (hi : i < s.length) (h1 : s[i].awake = false → Z s[i].id = none → lnI s i s[i].id (lvZ s Z) k s[i].arms = N' s[i].id) (h2 : (N' s[i].id).isSome = true → Z s[i].id = none ∧ s[i].awake = false) (h3 : ∀ y, Z s[i].id = some y → 0 ≤ y.1) : lnAt s (lvZ s Z) k i = N' s[i].id := by
  unfold lnAt
  rw [lvZ_at hi, Option.getD_some, agA_at hi]
  have off : ¬ (s[i].awake = false ∧ Z s[i].id = none) → N' s[i].id = none := fun h => by
    cases hN : N' s[i].id with
    | none => rfl
    | some l => obtain ⟨q1, q2⟩ := h2 (by rw [hN]; rfl); exact absurd ⟨q2, q1⟩ h
  cases hw : s[i].awake with
  | true =>
    rw [if_pos (by unfold lvA; rw [hw]; simp), off (by rw [hw]; simp)]
  | false =>
    cases hZ : Z s[i].id with
    | some y => rw [if_pos (by unfold lvA; rw [hw, hZ]; simpa using h3 y hZ), off (by rw [hZ]; simp)]
    | none => rw [if_neg (by unfold lvA; rw [hw, hZ]; simp), h1 hw hZ]
theorem ids_of (s : List Ag) (N : Int → Option Lk) (hok : stOk s = true) (h : ∀ id, (N id).isSome = true → ∃ a ∈ s, a.id = id) : IdsOf N ((s.filter fun b => (N b.id).isSome).map (·.id)) := by
  refine ⟨List.Pairwise.sublist (List.Sublist.map _ List.filter_sublist) (st_lt hok), fun k => ?_⟩
  rw [List.mem_map]
  constructor
  · rintro ⟨a, ha, rfl⟩; exact (List.mem_filter.1 ha).2
  · intro hk
    obtain ⟨a, ha, rfl⟩ := h k hk
    exact ⟨a, List.mem_filter.2 ⟨ha, hk⟩, rfl⟩
open Classical in
theorem opo_ex (A : Int → List Int) (hy : Int → Bool) (L : Int → Lk) (dn : Int → Bool) : ∃ O, OpO A hy L dn O :=
  ⟨fun id => if hy id = false ∧ ∃ c, dn c = true ∧ id ∈ A c then some (L id) else none, ⟨fun c id h1 h2 h3 => if_pos ⟨h3, c, h1, h2⟩, fun id h => by
    by_cases hc : hy id = false ∧ ∃ c, dn c = true ∧ id ∈ A c
    · exact ⟨if_pos hc, hc⟩
    · exact absurd (if_neg hc) h⟩⟩
/-- a round above the first -/
theorem round_lvl {s : List Ag} (hok : stOk s = true) {k : Nat} {A : Int → List Int} {Y : Int → Option Wy} {N : Int → Option Lk} (h : Lvl (whoD s) (atD s) (N0D s) k A Y N) : ∃ A' N', Lvl (whoD s) (atD s) (N0D s) (k + 1) A' (wyN k Y N) N' ∧
    (inL s (lvZ s (wyN k Y N)) k (lkZ s (wyN k Y N)) s.length).2 = lkZ s (wyN ((k + 1 : Nat) : Int) (wyN k Y N) N') ∧ putL (lvZ s (wyN k Y N)) (inL s (lvZ s (wyN k Y N)) k (lkZ s (wyN k Y N)) s.length).1 ((k : Int) + 1) = lvZ s (wyN ((k + 1 : Nat) : Int) (wyN k Y N) N') ∧ ((inL s (lvZ s (wyN k Y N)) k (lkZ s (wyN k Y N)) s.length).1 = [] ↔ ∀ id, N' id = none) := by
  have hi := ids_of s N hok fun id hid => by obtain ⟨a, ha, e, _⟩ := lvl_slp hok h id hid; exact ⟨a, ha, e⟩
  obtain ⟨N', hp⟩ := opo_ex A (fun i => (wyN k Y N i).isSome) (opL (whoD s) (hoD (whoD s) A ((s.filter fun b => (N b.id).isSome).map (·.id)))) (fun c => (hoD (whoD s) A ((s.filter fun b => (N b.id).isSome).map (·.id)) c).isSome)
  have h' := Lvl.step h hi hp
  have hslp := lvl_slp hok h'
  have hz : ∀ id, (N' id).isSome = true → wyN k Y N id = none := fun id hid => by
    cases hN : N' id with
    | none => rw [hN] at hid; cases hid
    | some l => exact lvl_new h' id l hN
  have haw : ∀ i (hi : i < s.length), (N' s[i].id).isSome = true → s[i].awake = false := fun i hi hs => by
    obtain ⟨a, ha, ea, hw⟩ := hslp _ hs
    obtain ⟨m, hm, rfl⟩ := List.mem_iff_getElem.1 ha
    have := st_ids hok hm hi ea
    subst this
    exact hw
  refine ⟨_, N', h', round_is (fun i hin => lnAt_is hin (fun _ hn => ln_lvl hok h hi hp hin hn) (fun hs => ⟨hz _ hs, haw i hin hs⟩) fun y hy => ?_) (fun id hid => ⟨hz id hid, hslp id hid⟩) haw⟩
  obtain ⟨_, m, e1, _⟩ := (lvl_wk h').2.1 _ _ hy
  omega
theorem round_one {s : List Ag} (hok : stOk s = true) :
    (inL s (lvZ s fun _ => none) 0 (lkZ s fun _ => none) s.length).2 = lkZ s (wyN 1 (fun _ => none) (N0D s)) ∧ putL (lvZ s fun _ => none) (inL s (lvZ s fun _ => none) 0 (lkZ s fun _ => none) s.length).1 1 = lvZ s (wyN 1 (fun _ => none) (N0D s)) ∧ ((inL s (lvZ s fun _ => none) 0 (lkZ s fun _ => none) s.length).1 = [] ↔ ∀ id, N0D s id = none) := by
  have h' : Lvl (whoD s) (atD s) (N0D s) 1 (atD s) (fun _ => none) (N0D s) := .one
  have hslp := lvl_slp hok h'
  have haw : ∀ i (hi : i < s.length), (N0D s s[i].id).isSome = true → s[i].awake = false := fun i hi hs => by
    obtain ⟨a, ha, ea, hw⟩ := hslp _ hs
    obtain ⟨m, hm, rfl⟩ := List.mem_iff_getElem.1 ha
    have := st_ids hok hm hi ea
    subst this
    exact hw
  have := round_is (k := 0) (Z := fun _ => none) (N' := N0D s) (fun i hin => lnAt_is hin (fun hw _ => ?_) (fun hs => ⟨rfl, haw i hin hs⟩) fun y hy => by cases hy) (fun id hid => ⟨rfl, hslp id hid⟩) haw
  · exact this
  · exact ln_one hok hin hw
theorem cntY_up {Y Y' : Int → Option Wy} : ∀ {K : List Int}, (∀ x, (Y x).isSome = true → (Y' x).isSome = true) → cntY Y K ≤ cntY Y' K
  | [], _ => Nat.le_refl _
  | x :: r, h => by
    have ih := cntY_up (K := r) h
    unfold cntY at ih ⊢
    rw [List.filter_cons, List.filter_cons]
    by_cases h1 : (Y x).isSome = true
    · rw [if_pos h1, if_pos (h x h1)]; simp only [List.length_cons]; omega
    · rw [if_neg h1]; split
      · simp only [List.length_cons]; omega
      · exact ih
theorem cntY_more {Y Y' : Int → Option Wy} {x : Int} (h1 : Y x = none) (h2 : (Y' x).isSome = true) : ∀ {K : List Int}, (∀ x, (Y x).isSome = true → (Y' x).isSome = true) → x ∈ K → cntY Y K + 1 ≤ cntY Y' K
  | [], _, hx => by cases hx
  | y :: r, h, hx => by
    by_cases e : y = x
    · subst e
      have := cntY_up (K := r) h
      unfold cntY at this ⊢
      rw [List.filter_cons, List.filter_cons, if_pos h2, if_neg (by rw [h1]; simp)]
      simp only [List.length_cons]; omega
    · have ih := cntY_more h1 h2 (K := r) h (by rcases List.mem_cons.1 hx with q | q; exact absurd q.symm e; exact q)
      unfold cntY at ih ⊢
      rw [List.filter_cons, List.filter_cons]
      by_cases h3 : (Y y).isSome = true
      · rw [if_pos h3, if_pos (h y h3)]; simp only [List.length_cons]; omega
      · rw [if_neg h3]; split
        · simp only [List.length_cons]; omega
        · exact ih
theorem cntY_all {Y : Int → Option Wy} {K : List Int} (h : K.length ≤ cntY Y K) : ∀ x ∈ K, (Y x).isSome = true := by
  unfold cntY at h
  have := List.length_filter_le (fun k => (Y k).isSome) K
  exact List.length_filter_eq_length_iff.1 (by omega)
theorem wyN_up {k : Int} {Y : Int → Option Wy} {N : Int → Option Lk} : ∀ x, (Y x).isSome = true → (wyN k Y N x).isSome = true := fun x h => by
  unfold wyN
  cases N x with
  | some l => rfl
  | none => exact h
theorem wyN_none {k : Int} {Y : Int → Option Wy} {N : Int → Option Lk} (h : ∀ id, N id = none) : wyN k Y N = Y := by
  funext id
  unfold wyN
  rw [h id]
theorem lvs_lvl {s : List Ag} (hok : stOk s = true) : ∀ (f k : Nat) {A : Int → List Int} {Y : Int → Option Wy} {N : Int → Option Lk}, Lvl (whoD s) (atD s) (N0D s) k A Y N → s.length = k + f → ((∀ id, N id = none) ∨ k ≤ cntY (wyN k Y N) (idsK s)) → ∃ Z, Full s Z ∧ lvsF s f k (lvZ s (wyN k Y N)) (lkZ s (wyN k Y N)) = (lvZ s Z, lkZ s Z) ∧ ∀ id y, Z id = some y → y.1 ≤ (s.length : Int)
  | 0, k, A, Y, N, h, hf, hc => by
    obtain ⟨A', N', h', _⟩ := round_lvl hok h
    refine ⟨wyN k Y N, ⟨k + 1, A', N', h', ?_⟩, rfl, fun id y hy => by obtain ⟨_, m, e, _, q⟩ := (lvl_wk h').2.1 id y hy; omega⟩
    rcases hc with hc | hc
    · exact (lvl_stop h hc h' (by omega)).2
    · intro id
      cases hN : N' id with
      | none => rfl
      | some l =>
        obtain ⟨a, ha, ea, _⟩ := lvl_slp hok h' id (by rw [hN]; rfl)
        have hlen : (idsK s).length = s.length := List.length_map _
        have hc2 : (idsK s).length ≤ cntY (wyN k Y N) (idsK s) := by omega
        have := cntY_all hc2 id (List.mem_map.2 ⟨a, ha, ea⟩)
        rw [lvl_new h' id l hN] at this; cases this
  | f + 1, k, A, Y, N, h, hf, hc => by
    have hk := lvl_pos h
    obtain ⟨A', N', h', e1, e2, e3⟩ := round_lvl hok h
    rw [lvsF]
    by_cases hn : ∀ id, N' id = none
    · rw [if_pos ⟨e3.2 hn, by omega⟩, e1, wyN_none hn]
      exact ⟨_, ⟨k + 1, A', N', h', hn⟩, rfl, fun id y hy => by obtain ⟨_, m, e, _, q⟩ := (lvl_wk h').2.1 id y hy; omega⟩
    · rw [if_neg fun q => hn (e3.1 q.1), e1, e2]
      refine lvs_lvl hok f (k + 1) h' (by omega) (.inr ?_)
      rcases hc with hc | hc
      · exact absurd (lvl_stop h hc h' (by omega)).2 hn
      · obtain ⟨id, hid⟩ := Classical.not_forall.1 hn
        have hs : (N' id).isSome = true := by
          cases hN : N' id with
          | none => exact absurd hN hid
          | some l => rfl
        obtain ⟨a, ha, ea, _⟩ := lvl_slp hok h' id hs
        have := cntY_more (Y := wyN k Y N) (Y' := wyN ((k + 1 : Nat) : Int) (wyN k Y N) N') (x := id) (by
          cases hN : N' id with
          | none => exact absurd hN hid
          | some l => exact lvl_new h' id l hN) (by
          unfold wyN
          cases hN : N' id with
          | none => exact absurd hN hid
          | some l => rfl) (K := idsK s) wyN_up (List.mem_map.2 ⟨a, ha, ea⟩)
        omega
/-- THE REFERENCE'S LEVELS ARE THE SEARCH'S -/
theorem lvs_full {s : List Ag} (hok : stOk s = true) : ∃ Z, Full s Z ∧ lvsI s = (lvZ s Z, lkZ s Z) ∧ ∀ id y, Z id = some y → y.1 ≤ (s.length : Int) := by
  have e0 : lv0 s = lvZ s fun _ => none := rfl
  have e1 : List.replicate s.length lk00 = lkZ s fun _ => none := by
    unfold lkZ lkA2
    simp only
    rw [List.map_const']
  unfold lvsI
  rw [e0, e1]
  cases hl : s.length with
  | zero =>
    have : s = [] := List.eq_nil_of_length_eq_zero hl
    subst this
    exact ⟨fun _ => none, ⟨1, _, _, .one, fun id => rfl⟩, rfl, fun id y hy => by cases hy⟩
  | succ f =>
    obtain ⟨g1, g2, g3⟩ := round_one hok
    rw [lvsF, if_neg fun q => Nat.lt_irrefl _ q.2]
    show ∃ Z, Full s Z ∧ lvsF s f (0 + 1) (putL (lvZ s fun _ => none) (inL s (lvZ s fun _ => none) ((0 : Nat) : Int) (lkZ s fun _ => none) s.length).1 (((0 : Nat) : Int) + 1)) (inL s (lvZ s fun _ => none) ((0 : Nat) : Int) (lkZ s fun _ => none) s.length).2 = _ ∧ ∀ id y, Z id = some y → y.1 ≤ ((f + 1 : Nat) : Int)
    have h0 : ((0 : Nat) : Int) = 0 := rfl
    rw [h0, g1, show (0 : Int) + 1 = 1 from rfl, g2]
    rw [← hl]
    refine lvs_lvl hok f 1 .one (by omega) ?_
    by_cases hn : ∀ id, N0D s id = none
    · exact .inl hn
    · refine .inr ?_
      obtain ⟨id, hid⟩ := Classical.not_forall.1 hn
      have hs : (N0D s id).isSome = true := by
        cases hN : N0D s id with
        | none => exact absurd hN hid
        | some l => rfl
      obtain ⟨a, ha, ea, _⟩ := lvl_slp hok (Lvl.one (f := whoD s) (A0 := atD s) (N0 := N0D s)) id hs
      have := cntY_more (Y := fun _ => none) (Y' := wyN ((1 : Nat) : Int) (fun _ => none) (N0D s)) (x := id) rfl (by
        unfold wyN
        cases hN : N0D s id with
        | none => exact absurd hN hid
        | some l => rfl) (K := idsK s) (fun x h => by cases h) (List.mem_map.2 ⟨a, ha, ea⟩)
      omega
theorem lvA_neg {s : List Ag} {Z : Int → Option Wy} (h : Full s Z) (a : Ag) : (lvA Z a < 0) ↔ ddA Z a = true := by
  obtain ⟨k, A, N, h1, _⟩ := h
  unfold lvA ddA
  cases hw : a.awake with
  | true => simp
  | false =>
    cases hZ : Z a.id with
    | none => simp
    | some y =>
      obtain ⟨_, m, e, _⟩ := (lvl_wk h1).2.1 _ _ hZ
      simp
      omega
theorem full_num {s : List Ag} (hok : stOk s = true) {Z : Int → Option Wy} (h : Full s Z) {id : Int} {y : Wy} (hy : Z id = some y) : ∃ n : Nat, y.1 = n ∧ 1 ≤ n ∧ n ≤ 4096 := by
  obtain ⟨Z', h', _, hb⟩ := lvs_full hok
  obtain rfl := full_det h' h
  obtain ⟨k, A, N, h1, h2⟩ := h
  obtain ⟨_, m, e, q1, q2⟩ := (lvl_wk h1).2.1 id y hy
  have := hb id y hy
  have := st_len hok
  exact ⟨m, e, q1, by omega⟩
end Go.Proofs.Ytjabdhmkibahlaa
namespace Go.Proofs.Ytjabdhmkibahlaa
open Go.RowKit
set_option linter.unusedVariables false
set_option linter.unusedSimpArgs false

/-! ### the reference's Dead -/
/-- who is dead, in a row of one's own -/
def RdOwn (w : World) (s : List Ag) (e : Ending) (w' : World) : Prop := ∃ Z q d, Full s Z ∧ e = .returned (.tuple #[.slice q (ddL Z s).length d, .int .i64 0]) ∧ IntsR w' q d (ddL Z s) ∧ Below w.heap.size w w' ∧ w'.ownsRow w.heap.size 3 1 (.slice q (ddL Z s).length d) (ddL Z s).length (rowC (ddL Z s))
theorem row_more {W2 X : World} {M : Nat} {v : Value} {pre : List Int} (h : X.ownsRow M 3 1 v pre.length (rowC pre)) (hM : M ≤ X.heap.size) (hb : Below M W2 X) (n : Nat) (hn : n = pre.length) (hl : n ≤ 4096) (id : Int) :
    ∃ g c W3, (∀ ty, (Builtin.append_ #[45, 45] ty #[v, .slice (some ⟨X.heap.size, 0, none⟩) 1 1]).run Try.prog (X.alloc (.cells #[.int .i64 id] 3)) = .ok (.slice (some ⟨g, 0, none⟩) (n + 1) c) W3) ∧ W3.ownsRow M 3 1 (.slice (some ⟨g, 0, none⟩) (n + 1) c) (pre ++ [id]).length (rowC (pre ++ [id])) ∧ Below M W2 W3 := by
  subst hn
  obtain ⟨i0, hi0, iz0, iz1, iz2⟩ := info_parts infoI
  obtain ⟨g, c, W3, r, o, gr, _, _⟩ := app1 Try.underlying45 hi0 iz0 iz1 iz2 rfl (by decide) X M v pre.length _ h #[.int .i64 id] rfl (by simp [Value.oneCell']) (by unfold maxLen; omega) (by omega) hM
  have e : rowC (pre ++ [id]) = rowC pre ++ [.int .i64 id] := by simp [rowC]
  refine ⟨g, c, W3, r, ?_, hb.trans ((Below.refl _ _).grown gr hM fun k hk => (owns_block h hk).1)⟩
  rw [e, List.length_append]
  exact o
set_option maxRecDepth 100000 in
theorem rDead_no (w : World) (p : Option Addr) (c : Nat) (s : List Ag) (h : AgsR w p c s) (ht : totA s ≤ 2147483647) (hok : stOk s = false) : Calls Try.prog 26 #[.slice p s.length c] w fun e w' => e = .returned (.tuple #[.slice none 0 0, .int .i64 140]) ∧ Below w.heap.size w w' := by
  have HC : Bx (Calls Try.prog 13 #[.slice p s.length c] w fun e w' => e = .returned (.int .i64 140) ∧ Below w.heap.size w w') := ⟨by
    have := rcheck_any w p c s h
    rw [show chkI s = 140 by simp [chkI, hok]] at this
    exact this⟩
  clear h hok
  go_enter Try.func26, Try.ntmps26
  go_wp2_with (first | (go_at_call 13; refine Calls.mono HC.out ?_; rintro e w1 ⟨rfl, hb1⟩))
  exact bodyPost_ret (v := .tuple #[.slice none 0 0, .int .i64 140]) (by simp [results, Try.results26, go_sem]) rfl ⟨rfl, hb1⟩
set_option maxRecDepth 100000 in
set_option maxHeartbeats 4000000 in
theorem rDead_yes (w : World) (p : Option Addr) (c : Nat) (s : List Ag) (h : AgsR w p c s) (ht : totA s ≤ 2147483647) (hok : stOk s = true) : Calls Try.prog 26 #[.slice p s.length c] w (RdOwn w s) := by
  have hlc := h.len
  have hcm := h.max
  unfold maxLen at hcm
  have hl := st_len hok
  obtain ⟨Z, hZ, hlvs, _⟩ := lvs_full hok
  have HZ : Bx (Full s Z) := ⟨hZ⟩
  have HS : Bx (AgsR w p c s) := ⟨h⟩
  have H6 : Bx (∀ x ∈ ddL Z s, I64 x) := ⟨fun x hx => by
    obtain ⟨a, ha, rfl⟩ := List.mem_map.1 hx
    exact (h.a64 a (List.mem_filter.1 ha).1).id⟩
  have HC : Bx (Calls Try.prog 13 #[.slice p s.length c] w fun e w' => e = .returned (.int .i64 0) ∧ Below w.heap.size w w') := ⟨by
    have := rcheck_any w p c s h
    rw [show chkI s = 0 by simp [chkI, hok]] at this
    exact this⟩
  have HLV : Bx (∀ W, Below w.heap.size w W → Calls Try.prog 51 #[.slice p s.length c] W fun e w' => ∃ v1 v2, e = .returned (.tuple #[v1, v2]) ∧ LvM W w' W.heap.size s.length v1 v2 (lvZ s Z) (lkZ s Z)) := ⟨fun W hW => by
    have := rLevels_any W p c s (h.later hW) hl
    rw [hlvs] at this
    exact this⟩
  clear h hok hlvs hZ
  go_enter Try.func26, Try.ntmps26
  go_wp2_with (first
    | (go_at_call 13; refine Calls.mono HC.out ?_; rintro e w1 ⟨rfl, hb1⟩; have B1 : Bx _ := ⟨hb1⟩; clear hb1 HC)
    | (go_at_call 51; refine Calls.mono (HLV.out w1 B1.out) ?_; rintro e w2 ⟨v1, v2, rfl, hM⟩; obtain ⟨g1, d1, e1⟩ := owns_slice hM.lev; obtain ⟨g2, d2, e2⟩ := owns_slice hM.lnk; have hn4 := hM.n4; have hn5 := hM.n5; rw [hn4] at e1; rw [hn5] at e2; subst e1; subst e2; have B2 : Bx (Below w.heap.size w w2) := ⟨B1.out.trans (hM.bel.mono B1.out.size)⟩; have HM : Bx _ := ⟨hM⟩; clear hM HLV hn4 hn5))
  obtain ⟨M, hMM⟩ : ∃ M, w2.heap.size = M := ⟨_, rfl⟩
  go_loopg [7, 22] (s.length + 1) (fun k v7 v22 wr => ∃ (i : Nat) (vv : Value), k = s.length + 1 - i ∧ i ≤ s.length ∧ v22 = .int .i64 (i : Nat) ∧ vv = v7 ∧ Bx (wr.ownsRow M 3 1 vv (ddL Z (s.take i)).length (rowC (ddL Z (s.take i))) ∧ Below M w2 wr))
  case atStart => exact ⟨0, _, by simp, by omega, rfl, rfl, ⟨⟨rfl, .inl ⟨rfl, rfl⟩⟩, Below.refl _ _⟩⟩
  case round =>
    obtain ⟨i, v7, hk, hil, rfl, rfl, HR⟩ := hrel
    by_cases hlt : i < s.length
    · obtain ⟨b, o, ap, ac, hp, hc, rfl, hA, hcl⟩ := HS.out.at_ i hlt
      have hbr : Below w.heap.size w wr := B2.out.trans (HR.out.2.mono (by rw [← hMM]; exact B2.out.size))
      obtain ⟨c0, c1, c2, c3⟩ := hcl wr hbr
      have HT : Bx (ddL Z (s.take (i + 1)) = if ddA Z s[i] then ddL Z (s.take i) ++ [s[i].id] else ddL Z (s.take i)) := ⟨by rw [List.take_succ_eq_append_getElem hlt, ddL_snoc]⟩
      have hln : (ddL Z (s.take i)).length ≤ 4096 := by
        have := ddL_len Z (s.take i)
        rw [List.length_take] at this
        omega
      have hng := lvA_neg HZ.out s[i]
      obtain ⟨X, hX⟩ : ∃ X, wr.alloc (.cells #[.int .i64 s[i].id, .bool s[i].awake, .slice ap s[i].arms.length ac, .slice hp s[i].held.length hc] 53) = X := ⟨_, rfl⟩
      have hbX : Below wr.heap.size wr X := by rw [← hX]; exact below1 _ _
      have hMr : M ≤ wr.heap.size := by rw [← hMM]; exact HR.out.2.size
      have hXs : X.heap.size = wr.heap.size + 1 := by rw [← hX]; simp
      have hkX : X.heap[wr.heap.size]? = some (.cells #[.int .i64 s[i].id, .bool s[i].awake, .slice ap s[i].arms.length ac, .slice hp s[i].held.length hc] 53 (0, 0)) := by rw [← hX]; exact World.alloc_heap_new _ _
      have d0 : X.cell? ⟨wr.heap.size, 0, none⟩ = some (.int .i64 s[i].id) := cell_of hkX rfl
      have hbM : Below M w2 X := HR.out.2.trans (hbX.mono hMr)
      have hMX := HM.out.later rfl (show Below w2.heap.size w2 X by rw [hMM]; exact hbM)
      have hlev := hMX.lev
      rw [hMX.n4] at hlev
      have hg1 : ∃ g4, g1 = some ⟨g4, 0, none⟩ := by
        rcases hlev.2 with ⟨_, q⟩ | ⟨g, cap, cur, q, _⟩
        · omega
        · simp only [Value.slice.injEq] at q; exact ⟨g, q.1⟩
      obtain ⟨g4, hg4⟩ := hg1
      rw [hg4] at hlev
      have cl : X.cell? ⟨g4, i, none⟩ = some (.int .i64 (lvA Z s[i])) := owns_cellj hlev (by unfold rowC; rw [List.getElem?_map, lvZ_at hlt]; rfl)
      have HO : Bx (X.ownsRow M 3 1 v7 (ddL Z (s.take i)).length (rowC (ddL Z (s.take i))) ∧ Below M w2 X) := ⟨own_new HR.out.1 hbX, hbM⟩
      obtain ⟨n, hn⟩ : ∃ n, n = (ddL Z (s.take i)).length := ⟨_, rfl⟩
      have HRM : Bx (∃ g c W3, _) := ⟨row_more HO.out.1 (by omega) hbM n hn (by omega) s[i].id⟩
      obtain ⟨ao, co, hvo⟩ := owns_slice HO.out.1
      have hco : n ≤ co := by
        rcases HO.out.1.2 with ⟨q, q2⟩ | ⟨g, cap, cur, q, _, _, q3, _⟩
        · omega
        · rw [hvo] at q; simp only [Value.slice.injEq] at q; omega
      rw [← hn] at hvo
      have HVO : Bx (v7 = .slice ao n co) := ⟨hvo⟩
      clear hvo
      have hiI : (i : Int) < (s.length : Int) := by omega
      have hi0 : (0 : Int) ≤ (i : Int) := by omega
      clear hcl hA hbX hkX hbM hMX hlev hMr hXs hln HR hbr hMM
      subst hg4
      generalize s[i] = a at *
      generalize ddL Z (s.take i) = pre at *
      obtain ⟨id, aw, arms, held⟩ := a
      simp only at *
      generalize lvA Z ⟨id, aw, arms, held⟩ = z at *
      cases hdd : ddA Z ⟨id, aw, arms, held⟩ with
      | true =>
        have hz : z < 0 := hng.2 hdd
        have HT2 : Bx (ddL Z (s.take (i + 1)) = pre ++ [id]) := ⟨by rw [HT.out, if_pos hdd]⟩
        obtain ⟨gg, cc, W3, r3, o3, b3⟩ := HRM.out
        have HN : Bx _ := ⟨And.intro o3 b3⟩
        clear hng HT o3 b3 HRM hdd HO hn
        go_wp2_with (first
          | (at_builtin; refine wpList_appI rfl (.tmp 32) (.tmp 35) 45 rfl rfl rfl r3 ?_))
        go_roundg (s.length + 1 - (i + 1))
        case measure => omega
        case rel => exact ⟨i + 1, _, rfl, by omega, by simp, rfl, ⟨by rw [HT2.out]; exact HN.out.1, HN.out.2⟩⟩
      | false =>
        have hz : ¬ z < 0 := fun q => by rw [hng.1 q] at hdd; cases hdd
        have HT2 : Bx (ddL Z (s.take (i + 1)) = pre) := ⟨by rw [HT.out, if_neg (by rw [hdd]; simp)]⟩
        clear hng HT HRM hdd hn
        go_wp2
        go_roundg (s.length + 1 - (i + 1))
        case measure => omega
        case rel => exact ⟨i + 1, _, rfl, by omega, by simp, rfl, ⟨by rw [HT2.out]; exact HO.out.1, HO.out.2⟩⟩
    · have hie : i = s.length := by omega
      subst hie
      rw [List.take_length] at HR
      have HV : Bx (∃ q d, v7 = .slice q (ddL Z s).length d ∧ IntsR wr q d (ddL Z s)) := ⟨ids_read HR.out.1 H6.out⟩
      obtain ⟨q, d, hu, hq⟩ := HV.out
      subst hu
      have HQ : Bx _ := ⟨hq⟩
      have HB : Bx (Below w.heap.size w wr) := ⟨B2.out.trans (HR.out.2.mono (by rw [← hMM]; exact B2.out.size))⟩
      have HOW : Bx (wr.ownsRow w.heap.size 3 1 (.slice q (ddL Z s).length d) (ddL Z s).length (rowC (ddL Z s))) := ⟨own_low HR.out.1 (by rw [← hMM]; exact B2.out.size)⟩
      clear hq HV HR
      go_wp2
      exact bodyPost_ret (v := .tuple #[.slice q (ddL Z s).length d, .int .i64 0]) (by simp [results, Try.results26, go_sem]) rfl ⟨Z, q, d, HZ.out, rfl, HQ.out, HB.out, HOW.out⟩
end Go.Proofs.Ytjabdhmkibahlaa
