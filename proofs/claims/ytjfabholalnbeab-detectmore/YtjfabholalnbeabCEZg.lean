import Derived.Test.YtjfabholalnbeabCEXa
import Derived.Laws.OwnMore
namespace Go.Proofs.Ytjfabholalnbeab
open Go.RowKit
set_option linter.unusedVariables false
set_option linter.unusedSimpArgs false

/-! ### levels are what they are -/
theorem ids_one : ∀ {l m : List Int}, l.Pairwise (· < ·) → m.Pairwise (· < ·) → (∀ k, k ∈ l ↔ k ∈ m) → l = m
  | [], [], _, _, _ => rfl
  | [], y :: m, _, _, h => by have := (h y).2 List.mem_cons_self; cases this
  | x :: l, [], _, _, h => by have := (h x).1 List.mem_cons_self; cases this
  | x :: l, y :: m, hl, hm, h => by
    rw [List.pairwise_cons] at hl hm
    have e : x = y := by
      rcases List.mem_cons.1 ((h x).1 List.mem_cons_self) with e | e
      · exact e
      · rcases List.mem_cons.1 ((h y).2 List.mem_cons_self) with e' | e'
        · exact e'.symm
        · have h1 := hm.1 x e
          have h2 := hl.1 y e'
          omega
    subst e
    rw [ids_one hl.2 hm.2 (fun k => ?_)]
    constructor
    · intro hk
      rcases List.mem_cons.1 ((h k).1 (List.mem_cons_of_mem _ hk)) with e | e
      · have := hl.1 k hk; omega
      · exact e
    · intro hk
      rcases List.mem_cons.1 ((h k).2 (List.mem_cons_of_mem _ hk)) with e | e
      · have := hm.1 k hk; omega
      · exact e
theorem lvl_pos {f : Int → Ag} {A0 : Int → List Int} {N0 : Int → Option Lk} {k : Nat} {A : Int → List Int} {Y : Int → Option Wy} {N : Int → Option Lk} (h : Lvl f A0 N0 k A Y N) : 1 ≤ k := by
  induction h with
  | one => exact Nat.le_refl _
  | step _ _ _ ih => omega
theorem lvl_new {f : Int → Ag} {A0 : Int → List Int} {N0 : Int → Option Lk} {k : Nat} {A : Int → List Int} {Y : Int → Option Wy} {N : Int → Option Lk} (h : Lvl f A0 N0 k A Y N) : ∀ i l, N i = some l → Y i = none := by
  cases h with
  | one => exact fun _ _ _ => rfl
  | step h1 hi hp =>
    intro i l hl
    obtain ⟨_, h2, _⟩ := hp.no i (by rw [hl]; simp)
    exact Option.not_isSome_iff_eq_none.1 (by rw [h2]; simp)
theorem opo_one {A : Int → List Int} {hy : Int → Bool} {L : Int → Lk} {d : Int → Bool} {O O' : Int → Option Lk} (h : OpO A hy L d O) (h' : OpO A hy L d O') : O = O' := by
  funext id
  cases ho : O id with
  | some l =>
    obtain ⟨e, h1, c, h2, h3⟩ := h.no id (by rw [ho]; simp)
    rw [← ho, e]
    exact (h'.yes c id h2 h3 h1).symm
  | none =>
    cases ho' : O' id with
    | none => rfl
    | some l =>
      obtain ⟨e, h1, c, h2, h3⟩ := h'.no id (by rw [ho']; simp)
      have := h.yes c id h2 h3 h1
      rw [ho] at this; cases this
theorem lvl_one {f : Int → Ag} {A0 : Int → List Int} {N0 : Int → Option Lk} {k : Nat} {A : Int → List Int} {Y : Int → Option Wy} {N : Int → Option Lk} (h : Lvl f A0 N0 k A Y N) (e : k = 1) : A = A0 ∧ Y = (fun _ => none) ∧ N = N0 := by
  cases h with
  | one => exact ⟨rfl, rfl, rfl⟩
  | step h1 _ _ => have := lvl_pos h1; omega
theorem lvl_step {f : Int → Ag} {A0 : Int → List Int} {N0 : Int → Option Lk} {k m : Nat} {A : Int → List Int} {Y : Int → Option Wy} {N : Int → Option Lk} (h : Lvl f A0 N0 k A Y N) (e : k = m + 1) (hm : 1 ≤ m) : ∃ A1 Y1 N1 ids, Lvl f A0 N0 m A1 Y1 N1 ∧ IdsOf N1 ids ∧ OpO A1 (fun i => (wyN m Y1 N1 i).isSome) (opL f (hoD f A1 ids)) (fun c => (hoD f A1 ids c).isSome) N ∧ A = cutA (hoD f A1 ids) A1 ∧ Y = wyN m Y1 N1 := by
  cases h with
  | one => omega
  | @step k A1 Y1 N1 N' ids h1 hi hp =>
    obtain rfl : k = m := by omega
    exact ⟨A1, Y1, N1, ids, h1, hi, hp, rfl, rfl⟩
theorem lvl_det {f : Int → Ag} {A0 : Int → List Int} {N0 : Int → Option Lk} {k : Nat} {A : Int → List Int} {Y : Int → Option Wy} {N : Int → Option Lk} (h : Lvl f A0 N0 k A Y N) : ∀ {A' : Int → List Int} {Y' : Int → Option Wy} {N' : Int → Option Lk}, Lvl f A0 N0 k A' Y' N' → A' = A ∧ Y' = Y ∧ N' = N := by
  induction h with
  | one => intro A' Y' N' h'; exact lvl_one h' rfl
  | @step k A Y N N2 ids h1 hi hp ih =>
    intro A' Y' N' h'
    obtain ⟨A1, Y1, N1, ids', g1, g2, g3, rfl, rfl⟩ := lvl_step h' rfl (lvl_pos h1)
    obtain ⟨rfl, rfl, rfl⟩ := ih g1
    have e : ids' = ids := ids_one g2.1 hi.1 (fun k => (g2.2 k).trans (hi.2 k).symm)
    subst e
    exact ⟨rfl, rfl, opo_one g3 hp⟩
theorem lvl_mono {f : Int → Ag} {A0 : Int → List Int} {N0 : Int → Option Lk} {k : Nat} {A : Int → List Int} {Y : Int → Option Wy} {N : Int → Option Lk} (h : Lvl f A0 N0 k A Y N) {k' : Nat} {A' : Int → List Int} {Y' : Int → Option Wy} {N' : Int → Option Lk} (h' : Lvl f A0 N0 k' A' Y' N') : k ≤ k' → (∀ i y, Y i = some y → Y' i = some y) ∧ (k < k' → ∀ i l, N i = some l → Y' i = some ((k : Int), l)) := by
  induction h' with
  | one =>
    intro hk
    obtain rfl : k = 1 := by have := lvl_pos h; omega
    obtain ⟨_, rfl, _⟩ := lvl_one h rfl
    exact ⟨fun i y e => e, fun h => by omega⟩
  | @step m A1 Y1 N1 N2 ids h1 hi hp ih =>
    intro hk
    have up : ∀ i y, Y1 i = some y → wyN (m : Int) Y1 N1 i = some y := fun i y hy => by
      unfold wyN
      cases hn : N1 i with
      | none => exact hy
      | some l => have := lvl_new h1 i l hn; rw [hy] at this; cases this
    rcases Nat.lt_or_ge m k with hmk | hmk
    · obtain rfl : k = m + 1 := by omega
      obtain ⟨_, e, _⟩ := lvl_det h (.step h1 hi hp)
      rw [e]
      exact ⟨fun i y e => e, fun h => by omega⟩
    · obtain ⟨i1, i2⟩ := ih hmk
      refine ⟨fun i y e => up i y (i1 i y e), fun _ i l hl => ?_⟩
      rcases Nat.lt_or_ge k m with hlt | hge
      · exact up i _ (i2 hlt i l hl)
      · obtain rfl : k = m := by omega
        obtain ⟨_, _, e⟩ := lvl_det h h1
        unfold wyN
        rw [e, hl]
theorem lvl_stop {f : Int → Ag} {A0 : Int → List Int} {N0 : Int → Option Lk} {k : Nat} {A : Int → List Int} {Y : Int → Option Wy} {N : Int → Option Lk} (h : Lvl f A0 N0 k A Y N) (hn : ∀ i, N i = none) {k' : Nat} {A' : Int → List Int} {Y' : Int → Option Wy} {N' : Int → Option Lk} (h' : Lvl f A0 N0 k' A' Y' N') : k ≤ k' → Y' = Y ∧ ∀ i, N' i = none := by
  induction h' with
  | one =>
    intro hk
    obtain rfl : k = 1 := by have := lvl_pos h; omega
    obtain ⟨_, rfl, rfl⟩ := lvl_one h rfl
    exact ⟨rfl, hn⟩
  | @step m A1 Y1 N1 N2 ids h1 hi hp ih =>
    intro hk
    rcases Nat.lt_or_ge m k with hmk | hmk
    · obtain rfl : k = m + 1 := by omega
      obtain ⟨_, e, e2⟩ := lvl_det h (.step h1 hi hp)
      rw [e, e2]
      exact ⟨rfl, hn⟩
    · obtain ⟨rfl, i2⟩ := ih hmk
      have e := ids_none hi i2
      subst e
      refine ⟨?_, fun i => ?_⟩
      · funext i; unfold wyN; rw [i2 i]
      · cases hx : N2 i with
        | none => rfl
        | some l =>
          obtain ⟨_, _, c, hc, _⟩ := hp.no i (by rw [hx]; simp)
          cases hc
theorem full_det {s : List Ag} {Y Z : Int → Option Wy} (hY : Full s Y) (hZ : Full s Z) : Y = Z := by
  obtain ⟨k, A, N, h1, h2⟩ := hY
  obtain ⟨k', A', N', h1', h2'⟩ := hZ
  rcases Nat.le_total k k' with h | h
  · exact (lvl_stop h1 h2 h1' h).1.symm
  · exact (lvl_stop h1' h2' h1 h).1
/-- what find answers is a part of the whole -/
theorem fdr_full {s : List Ag} {id : Int} {Y Z : Int → Option Wy} (h : FdR s id Y) (hZ : Full s Z) : (∀ i y, Y i = some y → Z i = some y) ∧ Y id = Z id := by
  obtain ⟨k, A, Y0, N, h1, _, h2, h3⟩ := h
  rcases h3 with ⟨h3, rfl⟩ | ⟨⟨l, h3, h4⟩, h5⟩
  · rw [full_det ⟨k, A, N, h1, h3⟩ hZ]
    exact ⟨fun i y e => e, rfl⟩
  · obtain ⟨k', A', N', g1, g2⟩ := hZ
    have hlt : k < k' := by
      rcases Nat.lt_or_ge k k' with h | h
      · exact h
      · have := (lvl_stop g1 g2 h1 h).2 id
        rw [h3] at this; cases this
    obtain ⟨m1, m2⟩ := lvl_mono h1 g1 (Nat.le_of_lt hlt)
    have key : ∀ i y, Y i = some y → Z i = some y := fun i y hy => by
      rcases h5 i with e | ⟨l', e1, e2⟩
      · rw [e] at hy; exact m1 i y hy
      · rw [hy] at e2; cases e2; exact m2 hlt i l' e1
    exact ⟨key, by rw [h4]; exact (key id _ h4).symm⟩
theorem chain_same {s : List Ag} {Y Z : Int → Option Wy} (hw : Ways s Y) (hYZ : ∀ i y, Y i = some y → Z i = some y) {id : Int} {n : Nat} {l : Lk} (h : Y id = some ((n : Int), l)) (hn : 1 ≤ n) : chL Y n ((n : Int), l) = chL Z n ((n : Int), l) := by
  have hy := yat_ways hw h hn
  have key : ∀ i, i < n → yAt Y i ((n : Int), l) = yAt Z i ((n : Int), l) := by
    intro i
    induction i with
    | zero => intro _; rfl
    | succ i ih =>
      intro hi
      have e := ih (by omega)
      obtain ⟨e1, e2⟩ := hy i (by omega)
      obtain ⟨k, hk, e3, h1, h2⟩ := hw.one _ _ e2
      have hkn : k = n - i := by omega
      rcases h2 with ⟨h2, _⟩ | ⟨j, hj, hkj, l', h3, _⟩
      · omega
      · show wy0 (Y (yAt Y i ((n : Int), l)).2.waker) = wy0 (Z (yAt Z i ((n : Int), l)).2.waker)
        rw [← e, h3, hYZ _ _ h3]
  unfold chL
  refine List.map_congr_left fun p hp => ?_
  rw [key (n - 1 - p) (by have := List.mem_range.1 hp; omega)]
end Go.Proofs.Ytjfabholalnbeab
namespace Go.Proofs.Ytjfabholalnbeab
open Go.RowKit
set_option linter.unusedVariables false
set_option linter.unusedSimpArgs false

/-! ### the dead taken out -/
def gone (D : List Int) (a : Ag) : Bool := !hasL D a.id
theorem ags_low : ∀ (s : List Ag) (k k' : Int), k ≤ k' → agsF k' s = true → agsF k s = true
  | [], k, k', _, h => h
  | a :: r, k, k', hk, h => by
    rw [agsF, Bool.and_eq_true, Bool.and_eq_true] at h ⊢
    exact ⟨⟨by have := h.1.1; simp at this ⊢; omega, h.1.2⟩, h.2⟩
theorem ags_filter (P : Ag → Bool) : ∀ (s : List Ag) (k : Int), agsF k s = true → agsF k (s.filter P) = true
  | [], k, h => h
  | a :: r, k, h => by
    have h0 := h
    rw [agsF, Bool.and_eq_true, Bool.and_eq_true] at h
    have ih := ags_filter P r a.id h.2
    rw [List.filter_cons]
    split
    · rw [agsF, Bool.and_eq_true, Bool.and_eq_true]
      exact ⟨h.1, ih⟩
    · exact ags_low _ _ _ (by have := h.1.1; simp at this; omega) ih
theorem rest_ok {s : List Ag} (P : Ag → Bool) (h : stOk s = true) : stOk (s.filter P) = true := by
  unfold stOk at h ⊢
  rw [Bool.and_eq_true] at h ⊢
  refine ⟨?_, ags_filter P s _ h.2⟩
  have h1 := h.1
  have := List.length_filter_le P s
  simp at h1 ⊢
  omega
theorem rest_tot (P : Ag → Bool) (s : List Ag) : totA (s.filter P) ≤ totA s := by
  induction s with
  | nil => simp
  | cons a r ih =>
    rw [List.filter_cons]
    split
    · rw [totA, totA]; omega
    · rw [totA]; omega
def eqH (x h : Hd) : Bool := x.chan == h.chan && x.send == h.send
theorem eqH_iff {x h : Hd} : eqH x h = true ↔ x = h := by
  obtain ⟨a, b⟩ := x
  obtain ⟨c, d⟩ := h
  simp [eqH]
theorem ha_form {s : List Ag} (hok : stOk s = true) (h : Hd) (h0 : h.chan ≠ 0) : haD s h = (s.filter fun a => a.arms.any fun x => eqH x h).map (·.id) := by
  have arms : ∀ (l : List Hd) (B : Hd → List Int) (id : Int), id ∉ B h → haArms B id l h = B h ++ (if l.any (fun x => eqH x h) then [id] else []) := by
    have two : ∀ (l : List Hd) (B : Hd → List Int) (id : Int), (B h).getLast? = some id → haArms B id l h = B h := by
      intro l
      induction l with
      | nil => intro B id _; rfl
      | cons y r ih =>
        intro B id hl
        have e : haStep id B y h = B h := by
          unfold haStep
          split
          · rename_i hc
            by_cases e : h = y
            · subst e; exact absurd hl hc.2
            · exact updH_other _ _ e
          · rfl
        show haArms (haStep id B y) id r h = B h
        rw [ih _ _ (by rw [e]; exact hl), e]
    intro l
    induction l with
    | nil => intro B id _; simp [haArms]
    | cons y r ih =>
      intro B id hid
      show haArms (haStep id B y) id r h = _
      by_cases e : h = y
      · subst e
        have e1 : haStep id B h h = B h ++ [id] := by
          unfold haStep
          rw [if_pos ⟨h0, fun hl => hid (List.mem_of_getLast? hl)⟩, updH_same]
        rw [two r _ id (by rw [e1]; simp), e1, List.any_cons, eqH_iff.2 rfl]
        simp
      · have e1 : haStep id B y h = B h := by
          unfold haStep
          split
          · exact updH_other _ _ e
          · rfl
        rw [ih _ _ (by rw [e1]; exact hid), e1]
        have e2 : eqH y h = false := by
          cases hx : eqH y h with
          | false => rfl
          | true => exact absurd (eqH_iff.1 hx).symm e
        rw [List.any_cons, e2, Bool.false_or]
  have key : ∀ (r : List Ag) (B : Hd → List Int), (r.map (·.id)).Pairwise (· < ·) → (∀ a ∈ r, a.id ∉ B h) → haF B r h = B h ++ (r.filter fun a => a.arms.any fun x => eqH x h).map (·.id) := by
    intro r
    induction r with
    | nil => intro B _ _; simp [haF]
    | cons a r ih =>
      intro B hp hB
      rw [List.map_cons, List.pairwise_cons] at hp
      have ea := arms a.arms B a.id (hB a List.mem_cons_self)
      show haF (haArms B a.id a.arms) r h = _
      rw [ih _ hp.2 (fun b hb => ?_), ea, List.filter_cons]
      · split <;> simp [*]
      · rw [ea, List.mem_append]
        rintro (g | g)
        · exact hB b (List.mem_cons_of_mem _ hb) g
        · split at g
          · have := hp.1 b.id (List.mem_map.2 ⟨b, hb, rfl⟩)
            rw [List.mem_singleton.1 g] at this
            omega
          · cases g
  unfold haD
  rw [key s _ (st_lt hok) (fun a _ h => by cases h)]
  simp
theorem ho_congr {f g : Int → Ag} {A B : Int → List Int} : ∀ {ids : List Int}, (∀ j ∈ ids, (f j).held = (g j).held) → (∀ j ∈ ids, ∀ c ∈ (f j).held, (A c).isEmpty = (B c).isEmpty) → hoD f A ids = hoD g B ids := by
  have held : ∀ (l : List Int) (id : Int) (H : Int → Option Int), (∀ c ∈ l, (A c).isEmpty = (B c).isEmpty) → hoHeld A id H l = hoHeld B id H l := by
    intro l
    induction l with
    | nil => intro id H _; rfl
    | cons c r ih =>
      intro id H h
      show hoHeld A id (hoStep A id H c) r = hoHeld B id (hoStep B id H c) r
      have e : hoStep A id H c = hoStep B id H c := by unfold hoStep; rw [h c List.mem_cons_self]
      rw [e]
      exact ih _ _ (fun c hc => h c (List.mem_cons_of_mem _ hc))
  intro ids h1 h2
  unfold hoD
  have key : ∀ (ids : List Int) (H : Int → Option Int), (∀ j ∈ ids, (f j).held = (g j).held) → (∀ j ∈ ids, ∀ c ∈ (f j).held, (A c).isEmpty = (B c).isEmpty) → hoF f A H ids = hoF g B H ids := by
    intro ids
    induction ids with
    | nil => intro H _ _; rfl
    | cons j r ih =>
      intro H h1 h2
      show hoF f A (hoHeld A j H (f j).held) r = hoF g B (hoHeld B j H (g j).held) r
      rw [held _ _ _ (h2 j List.mem_cons_self), h1 j List.mem_cons_self]
      exact ih _ (fun j hj => h1 j (List.mem_cons_of_mem _ hj)) (fun j hj => h2 j (List.mem_cons_of_mem _ hj))
  exact key ids _ h1 h2
theorem lk_congr {a : Ag} {wk wk' : Hd → Option Int} (h : ∀ x ∈ a.arms, wk x = wk' x) : lkD a wk = lkD a wk' := by
  unfold lkD
  have key : ∀ l : List Hd, (∀ x ∈ l, wk x = wk' x) → l.findSome? (fun h => (wk h).map fun i => (⟨i, a.id, h.chan⟩ : Lk)) = l.findSome? (fun h => (wk' h).map fun i => (⟨i, a.id, h.chan⟩ : Lk)) := by
    intro l
    induction l with
    | nil => intro _; rfl
    | cons x r ih =>
      intro h
      rw [List.findSome?_cons, List.findSome?_cons, h x List.mem_cons_self, ih (fun y hy => h y (List.mem_cons_of_mem _ hy))]
  exact key _ h
section
variable {s : List Ag} {Z : Int → Option Wy}
theorem rest_mem {a : Ag} : a ∈ s.filter (gone (ddL Z s)) ↔ a ∈ s ∧ a.id ∉ ddL Z s := by
  rw [List.mem_filter]
  unfold gone
  constructor
  · rintro ⟨h1, h2⟩
    exact ⟨h1, fun h => by rw [hasL_iff.2 h] at h2; cases h2⟩
  · rintro ⟨h1, h2⟩
    refine ⟨h1, ?_⟩
    cases hx : hasL (ddL Z s) a.id with
    | false => rfl
    | true => exact absurd (hasL_iff.1 hx) h2
theorem can_rest (hZ : Full s Z) {id : Int} (h : Can s id) : id ∉ ddL Z s := fun hd => by
  obtain ⟨_, _, _, _, hn⟩ := (dd_mem hZ id).1 hd
  exact hn h
theorem aw_rest (hok : stOk s = true) (hZ : Full s Z) {a : Ag} (ha : a ∈ s) (hw : a.awake = true) : a.id ∉ ddL Z s := fun hd => by
  obtain ⟨b, hb, e, h2, _⟩ := (dd_mem hZ a.id).1 hd
  have e2 := whoD_at hok b hb
  rw [e, whoD_at hok a ha] at e2
  rw [← e2, hw] at h2; cases h2
theorem who_rest (hok : stOk s = true) {a : Ag} (ha : a ∈ s) (hn : a.id ∉ ddL Z s) : whoD (s.filter (gone (ddL Z s))) a.id = a ∧ whoD s a.id = a :=
  ⟨whoD_at (rest_ok _ hok) a (rest_mem.2 ⟨ha, hn⟩), whoD_at hok a ha⟩
theorem at_rest {c id : Int} (hok : stOk s = true) : id ∈ atD (s.filter (gone (ddL Z s))) c ↔ id ∈ atD s c ∧ id ∉ ddL Z s := by
  rw [atD_mem, atD_mem]
  constructor
  · rintro ⟨a, ha, rfl, h⟩
    obtain ⟨h1, h2⟩ := rest_mem.1 ha
    exact ⟨⟨a, h1, rfl, h⟩, h2⟩
  · rintro ⟨⟨a, ha, rfl, h⟩, h2⟩
    exact ⟨a, rest_mem.2 ⟨ha, h2⟩, rfl, h⟩
theorem empty_same {A B : List Int} (h : A = [] ↔ B = []) : A.isEmpty = B.isEmpty := by
  cases A with
  | nil => rw [h.1 rfl]
  | cons a r =>
    cases B with
    | nil => cases h.2 rfl
    | cons b t => rfl
theorem aw_same (hok : stOk s = true) (hZ : Full s Z) : awD (s.filter (gone (ddL Z s))) = awD s := by
  unfold awD
  rw [List.filter_filter]
  congr 1
  refine List.filter_congr fun a ha => ?_
  cases hw : a.awake with
  | false => simp
  | true =>
    have := aw_rest hok hZ ha hw
    have : gone (ddL Z s) a = true := (List.mem_filter.1 (rest_mem.2 ⟨ha, this⟩)).2
    simp [this]
theorem n0_rest (hok : stOk s = true) (hZ : Full s Z) : N0D (s.filter (gone (ddL Z s))) = N0D s := by
  have hokr := rest_ok (gone (ddL Z s)) hok
  have hH : hoD (whoD (s.filter (gone (ddL Z s)))) (atD (s.filter (gone (ddL Z s)))) (awD (s.filter (gone (ddL Z s)))) = hoD (whoD s) (atD s) (awD s) := by
    rw [aw_same hok hZ]
    symm
    refine ho_congr (fun j hj => ?_) (fun j hj c hc => ?_)
    · obtain ⟨b, hb, hw, rfl⟩ := (aw_iff _ _).1 hj
      obtain ⟨e1, e2⟩ := who_rest (Z := Z) hok hb (aw_rest hok hZ hb hw)
      rw [e1, e2]
    · refine empty_same ⟨fun h => ?_, fun h => ?_⟩
      · cases hx : atD (s.filter (gone (ddL Z s))) c with
        | nil => rfl
        | cons x r =>
          have := ((at_rest (Z := Z) hok).1 (by rw [hx]; exact List.mem_cons_self : x ∈ atD (s.filter (gone (ddL Z s))) c)).1
          rw [h] at this; cases this
      · cases hx : atD s c with
        | nil => rfl
        | cons x r =>
          have hxm : x ∈ atD s c := by rw [hx]; exact List.mem_cons_self
          obtain ⟨a, ha, rfl, y, hy, hyc⟩ := (atD_mem _ _ _).1 hxm
          have hcan : Can s a.id := .first ((n0_some _ _).2 ⟨a, ha, rfl, y, hy, .inr (.inl ⟨j, hj, by rw [hyc]; exact hc⟩)⟩)
          have := (at_rest (Z := Z) hok).2 ⟨hxm, can_rest hZ hcan⟩
          rw [h] at this; cases this
  funext id
  by_cases hm : id ∈ idsK (s.filter (gone (ddL Z s)))
  · obtain ⟨a, har, rfl⟩ := List.mem_map.1 hm
    obtain ⟨ha, hn⟩ := rest_mem.1 har
    show ouD _ _ _ a.id = ouD _ _ _ a.id
    rw [ou_at hokr _ _ har, ou_at hok _ _ ha, hH]
    refine lk_congr fun x hx => ?_
    unfold wk1
    split
    · rfl
    · cases hh : hoD (whoD s) (atD s) (awD s) x.chan with
      | some i => rfl
      | none =>
        simp only
        by_cases h0 : x.chan = 0
        · have e0 : ∀ t : List Ag, haD t ⟨x.chan, !x.send⟩ = [] := fun t => by
            cases hx2 : haD t ⟨x.chan, !x.send⟩ with
            | nil => rfl
            | cons y r =>
              have := ((ha_iff t ⟨x.chan, !x.send⟩ y).1 (by rw [hx2]; exact List.mem_cons_self)).1
              exact absurd h0 this
          rw [e0, e0]
        · rw [ha_form hokr ⟨x.chan, !x.send⟩ h0, ha_form hok ⟨x.chan, !x.send⟩ h0, List.filter_filter]
          congr 2
          refine List.filter_congr fun b hb => ?_
          cases hany : b.arms.any (fun y => eqH y (⟨x.chan, !x.send⟩ : Hd)) with
          | false => rfl
          | true =>
            have hbm : (⟨x.chan, !x.send⟩ : Hd) ∈ b.arms := by
              obtain ⟨y, hy, e⟩ := List.any_eq_true.1 hany
              have e' : y = (⟨x.chan, !x.send⟩ : Hd) := eqH_iff.1 e
              rw [← e']; exact hy
            have hbn : b.id ∉ ddL Z s := by
              by_cases e : b.id = a.id
              · rw [e]; exact hn
              · exact can_rest hZ (.first ((n0_some _ _).2 ⟨b, hb, rfl, _, hbm, .inr (.inr ⟨h0, a, ha, fun e' => e e'.symm, by simpa using hx⟩)⟩))
            have : gone (ddL Z s) b = true := (List.mem_filter.1 (rest_mem.2 ⟨hb, hbn⟩)).2
            rw [this]; rfl
  · have h1 : N0D (s.filter (gone (ddL Z s))) id = none := by
      cases hx : N0D (s.filter (gone (ddL Z s))) id with
      | none => rfl
      | some l => exact absurd (ou_mem _ _ _ id (by show N0D _ id ≠ none; rw [hx]; simp)) hm
    rw [h1]
    cases hx : N0D s id with
    | none => rfl
    | some l =>
      have hmem : id ∈ idsK s := ou_mem _ _ _ id (by show N0D s id ≠ none; rw [hx]; simp)
      obtain ⟨a, ha, rfl⟩ := List.mem_map.1 hmem
      have hcan : Can s a.id := .first (by rw [hx]; rfl)
      exact absurd (List.mem_map.2 ⟨a, rest_mem.2 ⟨ha, can_rest hZ hcan⟩, rfl⟩) hm
/-- THE LEVELS ARE THE SAME WITHOUT THE DEAD -/
theorem lvl_rest (hok : stOk s = true) (hZ : Full s Z) {k : Nat} {A : Int → List Int} {Y : Int → Option Wy} {N : Int → Option Lk} (h : Lvl (whoD s) (atD s) (N0D s) k A Y N) : ∃ A', Lvl (whoD (s.filter (gone (ddL Z s)))) (atD (s.filter (gone (ddL Z s)))) (N0D (s.filter (gone (ddL Z s)))) k A' Y N ∧ ∀ c id, id ∈ A' c ↔ id ∈ A c ∧ id ∉ ddL Z s := by
  have hN := n0_rest hok hZ
  induction h with
  | one =>
    refine ⟨atD (s.filter (gone (ddL Z s))), ?_, fun c id => at_rest hok⟩
    have := Lvl.one (f := whoD (s.filter (gone (ddL Z s)))) (A0 := atD (s.filter (gone (ddL Z s)))) (N0 := N0D (s.filter (gone (ddL Z s))))
    rw [hN] at this ⊢
    exact this
  | @step k A Y N N' ids h1 hi hp ih =>
    obtain ⟨A', g1, g2⟩ := ih
    have hmem : ∀ c id, id ∈ A c → ∃ a ∈ s, a.id = id ∧ ∃ x ∈ a.arms, x.chan = c := fun c id hid => (atD_mem s c id).1 (lvl_sub h1 c id hid)
    have hjc : ∀ j ∈ ids, Can s j := fun j hj => (lvl_can h1).1 j ((hi.2 j).1 hj)
    have hwho : ∀ j ∈ ids, (whoD s j).held = (whoD (s.filter (gone (ddL Z s))) j).held := fun j hj => by
      have hmj : j ∈ idsK s := (lvl_mem h1).2 j (by have := (hi.2 j).1 hj; intro e; rw [e] at this; cases this)
      obtain ⟨a, ha, rfl⟩ := List.mem_map.1 hmj
      obtain ⟨e1, e2⟩ := who_rest (Z := Z) hok ha (can_rest hZ (hjc _ hj))
      rw [e1, e2]
    have hH : hoD (whoD s) A ids = hoD (whoD (s.filter (gone (ddL Z s)))) A' ids := by
      refine ho_congr hwho (fun j hj c hc => ?_)
      refine empty_same ⟨fun h => ?_, fun h => ?_⟩
      · cases hx : A' c with
        | nil => rfl
        | cons x r =>
          have := ((g2 c x).1 (by rw [hx]; exact List.mem_cons_self)).1
          rw [h] at this; cases this
      · cases hx : A c with
        | nil => rfl
        | cons x r =>
          have hxm : x ∈ A c := by rw [hx]; exact List.mem_cons_self
          obtain ⟨a, ha, rfl, y, hy, hyc⟩ := hmem c x hxm
          have hcan : Can s a.id := .more (hjc j hj) ha hy (by rw [hyc]; exact hc)
          have := (g2 c a.id).2 ⟨hxm, can_rest hZ hcan⟩
          rw [h] at this; cases this
    have hp2 : OpO A' (fun i => (wyN k Y N i).isSome) (opL (whoD (s.filter (gone (ddL Z s)))) (hoD (whoD (s.filter (gone (ddL Z s)))) A' ids)) (fun c => (hoD (whoD (s.filter (gone (ddL Z s)))) A' ids c).isSome) N' := by
      rw [← hH]
      have hL : ∀ c id, id ∈ A' c → opL (whoD (s.filter (gone (ddL Z s)))) (hoD (whoD s) A ids) id = opL (whoD s) (hoD (whoD s) A ids) id := fun c id hid => by
        obtain ⟨q1, q2⟩ := (g2 c id).1 hid
        obtain ⟨a, ha, rfl, _⟩ := hmem c id q1
        obtain ⟨e1, e2⟩ := who_rest (Z := Z) hok ha q2
        unfold opL
        rw [e1, e2]
      refine ⟨fun c id hd hid hy => ?_, fun id hn => ?_⟩
      · rw [hL c id hid]
        exact hp.yes c id hd ((g2 c id).1 hid).1 hy
      · obtain ⟨e, hy, c, hd, hid⟩ := hp.no id hn
        have hcan : Can s id := (lvl_can (.step h1 hi hp)).1 id (by cases hx : N' id with
          | none => exact absurd hx hn
          | some l => rfl)
        have hid' := (g2 c id).2 ⟨hid, can_rest hZ hcan⟩
        exact ⟨by rw [hL c id hid']; exact e, hy, c, hd, hid'⟩
    refine ⟨cutA (hoD (whoD (s.filter (gone (ddL Z s)))) A' ids) A', .step g1 hi hp2, fun c id => ?_⟩
    rw [← hH]
    unfold cutA
    split
    · simp
    · exact g2 c id
theorem full_rest (hok : stOk s = true) (hZ : Full s Z) : Full (s.filter (gone (ddL Z s))) Z := by
  have hZ' := hZ
  obtain ⟨k, A, N, h1, h2⟩ := hZ'
  obtain ⟨A', g1, _⟩ := lvl_rest hok hZ h1
  exact ⟨k, A', N, g1, h2⟩
/-- NOBODY ELSE IS DEAD -/
theorem dead_rest : ddL Z (s.filter (gone (ddL Z s))) = [] := by
  have : (s.filter (gone (ddL Z s))).filter (ddA Z) = [] := by
    rw [List.filter_eq_nil_iff]
    intro a ha hd
    obtain ⟨h1, h2⟩ := rest_mem.1 ha
    exact h2 (List.mem_map.2 ⟨a, List.mem_filter.2 ⟨h1, hd⟩, rfl⟩)
  show ((s.filter (gone (ddL Z s))).filter (ddA Z)).map _ = []
  rw [this]; rfl
end
end Go.Proofs.Ytjfabholalnbeab
namespace Go.Proofs.Ytjfabholalnbeab
open Go.RowKit
set_option linter.unusedVariables false
set_option linter.unusedSimpArgs false

/-! ### agents in a row of one's own, whose lists are old, or rows of one's own, too -/
def HdsM (w W : World) (B : Nat) (p : Option Addr) (c : Nat) (l : List Hd) : Prop := HdsR w p c l ∨ (W.ownsRow B 53 2 (.slice p l.length c) l.length (hdsC l) ∧ ∀ x ∈ l, I64 x.chan)
def IntsM (w W : World) (B : Nat) (p : Option Addr) (c : Nat) (l : List Int) : Prop := IntsR w p c l ∨ (W.ownsRow B 3 1 (.slice p l.length c) l.length (rowC l) ∧ ∀ x ∈ l, I64 x)
theorem HdsM.keep {w W X : World} {B : Nat} {p : Option Addr} {c : Nat} {l : List Hd} (h : HdsM w W B p c l) (k : KA W X) : HdsM w X B p c l := by
  rcases h with h | ⟨h, h'⟩
  · exact .inl h
  · exact .inr ⟨k.own h (by decide), h'⟩
theorem IntsM.keep {w W X : World} {B : Nat} {p : Option Addr} {c : Nat} {l : List Int} (h : IntsM w W B p c l) (k : KA W X) : IntsM w X B p c l := by
  rcases h with h | ⟨h, h'⟩
  · exact .inl h
  · exact .inr ⟨k.own h (by decide), h'⟩
theorem HdsM.read {w W : World} {B : Nat} {p : Option Addr} {c : Nat} {l : List Hd} (h : HdsM w W B p c l) (hb : Below w.heap.size w W) : HdsR W p c l := by
  rcases h with h | ⟨h, h'⟩
  · exact h.later hb
  · exact hds_read h h'
theorem IntsM.read {w W : World} {B : Nat} {p : Option Addr} {c : Nat} {l : List Int} (h : IntsM w W B p c l) (hb : Below w.heap.size w W) : IntsR W p c l := by
  rcases h with h | ⟨h, h'⟩
  · exact h.later hb
  · exact ints_read h h'
def AgX (w W : World) (B : Nat) (gs : List Ag) (cs : List Value) : Prop := cs.length = gs.length * 4 ∧ ∀ i (h : i < gs.length), ∃ ap ac hp hc, I64 gs[i].id ∧ HdsM w W B ap ac gs[i].arms ∧ IntsM w W B hp hc gs[i].held ∧
  cs[i * 4]? = some (.int .i64 gs[i].id) ∧ cs[i * 4 + 1]? = some (.bool gs[i].awake) ∧ cs[i * 4 + 2]? = some (.slice ap gs[i].arms.length ac) ∧ cs[i * 4 + 3]? = some (.slice hp gs[i].held.length hc)
theorem AgX.nil (w W : World) (B : Nat) : AgX w W B [] [] := ⟨rfl, fun i h => by cases h⟩
theorem AgX.keep {w W X : World} {B : Nat} {gs : List Ag} {cs : List Value} (h : AgX w W B gs cs) (k : KA W X) : AgX w X B gs cs :=
  ⟨h.1, fun i hi => by
    obtain ⟨ap, ac, hp, hc, h1, h2, h3, h4⟩ := h.2 i hi
    exact ⟨ap, ac, hp, hc, h1, h2.keep k, h3.keep k, h4⟩⟩
theorem AgX.snoc {w W : World} {B : Nat} {gs : List Ag} {cs : List Value} (h : AgX w W B gs cs) {a : Ag} {ap hp : Option Addr} {ac hc : Nat} (h1 : I64 a.id) (h2 : HdsM w W B ap ac a.arms) (h3 : IntsM w W B hp hc a.held) : AgX w W B (gs ++ [a]) (cs ++ [.int .i64 a.id, .bool a.awake, .slice ap a.arms.length ac, .slice hp a.held.length hc]) := by
  refine ⟨by rw [List.length_append, List.length_append, h.1]; simp; omega, fun i hi => ?_⟩
  have hl := h.1
  rw [List.length_append, List.length_singleton] at hi
  by_cases hlt : i < gs.length
  · obtain ⟨ap, ac, hp, hc, q1, q2, q3, q4, q5, q6, q7⟩ := h.2 i hlt
    have e : (gs ++ [a])[i] = gs[i] := List.getElem_append_left hlt
    rw [e]
    refine ⟨ap, ac, hp, hc, q1, q2, q3, ?_, ?_, ?_, ?_⟩ <;> rw [List.getElem?_append_left (by omega)] <;> assumption
  · obtain rfl : i = gs.length := by omega
    have e : (gs ++ [a])[gs.length] = a := by simp
    rw [e]
    refine ⟨ap, ac, hp, hc, h1, h2, h3, ?_, ?_, ?_, ?_⟩
    · rw [List.getElem?_append_right (by omega), show gs.length * 4 - cs.length = 0 by omega]; rfl
    · rw [List.getElem?_append_right (by omega), show gs.length * 4 + 1 - cs.length = 1 by omega]; rfl
    · rw [List.getElem?_append_right (by omega), show gs.length * 4 + 2 - cs.length = 2 by omega]; rfl
    · rw [List.getElem?_append_right (by omega), show gs.length * 4 + 3 - cs.length = 3 by omega]; rfl
theorem AgX.read {w W : World} {B B' : Nat} {v : Value} {gs : List Ag} {cs : List Value} (ho : W.ownsRow B' 32 4 v gs.length cs) (h : AgX w W B gs cs) (hb : Below w.heap.size w W) : ∃ p c, v = .slice p gs.length c ∧ AgsR W p c gs := by
  have ho' := ho
  rcases ho.2 with ⟨x1, x2⟩ | ⟨g, cap, cur, x1, x2, x3, x4, x5, x6, x7⟩
  · exact ⟨none, 0, by rw [x1, x2], by omega, by simp [maxLen], fun i hi => by omega⟩
  · refine ⟨some ⟨g, 0, none⟩, cap, x1, x4, x5, fun i hi => ?_⟩
    obtain ⟨ap, ac, hp, hc, q1, q2, q3, q4, q5, q6, q7⟩ := h.2 i hi
    rw [x1] at ho'
    refine ⟨g, 0, ap, ac, hp, hc, rfl, ⟨q1, q2.read hb, q3.read hb⟩, fun X hX => ?_⟩
    have hl := (Array.getElem?_eq_some_iff.1 x3).1
    have key : ∀ j, j < 4 → X.cell? ⟨g, i * 4 + j, none⟩ = cs[i * 4 + j]? := fun j hj => by
      rw [hX.cell (p := ⟨g, i * 4 + j, none⟩) hl, ho'.cellAt (i * 4 + j) (by omega)]
    rw [Nat.zero_add]
    exact ⟨(key 0 (by omega)).trans q4, (key 1 (by omega)).trans q5, (key 2 (by omega)).trans q6, (key 3 (by omega)).trans q7⟩
/-- agents that lie somewhere, as cells -/
theorem AgX.of {w : World} {p : Option Addr} {c : Nat} {s : List Ag} (h : AgsR w p c s) (B : Nat) : ∃ cs, AgX w w B s cs ∧ (∀ b o, p = some ⟨b, o, none⟩ → ∀ j u, cs[j]? = some u → w.cell? ((⟨b, o, none⟩ : Addr).add j) = some u) ∧ ∀ u ∈ cs, u.oneCell' = true := by
  have one : ∀ i (hi : i < s.length), ∃ c4 : List Value, c4.length = 4 ∧ (∀ u ∈ c4, u.oneCell' = true) ∧ (∃ ap ac hp hc, AgR w s[i] ap ac hp hc ∧ c4 = [.int .i64 s[i].id, .bool s[i].awake, .slice ap s[i].arms.length ac, .slice hp s[i].held.length hc]) ∧ ∀ b o, p = some ⟨b, o, none⟩ → ∀ j, j < 4 → w.cell? ⟨b, o + i * 4 + j, none⟩ = c4[j]? := fun i hi => by
    obtain ⟨b, o, ap, ac, hp, hc, e, hA, hc4⟩ := h.at_ i hi
    obtain ⟨k0, k1, k2, k3⟩ := hc4 w (Below.refl _ _)
    refine ⟨[.int .i64 s[i].id, .bool s[i].awake, .slice ap s[i].arms.length ac, .slice hp s[i].held.length hc], rfl, (fun u hu => by
      simp only [List.mem_cons, List.not_mem_nil, or_false] at hu
      rcases hu with rfl | rfl | rfl | rfl <;> rfl), ⟨ap, ac, hp, hc, hA, rfl⟩, fun b' o' e' j hj => ?_⟩
    rw [e] at e'
    cases e'
    match j, hj with
    | 0, _ => exact k0
    | 1, _ => exact k1
    | 2, _ => exact k2
    | 3, _ => exact k3
  have key : ∀ n, n ≤ s.length → ∃ cs, AgX w w B (s.take n) cs ∧ (∀ b o, p = some ⟨b, o, none⟩ → ∀ j u, cs[j]? = some u → w.cell? ((⟨b, o, none⟩ : Addr).add j) = some u) ∧ ∀ u ∈ cs, u.oneCell' = true := by
    intro n
    induction n with
    | zero => intro _; exact ⟨[], AgX.nil _ _ _, (fun b o _ j u hu => by simp at hu), fun u hu => by cases hu⟩
    | succ n ih =>
      intro hn
      obtain ⟨cs, h1, h2, h3⟩ := ih (by omega)
      obtain ⟨c4, g1, g2, ⟨ap, ac, hp, hc, gA, rfl⟩, g4⟩ := one n (by omega)
      refine ⟨cs ++ [.int .i64 s[n].id, .bool s[n].awake, .slice ap s[n].arms.length ac, .slice hp s[n].held.length hc], ?_, ?_, ?_⟩
      · rw [List.take_succ_eq_append_getElem (by omega)]
        exact h1.snoc gA.id (.inl gA.arms) (.inl gA.held)
      · intro b o e j u hu
        have hl := h1.1
        rw [List.length_take, Nat.min_eq_left (by omega)] at hl
        by_cases hj : j < cs.length
        · rw [List.getElem?_append_left hj] at hu
          exact h2 b o e j u hu
        · rw [List.getElem?_append_right (by omega)] at hu
          have hj4 : j - cs.length < 4 := by
            have := (List.getElem?_eq_some_iff.1 hu).1
            simpa using this
          rw [add_off, show o + j = o + n * 4 + (j - cs.length) by omega, g4 b o e _ hj4]
          exact hu
      · intro u hu
        rcases List.mem_append.1 hu with hu | hu
        · exact h3 u hu
        · exact g2 u hu
  have := key s.length (Nat.le_refl _)
  rw [List.take_length] at this
  exact this
theorem KA.of_below {w W X : World} (h : Below W.heap.size W X) : KA W X := KA.below h
end Go.Proofs.Ytjfabholalnbeab
namespace Go.Proofs.Ytjfabholalnbeab
open Go.RowKit
set_option linter.unusedVariables false
set_option linter.unusedSimpArgs false

/-! ### without -/
def WoI (w wr : World) (v : Value) (gs : List Ag) : Prop := ∃ cs, wr.ownsRow w.heap.size 32 4 v gs.length cs ∧ AgX w wr w.heap.size gs cs ∧ Below w.heap.size w wr
theorem wo_filter (P : Ag → Bool) (s : List Ag) (i : Nat) (h : i < s.length) : (s.take (i + 1)).filter P = if P s[i] then (s.take i).filter P ++ [s[i]] else (s.take i).filter P := by
  rw [List.take_succ_eq_append_getElem h, List.filter_append]
  cases hp : P s[i] <;> simp [hp]
theorem wo_app {w X w9 : World} {u : Value} {pre : List Ag} {cs : List Value} {o : Obj} {g cap : Nat} {a : Ag} {ap hp : Option Addr} {ac hc : Nat} (h : X.ownsRow w.heap.size 32 4 u pre.length cs ∧ AgX w X w.heap.size pre cs ∧ Below w.heap.size w X) (h1 : I64 a.id) (h2 : HdsM w X w.heap.size ap ac a.arms) (h3 : IntsM w X w.heap.size hp hc a.held)
    (ho : w9.ownsRow w.heap.size 32 4 (.slice (some ⟨g, 0, none⟩) (pre.length + 1) cap) (pre.length + 1) (cs ++ [.int .i64 a.id, .bool a.awake, .slice ap a.arms.length ac, .slice hp a.held.length hc])) (hg : (X.alloc o).grownBy w9 u.ownBlock) : WoI w w9 (.slice (some ⟨g, 0, none⟩) (pre.length + 1) cap) (pre ++ [a]) := by
  have hb1 := below1 X o
  have hk : KA X w9 := (KA.below hb1).trans (KA.grown (own_new h.1 hb1) hg)
  have hb := blw h.2.2 hb1
  refine ⟨_, by rw [List.length_append]; exact ho, (h.2.1.keep hk).snoc h1 (h2.keep hk) (h3.keep hk), hb.grown hg hb.size (fun r e => own_base h.1 r e)⟩
set_option maxRecDepth 100000 in
set_option maxHeartbeats 2000000 in
theorem without_any (w : World) (p : Option Addr) (c : Nat) (s : List Ag) (h : AgsR w p c s) (hs4 : s.length ≤ 4096) (q : Option Addr) (d : Nat) (D : List Int) (hq : IntsR w q d D) :
    Calls Try.prog 20 #[.slice p s.length c, .slice q D.length d] w fun e w' => ∃ rp rc, e = .returned (.slice rp (s.filter (gone D)).length rc) ∧ AgsR w' rp rc (s.filter (gone D)) ∧ Below w.heap.size w w' := by
  obtain ⟨i0, hi, iz0, iz1, iz2⟩ := info_parts infoG
  have hlc := h.len
  have hcm := h.max
  unfold maxLen at hcm
  have HS : Bx (AgsR w p c s) := ⟨h⟩
  have HQ : Bx (IntsR w q d D) := ⟨hq⟩
  clear h hq
  go_enter Try.func20, Try.ntmps20
  go_wp2
  go_loopg [5, 10] (s.length + 1) (fun k v5 v10 wr => ∃ i : Nat, k = s.length + 1 - i ∧ i ≤ s.length ∧ v10 = .int .i64 (i : Nat) ∧ Bx (WoI w wr v5 ((s.take i).filter (gone D))))
  case atStart => exact ⟨0, by simp, by omega, rfl, ⟨[], ⟨rfl, .inl ⟨rfl, rfl⟩⟩, AgX.nil _ _ _, Below.refl _ _⟩⟩
  case round =>
    obtain ⟨i, hk, hil, rfl, HR⟩ := hrel
    by_cases hlt : i < s.length
    · obtain ⟨b, o, ap, ac, hp, hc, rfl, hA, hcl⟩ := HS.out.at_ i hlt
      obtain ⟨cs, ho, hx, hbr⟩ := HR.out
      obtain ⟨c0, c1, c2, c3⟩ := hcl wr hbr
      have HT : Bx ((s.take (i + 1)).filter (gone D) = if gone D s[i] then (s.take i).filter (gone D) ++ [s[i]] else (s.take i).filter (gone D)) := ⟨wo_filter _ s i hlt⟩
      have hln : ((s.take i).filter (gone D)).length ≤ 4096 := by
        have := List.length_filter_le (gone D) (s.take i)
        rw [List.length_take] at this
        omega
      have HA : Bx (AgR w s[i] ap ac hp hc) := ⟨hA⟩
      have hid := hA.id
      clear hcl hA HR
      generalize s[i] = a at *
      generalize (s.take i).filter (gone D) = pre at *
      obtain ⟨X, hX⟩ : ∃ X, wr.alloc (.cells #[.int .i64 a.id, .bool a.awake, .slice ap a.arms.length ac, .slice hp a.held.length hc] 32) = X := ⟨_, rfl⟩
      have hbX : Below wr.heap.size wr X := by rw [← hX]; exact below1 _ _
      have hkX : X.heap[wr.heap.size]? = some (.cells #[.int .i64 a.id, .bool a.awake, .slice ap a.arms.length ac, .slice hp a.held.length hc] 32 (0, 0)) := by rw [← hX]; exact World.alloc_heap_new _ _
      have d0 : X.cell? ⟨wr.heap.size, 0, none⟩ = some (.int .i64 a.id) := cell_of hkX rfl
      have d1 : X.cell? ⟨wr.heap.size, 1, none⟩ = some (.bool a.awake) := cell_of hkX rfl
      have d2 : X.cell? ⟨wr.heap.size, 2, none⟩ = some (.slice ap a.arms.length ac) := cell_of hkX rfl
      have d3 : X.cell? ⟨wr.heap.size, 3, none⟩ = some (.slice hp a.held.length hc) := cell_of hkX rfl
      have hbw : Below w.heap.size w X := blw hbr hbX
      have HO : Bx (X.ownsRow w.heap.size 32 4 u5 pre.length cs ∧ AgX w X w.heap.size pre cs ∧ Below w.heap.size w X) := ⟨own_new ho hbX, hx.keep (KA.below hbX), hbw⟩
      have HXE : Bx (_ = X) := ⟨hX⟩
      have HXS : Bx (X.heap.size = wr.heap.size + 1) := ⟨by rw [← hX]; simp⟩
      have HHA : Bx (Calls Try.prog 13 #[.slice q D.length d, .int .i64 a.id] X fun e w' => e = .returned (.bool (hasL D a.id)) ∧ w' = X) := ⟨has_any X q d D a.id (HQ.out.later hbw) hid⟩
      have hsz : w.heap.size ≤ X.heap.size := hbw.size
      have e0 := d0
      rw [← hX] at d0
      clear hX hbX hkX hbw ho hx hbr
      cases hh : hasL D a.id with
      | true =>
        rw [hh] at HHA
        have HF : Bx ((s.take (i + 1)).filter (gone D) = pre) := ⟨by rw [HT.out, if_neg (by simp [gone, hh])]⟩
        go_wp2_with (first | (go_at_call 13; rw [HXE.out]; refine Calls.mono HHA.out ?_; rintro e w5 ⟨rfl, rfl⟩))
        go_roundg (s.length + 1 - (i + 1))
        case measure => omega
        case rel => exact ⟨i + 1, rfl, by omega, by simp, ⟨cs, by rw [HF.out]; exact HO.out.1, by rw [HF.out]; exact HO.out.2.1, HO.out.2.2⟩⟩
      | false =>
        rw [hh] at HHA
        have HF : Bx ((s.take (i + 1)).filter (gone D) = pre ++ [a]) := ⟨by rw [HT.out, if_pos (by simp [gone, hh])]⟩
        go_wp2_with (first
          | (go_at_call 13; rw [HXE.out]; refine Calls.mono HHA.out ?_; rintro e w5 ⟨rfl, hw5⟩; subst hw5)
          | (at_builtin; refine wpList_app _ rfl (.tmp 19) (.tmp 21) 22 rfl w.heap.size 32 i0 (.agg #[.int .i64 0, .bool false, .slice none 0 0, .slice none 0 0]) 4 64 Try.underlying22 hi iz0 iz1 iz2 rfl (by decide) u5 pre.length cs rfl (own_new HO.out.1 (below1 _ _)) ⟨w5.heap.size, 0, none⟩ 1 1 [.int .i64 a.id, .bool a.awake, .slice ap a.arms.length ac, .slice hp a.held.length hc] rfl rfl (block_cells _ _ _ 32 (World.alloc_heap_new _ _)) (by simp [Value.oneCell']) (by decide) (by unfold maxLen; omega) (by omega) (by simp; omega) (w5.heap.size + 1) (by simp) ?_; intro gg gcap w9 hown9 hgrow9 hgi9 hgl9; have HN : Bx (WoI w w9 (.slice (some ⟨gg, 0, none⟩) (pre.length + 1) gcap) (pre ++ [a])) := ⟨wo_app HO.out hid (.inl HA.out.arms) (.inl HA.out.held) hown9 hgrow9⟩; clear hown9 hgrow9 hgi9))
        go_roundg (s.length + 1 - (i + 1))
        case measure => omega
        case rel => exact ⟨i + 1, rfl, by omega, by simp, by rw [HF.out]; exact HN⟩
    · have hie : i = s.length := by omega
      subst hie
      rw [List.take_length] at HR
      have HV : Bx (∃ rp rc, u5 = .slice rp (s.filter (gone D)).length rc ∧ AgsR wr rp rc (s.filter (gone D)) ∧ Below w.heap.size w wr) := ⟨by
        obtain ⟨cs, ho, hx, hbr⟩ := HR.out
        obtain ⟨rp, rc, e, h⟩ := AgX.read ho hx hbr
        exact ⟨rp, rc, e, h, hbr⟩⟩
      obtain ⟨rp, rc, hu, hr⟩ := HV.out
      subst hu
      have HVR : Bx _ := ⟨hr⟩
      clear hr HV HR
      go_wp2
      go_ret
      exact ⟨rp, rc, rfl, HVR.out.1, HVR.out.2⟩
end Go.Proofs.Ytjfabholalnbeab
