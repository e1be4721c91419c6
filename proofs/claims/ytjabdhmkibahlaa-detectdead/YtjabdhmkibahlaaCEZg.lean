import Derived.Test.YtjabdhmkibahlaaCEZd
import Derived.Test.YtjabdhmkibahlaaCHHb
namespace Go.Proofs.Ytjabdhmkibahlaa
open Go.RowKit
set_option linter.unusedVariables false
set_option linter.unusedSimpArgs false

/-! ### levels are what they are -/
theorem ids_one : ∀ {l m : List Int}, l.Pairwise (· < ·) → m.Pairwise (· < ·) → (∀ k, k ∈ l ↔ k ∈ m) → l = m
  | [], [], _, _, _ => rfl
  | [], y :: m, _, _, h => by have := (h y).2 List.mem_cons_self; cases this
  | x :: l, [], _, _, h => by have := (h x).1 List.mem_cons_self; cases this
  | x :: l, y :: m, hl, hm, h => by
    rw [List.pairwise_cons] at hl hm
    have e : x = y := by
      rcases List.mem_cons.1 ((h x).1 List.mem_cons_self) with e | e
      · exact e
      · rcases List.mem_cons.1 ((h y).2 List.mem_cons_self) with e' | e'
        · exact e'.symm
        · have h1 := hm.1 x e
          have h2 := hl.1 y e'
          omega
    subst e
    rw [ids_one hl.2 hm.2 (fun k => ?_)]
    constructor
    · intro hk
      rcases List.mem_cons.1 ((h k).1 (List.mem_cons_of_mem _ hk)) with e | e
      · have := hl.1 k hk; omega
      · exact e
    · intro hk
      rcases List.mem_cons.1 ((h k).2 (List.mem_cons_of_mem _ hk)) with e | e
      · have := hm.1 k hk; omega
      · exact e
theorem lvl_pos {f : Int → Ag} {A0 : Int → List Int} {N0 : Int → Option Lk} {k : Nat} {A : Int → List Int} {Y : Int → Option Wy} {N : Int → Option Lk} (h : Lvl f A0 N0 k A Y N) : 1 ≤ k := by
  induction h with
  | one => exact Nat.le_refl _
  | step _ _ _ ih => omega
theorem lvl_new {f : Int → Ag} {A0 : Int → List Int} {N0 : Int → Option Lk} {k : Nat} {A : Int → List Int} {Y : Int → Option Wy} {N : Int → Option Lk} (h : Lvl f A0 N0 k A Y N) : ∀ i l, N i = some l → Y i = none := by
  cases h with
  | one => exact fun _ _ _ => rfl
  | step h1 hi hp =>
    intro i l hl
    obtain ⟨_, h2, _⟩ := hp.no i (by rw [hl]; simp)
    exact Option.not_isSome_iff_eq_none.1 (by rw [h2]; simp)
theorem opo_one {A : Int → List Int} {hy : Int → Bool} {L : Int → Lk} {d : Int → Bool} {O O' : Int → Option Lk} (h : OpO A hy L d O) (h' : OpO A hy L d O') : O = O' := by
  funext id
  cases ho : O id with
  | some l =>
    obtain ⟨e, h1, c, h2, h3⟩ := h.no id (by rw [ho]; simp)
    rw [← ho, e]
    exact (h'.yes c id h2 h3 h1).symm
  | none =>
    cases ho' : O' id with
    | none => rfl
    | some l =>
      obtain ⟨e, h1, c, h2, h3⟩ := h'.no id (by rw [ho']; simp)
      have := h.yes c id h2 h3 h1
      rw [ho] at this; cases this
theorem lvl_one {f : Int → Ag} {A0 : Int → List Int} {N0 : Int → Option Lk} {k : Nat} {A : Int → List Int} {Y : Int → Option Wy} {N : Int → Option Lk} (h : Lvl f A0 N0 k A Y N) (e : k = 1) : A = A0 ∧ Y = (fun _ => none) ∧ N = N0 := by
  cases h with
  | one => exact ⟨rfl, rfl, rfl⟩
  | step h1 _ _ => have := lvl_pos h1; omega
theorem lvl_step {f : Int → Ag} {A0 : Int → List Int} {N0 : Int → Option Lk} {k m : Nat} {A : Int → List Int} {Y : Int → Option Wy} {N : Int → Option Lk} (h : Lvl f A0 N0 k A Y N) (e : k = m + 1) (hm : 1 ≤ m) : ∃ A1 Y1 N1 ids, Lvl f A0 N0 m A1 Y1 N1 ∧ IdsOf N1 ids ∧ OpO A1 (fun i => (wyN m Y1 N1 i).isSome) (opL f (hoD f A1 ids)) (fun c => (hoD f A1 ids c).isSome) N ∧ A = cutA (hoD f A1 ids) A1 ∧ Y = wyN m Y1 N1 := by
  cases h with
  | one => omega
  | @step k A1 Y1 N1 N' ids h1 hi hp =>
    obtain rfl : k = m := by omega
    exact ⟨A1, Y1, N1, ids, h1, hi, hp, rfl, rfl⟩
theorem lvl_det {f : Int → Ag} {A0 : Int → List Int} {N0 : Int → Option Lk} {k : Nat} {A : Int → List Int} {Y : Int → Option Wy} {N : Int → Option Lk} (h : Lvl f A0 N0 k A Y N) : ∀ {A' : Int → List Int} {Y' : Int → Option Wy} {N' : Int → Option Lk}, Lvl f A0 N0 k A' Y' N' → A' = A ∧ Y' = Y ∧ N' = N := by
  induction h with
  | one => intro A' Y' N' h'; exact lvl_one h' rfl
  | @step k A Y N N2 ids h1 hi hp ih =>
    intro A' Y' N' h'
    obtain ⟨A1, Y1, N1, ids', g1, g2, g3, rfl, rfl⟩ := lvl_step h' rfl (lvl_pos h1)
    obtain ⟨rfl, rfl, rfl⟩ := ih g1
    have e : ids' = ids := ids_one g2.1 hi.1 (fun k => (g2.2 k).trans (hi.2 k).symm)
    subst e
    exact ⟨rfl, rfl, opo_one g3 hp⟩
theorem lvl_mono {f : Int → Ag} {A0 : Int → List Int} {N0 : Int → Option Lk} {k : Nat} {A : Int → List Int} {Y : Int → Option Wy} {N : Int → Option Lk} (h : Lvl f A0 N0 k A Y N) {k' : Nat} {A' : Int → List Int} {Y' : Int → Option Wy} {N' : Int → Option Lk} (h' : Lvl f A0 N0 k' A' Y' N') : k ≤ k' → (∀ i y, Y i = some y → Y' i = some y) ∧ (k < k' → ∀ i l, N i = some l → Y' i = some ((k : Int), l)) := by
  induction h' with
  | one =>
    intro hk
    obtain rfl : k = 1 := by have := lvl_pos h; omega
    obtain ⟨_, rfl, _⟩ := lvl_one h rfl
    exact ⟨fun i y e => e, fun h => by omega⟩
  | @step m A1 Y1 N1 N2 ids h1 hi hp ih =>
    intro hk
    have up : ∀ i y, Y1 i = some y → wyN (m : Int) Y1 N1 i = some y := fun i y hy => by
      unfold wyN
      cases hn : N1 i with
      | none => exact hy
      | some l => have := lvl_new h1 i l hn; rw [hy] at this; cases this
    rcases Nat.lt_or_ge m k with hmk | hmk
    · obtain rfl : k = m + 1 := by omega
      obtain ⟨_, e, _⟩ := lvl_det h (.step h1 hi hp)
      rw [e]
      exact ⟨fun i y e => e, fun h => by omega⟩
    · obtain ⟨i1, i2⟩ := ih hmk
      refine ⟨fun i y e => up i y (i1 i y e), fun _ i l hl => ?_⟩
      rcases Nat.lt_or_ge k m with hlt | hge
      · exact up i _ (i2 hlt i l hl)
      · obtain rfl : k = m := by omega
        obtain ⟨_, _, e⟩ := lvl_det h h1
        unfold wyN
        rw [e, hl]
theorem lvl_stop {f : Int → Ag} {A0 : Int → List Int} {N0 : Int → Option Lk} {k : Nat} {A : Int → List Int} {Y : Int → Option Wy} {N : Int → Option Lk} (h : Lvl f A0 N0 k A Y N) (hn : ∀ i, N i = none) {k' : Nat} {A' : Int → List Int} {Y' : Int → Option Wy} {N' : Int → Option Lk} (h' : Lvl f A0 N0 k' A' Y' N') : k ≤ k' → Y' = Y ∧ ∀ i, N' i = none := by
  induction h' with
  | one =>
    intro hk
    obtain rfl : k = 1 := by have := lvl_pos h; omega
    obtain ⟨_, rfl, rfl⟩ := lvl_one h rfl
    exact ⟨rfl, hn⟩
  | @step m A1 Y1 N1 N2 ids h1 hi hp ih =>
    intro hk
    rcases Nat.lt_or_ge m k with hmk | hmk
    · obtain rfl : k = m + 1 := by omega
      obtain ⟨_, e, e2⟩ := lvl_det h (.step h1 hi hp)
      rw [e, e2]
      exact ⟨rfl, hn⟩
    · obtain ⟨rfl, i2⟩ := ih hmk
      have e := ids_none hi i2
      subst e
      refine ⟨?_, fun i => ?_⟩
      · funext i; unfold wyN; rw [i2 i]
      · cases hx : N2 i with
        | none => rfl
        | some l =>
          obtain ⟨_, _, c, hc, _⟩ := hp.no i (by rw [hx]; simp)
          cases hc
theorem full_det {s : List Ag} {Y Z : Int → Option Wy} (hY : Full s Y) (hZ : Full s Z) : Y = Z := by
  obtain ⟨k, A, N, h1, h2⟩ := hY
  obtain ⟨k', A', N', h1', h2'⟩ := hZ
  rcases Nat.le_total k k' with h | h
  · exact (lvl_stop h1 h2 h1' h).1.symm
  · exact (lvl_stop h1' h2' h1 h).1
/-- what find answers is a part of the whole -/
theorem fdr_full {s : List Ag} {id : Int} {Y Z : Int → Option Wy} (h : FdR s id Y) (hZ : Full s Z) : (∀ i y, Y i = some y → Z i = some y) ∧ Y id = Z id := by
  obtain ⟨k, A, Y0, N, h1, _, h2, h3⟩ := h
  rcases h3 with ⟨h3, rfl⟩ | ⟨⟨l, h3, h4⟩, h5⟩
  · rw [full_det ⟨k, A, N, h1, h3⟩ hZ]
    exact ⟨fun i y e => e, rfl⟩
  · obtain ⟨k', A', N', g1, g2⟩ := hZ
    have hlt : k < k' := by
      rcases Nat.lt_or_ge k k' with h | h
      · exact h
      · have := (lvl_stop g1 g2 h1 h).2 id
        rw [h3] at this; cases this
    obtain ⟨m1, m2⟩ := lvl_mono h1 g1 (Nat.le_of_lt hlt)
    have key : ∀ i y, Y i = some y → Z i = some y := fun i y hy => by
      rcases h5 i with e | ⟨l', e1, e2⟩
      · rw [e] at hy; exact m1 i y hy
      · rw [hy] at e2; cases e2; exact m2 hlt i l' e1
    exact ⟨key, by rw [h4]; exact (key id _ h4).symm⟩
theorem chain_same {s : List Ag} {Y Z : Int → Option Wy} (hw : Ways s Y) (hYZ : ∀ i y, Y i = some y → Z i = some y) {id : Int} {n : Nat} {l : Lk} (h : Y id = some ((n : Int), l)) (hn : 1 ≤ n) : chL Y n ((n : Int), l) = chL Z n ((n : Int), l) := by
  have hy := yat_ways hw h hn
  have key : ∀ i, i < n → yAt Y i ((n : Int), l) = yAt Z i ((n : Int), l) := by
    intro i
    induction i with
    | zero => intro _; rfl
    | succ i ih =>
      intro hi
      have e := ih (by omega)
      obtain ⟨e1, e2⟩ := hy i (by omega)
      obtain ⟨k, hk, e3, h1, h2⟩ := hw.one _ _ e2
      have hkn : k = n - i := by omega
      rcases h2 with ⟨h2, _⟩ | ⟨j, hj, hkj, l', h3, _⟩
      · omega
      · show wy0 (Y (yAt Y i ((n : Int), l)).2.waker) = wy0 (Z (yAt Z i ((n : Int), l)).2.waker)
        rw [← e, h3, hYZ _ _ h3]
  unfold chL
  refine List.map_congr_left fun p hp => ?_
  rw [key (n - 1 - p) (by have := List.mem_range.1 hp; omega)]
end Go.Proofs.Ytjabdhmkibahlaa
namespace Go.Proofs.Ytjabdhmkibahlaa
open Go.RowKit
set_option linter.unusedVariables false
set_option linter.unusedSimpArgs false

/-! ### the dead taken out -/
def gone (D : List Int) (a : Ag) : Bool := !hasL D a.id
theorem ags_low : ∀ (s : List Ag) (k k' : Int), k ≤ k' → agsF k' s = true → agsF k s = true
  | [], k, k', _, h => h
  | a :: r, k, k', hk, h => by
    rw [agsF, Bool.and_eq_true, Bool.and_eq_true] at h ⊢
    exact ⟨⟨by have := h.1.1; simp at this ⊢; omega, h.1.2⟩, h.2⟩
theorem ags_filter (P : Ag → Bool) : ∀ (s : List Ag) (k : Int), agsF k s = true → agsF k (s.filter P) = true
  | [], k, h => h
  | a :: r, k, h => by
    have h0 := h
    rw [agsF, Bool.and_eq_true, Bool.and_eq_true] at h
    have ih := ags_filter P r a.id h.2
    rw [List.filter_cons]
    split
    · rw [agsF, Bool.and_eq_true, Bool.and_eq_true]
      exact ⟨h.1, ih⟩
    · exact ags_low _ _ _ (by have := h.1.1; simp at this; omega) ih
theorem rest_ok {s : List Ag} (P : Ag → Bool) (h : stOk s = true) : stOk (s.filter P) = true := by
  unfold stOk at h ⊢
  rw [Bool.and_eq_true] at h ⊢
  refine ⟨?_, ags_filter P s _ h.2⟩
  have h1 := h.1
  have := List.length_filter_le P s
  simp at h1 ⊢
  omega
theorem rest_tot (P : Ag → Bool) (s : List Ag) : totA (s.filter P) ≤ totA s := by
  induction s with
  | nil => simp
  | cons a r ih =>
    rw [List.filter_cons]
    split
    · rw [totA, totA]; omega
    · rw [totA]; omega
def eqH (x h : Hd) : Bool := x.chan == h.chan && x.send == h.send
theorem eqH_iff {x h : Hd} : eqH x h = true ↔ x = h := by
  obtain ⟨a, b⟩ := x
  obtain ⟨c, d⟩ := h
  simp [eqH]
theorem ha_form {s : List Ag} (hok : stOk s = true) (h : Hd) (h0 : h.chan ≠ 0) : haD s h = (s.filter fun a => a.arms.any fun x => eqH x h).map (·.id) := by
  have arms : ∀ (l : List Hd) (B : Hd → List Int) (id : Int), id ∉ B h → haArms B id l h = B h ++ (if l.any (fun x => eqH x h) then [id] else []) := by
    have two : ∀ (l : List Hd) (B : Hd → List Int) (id : Int), (B h).getLast? = some id → haArms B id l h = B h := by
      intro l
      induction l with
      | nil => intro B id _; rfl
      | cons y r ih =>
        intro B id hl
        have e : haStep id B y h = B h := by
          unfold haStep
          split
          · rename_i hc
            by_cases e : h = y
            · subst e; exact absurd hl hc.2
            · exact updH_other _ _ e
          · rfl
        show haArms (haStep id B y) id r h = B h
        rw [ih _ _ (by rw [e]; exact hl), e]
    intro l
    induction l with
    | nil => intro B id _; simp [haArms]
    | cons y r ih =>
      intro B id hid
      show haArms (haStep id B y) id r h = _
      by_cases e : h = y
      · subst e
        have e1 : haStep id B h h = B h ++ [id] := by
          unfold haStep
          rw [if_pos ⟨h0, fun hl => hid (List.mem_of_getLast? hl)⟩, updH_same]
        rw [two r _ id (by rw [e1]; simp), e1, List.any_cons, eqH_iff.2 rfl]
        simp
      · have e1 : haStep id B y h = B h := by
          unfold haStep
          split
          · exact updH_other _ _ e
          · rfl
        rw [ih _ _ (by rw [e1]; exact hid), e1]
        have e2 : eqH y h = false := by
          cases hx : eqH y h with
          | false => rfl
          | true => exact absurd (eqH_iff.1 hx).symm e
        rw [List.any_cons, e2, Bool.false_or]
  have key : ∀ (r : List Ag) (B : Hd → List Int), (r.map (·.id)).Pairwise (· < ·) → (∀ a ∈ r, a.id ∉ B h) → haF B r h = B h ++ (r.filter fun a => a.arms.any fun x => eqH x h).map (·.id) := by
    intro r
    induction r with
    | nil => intro B _ _; simp [haF]
    | cons a r ih =>
      intro B hp hB
      rw [List.map_cons, List.pairwise_cons] at hp
      have ea := arms a.arms B a.id (hB a List.mem_cons_self)
      show haF (haArms B a.id a.arms) r h = _
      rw [ih _ hp.2 (fun b hb => ?_), ea, List.filter_cons]
      · split <;> simp [*]
      · rw [ea, List.mem_append]
        rintro (g | g)
        · exact hB b (List.mem_cons_of_mem _ hb) g
        · split at g
          · have := hp.1 b.id (List.mem_map.2 ⟨b, hb, rfl⟩)
            rw [List.mem_singleton.1 g] at this
            omega
          · cases g
  unfold haD
  rw [key s _ (st_lt hok) (fun a _ h => by cases h)]
  simp
theorem ho_congr {f g : Int → Ag} {A B : Int → List Int} : ∀ {ids : List Int}, (∀ j ∈ ids, (f j).held = (g j).held) → (∀ j ∈ ids, ∀ c ∈ (f j).held, (A c).isEmpty = (B c).isEmpty) → hoD f A ids = hoD g B ids := by
  have held : ∀ (l : List Int) (id : Int) (H : Int → Option Int), (∀ c ∈ l, (A c).isEmpty = (B c).isEmpty) → hoHeld A id H l = hoHeld B id H l := by
    intro l
    induction l with
    | nil => intro id H _; rfl
    | cons c r ih =>
      intro id H h
      show hoHeld A id (hoStep A id H c) r = hoHeld B id (hoStep B id H c) r
      have e : hoStep A id H c = hoStep B id H c := by unfold hoStep; rw [h c List.mem_cons_self]
      rw [e]
      exact ih _ _ (fun c hc => h c (List.mem_cons_of_mem _ hc))
  intro ids h1 h2
  unfold hoD
  have key : ∀ (ids : List Int) (H : Int → Option Int), (∀ j ∈ ids, (f j).held = (g j).held) → (∀ j ∈ ids, ∀ c ∈ (f j).held, (A c).isEmpty = (B c).isEmpty) → hoF f A H ids = hoF g B H ids := by
    intro ids
    induction ids with
    | nil => intro H _ _; rfl
    | cons j r ih =>
      intro H h1 h2
      show hoF f A (hoHeld A j H (f j).held) r = hoF g B (hoHeld B j H (g j).held) r
      rw [held _ _ _ (h2 j List.mem_cons_self), h1 j List.mem_cons_self]
      exact ih _ (fun j hj => h1 j (List.mem_cons_of_mem _ hj)) (fun j hj => h2 j (List.mem_cons_of_mem _ hj))
  exact key ids _ h1 h2
theorem lk_congr {a : Ag} {wk wk' : Hd → Option Int} (h : ∀ x ∈ a.arms, wk x = wk' x) : lkD a wk = lkD a wk' := by
  unfold lkD
  have key : ∀ l : List Hd, (∀ x ∈ l, wk x = wk' x) → l.findSome? (fun h => (wk h).map fun i => (⟨i, a.id, h.chan⟩ : Lk)) = l.findSome? (fun h => (wk' h).map fun i => (⟨i, a.id, h.chan⟩ : Lk)) := by
    intro l
    induction l with
    | nil => intro _; rfl
    | cons x r ih =>
      intro h
      rw [List.findSome?_cons, List.findSome?_cons, h x List.mem_cons_self, ih (fun y hy => h y (List.mem_cons_of_mem _ hy))]
  exact key _ h
section
variable {s : List Ag} {Z : Int → Option Wy}
theorem rest_mem {a : Ag} : a ∈ s.filter (gone (ddL Z s)) ↔ a ∈ s ∧ a.id ∉ ddL Z s := by
  rw [List.mem_filter]
  unfold gone
  constructor
  · rintro ⟨h1, h2⟩
    exact ⟨h1, fun h => by rw [hasL_iff.2 h] at h2; cases h2⟩
  · rintro ⟨h1, h2⟩
    refine ⟨h1, ?_⟩
    cases hx : hasL (ddL Z s) a.id with
    | false => rfl
    | true => exact absurd (hasL_iff.1 hx) h2
theorem can_rest (hZ : Full s Z) {id : Int} (h : Can s id) : id ∉ ddL Z s := fun hd => by
  obtain ⟨_, _, _, _, hn⟩ := (dd_mem hZ id).1 hd
  exact hn h
theorem aw_rest (hok : stOk s = true) (hZ : Full s Z) {a : Ag} (ha : a ∈ s) (hw : a.awake = true) : a.id ∉ ddL Z s := fun hd => by
  obtain ⟨b, hb, e, h2, _⟩ := (dd_mem hZ a.id).1 hd
  have e2 := whoD_at hok b hb
  rw [e, whoD_at hok a ha] at e2
  rw [← e2, hw] at h2; cases h2
theorem who_rest (hok : stOk s = true) {a : Ag} (ha : a ∈ s) (hn : a.id ∉ ddL Z s) : whoD (s.filter (gone (ddL Z s))) a.id = a ∧ whoD s a.id = a :=
  ⟨whoD_at (rest_ok _ hok) a (rest_mem.2 ⟨ha, hn⟩), whoD_at hok a ha⟩
theorem at_rest {c id : Int} (hok : stOk s = true) : id ∈ atD (s.filter (gone (ddL Z s))) c ↔ id ∈ atD s c ∧ id ∉ ddL Z s := by
  rw [atD_mem, atD_mem]
  constructor
  · rintro ⟨a, ha, rfl, h⟩
    obtain ⟨h1, h2⟩ := rest_mem.1 ha
    exact ⟨⟨a, h1, rfl, h⟩, h2⟩
  · rintro ⟨⟨a, ha, rfl, h⟩, h2⟩
    exact ⟨a, rest_mem.2 ⟨ha, h2⟩, rfl, h⟩
theorem empty_same {A B : List Int} (h : A = [] ↔ B = []) : A.isEmpty = B.isEmpty := by
  cases A with
  | nil => rw [h.1 rfl]
  | cons a r =>
    cases B with
    | nil => cases h.2 rfl
    | cons b t => rfl
theorem aw_same (hok : stOk s = true) (hZ : Full s Z) : awD (s.filter (gone (ddL Z s))) = awD s := by
  unfold awD
  rw [List.filter_filter]
  congr 1
  refine List.filter_congr fun a ha => ?_
  cases hw : a.awake with
  | false => simp
  | true =>
    have := aw_rest hok hZ ha hw
    have : gone (ddL Z s) a = true := (List.mem_filter.1 (rest_mem.2 ⟨ha, this⟩)).2
    simp [this]
theorem n0_rest (hok : stOk s = true) (hZ : Full s Z) : N0D (s.filter (gone (ddL Z s))) = N0D s := by
  have hokr := rest_ok (gone (ddL Z s)) hok
  have hH : hoD (whoD (s.filter (gone (ddL Z s)))) (atD (s.filter (gone (ddL Z s)))) (awD (s.filter (gone (ddL Z s)))) = hoD (whoD s) (atD s) (awD s) := by
    rw [aw_same hok hZ]
    symm
    refine ho_congr (fun j hj => ?_) (fun j hj c hc => ?_)
    · obtain ⟨b, hb, hw, rfl⟩ := (aw_iff _ _).1 hj
      obtain ⟨e1, e2⟩ := who_rest (Z := Z) hok hb (aw_rest hok hZ hb hw)
      rw [e1, e2]
    · refine empty_same ⟨fun h => ?_, fun h => ?_⟩
      · cases hx : atD (s.filter (gone (ddL Z s))) c with
        | nil => rfl
        | cons x r =>
          have := ((at_rest (Z := Z) hok).1 (by rw [hx]; exact List.mem_cons_self : x ∈ atD (s.filter (gone (ddL Z s))) c)).1
          rw [h] at this; cases this
      · cases hx : atD s c with
        | nil => rfl
        | cons x r =>
          have hxm : x ∈ atD s c := by rw [hx]; exact List.mem_cons_self
          obtain ⟨a, ha, rfl, y, hy, hyc⟩ := (atD_mem _ _ _).1 hxm
          have hcan : Can s a.id := .first ((n0_some _ _).2 ⟨a, ha, rfl, y, hy, .inr (.inl ⟨j, hj, by rw [hyc]; exact hc⟩)⟩)
          have := (at_rest (Z := Z) hok).2 ⟨hxm, can_rest hZ hcan⟩
          rw [h] at this; cases this
  funext id
  by_cases hm : id ∈ idsK (s.filter (gone (ddL Z s)))
  · obtain ⟨a, har, rfl⟩ := List.mem_map.1 hm
    obtain ⟨ha, hn⟩ := rest_mem.1 har
    show ouD _ _ _ a.id = ouD _ _ _ a.id
    rw [ou_at hokr _ _ har, ou_at hok _ _ ha, hH]
    refine lk_congr fun x hx => ?_
    unfold wk1
    split
    · rfl
    · cases hh : hoD (whoD s) (atD s) (awD s) x.chan with
      | some i => rfl
      | none =>
        simp only
        by_cases h0 : x.chan = 0
        · have e0 : ∀ t : List Ag, haD t ⟨x.chan, !x.send⟩ = [] := fun t => by
            cases hx2 : haD t ⟨x.chan, !x.send⟩ with
            | nil => rfl
            | cons y r =>
              have := ((ha_iff t ⟨x.chan, !x.send⟩ y).1 (by rw [hx2]; exact List.mem_cons_self)).1
              exact absurd h0 this
          rw [e0, e0]
        · rw [ha_form hokr ⟨x.chan, !x.send⟩ h0, ha_form hok ⟨x.chan, !x.send⟩ h0, List.filter_filter]
          congr 2
          refine List.filter_congr fun b hb => ?_
          cases hany : b.arms.any (fun y => eqH y (⟨x.chan, !x.send⟩ : Hd)) with
          | false => rfl
          | true =>
            have hbm : (⟨x.chan, !x.send⟩ : Hd) ∈ b.arms := by
              obtain ⟨y, hy, e⟩ := List.any_eq_true.1 hany
              have e' : y = (⟨x.chan, !x.send⟩ : Hd) := eqH_iff.1 e
              rw [← e']; exact hy
            have hbn : b.id ∉ ddL Z s := by
              by_cases e : b.id = a.id
              · rw [e]; exact hn
              · exact can_rest hZ (.first ((n0_some _ _).2 ⟨b, hb, rfl, _, hbm, .inr (.inr ⟨h0, a, ha, fun e' => e e'.symm, by simpa using hx⟩)⟩))
            have : gone (ddL Z s) b = true := (List.mem_filter.1 (rest_mem.2 ⟨hb, hbn⟩)).2
            rw [this]; rfl
  · have h1 : N0D (s.filter (gone (ddL Z s))) id = none := by
      cases hx : N0D (s.filter (gone (ddL Z s))) id with
      | none => rfl
      | some l => exact absurd (ou_mem _ _ _ id (by show N0D _ id ≠ none; rw [hx]; simp)) hm
    rw [h1]
    cases hx : N0D s id with
    | none => rfl
    | some l =>
      have hmem : id ∈ idsK s := ou_mem _ _ _ id (by show N0D s id ≠ none; rw [hx]; simp)
      obtain ⟨a, ha, rfl⟩ := List.mem_map.1 hmem
      have hcan : Can s a.id := .first (by rw [hx]; rfl)
      exact absurd (List.mem_map.2 ⟨a, rest_mem.2 ⟨ha, can_rest hZ hcan⟩, rfl⟩) hm
/-- THE LEVELS ARE THE SAME WITHOUT THE DEAD -/
theorem lvl_rest (hok : stOk s = true) (hZ : Full s Z) {k : Nat} {A : Int → List Int} {Y : Int → Option Wy} {N : Int → Option Lk} (h : Lvl (whoD s) (atD s) (N0D s) k A Y N) : ∃ A', Lvl (whoD (s.filter (gone (ddL Z s)))) (atD (s.filter (gone (ddL Z s)))) (N0D (s.filter (gone (ddL Z s)))) k A' Y N ∧ ∀ c id, id ∈ A' c ↔ id ∈ A c ∧ id ∉ ddL Z s := by
  have hN := n0_rest hok hZ
  induction h with
  | one =>
    refine ⟨atD (s.filter (gone (ddL Z s))), ?_, fun c id => at_rest hok⟩
    have := Lvl.one (f := whoD (s.filter (gone (ddL Z s)))) (A0 := atD (s.filter (gone (ddL Z s)))) (N0 := N0D (s.filter (gone (ddL Z s))))
    rw [hN] at this ⊢
    exact this
  | @step k A Y N N' ids h1 hi hp ih =>
    obtain ⟨A', g1, g2⟩ := ih
    have hmem : ∀ c id, id ∈ A c → ∃ a ∈ s, a.id = id ∧ ∃ x ∈ a.arms, x.chan = c := fun c id hid => (atD_mem s c id).1 (lvl_sub h1 c id hid)
    have hjc : ∀ j ∈ ids, Can s j := fun j hj => (lvl_can h1).1 j ((hi.2 j).1 hj)
    have hwho : ∀ j ∈ ids, (whoD s j).held = (whoD (s.filter (gone (ddL Z s))) j).held := fun j hj => by
      have hmj : j ∈ idsK s := (lvl_mem h1).2 j (by have := (hi.2 j).1 hj; intro e; rw [e] at this; cases this)
      obtain ⟨a, ha, rfl⟩ := List.mem_map.1 hmj
      obtain ⟨e1, e2⟩ := who_rest (Z := Z) hok ha (can_rest hZ (hjc _ hj))
      rw [e1, e2]
    have hH : hoD (whoD s) A ids = hoD (whoD (s.filter (gone (ddL Z s)))) A' ids := by
      refine ho_congr hwho (fun j hj c hc => ?_)
      refine empty_same ⟨fun h => ?_, fun h => ?_⟩
      · cases hx : A' c with
        | nil => rfl
        | cons x r =>
          have := ((g2 c x).1 (by rw [hx]; exact List.mem_cons_self)).1
          rw [h] at this; cases this
      · cases hx : A c with
        | nil => rfl
        | cons x r =>
          have hxm : x ∈ A c := by rw [hx]; exact List.mem_cons_self
          obtain ⟨a, ha, rfl, y, hy, hyc⟩ := hmem c x hxm
          have hcan : Can s a.id := .more (hjc j hj) ha hy (by rw [hyc]; exact hc)
          have := (g2 c a.id).2 ⟨hxm, can_rest hZ hcan⟩
          rw [h] at this; cases this
    have hp2 : OpO A' (fun i => (wyN k Y N i).isSome) (opL (whoD (s.filter (gone (ddL Z s)))) (hoD (whoD (s.filter (gone (ddL Z s)))) A' ids)) (fun c => (hoD (whoD (s.filter (gone (ddL Z s)))) A' ids c).isSome) N' := by
      rw [← hH]
      have hL : ∀ c id, id ∈ A' c → opL (whoD (s.filter (gone (ddL Z s)))) (hoD (whoD s) A ids) id = opL (whoD s) (hoD (whoD s) A ids) id := fun c id hid => by
        obtain ⟨q1, q2⟩ := (g2 c id).1 hid
        obtain ⟨a, ha, rfl, _⟩ := hmem c id q1
        obtain ⟨e1, e2⟩ := who_rest (Z := Z) hok ha q2
        unfold opL
        rw [e1, e2]
      refine ⟨fun c id hd hid hy => ?_, fun id hn => ?_⟩
      · rw [hL c id hid]
        exact hp.yes c id hd ((g2 c id).1 hid).1 hy
      · obtain ⟨e, hy, c, hd, hid⟩ := hp.no id hn
        have hcan : Can s id := (lvl_can (.step h1 hi hp)).1 id (by cases hx : N' id with
          | none => exact absurd hx hn
          | some l => rfl)
        have hid' := (g2 c id).2 ⟨hid, can_rest hZ hcan⟩
        exact ⟨by rw [hL c id hid']; exact e, hy, c, hd, hid'⟩
    refine ⟨cutA (hoD (whoD (s.filter (gone (ddL Z s)))) A' ids) A', .step g1 hi hp2, fun c id => ?_⟩
    rw [← hH]
    unfold cutA
    split
    · simp
    · exact g2 c id
theorem full_rest (hok : stOk s = true) (hZ : Full s Z) : Full (s.filter (gone (ddL Z s))) Z := by
  have hZ' := hZ
  obtain ⟨k, A, N, h1, h2⟩ := hZ'
  obtain ⟨A', g1, _⟩ := lvl_rest hok hZ h1
  exact ⟨k, A', N, g1, h2⟩
/-- NOBODY ELSE IS DEAD -/
theorem dead_rest : ddL Z (s.filter (gone (ddL Z s))) = [] := by
  have : (s.filter (gone (ddL Z s))).filter (ddA Z) = [] := by
    rw [List.filter_eq_nil_iff]
    intro a ha hd
    obtain ⟨h1, h2⟩ := rest_mem.1 ha
    exact h2 (List.mem_map.2 ⟨a, List.mem_filter.2 ⟨h1, hd⟩, rfl⟩)
  show ((s.filter (gone (ddL Z s))).filter (ddA Z)).map _ = []
  rw [this]; rfl
end
end Go.Proofs.Ytjabdhmkibahlaa
namespace Go.Proofs.Ytjabdhmkibahlaa
open Go.RowKit
set_option linter.unusedVariables false
set_option linter.unusedSimpArgs false

/-! ### the reference's links of a level are the search's -/
theorem ho_stepV (A : Int → List Int) (id : Int) (H : Int → Option Int) (x c : Int) (hA : A c ≠ []) : hoStep A id H x c = if c = x then (H c).or (some id) else H c := by
  unfold hoStep
  by_cases e : c = x
  · subst e
    rw [if_pos rfl]
    have hb : (A c).isEmpty = false := by
      cases h : A c with
      | nil => exact absurd h hA
      | cons y t => rfl
    cases hh : H c with
    | none => simp [hb, hh, upd_same]
    | some i => simp [hh]
  · rw [if_neg e]
    split
    · rw [upd_other _ _ e]
    · rfl
theorem ho_heldV (A : Int → List Int) (id : Int) (c : Int) (hA : A c ≠ []) : ∀ (l : List Int) (H : Int → Option Int), hoHeld A id H l c = (H c).or (if l.contains c then some id else none)
  | [], H => by simp [hoHeld]
  | x :: r, H => by
    show hoHeld A id (hoStep A id H x) r c = _
    rw [ho_heldV A id c hA r, ho_stepV A id H x c hA, List.contains_cons]
    by_cases e : c = x
    · subst e
      cases hh : H c <;> simp
    · have e2 : (c == x) = false := beq_eq_false_iff_ne.2 e
      rw [if_neg e, e2, Bool.false_or]
theorem ho_find (f : Int → Ag) (A : Int → List Int) (c : Int) (hA : A c ≠ []) (ids : List Int) : hoD f A ids c = ids.find? (fun id => (f id).held.contains c) := by
  have key : ∀ (ids : List Int) (H : Int → Option Int), hoF f A H ids c = (H c).or (ids.find? (fun id => (f id).held.contains c)) := by
    intro ids
    induction ids with
    | nil => intro H; simp [hoF]
    | cons x r ih =>
      intro H
      show hoF f A (hoHeld A x H (f x).held) r c = _
      rw [ih, ho_heldV A x c hA, Option.or_assoc, List.find?_cons]
      congr 1
      cases hx : (f x).held.contains c <;> simp
  have := key ids (fun _ => none)
  simpa [hoD] using this
theorem find_congr {α : Type} {P Q : α → Bool} : ∀ {l : List α}, (∀ x ∈ l, P x = Q x) → l.find? P = l.find? Q
  | [], _ => rfl
  | x :: r, h => by
    rw [List.find?_cons, List.find?_cons, h x List.mem_cons_self, find_congr fun y hy => h y (List.mem_cons_of_mem _ hy)]
theorem find_map {α β : Type} (f : α → β) (P : β → Bool) : ∀ (l : List α), (l.map f).find? P = (l.find? fun x => P (f x)).map f
  | [] => rfl
  | x :: r => by
    rw [List.map_cons, List.find?_cons, List.find?_cons, find_map f P r]
    cases P (f x) <;> rfl
/-- who holds, of those of a level -/
theorem hl_find (me : Nat) (lv : List Int) (k ch : Int) (h0 : ch ≠ 0) (P : Ag → Bool) : ∀ (r : List Ag) (i : Nat), (∀ j (hj : j < r.length), (i + j ≠ me ∧ lv[i + j]? = some k) ↔ P r[j] = true) → hlF me lv k ch i r = ((r.filter P).find? fun b => b.held.contains ch).map (·.id)
  | [], i, _ => rfl
  | a :: r, i, h => by
    have ih := hl_find me lv k ch h0 P r (i + 1) fun j hj => by
      have := h (j + 1) (by simp; omega)
      rw [show i + (j + 1) = i + 1 + j by omega] at this
      exact this
    have ha := h 0 (by simp)
    rw [Nat.add_zero, List.getElem_cons_zero] at ha
    rw [hlF, ih, List.filter_cons]
    by_cases hp : P a = true
    · rw [if_pos hp, List.find?_cons]
      cases hc : a.held.contains ch with
      | true => rw [if_pos ⟨(ha.2 hp).1, (ha.2 hp).2, h0, rfl⟩]; rfl
      | false => rw [if_neg fun q => by simp at q]
    · rw [if_neg hp, if_neg fun q => hp (ha.1 ⟨q.1, q.2.1⟩)]
theorem hl_zero (me : Nat) (lv : List Int) (k : Int) : ∀ (r : List Ag) (i : Nat), hlF me lv k 0 i r = none
  | [], i => rfl
  | a :: r, i => by
    rw [hlF, if_neg fun q => q.2.2.1 rfl, hl_zero me lv k r]
/-- who waits at the other end -/
theorem pt_find (me : Nat) (x : Hd) (id : Int) (h0 : x.chan ≠ 0) : ∀ (r : List Ag) (i : Nat), (∀ j (hj : j < r.length), (i + j = me ↔ r[j].id = id) ∧ (r[j].awake = true → r[j].arms = [])) → ptF me x i r = ((r.filter fun b => b.arms.any (fitH x)).find? fun b => b.id != id).map (·.id)
  | [], i, _ => rfl
  | a :: r, i, h => by
    have ih := pt_find me x id h0 r (i + 1) fun j hj => by
      have := h (j + 1) (by simp; omega)
      rw [show i + (j + 1) = i + 1 + j by omega] at this
      exact this
    have ha := h 0 (by simp)
    rw [Nat.add_zero, List.getElem_cons_zero] at ha
    rw [ptF, ih, List.filter_cons]
    cases hp : a.arms.any (fitH x) with
    | true =>
      rw [if_pos rfl, List.find?_cons]
      have haw : a.awake = false := by
        cases hw : a.awake with
        | false => rfl
        | true => rw [ha.2 hw] at hp; cases hp
      by_cases hm : i = me
      · rw [if_neg fun q => q.1 hm]
        have : (a.id != id) = false := by rw [ha.1.1 hm]; simp
        rw [this]
      · rw [if_pos ⟨hm, haw, h0, rfl⟩]
        have : (a.id != id) = true := by
          simp only [bne_iff_ne, ne_eq]
          exact fun e => hm (ha.1.2 e)
        rw [this]; rfl
    | false => rw [if_neg fun q => by simp at q, if_neg (by simp)]
theorem held_gt {s : List Ag} (hok : stOk s = true) {a : Ag} (ha : a ∈ s) {c : Int} (hc : c ∈ a.held) : 0 < c := by
  have h := (st_all hok a ha).1
  unfold agOk at h
  simp only [Bool.and_eq_true] at h
  exact ris_above _ _ h.1.2 c hc
theorem awk_arms {s : List Ag} (hok : stOk s = true) {a : Ag} (ha : a ∈ s) (hw : a.awake = true) : a.arms = [] := by
  have h := (st_all hok a ha).1
  unfold agOk at h
  simp only [Bool.and_eq_true, hw] at h
  cases he : a.arms with
  | nil => rfl
  | cons x r => rw [he] at h; simp at h
/-- the levels of agents, and their links, by ways -/
def lvA (Z : Int → Option Wy) (a : Ag) : Int := if a.awake then 0 else match Z a.id with
  | some y => y.1
  | none => -1
def lkA2 (Z : Int → Option Wy) (a : Ag) : Lk := match Z a.id with
  | some y => y.2
  | none => lk00
def lvZ (s : List Ag) (Z : Int → Option Wy) : List Int := s.map (lvA Z)
def lkZ (s : List Ag) (Z : Int → Option Wy) : List Lk := s.map (lkA2 Z)
theorem find_in {s : List Ag} (hok : stOk s = true) (P : Ag → Bool) (c : Int) : ((s.filter P).map (·.id)).find? (fun id => (whoD s id).held.contains c) = ((s.filter P).find? fun b => b.held.contains c).map (·.id) := by
  rw [find_map]
  congr 1
  exact find_congr fun b hb => by rw [whoD_at hok b (List.mem_filter.1 hb).1]
theorem ln_lk {s : List Ag} {me : Nat} {a : Ag} {lv : List Int} {k : Int} {wk : Hd → Option Int} (h : ∀ x ∈ a.arms, lk1I s me a.id lv k x = (wk x).map fun j => ⟨j, a.id, x.chan⟩) : lnI s me a.id lv k a.arms = lkD a wk := by
  have key : ∀ (l : List Hd), (∀ x ∈ l, lk1I s me a.id lv k x = (wk x).map fun j => ⟨j, a.id, x.chan⟩) → l.findSome? (lk1I s me a.id lv k) = l.findSome? fun h => (wk h).map fun i => (⟨i, a.id, h.chan⟩ : Lk) := by
    intro l
    induction l with
    | nil => intro _; rfl
    | cons x r ih =>
      intro h
      rw [List.findSome?_cons, List.findSome?_cons, h x List.mem_cons_self, ih fun y hy => h y (List.mem_cons_of_mem _ hy)]
  exact key a.arms h
/-- level 1 -/
theorem ln_one {s : List Ag} (hok : stOk s = true) {i : Nat} (hi : i < s.length) (hw : s[i].awake = false) : lnI s i s[i].id (lv0 s) 0 s[i].arms = N0D s s[i].id := by
  have hm : s[i] ∈ s := List.getElem_mem hi
  rw [show N0D s s[i].id = lkD s[i] (wk1 (hoD (whoD s) (atD s) (awD s)) (haD s) s[i].id) from ou_at hok _ _ hm]
  refine ln_lk fun x hx => ?_
  have hA : atD s x.chan ≠ [] := fun e => by
    have : s[i].id ∈ atD s x.chan := (atD_mem s _ _).2 ⟨s[i], hm, rfl, x, hx, rfl⟩
    rw [e] at this; cases this
  have e1 : hlI s i (lv0 s) 0 x.chan = hoD (whoD s) (atD s) (awD s) x.chan := by
    rw [ho_find _ _ _ hA]
    show _ = ((s.filter (·.awake)).map (·.id)).find? _
    rw [find_in hok]
    by_cases h0 : x.chan = 0
    · unfold hlI
      rw [h0, hl_zero]
      symm
      rw [Option.map_eq_none_iff, List.find?_eq_none]
      intro b hb hc
      have := held_gt hok (List.mem_filter.1 hb).1 (List.contains_iff_mem.1 hc)
      omega
    · refine hl_find i (lv0 s) 0 x.chan h0 (·.awake) s 0 fun j hj => ?_
      rw [Nat.zero_add]
      unfold lv0
      rw [List.getElem?_map, List.getElem?_eq_getElem hj]
      constructor
      · rintro ⟨_, h⟩
        cases hj2 : s[j].awake with
        | true => rfl
        | false => rw [Option.map_some, hj2] at h; simp at h
      · intro h
        refine ⟨fun e => ?_, by simp [h]⟩
        subst e
        rw [hw] at h; cases h
  unfold lk1I
  rw [if_pos rfl]
  unfold fsI wk1
  rw [e1]
  cases hwl : wldI x with
  | true => rfl
  | false =>
    simp only [Bool.false_eq_true, if_false]
    cases hh : hoD (whoD s) (atD s) (awD s) x.chan with
    | some j => rfl
    | none =>
      simp only
      congr 1
      by_cases h0 : x.chan = 0
      · have e2 : haD s ⟨x.chan, !x.send⟩ = [] := by
          cases he : haD s ⟨x.chan, !x.send⟩ with
          | nil => rfl
          | cons y r => exact absurd h0 ((ha_iff s ⟨x.chan, !x.send⟩ y).1 (by rw [he]; exact List.mem_cons_self)).1
        rw [e2]
        have : ∀ (r : List Ag) (n : Nat), ptF i x n r = none := by
          intro r
          induction r with
          | nil => intro n; rfl
          | cons b r ih => intro n; rw [ptF, if_neg fun q => q.2.2.1 h0, ih]
        exact this s 0
      · rw [ha_form hok _ (by exact h0)]
        unfold otI
        rw [find_map]
        have e3 : (s.filter fun a => a.arms.any fun y => eqH y ⟨x.chan, !x.send⟩) = s.filter fun b => b.arms.any (fitH x) := by
          congr 1
          funext b
          congr 1
          funext y
          unfold eqH fitH
          cases y.send <;> cases x.send <;> simp
        rw [e3]
        refine pt_find i x s[i].id h0 s 0 fun j hj => ⟨?_, awk_arms hok (List.getElem_mem hj)⟩
        rw [Nat.zero_add]
        exact ⟨fun e => by subst e; rfl, fun e => st_ids hok hj hi e⟩
/-- nobody that is awake has a way -/
theorem lvl_slp {s : List Ag} (hok : stOk s = true) {k : Nat} {A : Int → List Int} {Y : Int → Option Wy} {N : Int → Option Lk} (h : Lvl (whoD s) (atD s) (N0D s) k A Y N) : ∀ id, (N id).isSome = true → ∃ a ∈ s, a.id = id ∧ a.awake = false := by
  have fin : ∀ a ∈ s, a.arms ≠ [] → a.awake = false := fun a ha h => by
    cases hw : a.awake with
    | false => rfl
    | true => exact absurd (awk_arms hok ha hw) h
  intro id hid
  cases h with
  | one =>
    obtain ⟨a, ha, e, x, hx, _⟩ := (n0_some s id).1 hid
    exact ⟨a, ha, e, fin a ha fun q => by rw [q] at hx; cases hx⟩
  | step h1 hi hp =>
    obtain ⟨_, _, c, _, h3⟩ := hp.no id (by intro e; rw [e] at hid; cases hid)
    obtain ⟨a, ha, e, x, hx, _⟩ := (atD_mem s c id).1 (lvl_sub h1 c id h3)
    exact ⟨a, ha, e, fin a ha fun q => by rw [q] at hx; cases hx⟩
theorem lvZ_at {s : List Ag} {Z : Int → Option Wy} {j : Nat} (hj : j < s.length) : (lvZ s Z)[j]? = some (lvA Z s[j]) := by
  unfold lvZ
  rw [List.getElem?_map, List.getElem?_eq_getElem hj]
  rfl
/-- a level above 1: who holds -/
theorem hl_lvl {s : List Ag} (hok : stOk s = true) {k : Nat} {A : Int → List Int} {Y : Int → Option Wy} {N : Int → Option Lk} {ids : List Int} (h : Lvl (whoD s) (atD s) (N0D s) k A Y N) (hi : IdsOf N ids) {i : Nat} (hin : i < s.length) (hn : wyN k Y N s[i].id = none) {c : Int} (hA : A c ≠ []) :
    hlI s i (lvZ s (wyN k Y N)) k c = hoD (whoD s) A ids c := by
  have hk := lvl_pos h
  have e : ids = (s.filter fun b => (N b.id).isSome).map (·.id) := by
    refine ids_one hi.1 ?_ fun j => ?_
    · exact (List.Pairwise.sublist (List.Sublist.map _ List.filter_sublist) (st_lt hok))
    · rw [hi.2 j, List.mem_map]
      constructor
      · intro hj
        obtain ⟨a, ha, rfl, _⟩ := lvl_slp hok h j hj
        exact ⟨a, List.mem_filter.2 ⟨ha, hj⟩, rfl⟩
      · rintro ⟨a, ha, rfl⟩
        exact (List.mem_filter.1 ha).2
  rw [ho_find _ _ _ hA, e, find_in hok]
  by_cases h0 : c = 0
  · unfold hlI
    rw [h0, hl_zero]
    symm
    rw [Option.map_eq_none_iff, List.find?_eq_none]
    intro b hb hc
    have := held_gt hok (List.mem_filter.1 hb).1 (List.contains_iff_mem.1 hc)
    omega
  · refine hl_find i _ k c h0 (fun b => (N b.id).isSome) s 0 fun j hj => ?_
    rw [Nat.zero_add, lvZ_at hj]
    constructor
    · rintro ⟨_, q⟩
      have q2 := Option.some.inj q
      unfold lvA at q2
      cases hw : s[j].awake with
      | true => rw [hw] at q2; simp only [if_true] at q2; omega
      | false =>
        rw [hw] at q2
        simp only [Bool.false_eq_true, if_false] at q2
        cases hN : N s[j].id with
        | some l => rfl
        | none =>
          unfold wyN at q2
          rw [hN] at q2
          simp only at q2
          cases hY : Y s[j].id with
          | none => rw [hY] at q2; simp only at q2; omega
          | some y =>
            rw [hY] at q2
            simp only at q2
            obtain ⟨_, m, e1, _, e2⟩ := (lvl_wk h).2.1 _ _ hY
            omega
    · intro hN
      obtain ⟨a, ha, ea, haw⟩ := lvl_slp hok h _ hN
      have hsa : s[j].awake = false := by
        obtain ⟨m, hm, rfl⟩ := List.mem_iff_getElem.1 ha
        have := st_ids hok hm hj ea
        subst this
        exact haw
      refine ⟨fun q => ?_, ?_⟩
      · subst q
        unfold wyN at hn
        cases hx : N s[j].id with
        | none => rw [hx] at hN; cases hN
        | some l => rw [hx] at hn; cases hn
      · unfold lvA
        rw [hsa]
        simp only [Bool.false_eq_true, if_false]
        cases hx : N s[j].id with
        | none => rw [hx] at hN; cases hN
        | some l => unfold wyN; rw [hx]
/-- the channels that who is not found waits on are not done -/
theorem not_cut {s : List Ag} {k : Nat} {A : Int → List Int} {Y : Int → Option Wy} {N : Int → Option Lk} (h : Lvl (whoD s) (atD s) (N0D s) k A Y N) {id : Int} (hn : wyN k Y N id = none) {c : Int} (hc : id ∈ atD s c) : id ∈ A c := by
  rcases (lvl_seen h).cut c with e | e
  · rw [e]; exact hc
  · unfold wyN at hn
    rcases e id hc with q | q
    · cases hx : N id with
      | none => rw [hx] at hn; simp only at hn; rw [hn] at q; cases q
      | some l => rw [hx] at hn; cases hn
    · cases hx : N id with
      | none => rw [hx] at q; cases q
      | some l => rw [hx] at hn; cases hn
/-- a level above 1 -/
theorem ln_lvl {s : List Ag} (hok : stOk s = true) {k : Nat} {A : Int → List Int} {Y : Int → Option Wy} {N N' : Int → Option Lk} {ids : List Int} (h : Lvl (whoD s) (atD s) (N0D s) k A Y N) (hi : IdsOf N ids) (hp : OpO A (fun i => (wyN k Y N i).isSome) (opL (whoD s) (hoD (whoD s) A ids)) (fun c => (hoD (whoD s) A ids c).isSome) N') {i : Nat} (hin : i < s.length) (hn : wyN k Y N s[i].id = none) :
    lnI s i s[i].id (lvZ s (wyN k Y N)) k s[i].arms = N' s[i].id := by
  have hk := lvl_pos h
  have hm : s[i] ∈ s := List.getElem_mem hin
  have hin2 : ∀ x ∈ s[i].arms, s[i].id ∈ A x.chan := fun x hx => not_cut h hn ((atD_mem s _ _).2 ⟨s[i], hm, rfl, x, hx, rfl⟩)
  have e1 : lnI s i s[i].id (lvZ s (wyN k Y N)) k s[i].arms = lkD s[i] fun x => hoD (whoD s) A ids x.chan := by
    refine ln_lk fun x hx => ?_
    unfold lk1I
    rw [if_neg (by omega), hl_lvl hok h hi hin hn (fun e => by have := hin2 x hx; rw [e] at this; cases this)]
  rw [e1]
  cases hl : lkD s[i] fun x => hoD (whoD s) A ids x.chan with
  | some l =>
    obtain ⟨x, hx, hs⟩ := (lk_some s[i] _).1 (by rw [hl]; rfl)
    rw [hp.yes x.chan s[i].id hs (hin2 x hx) (by rw [hn]; rfl)]
    unfold opL
    rw [whoD_at hok _ hm, hl]
    rfl
  | none =>
    cases hN : N' s[i].id with
    | none => rfl
    | some l =>
      obtain ⟨_, _, c, h1, h2⟩ := hp.no s[i].id (by rw [hN]; simp)
      obtain ⟨a, ha, ea, x, hx, rfl⟩ := (atD_mem s c _).1 (lvl_sub h c _ h2)
      have : a = s[i] := by
        obtain ⟨m, hm2, rfl⟩ := List.mem_iff_getElem.1 ha
        have := st_ids hok hm2 hin ea
        subst this
        rfl
      subst this
      have := (lk_some s[i] fun x => hoD (whoD s) A ids x.chan).2 ⟨x, hx, h1⟩
      rw [hl] at this; cases this
end Go.Proofs.Ytjabdhmkibahlaa
