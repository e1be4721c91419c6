import Derived.Test.YtjabdhmkibahlaaCER
namespace Go.Proofs.Ytjabdhmkibahlaa
open Go.RowKit
set_option linter.unusedVariables false
set_option linter.unusedSimpArgs false

/-! ### who can be woken: the least set -/
theorem hoStep_keep (A : Int → List Int) (id : Int) (H : Int → Option Int) (x c : Int) (h : (H c).isSome = true) : (hoStep A id H x c).isSome = true := by
  unfold hoStep
  split
  · by_cases e : c = x
    · subst e; rw [upd_same]; rfl
    · rw [upd_other _ _ e]; exact h
  · exact h
theorem hoHeld_keep (A : Int → List Int) (id : Int) (c : Int) : ∀ (l : List Int) (H : Int → Option Int), (H c).isSome = true → (hoHeld A id H l c).isSome = true
  | [], H, h => h
  | x :: r, H, h => hoHeld_keep A id c r _ (hoStep_keep A id H x c h)
theorem hoHeld_has (A : Int → List Int) (id : Int) (c : Int) (hA : A c ≠ []) : ∀ (l : List Int) (H : Int → Option Int), c ∈ l → (hoHeld A id H l c).isSome = true
  | x :: r, H, h => by
    rcases List.mem_cons.1 h with rfl | h
    · refine hoHeld_keep A id c r _ ?_
      unfold hoStep
      split
      · rw [upd_same]; rfl
      · rename_i hn
        cases hH : (H c).isSome with
        | true => rfl
        | false => exact absurd (by rw [hH]; cases hc : A c with
            | nil => exact absurd hc hA
            | cons y t => rfl) hn
    · exact hoHeld_has A id c hA r _ h
theorem ho_has (f : Int → Ag) (A : Int → List Int) (c : Int) (hA : A c ≠ []) {ids : List Int} {id : Int} (hid : id ∈ ids) (hc : c ∈ (f id).held) : (hoD f A ids c).isSome = true := by
  have keep : ∀ (l : List Int) (H : Int → Option Int), (H c).isSome = true → (hoF f A H l c).isSome = true := by
    intro l
    induction l with
    | nil => intro H h; exact h
    | cons x r ih => intro H h; exact ih _ (hoHeld_keep A x c _ H h)
  have key : ∀ (l : List Int) (H : Int → Option Int), id ∈ l → (hoF f A H l c).isSome = true := by
    intro l
    induction l with
    | nil => intro H h; cases h
    | cons x r ih =>
      intro H h
      rcases List.mem_cons.1 h with rfl | h
      · exact keep r _ (hoHeld_has A id c hA _ H hc)
      · exact ih _ h
  exact key ids _ hid
/-- who can be woken -/
inductive Can (s : List Ag) : Int → Prop
  | first {id : Int} : (N0D s id).isSome = true → Can s id
  | more {j : Int} {a : Ag} {h : Hd} : Can s j → a ∈ s → h ∈ a.arms → h.chan ∈ (whoD s j).held → Can s a.id
theorem lvl_sub {s : List Ag} {k : Nat} {A : Int → List Int} {Y : Int → Option Wy} {N : Int → Option Lk} (h : Lvl (whoD s) (atD s) (N0D s) k A Y N) : ∀ c, ∀ x ∈ A c, x ∈ atD s c := by
  induction h with
  | one => exact fun c x h => h
  | step h1 hi hp ih =>
    intro c x hx
    unfold cutA at hx
    split at hx
    · cases hx
    · exact ih c x hx
theorem lvl_can {s : List Ag} {k : Nat} {A : Int → List Int} {Y : Int → Option Wy} {N : Int → Option Lk} (h : Lvl (whoD s) (atD s) (N0D s) k A Y N) : (∀ id, (N id).isSome = true → Can s id) ∧ ∀ id, (Y id).isSome = true → Can s id := by
  induction h with
  | one => exact ⟨fun id h => .first h, fun id h => by cases h⟩
  | @step k A Y N N' ids h1 hi hp ih =>
    refine ⟨fun id h => ?_, fun id h => ?_⟩
    · obtain ⟨_, _, c, h2, h3⟩ := hp.no id (by intro e; rw [e] at h; cases h)
      obtain ⟨a, ha, rfl, x, hx, rfl⟩ := (atD_mem s c id).1 (lvl_sub h1 c id h3)
      obtain ⟨j, hj, hc⟩ := ho_some _ _ _ _ h2
      exact .more (ih.1 j ((hi.2 j).1 hj)) ha hx hc
    · unfold wyN at h
      cases hn : N id with
      | some l => exact ih.1 id (by rw [hn]; rfl)
      | none => rw [hn] at h; exact ih.2 id h
/-- what a level has seen to -/
structure Seen (f : Int → Ag) (A0 : Int → List Int) (N0 : Int → Option Lk) (A : Int → List Int) (Y : Int → Option Wy) (N : Int → Option Lk) : Prop where
  fst : ∀ id, (N0 id).isSome = true → (Y id).isSome = true ∨ (N id).isSome = true
  hld : ∀ j, (Y j).isSome = true → ∀ c ∈ (f j).held, ∀ id ∈ A0 c, (Y id).isSome = true ∨ (N id).isSome = true
  cut : ∀ c, A c = A0 c ∨ ∀ id ∈ A0 c, (Y id).isSome = true ∨ (N id).isSome = true
theorem lvl_seen {f : Int → Ag} {A0 : Int → List Int} {N0 : Int → Option Lk} {k : Nat} {A : Int → List Int} {Y : Int → Option Wy} {N : Int → Option Lk} (h : Lvl f A0 N0 k A Y N) : Seen f A0 N0 A Y N := by
  induction h with
  | one => exact ⟨fun id h => .inr h, fun j h => (by cases h), fun c => .inl rfl⟩
  | @step k A Y N N' ids h1 hi hp ih =>
    have up : ∀ id, (Y id).isSome = true ∨ (N id).isSome = true → (wyN k Y N id).isSome = true := fun id h => by
      unfold wyN
      cases hn : N id with
      | some l => rfl
      | none =>
        rcases h with h | h
        · exact h
        · rw [hn] at h; cases h
    have now : ∀ c id, (hoD f A ids c).isSome = true → id ∈ A c → (wyN k Y N id).isSome = true ∨ (N' id).isSome = true := fun c id h2 h3 => by
      cases hy : (wyN k Y N id).isSome with
      | true => exact .inl rfl
      | false => exact .inr (by rw [hp.yes c id h2 h3 hy]; rfl)
    refine ⟨fun id h => .inl (up id (ih.fst id h)), fun j hj c hc id hid => ?_, fun c => ?_⟩
    · cases hn : N j with
      | none =>
        unfold wyN at hj
        rw [hn] at hj
        exact .inl (up id (ih.hld j hj c hc id hid))
      | some l =>
        rcases ih.cut c with e | e
        · rw [← e] at hid
          exact now c id (ho_has f A c (by intro h0; rw [h0] at hid; cases hid) ((hi.2 j).2 (by rw [hn]; rfl)) hc) hid
        · exact .inl (up id (e id hid))
    · rcases ih.cut c with e | e
      · cases hh : (hoD f A ids c).isSome with
        | true => exact .inr (fun id hid => now c id hh (by rw [e]; exact hid))
        | false => exact .inl (by unfold cutA; rw [hh]; exact e)
      · exact .inr (fun id hid => .inl (up id (e id hid)))
/-- WHO HAS A WAY CAN BE WOKEN, AND NOBODY ELSE -/
theorem full_can {s : List Ag} {Y : Int → Option Wy} (h : Full s Y) (id : Int) : (Y id).isSome = true ↔ Can s id := by
  obtain ⟨k, A, N, h1, h2⟩ := h
  refine ⟨(lvl_can h1).2 id, fun h => ?_⟩
  have hs := lvl_seen h1
  have off : ∀ id, (Y id).isSome = true ∨ (N id).isSome = true → (Y id).isSome = true := fun id h => by
    rcases h with h | h
    · exact h
    · rw [h2 id] at h; cases h
  induction h with
  | first h => exact off _ (hs.fst _ h)
  | @more j a x hj ha hx hc ih => exact off _ (hs.hld j ih _ hc _ ((atD_mem s _ _).2 ⟨a, ha, rfl, x, hx, rfl⟩))
end Go.Proofs.Ytjabdhmkibahlaa
namespace Go.Proofs.Ytjabdhmkibahlaa
open Go.RowKit
set_option linter.unusedVariables false
set_option linter.unusedSimpArgs false

/-! ### level 1, in plain words -/
theorem ou_some (H : Int → Option Int) (B : Hd → List Int) (s : List Ag) (id : Int) : (ouD H B s id).isSome = true ↔ ∃ a ∈ s, a.id = id ∧ (lkD a (wk1 H B a.id)).isSome = true := by
  have key : ∀ (s : List Ag) (O : Int → Option Lk), (s.foldl (ouStep H B) O id).isSome = true ↔ (O id).isSome = true ∨ ∃ a ∈ s, a.id = id ∧ (lkD a (wk1 H B a.id)).isSome = true := by
    intro s
    induction s with
    | nil => intro O; simp
    | cons a r ih =>
      intro O
      rw [List.foldl_cons, ih]
      have e : (ouStep H B O a id).isSome = true ↔ (O id).isSome = true ∨ (a.id = id ∧ (lkD a (wk1 H B a.id)).isSome = true) := by
        unfold ouStep
        cases hl : lkD a (wk1 H B a.id) with
        | none => simp
        | some l =>
          by_cases e : id = a.id
          · subst e; simp [upd_same]
          · simp only [upd_other _ _ e]
            constructor
            · exact .inl
            · rintro (h | ⟨h, _⟩)
              · exact h
              · exact absurd h.symm e
      rw [e]
      constructor
      · rintro ((h | h) | ⟨b, hb, h⟩)
        · exact .inl h
        · exact .inr ⟨a, List.mem_cons_self, h⟩
        · exact .inr ⟨b, List.mem_cons_of_mem _ hb, h⟩
      · rintro (h | ⟨b, hb, h⟩)
        · exact .inl (.inl h)
        · rcases List.mem_cons.1 hb with rfl | hb
          · exact .inl (.inr h)
          · exact .inr ⟨b, hb, h⟩
  have := key s (fun _ => none)
  simpa [ouD] using this
theorem lk_some (a : Ag) (wk : Hd → Option Int) : (lkD a wk).isSome = true ↔ ∃ h ∈ a.arms, (wk h).isSome = true := by
  unfold lkD
  rw [List.isSome_findSome?]
  simp
theorem wk_some (H : Int → Option Int) (B : Hd → List Int) (id : Int) (x : Hd) : (wk1 H B id x).isSome = true ↔ wldI x = true ∨ (H x.chan).isSome = true ∨ ∃ j ∈ B ⟨x.chan, !x.send⟩, j ≠ id := by
  unfold wk1
  cases hw : wldI x with
  | true => simp
  | false =>
    cases hh : H x.chan with
    | some i => simp
    | none => simp [otI, List.find?_isSome]
theorem haStep_mem (id : Int) (B : Hd → List Int) (y c : Hd) (x : Int) : x ∈ haStep id B y c ↔ x ∈ B c ∨ (x = id ∧ c = y ∧ y.chan ≠ 0) := by
  unfold haStep
  split
  · rename_i h
    by_cases e : c = y
    · subst e
      rw [updH_same, List.mem_append, List.mem_singleton]
      simp [h.1]
    · rw [updH_other _ _ e]
      simp [e]
  · rename_i h
    constructor
    · exact .inl
    · rintro (h1 | ⟨rfl, rfl, h1⟩)
      · exact h1
      · have : (B c).getLast? = some x := by
          by_cases e : (B c).getLast? = some x
          · exact e
          · exact absurd ⟨h1, e⟩ h
        exact List.mem_of_getLast? this
theorem ha_iff (s : List Ag) (c : Hd) (x : Int) : x ∈ haD s c ↔ c.chan ≠ 0 ∧ ∃ a ∈ s, a.id = x ∧ c ∈ a.arms := by
  have arms : ∀ (l : List Hd) (B : Hd → List Int) (id : Int), x ∈ haArms B id l c ↔ x ∈ B c ∨ (x = id ∧ c ∈ l ∧ c.chan ≠ 0) := by
    intro l
    induction l with
    | nil => intro B id; simp [haArms]
    | cons y r ih =>
      intro B id
      show x ∈ haArms (haStep id B y) id r c ↔ _
      rw [ih, haStep_mem, List.mem_cons]
      constructor
      · rintro ((h | ⟨h1, h2, h3⟩) | ⟨h1, h2, h3⟩)
        · exact .inl h
        · exact .inr ⟨h1, .inl h2, by rw [h2]; exact h3⟩
        · exact .inr ⟨h1, .inr h2, h3⟩
      · rintro (h | ⟨h1, h2 | h2, h3⟩)
        · exact .inl (.inl h)
        · exact .inl (.inr ⟨h1, h2, by rw [← h2]; exact h3⟩)
        · exact .inr ⟨h1, h2, h3⟩
  have key : ∀ (s : List Ag) (B : Hd → List Int), x ∈ haF B s c ↔ x ∈ B c ∨ (c.chan ≠ 0 ∧ ∃ a ∈ s, a.id = x ∧ c ∈ a.arms) := by
    intro s
    induction s with
    | nil => intro B; simp [haF]
    | cons a r ih =>
      intro B
      show x ∈ haF (haArms B a.id a.arms) r c ↔ _
      rw [ih, arms]
      constructor
      · rintro ((h | ⟨h1, h2, h3⟩) | ⟨h1, b, hb, h2⟩)
        · exact .inl h
        · exact .inr ⟨h3, a, List.mem_cons_self, h1.symm, h2⟩
        · exact .inr ⟨h1, b, List.mem_cons_of_mem _ hb, h2⟩
      · rintro (h | ⟨h1, b, hb, h2, h3⟩)
        · exact .inl (.inl h)
        · rcases List.mem_cons.1 hb with rfl | hb
          · exact .inl (.inr ⟨h2.symm, h3, h1⟩)
          · exact .inr ⟨h1, b, hb, h2, h3⟩
  have := key s (fun _ => [])
  simpa [haD] using this
/-- WHO CAN GO ON AT ONCE -/
theorem n0_some (s : List Ag) (id : Int) : (N0D s id).isSome = true ↔ ∃ a ∈ s, a.id = id ∧ ∃ x ∈ a.arms, wldI x = true ∨ (∃ j ∈ awD s, x.chan ∈ (whoD s j).held) ∨ (x.chan ≠ 0 ∧ ∃ b ∈ s, b.id ≠ id ∧ (⟨x.chan, !x.send⟩ : Hd) ∈ b.arms) := by
  unfold N0D
  rw [ou_some]
  constructor
  · rintro ⟨a, ha, rfl, h⟩
    obtain ⟨x, hx, h⟩ := (lk_some _ _).1 h
    refine ⟨a, ha, rfl, x, hx, ?_⟩
    rcases (wk_some _ _ _ _).1 h with h | h | ⟨j, hj, hne⟩
    · exact .inl h
    · obtain ⟨j, hj, hc⟩ := ho_some _ _ _ _ h
      exact .inr (.inl ⟨j, hj, hc⟩)
    · obtain ⟨h0, b, hb, rfl, hm⟩ := (ha_iff _ _ _).1 hj
      exact .inr (.inr ⟨h0, b, hb, hne, hm⟩)
  · rintro ⟨a, ha, rfl, x, hx, h⟩
    refine ⟨a, ha, rfl, (lk_some _ _).2 ⟨x, hx, (wk_some _ _ _ _).2 ?_⟩⟩
    rcases h with h | ⟨j, hj, hc⟩ | ⟨h0, b, hb, hne, hm⟩
    · exact .inl h
    · refine .inr (.inl (ho_has _ _ _ ?_ hj hc))
      have := (atD_mem s x.chan a.id).2 ⟨a, ha, rfl, x, hx, rfl⟩
      intro e
      rw [e] at this
      cases this
    · exact .inr (.inr ⟨b.id, (ha_iff _ _ _).2 ⟨h0, b, hb, rfl, hm⟩, hne⟩)
end Go.Proofs.Ytjabdhmkibahlaa
namespace Go.Proofs.Ytjabdhmkibahlaa
open Go.RowKit
set_option linter.unusedVariables false
set_option linter.unusedSimpArgs false

/-! ### more is never worse -/
theorem whoD_id (s : List Ag) (k : Int) : whoD s k = zA ∨ (whoD s k ∈ s ∧ (whoD s k).id = k) := by
  have key : ∀ (t : List Ag) (g : Int → Ag), (g k = zA ∨ (g k ∈ s ∧ (g k).id = k)) → (∀ a ∈ t, a ∈ s) → t.foldl (fun f a => upd f a.id a) g k = zA ∨ (t.foldl (fun f a => upd f a.id a) g k ∈ s ∧ (t.foldl (fun f a => upd f a.id a) g k).id = k) := by
    intro t
    induction t with
    | nil => intro g h _; exact h
    | cons a r ih =>
      intro g h ha
      refine ih (upd g a.id a) ?_ (fun b hb => ha b (List.mem_cons_of_mem _ hb))
      by_cases e : k = a.id
      · subst e; rw [upd_same]; exact .inr ⟨ha a List.mem_cons_self, rfl⟩
      · rw [upd_other _ _ e]; exact h
  exact key s _ (.inl rfl) (fun a h => h)
theorem aw_iff (s : List Ag) (j : Int) : j ∈ awD s ↔ ∃ a ∈ s, a.awake = true ∧ a.id = j := by
  unfold awD
  rw [List.mem_map]
  constructor
  · rintro ⟨a, h, rfl⟩
    exact ⟨a, (List.mem_filter.1 h).1, (List.mem_filter.1 h).2, rfl⟩
  · rintro ⟨a, h, h1, rfl⟩
    exact ⟨a, List.mem_filter.2 ⟨h, h1⟩, rfl⟩
/-- of every agent of the one state there is one of the other that has no less -/
def NoLess (s t : List Ag) : Prop := ∀ a ∈ s, ∃ b ∈ t, b.id = a.id ∧ (∀ c ∈ a.held, c ∈ b.held) ∧ ((∀ x ∈ a.arms, x ∈ b.arms) ∨ b.awake = true) ∧ (a.awake = true → b.awake = true)
theorem can_more {s t : List Ag} (hA : NoLess s t) (hs : ∀ a ∈ s, whoD s a.id = a) (ht : ∀ b ∈ t, whoD t b.id = b) (hok : ∀ a ∈ s, ∀ x ∈ a.arms, x.chan ≠ 0 → x.chan ∈ a.held) {id : Int} (h : Can s id) : Can t id ∨ id ∈ awD t := by
  induction h with
  | @first id h =>
    obtain ⟨a, ha, rfl, x, hx, h⟩ := (n0_some _ _).1 h
    obtain ⟨b, hb, hbi, hbh, hba, hbw⟩ := hA a ha
    rcases hba with hba | hba
    · left
      rw [← hbi]
      refine .first ((n0_some _ _).2 ⟨b, hb, rfl, x, hba x hx, ?_⟩)
      rcases h with h | ⟨j, hj, hc⟩ | ⟨h0, b0, hb0, hne, hm⟩
      · exact .inl h
      · obtain ⟨a2, ha2, hw2, rfl⟩ := (aw_iff _ _).1 hj
        rw [hs a2 ha2] at hc
        obtain ⟨b2, hb2, q1, q2, _, q4⟩ := hA a2 ha2
        exact .inr (.inl ⟨b2.id, (aw_iff _ _).2 ⟨b2, hb2, q4 hw2, rfl⟩, by rw [ht b2 hb2]; exact q2 _ hc⟩)
      · obtain ⟨b2, hb2, q1, q2, q3, _⟩ := hA b0 hb0
        rcases q3 with q3 | q3
        · exact .inr (.inr ⟨h0, b2, hb2, by rw [q1, hbi]; exact hne, q3 _ hm⟩)
        · exact .inr (.inl ⟨b2.id, (aw_iff _ _).2 ⟨b2, hb2, q3, rfl⟩, by rw [ht b2 hb2]; exact q2 _ (hok b0 hb0 ⟨x.chan, !x.send⟩ hm h0)⟩)
    · right
      exact (aw_iff _ _).2 ⟨b, hb, hba, hbi⟩
  | @more j a x hj ha hx hc ih =>
    obtain ⟨b, hb, hbi, hbh, hba, hbw⟩ := hA a ha
    rcases hba with hba | hba
    · left
      have hc' : x.chan ∈ (whoD t j).held := by
        rcases whoD_id s j with e | ⟨e1, e2⟩
        · rw [e] at hc; cases hc
        · obtain ⟨b2, hb2, q1, q2, _, _⟩ := hA _ e1
          rw [e2] at q1
          rw [← q1, ht b2 hb2]
          exact q2 _ hc
      rw [← hbi]
      rcases ih with ih | ih
      · exact .more ih hb (hba x hx) hc'
      · exact .first ((n0_some _ _).2 ⟨b, hb, rfl, x, hba x hx, .inr (.inl ⟨j, ih, hc'⟩)⟩)
    · right
      exact (aw_iff _ _).2 ⟨b, hb, hba, hbi⟩
end Go.Proofs.Ytjabdhmkibahlaa
namespace Go.Proofs.Ytjabdhmkibahlaa
open Go.RowKit
set_option linter.unusedVariables false
set_option linter.unusedSimpArgs false

/-! ### who is dead, in plain words -/
theorem whoD_at {s : List Ag} (hok : stOk s = true) : ∀ a ∈ s, whoD s a.id = a := by
  have h2 : (s.map (·.id)).Pairwise (· < ·) := by
    have := hok
    unfold stOk at this
    rw [Bool.and_eq_true] at this
    exact (ags_lt s _ this.2).2
  have hout : ∀ (r : List Ag) (g : Int → Ag) (k : Int), (∀ b ∈ r, b.id ≠ k) → r.foldl (fun f a => upd f a.id a) g k = g k := by
    intro r
    induction r with
    | nil => intro g k _; rfl
    | cons c r ih2 =>
      intro g k hk
      rw [List.foldl_cons, ih2 _ _ (fun b hb => hk b (List.mem_cons_of_mem _ hb)), upd_other _ _ (fun e => hk c List.mem_cons_self e.symm)]
  have key : ∀ (s : List Ag) (g : Int → Ag), (s.map (·.id)).Pairwise (· < ·) → ∀ a ∈ s, s.foldl (fun f a => upd f a.id a) g a.id = a := by
    intro s
    induction s with
    | nil => intro g _ a ha; cases ha
    | cons b r ih =>
      intro g hp a ha
      rw [List.map_cons, List.pairwise_cons] at hp
      rw [List.foldl_cons]
      rcases List.mem_cons.1 ha with rfl | ha
      · rw [hout r _ _ (fun b hb e => by
          have := hp.1 b.id (List.mem_map.2 ⟨b, hb, rfl⟩)
          omega), upd_same]
      · exact ih _ hp.2 a ha
  exact key s _ h2
theorem arm_held {s : List Ag} (hok : stOk s = true) : ∀ a ∈ s, ∀ x ∈ a.arms, x.chan ≠ 0 → x.chan ∈ a.held := fun a ha x hx h0 => by
  unfold stOk at hok
  rw [Bool.and_eq_true] at hok
  have h1 := ags_all s _ hok.2 a ha
  unfold agOk at h1
  rw [Bool.and_eq_true, List.all_eq_true] at h1
  have h2 := h1.2 x hx
  unfold armOk at h2
  simpa [h0] using h2
/-- the dead: those who wait and cannot be woken -/
theorem dd_mem {s : List Ag} {Y : Int → Option Wy} (h : Full s Y) (id : Int) : id ∈ ddL Y s ↔ ∃ a ∈ s, a.id = id ∧ a.awake = false ∧ ¬ Can s id := by
  unfold ddL
  rw [List.mem_map]
  constructor
  · rintro ⟨a, h1, rfl⟩
    obtain ⟨h2, h3⟩ := List.mem_filter.1 h1
    unfold ddA at h3
    rw [Bool.and_eq_true] at h3
    refine ⟨a, h2, rfl, by simpa using h3.2, fun hc => ?_⟩
    have := (full_can h a.id).2 hc
    rw [this] at h3
    exact absurd h3.1 (by simp)
  · rintro ⟨a, h1, rfl, h2, h3⟩
    refine ⟨a, List.mem_filter.2 ⟨h1, ?_⟩, rfl⟩
    unfold ddA
    cases hy : (Y a.id).isSome with
    | true => exact absurd ((full_can h a.id).1 hy) h3
    | false => simp [h2]
/-- MORE IS NEVER WORSE -/
theorem dead_more {s t : List Ag} {Y Z : Int → Option Wy} (hs : stOk s = true) (ht : stOk t = true) (hY : Full s Y) (hZ : Full t Z) (h : NoLess s t) {id : Int} (hid : id ∈ ddL Z t) : id ∈ ddL Y s ∨ id ∉ idsK s := by
  obtain ⟨b, hb, rfl, hw, hc⟩ := (dd_mem hZ id).1 hid
  by_cases hm : b.id ∈ idsK s
  · left
    obtain ⟨a, ha, e⟩ := List.mem_map.1 hm
    have hn : b.id ∉ awD t := fun h => by
      obtain ⟨b2, hb2, q1, q2⟩ := (aw_iff _ _).1 h
      have e1 := whoD_at ht b2 hb2
      rw [q2, whoD_at ht b hb] at e1
      rw [← e1, hw] at q1
      cases q1
    refine (dd_mem hY _).2 ⟨a, ha, e, ?_, fun h2 => ?_⟩
    · cases hwa : a.awake with
      | false => rfl
      | true =>
        obtain ⟨b2, hb2, q1, _, _, q4⟩ := h a ha
        exact absurd ((aw_iff _ _).2 ⟨b2, hb2, q4 hwa, q1.trans e⟩) hn
    · rcases can_more h (whoD_at hs) (whoD_at ht) (arm_held hs) h2 with h3 | h3
      · exact hc h3
      · exact hn h3
  · exact .inr hm
end Go.Proofs.Ytjabdhmkibahlaa
namespace Go.Proofs.Ytjabdhmkibahlaa
open Go.RowKit
set_option linter.unusedVariables false
set_option linter.unusedSimpArgs false

/-! ### arms the other way round -/
def turnA (a : Ag) : Ag := ⟨a.id, a.awake, a.arms.reverse, a.held⟩
theorem turn_ags : ∀ (s : List Ag) (k : Int), agsF k (s.map turnA) = agsF k s
  | [], k => rfl
  | a :: r, k => by
    rw [List.map_cons, agsF, agsF, show (turnA a).id = a.id from rfl, turn_ags r a.id]
    congr 1
    congr 1
    simp [agOk, turnA, List.all_reverse]
theorem turn_ok (s : List Ag) : stOk (s.map turnA) = stOk s := by
  unfold stOk
  rw [List.length_map, turn_ags]
theorem turn_less (s : List Ag) : NoLess s (s.map turnA) := fun a ha => ⟨turnA a, List.mem_map.2 ⟨a, ha, rfl⟩, rfl, fun c h => h, .inl (fun x h => List.mem_reverse.2 h), fun h => h⟩
theorem turn_more (s : List Ag) : NoLess (s.map turnA) s := fun b hb => by
  obtain ⟨a, ha, rfl⟩ := List.mem_map.1 hb
  exact ⟨a, ha, rfl, fun c h => h, .inl (fun x h => List.mem_reverse.1 h), fun h => h⟩
/-- IN WHICH ORDER ARMS STAND IS NOT SEEN -/
theorem dead_turn {s : List Ag} {Y Z : Int → Option Wy} (hok : stOk s = true) (hY : Full s Y) (hZ : Full (s.map turnA) Z) : ddL Z (s.map turnA) = ddL Y s := by
  have hok' : stOk (s.map turnA) = true := (turn_ok s).trans hok
  have key : ∀ a ∈ s, ddA Z (turnA a) = ddA Y a := fun a ha => by
    unfold ddA
    cases hw : a.awake with
    | true => simp [turnA, hw]
    | false =>
      have n1 : a.id ∉ awD s := fun h => by
        obtain ⟨b2, hb2, q1, q2⟩ := (aw_iff _ _).1 h
        have e1 := whoD_at hok b2 hb2
        rw [q2, whoD_at hok a ha] at e1
        rw [← e1, hw] at q1
        cases q1
      have n2 : a.id ∉ awD (s.map turnA) := fun h => by
        obtain ⟨b2, hb2, q1, q2⟩ := (aw_iff _ _).1 h
        obtain ⟨a2, ha2, rfl⟩ := List.mem_map.1 hb2
        exact n1 ((aw_iff _ _).2 ⟨a2, ha2, q1, q2⟩)
      have e : (Z a.id).isSome = (Y a.id).isSome := by
        rw [Bool.eq_iff_iff, full_can hZ, full_can hY]
        constructor
        · intro h
          rcases can_more (turn_more s) (whoD_at hok') (whoD_at hok) (arm_held hok') h with h | h
          · exact h
          · exact absurd h n1
        · intro h
          rcases can_more (turn_less s) (whoD_at hok) (whoD_at hok') (arm_held hok) h with h | h
          · exact h
          · exact absurd h n2
      show (!(Z a.id).isSome && !a.awake) = _
      rw [e, hw]
  unfold ddL
  have go : ∀ l : List Ag, (∀ a ∈ l, a ∈ s) → ((l.map turnA).filter (ddA Z)).map (·.id) = (l.filter (ddA Y)).map (·.id) := by
    intro l
    induction l with
    | nil => intro _; rfl
    | cons a r ih =>
      intro h
      have ih := ih (fun b hb => h b (List.mem_cons_of_mem _ hb))
      rw [List.map_cons, List.filter_cons, List.filter_cons, key a (h a List.mem_cons_self)]
      split
      · rw [List.map_cons, List.map_cons, ih]; rfl
      · exact ih
  exact go s (fun a h => h)
/-- where all receive, and nobody is awake, nobody can be woken -/
theorem can_none {s : List Ag} (h1 : ∀ a ∈ s, a.awake = false) (h2 : ∀ a ∈ s, ∀ x ∈ a.arms, wldI x = false ∧ x.send = false) (id : Int) : ¬ Can s id := fun h => by
  induction h with
  | first h =>
    obtain ⟨a, ha, _, x, hx, h⟩ := (n0_some _ _).1 h
    rcases h with h | ⟨j, hj, _⟩ | ⟨_, b, hb, _, hm⟩
    · rw [(h2 a ha x hx).1] at h; cases h
    · obtain ⟨a2, ha2, hw, _⟩ := (aw_iff _ _).1 hj
      rw [h1 a2 ha2] at hw; cases hw
    · have := (h2 b hb _ hm).2
      simp only at this
      rw [(h2 a ha x hx).2] at this
      cases this
  | more _ _ _ _ ih => exact ih
theorem dead_all {s : List Ag} {Y : Int → Option Wy} (hY : Full s Y) (h1 : ∀ a ∈ s, a.awake = false) (h2 : ∀ a ∈ s, ∀ x ∈ a.arms, wldI x = false ∧ x.send = false) : ddL Y s = idsK s := by
  unfold ddL idsK
  rw [List.filter_eq_self.2]
  intro a ha
  unfold ddA
  cases hy : (Y a.id).isSome with
  | true => exact absurd ((full_can hY _).1 hy) (can_none h1 h2 _)
  | false => simp [h1 a ha]
end Go.Proofs.Ytjabdhmkibahlaa
