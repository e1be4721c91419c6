import Derived.Test.YtjabdhmkibahlaaCEY
import Derived.Test.YtjabdhmkibahlaaCGIp
namespace Go.Proofs.Ytjabdhmkibahlaa
open Go.RowKit
set_option linter.unusedVariables false
set_option linter.unusedSimpArgs false

/-! ### a link changes nobody else's fate -/
theorem aw_not {s : List Ag} (hok : stOk s = true) {a : Ag} (ha : a ∈ s) (hw : a.awake = false) : a.id ∉ awD s := fun h => by
  obtain ⟨b2, hb2, q1, q2⟩ := (aw_iff _ _).1 h
  have e1 := whoD_at hok b2 hb2
  rw [q2, whoD_at hok a ha] at e1
  rw [← e1, hw] at q1
  cases q1
theorem link_can {s : List Ag} (hok : stOk s = true) {l : Lk} (h : l ∈ linksI s) : Can s l.woken ∧ ∀ b ∈ s, b.id = l.waker → b.awake = true ∨ Can s l.waker := by
  obtain ⟨i, hi, h1, h2, h3, h4, h5, h6⟩ := link_parts hok h
  have hmi : s[i] ∈ s := List.getElem_mem hi
  rcases List.mem_cons.1 h5 with e5 | h5
  · have hw := wakes_of h6
    rw [e5, who_world hok] at hw
    refine ⟨?_, fun b hb e => by have := (st_all hok b hb).2; omega⟩
    rw [h1]
    refine .first ((n0_some _ _).2 ⟨s[i], hmi, rfl, ?_⟩)
    rcases hw with ⟨g1, _⟩ | ⟨g1, g2⟩ | ⟨g1, g2⟩
    · cases (show (standI wA l.chan).awake = false from waitI_a _ l.chan).symm.trans g1
    · obtain ⟨x, x1, x2, x3, x4⟩ := (waitI_s _ _).1 g1
      obtain ⟨y, y1, y2, y3, y4⟩ := (waitI_r _ _).1 g2
      have hx : l.chan = 1 := by
        rcases List.mem_cons.1 x1 with rfl | x1
        · exact x3.symm
        · rcases List.mem_cons.1 x1 with rfl | x1
          · cases x4
          · cases x1
      exact ⟨y, y1, .inl (by unfold wldI; rw [y3, y4, hx]; rfl)⟩
    · obtain ⟨x, x1, x2, x3, x4⟩ := (waitI_r _ _).1 g1
      obtain ⟨y, y1, y2, y3, y4⟩ := (waitI_s _ _).1 g2
      have hx : l.chan = 2 := by
        rcases List.mem_cons.1 x1 with rfl | x1
        · cases x4
        · rcases List.mem_cons.1 x1 with rfl | x1
          · exact x3.symm
          · cases x1
      exact ⟨y, y1, .inl (by unfold wldI; rw [y3, y4, hx]; rfl)⟩
  · obtain ⟨b, hb, hbe⟩ := List.mem_map.1 h5
    obtain ⟨j, hj, rfl⟩ := List.mem_iff_getElem.1 hb
    have hji : s[j].id ≠ s[i].id := by rw [hbe]; exact h2
    have hw := wakes_of h6
    rw [← hbe, who_at hok j hj] at hw
    unfold standI at hw
    have huniq : ∀ b ∈ s, b.id = l.waker → b = s[j] := fun b hb' e => by
      have e1 := whoD_at hok b hb'
      rw [e, ← hbe, whoD_at hok s[j] hb] at e1
      exact e1.symm
    cases hx : s[j].awake with
    | true =>
      rw [hx, if_pos rfl] at hw
      refine ⟨?_, fun b hb' e => .inl (by rw [huniq b hb' e]; exact hx)⟩
      rcases hw with ⟨g1, g2⟩ | ⟨g1, _⟩ | ⟨g1, _⟩
      · have g1' : l.chan ∈ s[j].held := by simpa using g1
        obtain ⟨h0, hh0, hc0, hc1⟩ := on_some.1 h3
        rw [h1]
        exact .first ((n0_some _ _).2 ⟨s[i], hmi, rfl, h0, hh0, .inr (.inl ⟨s[j].id, (aw_iff _ _).2 ⟨s[j], hb, hx, rfl⟩, by rw [whoD_at hok _ hb, hc1]; exact g1'⟩)⟩)
      · cases g1
      · cases g1
    | false =>
      rw [hx, if_neg (by simp)] at hw
      have key : ∃ x ∈ s[j].arms, ∃ y ∈ s[i].arms, x.chan ≠ 0 ∧ x.chan = l.chan ∧ y.chan = l.chan ∧ x.send = !y.send := by
        rcases hw with ⟨g1, _⟩ | ⟨g1, g2⟩ | ⟨g1, g2⟩
        · rw [waitI_a] at g1; cases g1
        · obtain ⟨x, x1, x2, x3, x4⟩ := (waitI_s _ _).1 g1
          obtain ⟨y, y1, y2, y3, y4⟩ := (waitI_r _ _).1 g2
          exact ⟨x, x1, y, y1, x2, x3, y3, by rw [x4, y4]; rfl⟩
        · obtain ⟨x, x1, x2, x3, x4⟩ := (waitI_r _ _).1 g1
          obtain ⟨y, y1, y2, y3, y4⟩ := (waitI_s _ _).1 g2
          exact ⟨x, x1, y, y1, x2, x3, y3, by rw [x4, y4]; rfl⟩
      obtain ⟨⟨xc, xs⟩, hx1, ⟨yc, ys⟩, hy1, k1, k2, k3, k4⟩ := key
      simp only at k1 k2 k3 k4
      subst k2 k4
      subst k3
      refine ⟨?_, fun b hb' e => .inr ?_⟩
      · rw [h1]
        exact .first ((n0_some _ _).2 ⟨s[i], hmi, rfl, _, hy1, .inr (.inr ⟨k1, s[j], hb, hji, hx1⟩)⟩)
      · rw [← hbe]
        exact .first ((n0_some _ _).2 ⟨s[j], hb, rfl, _, hx1, .inr (.inr ⟨k1, s[i], hmi, hji.symm, by simpa using hy1⟩)⟩)
theorem took_mem {s : List Ag} {l : Lk} {b : Ag} (hb : b ∈ s.map (tkA l)) : ∃ a ∈ s, b = tkA l a ∧ b.id = a.id ∧ b.held = a.held ∧ (∀ x ∈ b.arms, x ∈ a.arms) ∧ (b.awake = true → a.awake = true ∨ a.id = l.waker ∨ a.id = l.woken) ∧ (b.awake = false → b = a) := by
  obtain ⟨a, ha, rfl⟩ := List.mem_map.1 hb
  refine ⟨a, ha, rfl, tkA_id l a, tkA_held l a, ?_, ?_, ?_⟩
  · unfold tkA
    split
    · intro x hx; cases hx
    · exact fun x hx => hx
  · unfold tkA
    split
    · rename_i e; exact fun _ => .inr e
    · exact .inl
  · unfold tkA
    split
    · intro e; cases e
    · exact fun _ => rfl
theorem took_less (s : List Ag) (l : Lk) : NoLess s (s.map (tkA l)) := fun a ha => ⟨tkA l a, List.mem_map.2 ⟨a, ha, rfl⟩, tkA_id l a, fun c h => by rw [tkA_held]; exact h, by
  unfold tkA
  split
  · exact .inr rfl
  · exact .inl (fun x h => h), by
  unfold tkA
  split
  · exact fun _ => rfl
  · exact fun h => h⟩
/-- whoever can be woken behind a link could be woken ahead of it -/
theorem took_can {s : List Ag} (hok : stOk s = true) {l : Lk} (h : l ∈ linksI s) {id : Int} (hc : Can (s.map (tkA l)) id) : Can s id := by
  have hok' := took_ok l hok
  have hlc := link_can hok h
  have hheld : ∀ j, (whoD (s.map (tkA l)) j).held = (whoD s j).held := fun j => by
    rcases whoD_id (s.map (tkA l)) j with e | ⟨e1, e2⟩
    · rcases whoD_id s j with f | ⟨f1, f2⟩
      · rw [e, f]
      · have hm : tkA l (whoD s j) ∈ s.map (tkA l) := List.mem_map.2 ⟨_, f1, rfl⟩
        have e1 := whoD_at hok' _ hm
        rw [tkA_id, f2] at e1
        rw [e1, tkA_held]
    · obtain ⟨a, ha, _, q1, q2, _⟩ := took_mem e1
      rw [q2]
      rw [e2] at q1
      rw [q1, whoD_at hok a ha]
  induction hc with
  | @first id hf =>
    obtain ⟨b, hb, rfl, x, hx, hf⟩ := (n0_some _ _).1 hf
    obtain ⟨a, ha, _, q1, q2, q3, _⟩ := took_mem hb
    rw [q1]
    rcases hf with hf | ⟨j, hj, hm⟩ | ⟨h0, b0, hb0, hne, hm⟩
    · exact .first ((n0_some _ _).2 ⟨a, ha, rfl, x, q3 x hx, .inl hf⟩)
    · rw [hheld] at hm
      obtain ⟨b2, hb2, g1, rfl⟩ := (aw_iff _ _).1 hj
      obtain ⟨a2, ha2, _, r1, r2, _, r3, _⟩ := took_mem hb2
      rw [r1] at hm
      have hcase : a2.awake = true ∨ Can s a2.id := by
        rcases r3 g1 with g | g | g
        · exact .inl g
        · rcases hlc.2 a2 ha2 g with g' | g'
          · exact .inl g'
          · rw [← g] at g'; exact .inr g'
        · rw [g]; exact .inr hlc.1
      rcases hcase with g | g
      · exact .first ((n0_some _ _).2 ⟨a, ha, rfl, x, q3 x hx, .inr (.inl ⟨a2.id, (aw_iff _ _).2 ⟨a2, ha2, g, rfl⟩, hm⟩)⟩)
      · exact .more g ha (q3 x hx) hm
    · obtain ⟨a2, ha2, _, r1, r2, r3, _⟩ := took_mem hb0
      exact .first ((n0_some _ _).2 ⟨a, ha, rfl, x, q3 x hx, .inr (.inr ⟨h0, a2, ha2, by rw [← r1, ← q1]; exact hne, r3 _ hm⟩)⟩)
  | @more j b x hj hb hx hm ih =>
    obtain ⟨a, ha, _, q1, q2, q3, _⟩ := took_mem hb
    rw [hheld] at hm
    rw [q1]
    exact .more ih ha (q3 x hx) hm
/-- THE DEAD STAY THE SAME -/
theorem dead_take {s : List Ag} (hok : stOk s = true) {l : Lk} (h : l ∈ linksI s) {Y Z : Int → Option Wy} (hY : Full s Y) (hZ : Full (s.map (tkA l)) Z) : ddL Z (s.map (tkA l)) = ddL Y s := by
  have hok' := took_ok l hok
  have key : ∀ a ∈ s, ddA Z (tkA l a) = ddA Y a := fun a ha => by
    have hm : tkA l a ∈ s.map (tkA l) := List.mem_map.2 ⟨a, ha, rfl⟩
    obtain ⟨a', ha', _, q1, q2, q3, q4, q5⟩ := took_mem hm
    unfold ddA
    rw [tkA_id]
    cases hw : a.awake with
    | true =>
      have : (tkA l a).awake = true := by unfold tkA; split <;> simp [hw]
      simp [this]
    | false =>
      cases hw2 : (tkA l a).awake with
      | true =>
        have hcan : Can s a.id := by
          rcases q4 hw2 with g | g | g
          · rw [tkA_id] at q1
            have e1 := whoD_at hok a' ha'
            rw [← q1, whoD_at hok a ha] at e1
            rw [← e1, hw] at g; cases g
          · rw [tkA_id] at q1
            rcases (link_can hok h).2 a ha (by rw [q1]; exact g) with g' | g'
            · rw [hw] at g'; cases g'
            · rw [← g, ← q1] at g'; exact g'
          · rw [tkA_id] at q1
            have := (link_can hok h).1
            rw [← g, ← q1] at this; exact this
        have := (full_can hY a.id).2 hcan
        simp [this]
      | false =>
        have e : (Z a.id).isSome = (Y a.id).isSome := by
          rw [Bool.eq_iff_iff, full_can hZ, full_can hY]
          constructor
          · exact took_can hok h
          · intro hc
            rcases can_more (took_less s l) (whoD_at hok) (whoD_at hok') (arm_held hok) hc with g | g
            · exact g
            · have := aw_not hok' hm hw2
              rw [tkA_id] at this
              exact absurd g this
        rw [e]
  unfold ddL
  have go : ∀ r : List Ag, (∀ a ∈ r, a ∈ s) → ((r.map (tkA l)).filter (ddA Z)).map (·.id) = (r.filter (ddA Y)).map (·.id) := by
    intro r
    induction r with
    | nil => intro _; rfl
    | cons a r ih =>
      intro h
      have ih := ih (fun b hb => h b (List.mem_cons_of_mem _ hb))
      rw [List.map_cons, List.filter_cons, List.filter_cons, key a (h a List.mem_cons_self)]
      split
      · rw [List.map_cons, List.map_cons, ih, tkA_id]
      · exact ih
  exact go s (fun a h => h)
end Go.Proofs.Ytjabdhmkibahlaa
namespace Go.Proofs.Ytjabdhmkibahlaa
open Go.RowKit
set_option linter.unusedVariables false
set_option linter.unusedSimpArgs false

/-! ### ways, in plain words -/
theorem ho_full (f : Int → Ag) (A : Int → List Int) (ids : List Int) (c i : Int) (h : hoD f A ids c = some i) : i ∈ ids ∧ c ∈ (f i).held := by
  have step : ∀ (id : Int) (l : List Int) (H : Int → Option Int), (hoHeld A id H l c = some i) → H c = some i ∨ (i = id ∧ c ∈ l) := by
    intro id l
    induction l with
    | nil => intro H h; exact .inl h
    | cons x r ih =>
      intro H h
      rcases ih (hoStep A id H x) h with h | h
      · unfold hoStep at h
        split at h
        · by_cases e : c = x
          · subst e; rw [upd_same] at h; cases h; exact .inr ⟨rfl, List.mem_cons_self⟩
          · rw [upd_other _ _ e] at h; exact .inl h
        · exact .inl h
      · exact .inr ⟨h.1, List.mem_cons_of_mem _ h.2⟩
  have key : ∀ (ids : List Int) (H : Int → Option Int), hoF f A H ids c = some i → H c = some i ∨ (i ∈ ids ∧ c ∈ (f i).held) := by
    intro ids
    induction ids with
    | nil => intro H h; exact .inl h
    | cons x r ih =>
      intro H h
      rcases ih (hoHeld A x H (f x).held) h with h | h
      · rcases step x _ H h with h | ⟨h, h'⟩
        · exact .inl h
        · exact .inr ⟨by rw [h]; exact List.mem_cons_self, by rw [h]; exact h'⟩
      · exact .inr ⟨List.mem_cons_of_mem _ h.1, h.2⟩
  rcases key ids _ h with h | h
  · cases h
  · exact h
theorem ou_at {s : List Ag} (hok : stOk s = true) (H : Int → Option Int) (B : Hd → List Int) {a : Ag} (ha : a ∈ s) : ouD H B s a.id = lkD a (wk1 H B a.id) := by
  have hout : ∀ (r : List Ag) (O : Int → Option Lk) (k : Int), (∀ b ∈ r, b.id ≠ k) → r.foldl (ouStep H B) O k = O k := by
    intro r
    induction r with
    | nil => intro O k _; rfl
    | cons c r ih2 =>
      intro O k hk
      rw [List.foldl_cons, ih2 _ _ (fun b hb => hk b (List.mem_cons_of_mem _ hb))]
      unfold ouStep
      cases hl : lkD c (wk1 H B c.id) with
      | none => rfl
      | some l => exact upd_other _ _ (fun e => hk c List.mem_cons_self e.symm)
  have key : ∀ (r : List Ag) (O : Int → Option Lk), (r.map (·.id)).Pairwise (· < ·) → a ∈ r → O a.id = none → r.foldl (ouStep H B) O a.id = lkD a (wk1 H B a.id) := by
    intro r
    induction r with
    | nil => intro O _ h; cases h
    | cons b r ih =>
      intro O hp h h0
      rw [List.map_cons, List.pairwise_cons] at hp
      rw [List.foldl_cons]
      rcases List.mem_cons.1 h with rfl | h
      · rw [hout r _ _ (fun b hb e => by
          have := hp.1 b.id (List.mem_map.2 ⟨b, hb, rfl⟩)
          omega)]
        unfold ouStep
        cases hl : lkD a (wk1 H B a.id) with
        | none => exact h0
        | some l => exact upd_same _ _ _
      · refine ih _ hp.2 h ?_
        have hlt := hp.1 a.id (List.mem_map.2 ⟨a, h, rfl⟩)
        unfold ouStep
        cases hl : lkD b (wk1 H B b.id) with
        | none => exact h0
        | some l => exact (upd_other _ _ (by omega)).trans h0
  exact key s _ (st_lt hok) ha rfl
theorem n0_parts {s : List Ag} (hok : stOk s = true) {id : Int} {l : Lk} (h : N0D s id = some l) : ∃ a ∈ s, a.id = id ∧ l.woken = id ∧ ∃ x ∈ a.arms, l.chan = x.chan ∧ ((wldI x = true ∧ l.waker = -1) ∨ (∃ b ∈ s, b.awake = true ∧ b.id = l.waker ∧ x.chan ∈ b.held) ∨ (x.chan ≠ 0 ∧ ∃ b ∈ s, b.id = l.waker ∧ b.id ≠ id ∧ (⟨x.chan, !x.send⟩ : Hd) ∈ b.arms)) := by
  have hm : id ∈ idsK s := ou_mem _ _ s id (by show N0D s id ≠ none; rw [h]; simp)
  obtain ⟨a, ha, rfl⟩ := List.mem_map.1 hm
  have h1 : lkD a (wk1 (hoD (whoD s) (atD s) (awD s)) (haD s) a.id) = some l := (ou_at hok _ _ ha).symm.trans h
  obtain ⟨x, hx, hw, h2, h3⟩ := lkd_wk h1
  refine ⟨a, ha, rfl, h2, x, hx, h3, ?_⟩
  unfold wk1 at hw
  split at hw
  · rename_i hwl
    exact .inl ⟨hwl, (Option.some.inj hw).symm⟩
  · cases hH : hoD (whoD s) (atD s) (awD s) x.chan with
    | some i =>
      rw [hH] at hw
      cases hw
      obtain ⟨g1, g2⟩ := ho_full _ _ _ _ _ hH
      obtain ⟨b, hb, e1, e2⟩ := (aw_iff _ _).1 g1
      rw [← e2, whoD_at hok b hb] at g2
      exact .inr (.inl ⟨b, hb, e1, e2, g2⟩)
    | none =>
      rw [hH] at hw
      simp only [otI] at hw
      have g1 := List.mem_of_find?_eq_some hw
      have g2 := List.find?_some hw
      obtain ⟨g3, b, hb, e1, e2⟩ := (ha_iff _ _ _).1 g1
      exact .inr (.inr ⟨g3, b, hb, e1, by rw [e1]; simpa using g2, e2⟩)
/-- where a way comes from -/
def From (s : List Ag) (Y : Int → Option Wy) (k : Nat) (id : Int) (l : Lk) : Prop :=
  l.woken = id ∧ ((k = 1 ∧ N0D s id = some l) ∨ ∃ j : Nat, 1 ≤ j ∧ k = j + 1 ∧ ∃ l', Y l.waker = some ((j : Int), l') ∧ l.chan ∈ (whoD s l.waker).held ∧ ∃ x ∈ (whoD s id).arms, x.chan = l.chan)
theorem From.up {s : List Ag} {Y Y' : Int → Option Wy} {k : Nat} {id : Int} {l : Lk} (h : From s Y k id l) (hY : ∀ i y, Y i = some y → Y' i = some y) : From s Y' k id l := by
  refine ⟨h.1, ?_⟩
  rcases h.2 with h | ⟨j, h1, h2, l', h3, h4⟩
  · exact .inl h
  · exact .inr ⟨j, h1, h2, l', hY _ _ h3, h4⟩
structure Ways (s : List Ag) (Y : Int → Option Wy) : Prop where
  one : ∀ id y, Y id = some y → ∃ k : Nat, 1 ≤ k ∧ y.1 = (k : Int) ∧ From s Y k id y.2
  fst : ∀ id l, N0D s id = some l → Y id = none ∨ Y id = some (1, l)
theorem lvl_ways {s : List Ag} (hok : stOk s = true) {k : Nat} {A : Int → List Int} {Y : Int → Option Wy} {N : Int → Option Lk} (h : Lvl (whoD s) (atD s) (N0D s) k A Y N) : 1 ≤ k ∧ (∀ id y, Y id = some y → ∃ k : Nat, 1 ≤ k ∧ y.1 = (k : Int) ∧ From s Y k id y.2) ∧ ∀ id l, N id = some l → Y id = none ∧ From s Y k id l := by
  induction h with
  | one => exact ⟨Nat.le_refl _, (fun id y h => by cases h), fun id l h => ⟨rfl, by obtain ⟨a, ha, e, e2, _⟩ := n0_parts hok h; exact e2, .inl ⟨rfl, h⟩⟩⟩
  | @step k A Y N N' ids h1 hi hp ih =>
    obtain ⟨hk, i1, i2⟩ := ih
    have up : ∀ i y, Y i = some y → wyN (k : Int) Y N i = some y := fun i y hy => by
      unfold wyN
      cases hn : N i with
      | none => exact hy
      | some l => have := (i2 i l hn).1; rw [hy] at this; cases this
    refine ⟨by omega, fun id y hy => ?_, fun id l hl => ?_⟩
    · unfold wyN at hy
      cases hn : N id with
      | some l =>
        rw [hn] at hy
        cases hy
        exact ⟨k, hk, rfl, (i2 id l hn).2.up up⟩
      | none =>
        rw [hn] at hy
        obtain ⟨k', q1, q2, q3⟩ := i1 id y hy
        exact ⟨k', q1, q2, q3.up up⟩
    · obtain ⟨e, hy, c, hc, hid⟩ := hp.no id (by rw [hl]; simp)
      rw [hl] at e
      cases e
      have hnone : wyN (k : Int) Y N id = none := by
        cases hx : wyN (k : Int) Y N id with
        | none => rfl
        | some y => rw [hx] at hy; cases hy
      refine ⟨hnone, ?_⟩
      obtain ⟨a, ha, hae, x0, hx0, hxc⟩ := (atD_mem s c id).1 (lvl_sub h1 c id hid)
      have hwho : whoD s id = a := by rw [← hae]; exact whoD_at hok a ha
      have hsome : (lkD (whoD s id) (fun h => hoD (whoD s) A ids h.chan)).isSome = true := (lk_some _ _).2 ⟨x0, by rw [hwho]; exact hx0, by rw [hxc]; exact hc⟩
      unfold opL lk0
      cases hlk : lkD (whoD s id) (fun h => hoD (whoD s) A ids h.chan) with
      | none => rw [hlk] at hsome; cases hsome
      | some l0 =>
        obtain ⟨x, hx, hw, e1, e2⟩ := lkd_wk hlk
        obtain ⟨g1, g2⟩ := ho_full _ _ _ _ _ hw
        have g3 := (hi.2 _).1 g1
        rw [Option.getD_some]
        refine ⟨by rw [e1, hwho]; exact hae, .inr ⟨k, hk, rfl, ?_⟩⟩
        cases hnw : N l0.waker with
        | none => rw [hnw] at g3; cases g3
        | some l' => exact ⟨l', by unfold wyN; rw [hnw], by rw [e2]; exact g2, x, hx, e2.symm⟩
theorem fdr_ways {s : List Ag} (hok : stOk s = true) {sought : Int} {Y : Int → Option Wy} (h : FdR s sought Y) : Ways s Y := by
  obtain ⟨k, A, Y0, N, h1, _, h2, h3⟩ := h
  obtain ⟨hk, i1, i2⟩ := lvl_ways hok h1
  have hcase : ∀ id, (Y id = Y0 id) ∨ ∃ l, N id = some l ∧ Y id = some ((k : Int), l) := by
    rcases h3 with ⟨_, rfl⟩ | ⟨_, h3⟩
    · exact fun id => .inl rfl
    · exact h3
  have up : ∀ i y, Y0 i = some y → Y i = some y := fun i y hy => by
    rcases hcase i with e | ⟨l, e, _⟩
    · rw [e]; exact hy
    · have := (i2 i l e).1; rw [hy] at this; cases this
  refine ⟨fun id y hy => ?_, fun id l hl => ?_⟩
  · rcases hcase id with e | ⟨l, e1, e2⟩
    · rw [e] at hy
      obtain ⟨k', q1, q2, q3⟩ := i1 id y hy
      exact ⟨k', q1, q2, q3.up up⟩
    · rw [hy] at e2
      cases e2
      exact ⟨k, hk, rfl, (i2 id l e1).2.up up⟩
  · rcases lvl_first h1 hl with ⟨rfl, rfl, e⟩ | ⟨e, _⟩
    · rcases hcase id with e' | ⟨l', e1, e2⟩
      · exact .inl (e'.trans e)
      · rw [hl] at e1
        cases e1
        exact .inr e2
    · exact .inr (up id _ e)
/-- the links of a chain -/
def lkP (Y : Int → Option Wy) (n : Nat) (l : Lk) (p : Nat) : Lk := (yAt Y (n - 1 - p) ((n : Int), l)).2
theorem yat_num {k j n i : Nat} (h1 : k = j + 1) (h2 : k = n - i) : j = n - (i + 1) := by omega
theorem yat_ways {s : List Ag} {Y : Int → Option Wy} (hw : Ways s Y) {id : Int} {n : Nat} {l : Lk} (h : Y id = some ((n : Int), l)) (hn : 1 ≤ n) : ∀ i, i < n → (yAt Y i ((n : Int), l)).1 = ((n - i : Nat) : Int) ∧ Y (yAt Y i ((n : Int), l)).2.woken = some (yAt Y i ((n : Int), l)) := by
  intro i
  induction i with
  | zero =>
    intro _
    obtain ⟨k, _, e, h1, _⟩ := hw.one id _ h
    refine ⟨rfl, ?_⟩
    show Y l.woken = _
    rw [h1]
    exact h
  | succ i ih =>
    intro hi
    obtain ⟨e1, e2⟩ := ih (by omega)
    obtain ⟨k, hk, e3, h1, h2⟩ := hw.one _ _ e2
    have hkn : k = n - i := by omega
    rcases h2 with ⟨h2, _⟩ | ⟨j, hj, hkj, l', h3, _⟩
    · omega
    · have e4 : yAt Y (i + 1) ((n : Int), l) = ((j : Int), l') := by
        show wy0 (Y (yAt Y i ((n : Int), l)).2.waker) = _
        rw [h3]; rfl
      rw [e4]
      obtain ⟨k2, _, _, h5, _⟩ := hw.one _ _ h3
      refine ⟨by rw [← yat_num hkj hkn], ?_⟩
      show Y l'.woken = _
      rw [show l'.woken = _ from h5]
      exact h3
theorem chain_info {s : List Ag} {Y : Int → Option Wy} (hw : Ways s Y) {id : Int} {n : Nat} {l : Lk} (h : Y id = some ((n : Int), l)) (hn : 1 ≤ n) :
    (∀ p, p < n → Y (lkP Y n l p).woken = some (((p + 1 : Nat) : Int), lkP Y n l p)) ∧ N0D s (lkP Y n l 0).woken = some (lkP Y n l 0) ∧ (∀ p, p + 1 < n → (lkP Y n l (p + 1)).waker = (lkP Y n l p).woken ∧ (lkP Y n l (p + 1)).chan ∈ (whoD s (lkP Y n l p).woken).held ∧ ∃ x ∈ (whoD s (lkP Y n l (p + 1)).woken).arms, x.chan = (lkP Y n l (p + 1)).chan) ∧ (lkP Y n l (n - 1)).woken = id := by
  have hy := yat_ways hw h hn
  have key : ∀ p, p < n → Y (lkP Y n l p).woken = some (((p + 1 : Nat) : Int), lkP Y n l p) := fun p hp => by
    obtain ⟨e1, e2⟩ := hy (n - 1 - p) (by omega)
    unfold lkP
    rw [e2]
    have : (yAt Y (n - 1 - p) ((n : Int), l)).1 = ((p + 1 : Nat) : Int) := by rw [e1]; congr 1; omega
    rw [← this]
  refine ⟨key, ?_, fun p hp => ?_, ?_⟩
  · obtain ⟨k, hk, e3, h1, h2⟩ := hw.one _ _ (key 0 (by omega))
    have hk1 : k = 1 := by simp only at e3; omega
    rcases h2 with ⟨_, h2⟩ | ⟨j, hj, hkj, _⟩
    · exact h2
    · omega
  · obtain ⟨k, hk, e3, h1, h2⟩ := hw.one _ _ (key (p + 1) hp)
    have hk1 : k = p + 2 := by simp only at e3; omega
    rcases h2 with ⟨h2, _⟩ | ⟨j, hj, hkj, l', h3, h4, h5⟩
    · omega
    · have hj1 : j = p + 1 := by omega
      have e4 : yAt Y (n - 1 - p) ((n : Int), l) = ((j : Int), l') := by
        rw [show n - 1 - p = (n - 1 - (p + 1)) + 1 by omega]
        show wy0 (Y (yAt Y (n - 1 - (p + 1)) ((n : Int), l)).2.waker) = _
        simp only [lkP] at h3
        rw [h3]; rfl
      have e5 : lkP Y n l p = l' := by unfold lkP; rw [e4]
      obtain ⟨k2, _, _, h6, _⟩ := hw.one _ _ h3
      have e6 : (lkP Y n l (p + 1)).waker = (lkP Y n l p).woken := by rw [e5]; exact h6.symm
      refine ⟨e6, by rw [← e6]; exact h4, h5⟩
  · obtain ⟨k, _, e, h1, _⟩ := hw.one id _ h
    unfold lkP
    rw [Nat.sub_self]
    exact h1
end Go.Proofs.Ytjabdhmkibahlaa
namespace Go.Proofs.Ytjabdhmkibahlaa
open Go.RowKit
set_option linter.unusedVariables false
set_option linter.unusedSimpArgs false

/-! ### who is among some; who is awake: in plain words -/
def hasL (l : List Int) (n : Int) : Bool := l.any fun x => x == n
theorem hasL_iff {l : List Int} {n : Int} : hasL l n = true ↔ n ∈ l := by
  unfold hasL
  rw [List.any_eq_true]
  constructor
  · rintro ⟨x, h1, h2⟩
    have : x = n := by simpa using h2
    rw [← this]; exact h1
  · intro h; exact ⟨n, h, by simp⟩
def awkI : List Ag → Int → Bool
  | [], _ => false
  | a :: r, id => if a.id = id then a.awake else awkI r id
theorem awk_in : ∀ (s : List Ag) (id : Int), awkI s id = true → ∃ a ∈ s, a.id = id ∧ a.awake = true
  | [], id, h => by cases h
  | a :: r, id, h => by
    rw [awkI] at h
    split at h
    · exact ⟨a, List.mem_cons_self, by assumption, h⟩
    · obtain ⟨b, h1, h2⟩ := awk_in r id h
      exact ⟨b, List.mem_cons_of_mem _ h1, h2⟩
end Go.Proofs.Ytjabdhmkibahlaa
namespace Go.Proofs.Ytjabdhmkibahlaa
open Go.RowKit
set_option linter.unusedVariables false
set_option linter.unusedSimpArgs false

/-! ### links one behind the other -/
def inLk (ls : List Lk) (id : Int) : Bool := ls.any fun l => id == l.waker || id == l.woken
def tkS (ls : List Lk) (a : Ag) : Ag := if inLk ls a.id then { a with awake := true, arms := [] } else a
theorem tkS_id (ls : List Lk) (a : Ag) : (tkS ls a).id = a.id := by unfold tkS; split <;> rfl
theorem tkS_held (ls : List Lk) (a : Ag) : (tkS ls a).held = a.held := by unfold tkS; split <;> rfl
theorem tkS_nil (s : List Ag) : s.map (tkS []) = s := by
  have : tkS [] = fun a => a := by funext a; rfl
  rw [this]; simp
theorem tkS_snoc (s : List Ag) (ls : List Lk) (l : Lk) : (s.map (tkS ls)).map (tkA l) = s.map (tkS (ls ++ [l])) := by
  rw [List.map_map]
  refine List.map_congr_left fun a _ => ?_
  show tkA l (tkS ls a) = _
  have e : inLk (ls ++ [l]) a.id = (inLk ls a.id || (a.id == l.waker || a.id == l.woken)) := by simp [inLk]
  unfold tkA
  rw [tkS_id]
  unfold tkS
  rw [e]
  by_cases h1 : a.id = l.waker ∨ a.id = l.woken
  · rw [if_pos h1]
    have : (a.id == l.waker || a.id == l.woken) = true := by simpa using h1
    rw [this, Bool.or_true, if_pos rfl]
    split <;> rfl
  · rw [if_neg h1]
    have : (a.id == l.waker || a.id == l.woken) = false := by simpa using h1
    rw [this, Bool.or_false]
theorem tkS_ok {s : List Ag} (h : stOk s = true) (ls : List Lk) : stOk (s.map (tkS ls)) = true := by
  have agok : ∀ a : Ag, agOk a = true → agOk (tkS ls a) = true := fun a h => by
    unfold tkS
    split
    · unfold agOk at h ⊢
      rw [Bool.and_eq_true, Bool.and_eq_true] at h
      simp [h.1.2]
    · exact h
  have key : ∀ (s : List Ag) (k : Int), agsF k s = true → agsF k (s.map (tkS ls)) = true := by
    intro s
    induction s with
    | nil => intro k h; exact h
    | cons a r ih =>
      intro k h
      rw [agsF, Bool.and_eq_true, Bool.and_eq_true] at h
      rw [List.map_cons, agsF, tkS_id, Bool.and_eq_true, Bool.and_eq_true]
      exact ⟨⟨h.1.1, agok _ h.1.2⟩, ih _ h.2⟩
  unfold stOk at h ⊢
  rw [Bool.and_eq_true] at h ⊢
  exact ⟨by simpa using h.1, key s _ h.2⟩
theorem tkS_tot (s : List Ag) (ls : List Lk) : totA (s.map (tkS ls)) ≤ totA s := by
  induction s with
  | nil => simp
  | cons a r ih =>
    have : (tkS ls a).arms.length ≤ a.arms.length := by unfold tkS; split <;> simp
    rw [List.map_cons, totA, totA, tkS_held]
    omega
theorem who_mem {s : List Ag} (hok : stOk s = true) {a : Ag} (ha : a ∈ s) : whoI s a.id = a := by
  obtain ⟨i, hi, rfl⟩ := List.mem_iff_getElem.1 ha
  exact who_at hok i hi
theorem who_tkS {s : List Ag} (hok : stOk s = true) (ls : List Lk) {a : Ag} (ha : a ∈ s) : whoI (s.map (tkS ls)) a.id = tkS ls a := by
  have := who_mem (tkS_ok hok ls) (List.mem_map.2 ⟨a, ha, rfl⟩)
  rw [tkS_id] at this
  exact this
theorem awk_at {s : List Ag} (hok : stOk s = true) {a : Ag} (ha : a ∈ s) : awkI s a.id = a.awake := by
  cases h : awkI s a.id with
  | true =>
    obtain ⟨b, hb, e1, e2⟩ := awk_in s _ h
    have e := whoD_at hok b hb
    rw [e1, whoD_at hok a ha] at e
    rw [e, e2]
  | false =>
    have key : ∀ (r : List Ag), (r.map (·.id)).Pairwise (· < ·) → a ∈ r → awkI r a.id = a.awake := by
      intro r
      induction r with
      | nil => intro _ h; cases h
      | cons b r ih =>
        intro hp h
        rw [List.map_cons, List.pairwise_cons] at hp
        rw [awkI]
        rcases List.mem_cons.1 h with rfl | h
        · rw [if_pos rfl]
        · have := hp.1 a.id (List.mem_map.2 ⟨a, h, rfl⟩)
          rw [if_neg (by omega)]
          exact ih hp.2 h
    rw [← h]
    exact key s (st_lt hok) ha
theorem arms_asleep {s : List Ag} (hok : stOk s = true) {a : Ag} (ha : a ∈ s) {x : Hd} (hx : x ∈ a.arms) : a.awake = false := by
  have h := (st_all hok a ha).1
  cases hw : a.awake with
  | false => rfl
  | true =>
    unfold agOk at h
    rw [Bool.and_eq_true, Bool.and_eq_true] at h
    have h1 := h.1.1
    rw [hw] at h1
    have : 0 < a.arms.length := List.length_pos_of_mem hx
    simp [this] at h1
theorem held_pos {s : List Ag} (hok : stOk s = true) {a : Ag} (ha : a ∈ s) {c : Int} (hc : c ∈ a.held) : c ≠ 0 := by
  have h := ag_ris (st_all hok a ha).1
  have := ris_above _ _ h c hc
  omega
section
variable {s : List Ag} {Y : Int → Option Wy} {id : Int} {n : Nat} {l : Lk}
/-- the agent that a link of a chain wakes: it waits at the channel, and no earlier link is about it -/
theorem chain_wok (hok : stOk s = true) (hw : Ways s Y) (h : Y id = some ((n : Int), l)) (hn : 1 ≤ n) {p : Nat} (hp : p < n) : ∃ a ∈ s, a.id = (lkP Y n l p).woken ∧ a.awake = false ∧ (∃ x ∈ a.arms, x.chan ≠ 0 ∧ x.chan = (lkP Y n l p).chan) ∧ ∀ q, q < p → a.id ≠ (lkP Y n l q).waker ∧ a.id ≠ (lkP Y n l q).woken := by
  obtain ⟨key, k0, ks, _⟩ := chain_info hw h hn
  have ha : ∃ a ∈ s, a.id = (lkP Y n l p).woken ∧ ∃ x ∈ a.arms, x.chan ≠ 0 ∧ x.chan = (lkP Y n l p).chan := by
    cases p with
    | zero =>
      obtain ⟨a, ha, e1, e2, x, hx, e3, hc⟩ := n0_parts hok k0
      refine ⟨a, ha, e1, x, hx, ?_, e3.symm⟩
      rcases hc with ⟨hc, _⟩ | ⟨b, hb, _, _, hc⟩ | ⟨hc, _⟩
      · intro e; unfold wldI at hc; rw [e] at hc; simp at hc
      · exact held_pos hok hb hc
      · exact hc
    | succ p =>
      obtain ⟨e1, e2, x, hx, e3⟩ := ks p hp
      rcases whoD_id s (lkP Y n l (p + 1)).woken with e | ⟨e4, e5⟩
      · rw [e] at hx; cases hx
      · refine ⟨_, e4, e5, x, hx, ?_, e3⟩
        rw [e3]
        rcases whoD_id s (lkP Y n l p).woken with e | ⟨e6, e7⟩
        · rw [e] at e2; cases e2
        · exact held_pos hok e6 e2
  obtain ⟨a, ha, hid, x, hx, hx0, hxc⟩ := ha
  have hasl := arms_asleep hok ha hx
  refine ⟨a, ha, hid, hasl, ⟨x, hx, hx0, hxc⟩, fun q hq => ?_⟩
  have hkp := key p hp
  have hkq := key q (by omega)
  have hwok : ∀ r, r < p → a.id ≠ (lkP Y n l r).woken := fun r hr e => by
    have := key r (by omega)
    rw [← e, hid, hkp] at this
    have := congrArg (fun o => (o.map Prod.fst)) this
    simp at this
    omega
  refine ⟨?_, hwok q hq⟩
  cases q with
  | succ q =>
    rw [(ks q (by omega)).1]
    exact hwok q (by omega)
  | zero =>
    intro e
    obtain ⟨a0, ha0, e1, e2, x0, hx0', e3, hc⟩ := n0_parts hok k0
    rcases hc with ⟨_, hc⟩ | ⟨b, hb, hbw, hc, _⟩ | ⟨hc0, b, hb, hc, hne, hm⟩
    · have := (st_all hok a ha).2; omega
    · have e5 := whoD_at hok b hb
      rw [hc, ← e, whoD_at hok a ha] at e5
      rw [← e5, hasl] at hbw; cases hbw
    · have e5 := whoD_at hok b hb
      rw [hc, ← e, whoD_at hok a ha] at e5
      subst e5
      have hs : (N0D s a.id).isSome = true := (n0_some _ _).2 ⟨a, ha, rfl, _, hm, .inr (.inr ⟨hc0, a0, ha0, by rw [e1]; exact fun e => hne e.symm, by simpa using hx0'⟩)⟩
      cases hN : N0D s a.id with
      | none => rw [hN] at hs; cases hs
      | some l2 =>
        rcases hw.fst _ _ hN with g | g
        · rw [hid, hkp] at g; cases g
        · rw [hid, hkp] at g
          have := congrArg (fun o => (o.map Prod.fst)) g
          simp at this
          omega
def chT (Y : Int → Option Wy) (n : Nat) (l : Lk) (p : Nat) : List Lk := (List.range p).map (lkP Y n l)
theorem chT_succ (Y : Int → Option Wy) (n : Nat) (l : Lk) (p : Nat) : chT Y n l (p + 1) = chT Y n l p ++ [lkP Y n l p] := by
  unfold chT; rw [List.range_succ, List.map_append]; rfl
theorem in_chT {p : Nat} {i : Int} : inLk (chT Y n l p) i = true ↔ ∃ q, q < p ∧ (i = (lkP Y n l q).waker ∨ i = (lkP Y n l q).woken) := by
  unfold inLk chT
  rw [List.any_eq_true]
  constructor
  · rintro ⟨x, hx, h⟩
    obtain ⟨q, hq, rfl⟩ := List.mem_map.1 hx
    exact ⟨q, List.mem_range.1 hq, by simpa using h⟩
  · rintro ⟨q, hq, h⟩
    exact ⟨_, List.mem_map.2 ⟨q, List.mem_range.2 hq, rfl⟩, by simpa using h⟩
theorem not_chT {p : Nat} {i : Int} (h : ∀ q, q < p → i ≠ (lkP Y n l q).waker ∧ i ≠ (lkP Y n l q).woken) : inLk (chT Y n l p) i = false := by
  cases hx : inLk (chT Y n l p) i with
  | false => rfl
  | true =>
    obtain ⟨q, hq, e | e⟩ := in_chT.1 hx
    · exact absurd e (h q hq).1
    · exact absurd e (h q hq).2
/-- EACH LINK OF A CHAIN FITS WHERE IT STANDS -/
theorem chain_fits (hok : stOk s = true) (hw : Ways s Y) (h : Y id = some ((n : Int), l)) (hn : 1 ≤ n) {p : Nat} (hp : p < n) : fitsF (whoI (s.map (tkS (chT Y n l p)))) (lkP Y n l p) = true := by
  obtain ⟨key, k0, ks, _⟩ := chain_info hw h hn
  obtain ⟨a, ha, hid, hasl, ⟨x, hx, hx0, hxc⟩, hno⟩ := chain_wok hok hw h hn hp
  have hsame : tkS (chT Y n l p) a = a := by unfold tkS; rw [not_chT hno]; rfl
  have hgt := (st_all hok a ha).2
  unfold fitsF
  have hstand : standI (whoI (s.map (tkS (chT Y n l p))) (lkP Y n l p).woken) (lkP Y n l p).chan = waitI a.arms (lkP Y n l p).chan := by
    rw [← hid, who_tkS hok _ ha, hsame]
    unfold standI
    rw [hasl, if_neg (by simp)]
  have hon : (waitI a.arms (lkP Y n l p).chan).sends = true ∨ (waitI a.arms (lkP Y n l p).chan).recvs = true := on_wait (on_some.2 ⟨x, hx, hx0, hxc⟩)
  cases p with
  | succ p =>
    obtain ⟨e1, e2, _⟩ := ks p hp
    have hb : ∃ b ∈ s, b.id = (lkP Y n l p).woken ∧ (lkP Y n l (p + 1)).chan ∈ b.held := by
      rcases whoD_id s (lkP Y n l p).woken with e | ⟨e4, e5⟩
      · rw [e] at e2; cases e2
      · exact ⟨_, e4, e5, e2⟩
    obtain ⟨b, hb, hbi, hbh⟩ := hb
    have hne : (lkP Y n l (p + 1)).waker ≠ (lkP Y n l (p + 1)).woken := by
      rw [e1, ← hid]
      exact fun e => (hno p (by omega)).2 e.symm
    rw [if_neg (fun e => by
      rcases e with e | e
      · omega
      · exact hne e), hstand]
    apply of_wakes
    left
    refine ⟨?_, hon⟩
    rw [e1, ← hbi, who_tkS hok _ hb]
    unfold tkS
    rw [show inLk (chT Y n l (p + 1)) b.id = true from in_chT.2 ⟨p, by omega, .inr hbi⟩, if_pos rfl]
    unfold standI
    rw [if_pos rfl]
    simpa using hbh
  | zero =>
    obtain ⟨a0, ha0, e1, e2, x0, hx0', e3, hc⟩ := n0_parts hok k0
    have ea : a0 = a := by
      have := whoD_at hok a0 ha0
      rw [e1, ← hid, whoD_at hok a ha] at this
      exact this.symm
    subst ea
    have es : s.map (tkS (chT Y n l 0)) = s := tkS_nil s
    rw [es] at hstand ⊢
    rcases hc with ⟨hwl, hc⟩ | ⟨b, hb, hbw, hc, hh⟩ | ⟨hc0, b, hb, hc, hne, hm⟩
    · rw [if_neg (fun e => by omega), hstand, hc, who_world hok]
      apply of_wakes
      unfold wldI at hwl
      simp only [Bool.or_eq_true, Bool.and_eq_true, beq_iff_eq, Bool.not_eq_true'] at hwl
      rcases hwl with ⟨e, hs⟩ | ⟨e, hs⟩
      · refine .inr (.inl ⟨?_, (waitI_r _ _).2 ⟨x0, hx0', by omega, e3.symm, hs⟩⟩)
        rw [e3, e]; rfl
      · refine .inr (.inr ⟨?_, (waitI_s _ _).2 ⟨x0, hx0', by omega, e3.symm, hs⟩⟩)
        rw [e3, e]; rfl
    · have hne : b.id ≠ a0.id := fun e => by
        have e5 := whoD_at hok b hb
        rw [e, whoD_at hok a0 ha] at e5
        rw [← e5, hasl] at hbw; cases hbw
      rw [if_neg (fun e => by
        rcases e with e | e
        · omega
        · rw [← hc, ← hid] at e; exact hne e), hstand, ← hc, who_mem hok hb]
      apply of_wakes
      left
      refine ⟨?_, hon⟩
      unfold standI
      rw [if_pos hbw, e3]
      simpa using hh
    · have hbs := arms_asleep hok hb hm
      rw [if_neg (fun e => by
        rcases e with e | e
        · omega
        · rw [← hc] at e; exact hne e), hstand, ← hc, who_mem hok hb]
      apply of_wakes
      unfold standI
      rw [hbs, if_neg (by simp), e3]
      cases hs : x0.send with
      | true => exact .inr (.inr ⟨(waitI_r _ _).2 ⟨_, hm, hc0, rfl, by simp [hs]⟩, (waitI_s _ _).2 ⟨x0, hx0', hc0, rfl, hs⟩⟩)
      | false => exact .inr (.inl ⟨(waitI_s _ _).2 ⟨_, hm, hc0, rfl, by simp [hs]⟩, (waitI_r _ _).2 ⟨x0, hx0', hc0, rfl, hs⟩⟩)
theorem chain_awk (hok : stOk s = true) (hw : Ways s Y) (h : Y id = some ((n : Int), l)) (hn : 1 ≤ n) : (∀ p, p < n → awkI (s.map (tkS (chT Y n l p))) id = false) ∧ awkI (s.map (tkS (chT Y n l n))) id = true := by
  obtain ⟨_, _, _, hlast⟩ := chain_info hw h hn
  obtain ⟨a, ha, hid, hasl, _, hno⟩ := chain_wok hok hw h hn (p := n - 1) (by omega)
  rw [hlast] at hid
  have at_ : ∀ ls, awkI (s.map (tkS ls)) id = (tkS ls a).awake := fun ls => by
    have := awk_at (tkS_ok hok ls) (List.mem_map.2 ⟨a, ha, rfl⟩)
    rw [tkS_id, hid] at this
    exact this
  refine ⟨fun p hp => ?_, ?_⟩
  · rw [at_]
    unfold tkS
    rw [not_chT (fun q hq => hno q (by omega))]
    exact hasl
  · rw [at_]
    unfold tkS
    rw [show inLk (chT Y n l n) a.id = true from in_chT.2 ⟨n - 1, by omega, .inr (by rw [hlast]; exact hid)⟩, if_pos rfl]
end
theorem chL_eq (Y : Int → Option Wy) (n : Nat) (l : Lk) : chL Y n ((n : Int), l) = chT Y n l n := rfl
theorem fdr_can {s : List Ag} {id : Int} {Y : Int → Option Wy} (h : FdR s id Y) : (Y id).isSome = true ↔ Can s id := by
  obtain ⟨k, A, Y0, N, h1, _, h2, h3⟩ := h
  rcases h3 with ⟨h3, rfl⟩ | ⟨⟨l, h3, h4⟩, _⟩
  · exact full_can ⟨k, A, N, h1, h3⟩ id
  · rw [h4]
    exact ⟨fun _ => (lvl_can h1).1 id (by rw [h3]; rfl), fun _ => rfl⟩
theorem can_asleep {s : List Ag} (hok : stOk s = true) {a : Ag} (ha : a ∈ s) (h : Can s a.id) : a.awake = false := by
  have key : ∀ {id : Int}, Can s id → ∃ b ∈ s, b.id = id ∧ b.awake = false := fun {id} h => by
    cases h with
    | first h =>
      obtain ⟨b, hb, e, x, hx, _⟩ := (n0_some _ _).1 h
      exact ⟨b, hb, e, arms_asleep hok hb hx⟩
    | @more j b x hj hb hx hc => exact ⟨b, hb, rfl, arms_asleep hok hb hx⟩
  obtain ⟨b, hb, e, h2⟩ := key h
  have e2 := whoD_at hok b hb
  rw [e, whoD_at hok a ha] at e2
  rw [e2]; exact h2
/-- who has a chain: whoever waits and is not dead -/
theorem chain_ok {s : List Ag} (hok : stOk s = true) {a : Ag} (ha : a ∈ s) {Y Z : Int → Option Wy} (h : FdR s a.id Y) (hZ : Full s Z) : (Y a.id).isSome = (!a.awake && !(hasL (ddL Z s) a.id)) := by
  cases hY : (Y a.id).isSome with
  | true =>
    have hc := (fdr_can h).1 hY
    rw [can_asleep hok ha hc]
    cases hd : hasL (ddL Z s) a.id with
    | false => rfl
    | true =>
      obtain ⟨_, _, _, _, hn⟩ := (dd_mem hZ _).1 (hasL_iff.1 hd)
      exact absurd hc hn
  | false =>
    cases hw : a.awake with
    | true => rfl
    | false =>
      have : hasL (ddL Z s) a.id = true := hasL_iff.2 ((dd_mem hZ _).2 ⟨a, ha, rfl, hw, fun hc => by
        have := (fdr_can h).2 hc
        rw [hY] at this; cases this⟩)
      rw [this]; rfl
end Go.Proofs.Ytjabdhmkibahlaa
