import Derived.Test.YtjabdhmkibahlaaCGLa
import Derived.Test.YtjabdhmkibahlaaCGHb
namespace Go.Proofs.Ytjabdhmkibahlaa
set_option linter.unusedVariables false
set_option linter.unusedSimpArgs false

/-! ### when there is a link, in plain words -/
theorem wait_sends : ∀ (l : List Hd) (c : Int) (s : Stc), (waitF c s l).sends = true ↔ s.sends = true ∨ ∃ h ∈ l, h.chan ≠ 0 ∧ h.chan = c ∧ h.send = true
  | [], c, s => by simp [waitF]
  | x :: r, c, s => by
    rw [waitF, wait_sends r c]
    by_cases e : x.chan ≠ 0 ∧ x.chan = c
    · rw [if_pos e]
      simp [stAdd, e.1, e.2, or_assoc]
      constructor
      · rintro (h | h | h)
        · exact .inl h
        · exact .inr (.inl ⟨fun h0 => e.1 (e.2.trans h0), h⟩)
        · exact .inr (.inr h)
      · rintro (h | h | h)
        · exact .inl h
        · exact .inr (.inl h.2)
        · exact .inr (.inr h)
    · rw [if_neg e]
      constructor
      · rintro (h | ⟨y, h1, h2⟩)
        · exact .inl h
        · exact .inr ⟨y, List.mem_cons_of_mem _ h1, h2⟩
      · rintro (h | ⟨y, h1, h2⟩)
        · exact .inl h
        · rcases List.mem_cons.1 h1 with rfl | h1
          · exact absurd ⟨h2.1, h2.2.1⟩ e
          · exact .inr ⟨y, h1, h2⟩
theorem wait_recvs : ∀ (l : List Hd) (c : Int) (s : Stc), (waitF c s l).recvs = true ↔ s.recvs = true ∨ ∃ h ∈ l, h.chan ≠ 0 ∧ h.chan = c ∧ h.send = false
  | [], c, s => by simp [waitF]
  | x :: r, c, s => by
    rw [waitF, wait_recvs r c]
    by_cases e : x.chan ≠ 0 ∧ x.chan = c
    · rw [if_pos e]
      simp [stAdd, e.1, e.2, or_assoc]
      constructor
      · rintro (h | h | h)
        · exact .inl h
        · exact .inr (.inl ⟨fun h0 => e.1 (e.2.trans h0), h⟩)
        · exact .inr (.inr h)
      · rintro (h | h | h)
        · exact .inl h
        · exact .inr (.inl h.2)
        · exact .inr (.inr h)
    · rw [if_neg e]
      constructor
      · rintro (h | ⟨y, h1, h2⟩)
        · exact .inl h
        · exact .inr ⟨y, List.mem_cons_of_mem _ h1, h2⟩
      · rintro (h | ⟨y, h1, h2⟩)
        · exact .inl h
        · rcases List.mem_cons.1 h1 with rfl | h1
          · exact absurd ⟨h2.1, h2.2.1⟩ e
          · exact .inr ⟨y, h1, h2⟩
theorem waitI_s (l : List Hd) (c : Int) : (waitI l c).sends = true ↔ ∃ h ∈ l, h.chan ≠ 0 ∧ h.chan = c ∧ h.send = true := by
  unfold waitI; rw [wait_sends]; simp [st0]
theorem waitI_r (l : List Hd) (c : Int) : (waitI l c).recvs = true ↔ ∃ h ∈ l, h.chan ≠ 0 ∧ h.chan = c ∧ h.send = false := by
  unfold waitI; rw [wait_recvs]; simp [st0]
theorem waitI_a (l : List Hd) (c : Int) : (waitI l c).awake = false := waitF_awake c l st0 rfl
theorem on_some {l : List Hd} {c : Int} : onI l c = true ↔ ∃ h ∈ l, h.chan ≠ 0 ∧ h.chan = c := by
  unfold onI
  rw [List.any_eq_true]
  simp
theorem on_wait {l : List Hd} {c : Int} (h : onI l c = true) : (waitI l c).sends = true ∨ (waitI l c).recvs = true := by
  obtain ⟨x, h1, h2, h3⟩ := on_some.1 h
  cases hs : x.send with
  | true => exact .inl ((waitI_s l c).2 ⟨x, h1, h2, h3, hs⟩)
  | false => exact .inr ((waitI_r l c).2 ⟨x, h1, h2, h3, hs⟩)
theorem wakes_of {a b : Stc} (h : a.wakes b = true) : (a.awake = true ∧ (b.sends = true ∨ b.recvs = true)) ∨ (a.sends = true ∧ b.recvs = true) ∨ (a.recvs = true ∧ b.sends = true) := by
  unfold Stc.wakes at h
  simp only [Bool.or_eq_true, Bool.and_eq_true] at h
  rcases h with (h | h) | h
  · exact .inl h
  · exact .inr (.inl h)
  · exact .inr (.inr h)
theorem of_wakes {a b : Stc} (h : (a.awake = true ∧ (b.sends = true ∨ b.recvs = true)) ∨ (a.sends = true ∧ b.recvs = true) ∨ (a.recvs = true ∧ b.sends = true)) : a.wakes b = true := by
  unfold Stc.wakes
  simp only [Bool.or_eq_true, Bool.and_eq_true]
  rcases h with h | h | h
  · exact .inl (.inl h)
  · exact .inl (.inr h)
  · exact .inr h
theorem st_all {s : List Ag} (h : stOk s = true) : ∀ a ∈ s, agOk a = true ∧ -1 < a.id := by
  unfold stOk at h
  rw [Bool.and_eq_true] at h
  exact fun a ha => ⟨ags_all s _ h.2 a ha, (ags_lt s _ h.2).1 a ha⟩
theorem st_lt {s : List Ag} (h : stOk s = true) : (s.map (·.id)).Pairwise (· < ·) := by
  unfold stOk at h
  rw [Bool.and_eq_true] at h
  exact (ags_lt s _ h.2).2
theorem st_ids {s : List Ag} (h : stOk s = true) {i j : Nat} (hi : i < s.length) (hj : j < s.length) (e : s[i].id = s[j].id) : i = j := by
  have hp := List.pairwise_iff_getElem.1 (st_lt h)
  rcases Nat.lt_trichotomy i j with h1 | h1 | h1
  · have := hp i j (by simpa using hi) (by simpa using hj) h1
    simp at this; omega
  · exact h1
  · have := hp j i (by simpa using hj) (by simpa using hi) h1
    simp at this; omega
theorem who_world {s : List Ag} (h : stOk s = true) : whoI s (-1) = wA := by
  have key : ∀ (s : List Ag) (g : Int → Ag), (∀ a ∈ s, -1 < a.id) → s.foldl (fun f a => upd f a.id a) g (-1) = g (-1) := by
    intro s
    induction s with
    | nil => intro g _; rfl
    | cons a r ih =>
      intro g hg
      rw [List.foldl_cons, ih _ (fun b hb => hg b (List.mem_cons_of_mem _ hb)), upd_other]
      have := hg a List.mem_cons_self
      omega
  exact key s who0 (fun a ha => (st_all h a ha).2)
theorem mem_links {s : List Ag} (hok : stOk s = true) (l : Lk) : l ∈ linksI s ↔ ∃ a ∈ s, ∃ c ∈ chI a, ∃ k ∈ wkI (whoI s) (keyL s) a c, l = ⟨k, a.id, c⟩ := by
  unfold linksI
  rw [if_pos hok, List.mem_flatMap]
  constructor
  · rintro ⟨a, ha, h⟩
    obtain ⟨c, hc, h⟩ := List.mem_flatMap.1 h
    obtain ⟨k, hk, rfl⟩ := List.mem_map.1 h
    exact ⟨a, ha, c, hc, k, hk, rfl⟩
  · rintro ⟨a, ha, c, hc, k, hk, rfl⟩
    exact ⟨a, ha, List.mem_flatMap.2 ⟨c, hc, List.mem_map.2 ⟨k, hk, rfl⟩⟩⟩
theorem good_link {s : List Ag} (hok : stOk s = true) {i : Nat} (hg : Good s i) : linksI s ≠ [] := by
  obtain ⟨hi, h, hh, h0, hg⟩ := hg
  have ha := st_all hok s[i] (List.getElem_mem hi)
  have hon : onI s[i].arms h.chan = true := on_some.2 ⟨h, hh, h0, rfl⟩
  have hch : h.chan ∈ chI s[i] := List.mem_filter.2 ⟨on_held ha.1 hon, hon⟩
  suffices hk : ∃ k, k ∈ wkI (whoI s) (keyL s) s[i] h.chan by
    obtain ⟨k, hk⟩ := hk
    exact List.ne_nil_of_mem ((mem_links hok ⟨k, s[i].id, h.chan⟩).2 ⟨_, List.getElem_mem hi, _, hch, k, hk, rfl⟩)
  rcases hg with hw | ⟨k, hk, hne, hm⟩
  · refine ⟨-1, List.mem_filter.2 ⟨List.mem_cons_self, ?_⟩⟩
    rw [who_world hok, Bool.and_eq_true]
    refine ⟨by have := ha.2; simp; omega, ?_⟩
    unfold wldI at hw
    simp only [Bool.or_eq_true, Bool.and_eq_true, beq_iff_eq, Bool.not_eq_true'] at hw
    apply of_wakes
    rcases hw with ⟨e, hs⟩ | ⟨e, hs⟩
    · refine .inr (.inl ⟨?_, (waitI_r _ _).2 ⟨h, hh, h0, rfl, hs⟩⟩)
      rw [e]; rfl
    · refine .inr (.inr ⟨?_, (waitI_s _ _).2 ⟨h, hh, h0, rfl, hs⟩⟩)
      rw [e]; rfl
  · refine ⟨s[k].id, List.mem_filter.2 ⟨List.mem_cons_of_mem _ (List.mem_map.2 ⟨_, List.getElem_mem hk, rfl⟩), ?_⟩⟩
    rw [who_at hok k hk, Bool.and_eq_true]
    refine ⟨by simp only [bne_iff_ne, ne_eq]; exact fun e => hne (st_ids hok hk hi e), ?_⟩
    apply of_wakes
    rcases hm with ⟨haw, hc⟩ | ⟨b, hb, hbc, hbs⟩
    · left
      unfold standI
      rw [if_pos haw]
      exact ⟨by simpa using hc, on_wait hon⟩
    · have hna : s[k].awake = false := by
        cases hx : s[k].awake with
        | false => rfl
        | true =>
          have := awake_none (st_all hok s[k] (List.getElem_mem hk)).1 hx h.chan
          rw [on_some.2 ⟨b, hb, by rw [hbc]; exact h0, hbc⟩] at this
          cases this
      unfold standI
      rw [hna, if_neg (by simp)]
      cases hs : h.send with
      | true => exact .inr (.inr ⟨(waitI_r _ _).2 ⟨b, hb, by rw [hbc]; exact h0, hbc, by rw [hbs, hs]; rfl⟩, (waitI_s _ _).2 ⟨h, hh, h0, rfl, hs⟩⟩)
      | false => exact .inr (.inl ⟨(waitI_s _ _).2 ⟨b, hb, by rw [hbc]; exact h0, hbc, by rw [hbs, hs]; rfl⟩, (waitI_r _ _).2 ⟨h, hh, h0, rfl, hs⟩⟩)
theorem link_good {s : List Ag} (hok : stOk s = true) (hl : linksI s ≠ []) : ∃ i, Good s i := by
  obtain ⟨l, hl⟩ := List.exists_mem_of_ne_nil _ hl
  obtain ⟨a, ha, c, hc, k, hk, rfl⟩ := (mem_links hok l).1 hl
  obtain ⟨i, hi, rfl⟩ := List.mem_iff_getElem.1 ha
  have hon := (List.mem_filter.1 hc).2
  obtain ⟨h0, hh0, hc0, hc1⟩ := on_some.1 hon
  obtain ⟨hk1, hk2⟩ := List.mem_filter.1 hk
  rw [Bool.and_eq_true] at hk2
  have hne : k ≠ s[i].id := by simpa using hk2.1
  refine ⟨i, hi, ?_⟩
  rcases List.mem_cons.1 hk1 with rfl | hk1
  · have hw := wakes_of hk2.2
    rw [who_world hok] at hw
    rcases hw with ⟨h1, _⟩ | ⟨h1, h2⟩ | ⟨h1, h2⟩
    · cases (show (standI wA c).awake = false from waitI_a _ c).symm.trans h1
    · obtain ⟨x, x1, x2, x3, x4⟩ := (waitI_s _ _).1 h1
      obtain ⟨y, y1, y2, y3, y4⟩ := (waitI_r _ _).1 h2
      have hx : c = 1 := by
        rcases List.mem_cons.1 x1 with rfl | x1
        · exact x3.symm
        · rcases List.mem_cons.1 x1 with rfl | x1
          · cases x4
          · cases x1
      exact ⟨y, y1, y2, .inl (by unfold wldI; rw [y3, y4, hx]; rfl)⟩
    · obtain ⟨x, x1, x2, x3, x4⟩ := (waitI_r _ _).1 h1
      obtain ⟨y, y1, y2, y3, y4⟩ := (waitI_s _ _).1 h2
      have hx : c = 2 := by
        rcases List.mem_cons.1 x1 with rfl | x1
        · cases x4
        · rcases List.mem_cons.1 x1 with rfl | x1
          · exact x3.symm
          · cases x1
      exact ⟨y, y1, y2, .inl (by unfold wldI; rw [y3, y4, hx]; rfl)⟩
  · obtain ⟨b, hb, rfl⟩ := List.mem_map.1 hk1
    obtain ⟨j, hj, rfl⟩ := List.mem_iff_getElem.1 hb
    have hji : j ≠ i := fun e => hne (by subst e; rfl)
    have hw := wakes_of hk2.2
    rw [who_at hok j hj] at hw
    unfold standI at hw
    cases hx : s[j].awake with
    | true =>
      rw [hx, if_pos rfl] at hw
      rcases hw with ⟨h1, h2⟩ | ⟨h1, _⟩ | ⟨h1, _⟩
      · have h1' : c ∈ s[j].held := by simpa using h1
        exact ⟨h0, hh0, hc0, .inr ⟨j, hj, hji, .inl ⟨hx, by rw [hc1]; exact h1'⟩⟩⟩
      · cases h1
      · cases h1
    | false =>
      rw [hx, if_neg (by simp)] at hw
      rcases hw with ⟨h1, _⟩ | ⟨h1, h2⟩ | ⟨h1, h2⟩
      · rw [waitI_a] at h1; cases h1
      · obtain ⟨x, x1, x2, x3, x4⟩ := (waitI_s _ _).1 h1
        obtain ⟨y, y1, y2, y3, y4⟩ := (waitI_r _ _).1 h2
        exact ⟨y, y1, y2, .inr ⟨j, hj, hji, .inr ⟨x, x1, by rw [x3, y3], by rw [x4, y4]; rfl⟩⟩⟩
      · obtain ⟨x, x1, x2, x3, x4⟩ := (waitI_r _ _).1 h1
        obtain ⟨y, y1, y2, y3, y4⟩ := (waitI_s _ _).1 h2
        exact ⟨y, y1, y2, .inr ⟨j, hj, hji, .inr ⟨x, x1, by rw [x3, y3], by rw [x4, y4]; rfl⟩⟩⟩
/-! ### how many there can be -/
theorem ch_len {a : Ag} (h : agOk a = true) : (chI a).length * 2 ≤ a.arms.length + a.held.length := by
  have h1 : (chI a).length ≤ a.held.length := List.length_filter_le _ _
  have h2 : (chI a).length ≤ (a.arms.map (·.chan)).length := by
    have hnd : (chI a).Nodup := by
      have : (chI a).Pairwise (· < ·) := (ris_lt a.held 0 (ag_ris h)).filter _
      exact this.imp (fun h => by omega)
    refine nod_len hnd (fun x hx => ?_)
    obtain ⟨y, y1, _, y3⟩ := on_some.1 (List.mem_filter.1 hx).2
    exact List.mem_map.2 ⟨y, y1, y3⟩
  rw [List.length_map] at h2
  omega
theorem flat_len {α β : Type} (f : α → List β) (n : Nat) : ∀ (l : List α), (∀ x ∈ l, (f x).length ≤ n) → (l.flatMap f).length ≤ l.length * n
  | [], _ => by simp
  | x :: r, h => by
    have ih := flat_len f n r (fun y hy => h y (List.mem_cons_of_mem _ hy))
    have := h x List.mem_cons_self
    rw [List.flatMap_cons, List.length_append, List.length_cons, Nat.add_mul]
    omega
theorem lkA_len {s : List Ag} (hok : stOk s = true) (a : Ag) : (lkA (whoI s) (keyL s) a).length ≤ (chI a).length * 4097 := by
  refine flat_len _ _ _ (fun c hc => ?_)
  rw [List.length_map]
  have h1 : (wkI (whoI s) (keyL s) a c).length ≤ (keyL s).length := List.length_filter_le _ _
  have h2 := st_len hok
  have h3 : (keyL s).length = s.length + 1 := by simp [keyL]
  omega
theorem links_len {s : List Ag} (hok : stOk s = true) (ht : totA s ≤ 2147483647) : (linksI s).length ≤ 5000000000000 := by
  have key : ∀ (t : List Ag), (∀ a ∈ t, agOk a = true) → (t.flatMap (lkA (whoI s) (keyL s))).length * 2 ≤ totA t * 4097 := by
    intro t
    induction t with
    | nil => intro _; simp
    | cons a r ih =>
      intro h
      have h1 := ih (fun b hb => h b (List.mem_cons_of_mem _ hb))
      have h2 := lkA_len hok a
      have h3 := ch_len (h a List.mem_cons_self)
      rw [List.flatMap_cons, List.length_append, totA]
      omega
  unfold linksI
  rw [if_pos hok]
  have := key s (fun a ha => (st_all hok a ha).1)
  omega
theorem few_of {s : List Ag} (ht : totA s ≤ 2147483647) : Few s := by
  have key : ∀ (t : List Ag), ∀ a ∈ t, a.arms.length + a.held.length ≤ totA t := by
    intro t
    induction t with
    | nil => intro a h; cases h
    | cons b r ih =>
      intro a h
      rw [totA]
      rcases List.mem_cons.1 h with rfl | h
      · omega
      · have := ih a h; omega
  intro a ha
  have := key s a ha
  omega
end Go.Proofs.Ytjabdhmkibahlaa
