import Derived.Test.YtjabdhmkibahlaaCGHp
import Derived.Test.YtjabdhmkibahlaaCGU
namespace Go.Proofs.Ytjabdhmkibahlaa
set_option linter.unusedVariables false
set_option linter.unusedSimpArgs false

/-! ### what a link leaves, in plain words -/
theorem link_parts {s : List Ag} (hok : stOk s = true) {l : Lk} (h : l ∈ linksI s) : ∃ i, ∃ hi : i < s.length, l.woken = s[i].id ∧ l.waker ≠ s[i].id ∧ onI s[i].arms l.chan = true ∧ s[i].awake = false ∧ l.waker ∈ keyL s ∧ (standI (whoI s l.waker) l.chan).wakes (waitI s[i].arms l.chan) = true := by
  obtain ⟨a, ha, c, hc, k, hk, rfl⟩ := (mem_links hok l).1 h
  obtain ⟨i, hi, rfl⟩ := List.mem_iff_getElem.1 ha
  obtain ⟨h1, h2⟩ := List.mem_filter.1 hk
  rw [Bool.and_eq_true] at h2
  have hon := (List.mem_filter.1 hc).2
  refine ⟨i, hi, rfl, by simpa using h2.1, hon, ?_, h1, h2.2⟩
  cases hx : s[i].awake with
  | false => rfl
  | true => rw [awake_none (st_all hok _ ha).1 hx c] at hon; cases hon
theorem link_fits {s : List Ag} (hok : stOk s = true) {l : Lk} (h : l ∈ linksI s) : fitsF (whoI s) l = true := by
  obtain ⟨i, hi, h1, h2, h3, h4, h5, h6⟩ := link_parts hok h
  unfold fitsF
  have := (st_all hok _ (List.getElem_mem hi)).2
  rw [if_neg (fun e => by rcases e with e | e <;> omega), h1, who_at hok i hi]
  have e : standI s[i] l.chan = waitI s[i].arms l.chan := by unfold standI; rw [h4, if_neg (by simp)]
  rw [e]
  exact h6
theorem tkA_id (l : Lk) (a : Ag) : (tkA l a).id = a.id := by unfold tkA; split <;> rfl
theorem tkA_held (l : Lk) (a : Ag) : (tkA l a).held = a.held := by unfold tkA; split <;> rfl
theorem tkA_ok {l : Lk} {a : Ag} (h : agOk a = true) : agOk (tkA l a) = true := by
  unfold tkA
  split
  · unfold agOk at h ⊢
    rw [Bool.and_eq_true, Bool.and_eq_true] at h
    simp [h.1.2]
  · exact h
theorem took_ok {s : List Ag} (l : Lk) (h : stOk s = true) : stOk (s.map (tkA l)) = true := by
  have key : ∀ (s : List Ag) (k : Int), agsF k s = true → agsF k (s.map (tkA l)) = true := by
    intro s
    induction s with
    | nil => intro k h; exact h
    | cons a r ih =>
      intro k h
      rw [agsF, Bool.and_eq_true, Bool.and_eq_true] at h
      rw [List.map_cons, agsF, tkA_id, Bool.and_eq_true, Bool.and_eq_true]
      exact ⟨⟨h.1.1, tkA_ok h.1.2⟩, ih _ h.2⟩
  unfold stOk at h ⊢
  rw [Bool.and_eq_true] at h ⊢
  exact ⟨by simpa using h.1, key s _ h.2⟩
theorem tkA_arms (l : Lk) (a : Ag) : (tkA l a).arms.length ≤ a.arms.length := by unfold tkA; split <;> simp
theorem took_few {s : List Ag} {l : Lk} (h : Few s) : Few (s.map (tkA l)) := fun b hb => by
  obtain ⟨a, ha, rfl⟩ := List.mem_map.1 hb
  have := h a ha
  have := tkA_arms l a
  rw [tkA_held]
  omega
theorem took_tot {s : List Ag} (l : Lk) : totA (s.map (tkA l)) ≤ totA s := by
  induction s with
  | nil => simp
  | cons a r ih =>
    have := tkA_arms l a
    rw [List.map_cons, totA, totA, tkA_held]
    omega
theorem who_took {s : List Ag} (l : Lk) (h : stOk s = true) {i : Nat} (hi : i < s.length) : whoI (s.map (tkA l)) s[i].id = tkA l s[i] := by
  have := who_at (took_ok l h) i (by simpa using hi)
  rw [List.getElem_map, tkA_id] at this
  exact this
/-- WHAT FITTED FITS STILL -/
theorem keeps {s : List Ag} (hok : stOk s = true) {x l : Lk} (hl : l ∈ linksI s) {i : Nat} (hi : i < s.length) (hw : l.woken = s[i].id) (hn : (tkA x s[i]).awake = false) : fitsF (whoI (s.map (tkA x))) l = true := by
  obtain ⟨j, hj, h1, h2, h3, h4, h5, h6⟩ := link_parts hok hl
  have hij : j = i := st_ids hok hj hi (by rw [← h1, hw])
  subst hij
  have hid := (st_all hok _ (List.getElem_mem hj)).2
  have hun : tkA x s[j] = s[j] := by
    unfold tkA at hn ⊢
    split
    · rename_i e; rw [if_pos e] at hn; cases hn
    · rfl
  unfold fitsF
  rw [if_neg (fun e => by rcases e with e | e <;> omega), h1, who_took x hok hj, hun]
  have e : standI s[j] l.chan = waitI s[j].arms l.chan := by unfold standI; rw [h4, if_neg (by simp)]
  rw [e]
  rcases List.mem_cons.1 h5 with hk | hk
  · rw [hk, who_world (took_ok x hok)]
    rw [hk, who_world hok] at h6
    exact h6
  · obtain ⟨b, hb, hbk⟩ := List.mem_map.1 hk
    obtain ⟨k, hkl, rfl⟩ := List.mem_iff_getElem.1 hb
    rw [← hbk, who_took x hok hkl]
    rw [← hbk, who_at hok k hkl] at h6
    unfold tkA
    split
    · -- the waker is awake now: what it stood at it holds
      apply of_wakes
      left
      refine ⟨?_, on_wait h3⟩
      unfold standI
      rw [if_pos rfl]
      show s[k].held.contains l.chan = true
      have hin : l.chan ∈ s[k].held := by
        rcases wakes_of h6 with ⟨q, _⟩ | ⟨q, _⟩ | ⟨q, _⟩
        · unfold standI at q
          cases hx : s[k].awake with
          | true => rw [hx, if_pos rfl] at q; simpa using q
          | false => rw [hx, if_neg (by simp), waitI_a] at q; cases q
        · unfold standI at q
          cases hx : s[k].awake with
          | true => rw [hx, if_pos rfl] at q; cases q
          | false =>
            rw [hx, if_neg (by simp)] at q
            obtain ⟨y, y1, y2, y3, _⟩ := (waitI_s _ _).1 q
            exact on_held (st_all hok _ (List.getElem_mem hkl)).1 (on_some.2 ⟨y, y1, y2, y3⟩)
        · unfold standI at q
          cases hx : s[k].awake with
          | true => rw [hx, if_pos rfl] at q; cases q
          | false =>
            rw [hx, if_neg (by simp)] at q
            obtain ⟨y, y1, y2, y3, _⟩ := (waitI_r _ _).1 q
            exact on_held (st_all hok _ (List.getElem_mem hkl)).1 (on_some.2 ⟨y, y1, y2, y3⟩)
      simpa using hin
    · exact h6
/-- one agent behind a link -/
theorem took_one (x : Lk) (a : Ag) : ((tkA x a).awake = (a.awake || (a.id == x.woken || a.id == x.waker))) ∧ ((a.id == x.woken || a.id == x.waker) = false → tkA x a = a) := by
  unfold tkA
  by_cases h1 : a.id = x.waker
  · simp [h1]
  · by_cases h2 : a.id = x.woken
    · simp [h2]
    · simp [h1, h2]
end Go.Proofs.Ytjabdhmkibahlaa
