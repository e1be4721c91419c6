import Derived.Test.YtjabdhmkibahlaaCGHp
namespace Go.Proofs.Ytjabdhmkibahlaa
set_option linter.unusedVariables false
set_option linter.unusedSimpArgs false

/-! ### the reference, in plain words -/
def hnI (a : Ag) (n : Int) (sd : Bool) : Bool := a.arms.any fun h => h.chan == n && h.send == sd
/-- an agent's place -/
def rAt (s : List Ag) (id : Int) : Option Nat := s.findIdx? fun a => a.id == id
def agA (s : List Ag) (i : Nat) : Ag := s[i]?.getD zA
def rfW (a : Ag) (c : Int) : Bool := c == 1 && hnI a c false || c == 2 && hnI a c true
def rfB (a b : Ag) (c : Int) : Bool := if b.awake then b.held.contains c else hnI a c false && hnI b c true || hnI a c true && hnI b c false
def rfO (s : List Ag) (l : Lk) (i : Nat) : Bool := match rAt s l.waker with
  | none => false
  | some k => if k = i then false else rfB (agA s i) (agA s k) l.chan
def rfI (s : List Ag) (l : Lk) : Bool := if l.chan < 1 then false else match rAt s l.woken with
  | none => false
  | some i => if (agA s i).awake then false else if !hnI (agA s i) l.chan false && !hnI (agA s i) l.chan true then false else if l.waker = -1 then rfW (agA s i) l.chan else rfO s l i
theorem hn_true (a : Ag) {c : Int} (h0 : c ≠ 0) : hnI a c true = (waitI a.arms c).sends := by
  rw [Bool.eq_iff_iff, waitI_s]
  unfold hnI
  rw [List.any_eq_true]
  constructor
  · rintro ⟨x, h1, h2⟩
    simp at h2
    exact ⟨x, h1, by rw [h2.1]; exact h0, h2.1, h2.2⟩
  · rintro ⟨x, h1, h2, h3, h4⟩
    exact ⟨x, h1, by simp [h3, h4]⟩
theorem hn_false (a : Ag) {c : Int} (h0 : c ≠ 0) : hnI a c false = (waitI a.arms c).recvs := by
  rw [Bool.eq_iff_iff, waitI_r]
  unfold hnI
  rw [List.any_eq_true]
  constructor
  · rintro ⟨x, h1, h2⟩
    simp at h2
    exact ⟨x, h1, by rw [h2.1]; exact h0, h2.1, h2.2⟩
  · rintro ⟨x, h1, h2, h3, h4⟩
    exact ⟨x, h1, by simp [h3, h4]⟩
theorem rAt_some {s : List Ag} {id : Int} {i : Nat} (h : rAt s id = some i) : ∃ hi : i < s.length, agA s i = s[i] ∧ s[i].id = id := by
  unfold rAt at h
  obtain ⟨hi, h1, _⟩ := List.findIdx?_eq_some_iff_getElem.1 h
  refine ⟨hi, ?_, by simpa using h1⟩
  unfold agA
  rw [List.getElem?_eq_getElem hi]
  rfl
theorem rAt_none {s : List Ag} {id : Int} (h : rAt s id = none) : ∀ a ∈ s, a.id ≠ id := by
  unfold rAt at h
  intro a ha
  have := List.findIdx?_eq_none_iff.1 h a ha
  simpa using this
theorem who_not {s : List Ag} {k : Int} (h : ∀ a ∈ s, a.id ≠ k) : whoI s k = who0 k := by
  have key : ∀ (s : List Ag) (g : Int → Ag), (∀ a ∈ s, a.id ≠ k) → s.foldl (fun f a => upd f a.id a) g k = g k := by
    intro s
    induction s with
    | nil => intro g _; rfl
    | cons a r ih =>
      intro g hg
      rw [List.foldl_cons, ih _ (fun b hb => hg b (List.mem_cons_of_mem _ hb)), upd_other]
      exact fun e => hg a List.mem_cons_self e.symm
  exact key s who0 h
/-- no arm is on a channel below 1 -/
theorem wait_low {a : Ag} (h : agOk a = true) {c : Int} (hc : c < 1) : waitI a.arms c = st0 := by
  apply wait_off
  cases ho : onI a.arms c with
  | false => rfl
  | true =>
    have h1 := ris_above _ _ (ag_ris h) c (on_held h ho)
    omega
theorem wakes_st0 (t : Stc) : t.wakes st0 = false := by
  cases t with
  | mk x y z => cases x <;> cases y <;> cases z <;> rfl
theorem st0_wakes (t : Stc) : st0.wakes t = false := by
  cases t with
  | mk x y z => cases x <;> cases y <;> cases z <;> rfl
theorem wakes_awk (t : Stc) (b : Bool) : t.wakes ⟨b, false, false⟩ = false := by
  cases t with
  | mk x y z => cases x <;> cases y <;> cases z <;> rfl
theorem stand_on {a : Ag} (h : a.awake = true) (c : Int) : standI a c = ⟨a.held.contains c, false, false⟩ := by
  unfold standI; rw [h, if_pos rfl]
theorem stand_off {a : Ag} (h : a.awake = false) (c : Int) : standI a c = waitI a.arms c := by
  unfold standI; rw [h, if_neg (by simp)]
theorem stand_z (c : Int) : standI zA c = st0 := rfl
theorem wake_w (c : Int) (t : Stc) (h0 : c ≠ 0) : (standI wA c).wakes t = (c == 1 && t.recvs || c == 2 && t.sends) := by
  unfold standI wA waitI Stc.wakes
  by_cases h1 : c = 1
  · subst h1
    simp [waitF, stAdd, st0]
  · by_cases h2 : c = 2
    · subst h2
      simp [waitF, stAdd, st0]
    · have e1 : ¬ ((1 : Int) ≠ 0 ∧ 1 = c) := fun h => h1 h.2.symm
      have e2 : ¬ ((2 : Int) ≠ 0 ∧ 2 = c) := fun h => h2 h.2.symm
      have g1 : (c == 1) = false := by simpa using h1
      have g2 : (c == 2) = false := by simpa using h2
      simp only [waitF, if_neg e1, if_neg e2, st0, g1, g2]
      rfl
theorem rf_fits {s : List Ag} (hok : stOk s = true) (l : Lk) : rfI s l = fitsF (whoI s) l := by
  obtain ⟨kr, kn, c⟩ := l
  have hw1 : ∀ a ∈ s, a.id ≠ -1 := fun a ha => by have := (st_all hok a ha).2; omega
  unfold fitsF rfI
  dsimp only
  cases hn : rAt s kn with
  | none =>
    have hz := who_not (rAt_none hn)
    dsimp only
    by_cases h1 : kn = -1
    · rw [if_pos (Or.inl h1 : kn = -1 ∨ kr = kn)]; simp
    · rw [hz, who0, if_neg h1, stand_z, wakes_st0]
      simp
  | some i =>
    obtain ⟨hi, ea, ei⟩ := rAt_some hn
    have hai := st_all hok s[i] (List.getElem_mem hi)
    have hwi : whoI s kn = s[i] := by rw [← ei]; exact who_at hok i hi
    have hne : kn ≠ -1 := by rw [← ei]; exact hw1 _ (List.getElem_mem hi)
    dsimp only
    rw [ea]
    by_cases hc : c < 1
    · rw [if_pos hc]
      split
      · rfl
      · rw [hwi]
        cases haw : s[i].awake with
        | true => rw [stand_on haw, wakes_awk]
        | false => rw [stand_off haw, wait_low hai.1 hc, wakes_st0]
    · rw [if_neg hc]
      have h0 : c ≠ 0 := by omega
      rw [hn_true _ h0, hn_false _ h0]
      cases haw : s[i].awake with
      | true =>
        rw [if_pos rfl]
        split
        · rfl
        · rw [hwi, stand_on haw, wakes_awk]
      | false =>
        rw [if_neg (by simp)]
        have hsi : standI (whoI s kn) c = waitI s[i].arms c := by rw [hwi, stand_off haw]
        rw [hsi]
        have hta := waitI_a s[i].arms c
        generalize ht : waitI s[i].arms c = t at *
        by_cases hr : kr = -1
        · subst hr
          have q : ¬ (kn = -1 ∨ -1 = kn) := fun h => by
            rcases h with h | h
            · exact hne h
            · exact hne h.symm
          rw [who_world hok, wake_w c t h0, if_neg q, if_pos rfl]
          unfold rfW
          rw [hn_true _ h0, hn_false _ h0, ht]
          obtain ⟨ta, ts, tr⟩ := t
          cases ts <;> cases tr <;> simp
        · rw [if_neg hr]
          unfold rfO
          dsimp only
          cases hk : rAt s kr with
          | none =>
            rw [who_not (rAt_none hk), who0, if_neg hr, stand_z, st0_wakes]
            simp
          | some k =>
            obtain ⟨hki, eb, ek⟩ := rAt_some hk
            dsimp only
            by_cases hki2 : k = i
            · subst hki2
              have : kr = kn := ek.symm.trans ei
              rw [if_pos (Or.inr this : kn = -1 ∨ kr = kn), if_pos rfl]
              simp
            · have hrn : kr ≠ kn := fun e => hki2 (st_ids hok hki hi (by rw [ek, ei, e]))
              have q : ¬ (kn = -1 ∨ kr = kn) := fun h => by
                rcases h with h | h
                · exact hne h
                · exact hrn h
              rw [if_neg hki2, if_neg q, eb, ea]
              have hwk : whoI s kr = s[k] := by rw [← ek]; exact who_at hok k hki
              rw [hwk]
              unfold rfB standI
              rw [hn_true _ h0, hn_false _ h0, hn_true _ h0, hn_false _ h0, ht]
              have hua := waitI_a s[k].arms c
              generalize waitI s[k].arms c = u at *
              obtain ⟨ta, ts, tr⟩ := t
              obtain ⟨ua, us, ur⟩ := u
              dsimp only at hta hua
              subst hta hua
              cases s[k].awake <;> cases ts <;> cases tr <;> cases us <;> cases ur <;> cases s[k].held.contains c <;> rfl
/-- all links of the reference -/
def rlA (s : List Ag) (a : Ag) (c : Int) : List Lk := if a.awake || (!hnI a c false && !hnI a c true) then [] else ((keyL s).map fun k => (⟨k, a.id, c⟩ : Lk)).filter (rfI s)
def rlI (s : List Ag) : List Lk := if stOk s then s.flatMap fun a => a.held.flatMap (rlA s a) else []
theorem on_hn (a : Ag) {c : Int} (h0 : c ≠ 0) : onI a.arms c = (hnI a c false || hnI a c true) := by
  rw [Bool.eq_iff_iff, on_some, Bool.or_eq_true]
  unfold hnI
  rw [List.any_eq_true, List.any_eq_true]
  constructor
  · rintro ⟨x, h1, h2, h3⟩
    cases hs : x.send with
    | false => exact .inl ⟨x, h1, by simp [h3, hs]⟩
    | true => exact .inr ⟨x, h1, by simp [h3, hs]⟩
  · rintro (⟨x, h1, h2⟩ | ⟨x, h1, h2⟩)
    · simp at h2
      exact ⟨x, h1, by rw [h2.1]; exact h0, h2.1⟩
    · simp at h2
      exact ⟨x, h1, by rw [h2.1]; exact h0, h2.1⟩
theorem flatMap_filter' {α β : Type} (p : α → Bool) (g : α → List β) : ∀ l : List α, (l.filter p).flatMap g = l.flatMap fun x => if p x then g x else []
  | [] => rfl
  | x :: r => by
    rw [List.filter_cons, List.flatMap_cons]
    cases hp : p x with
    | true => rw [if_pos rfl, if_pos rfl, List.flatMap_cons, flatMap_filter' p g r]
    | false => rw [if_neg (by simp), if_neg (by simp), flatMap_filter' p g r]; rfl
theorem flatMap_same {α β : Type} {f g : α → List β} : ∀ l : List α, (∀ x ∈ l, f x = g x) → l.flatMap f = l.flatMap g
  | [], _ => rfl
  | x :: r, h => by rw [List.flatMap_cons, List.flatMap_cons, h x List.mem_cons_self, flatMap_same r (fun y hy => h y (List.mem_cons_of_mem _ hy))]
theorem rl_links (s : List Ag) : rlI s = linksI s := by
  unfold rlI linksI
  cases hok : stOk s with
  | false => rfl
  | true =>
    rw [if_pos rfl, if_pos rfl]
    refine flatMap_same s (fun a ha => ?_)
    have hao := st_all hok a ha
    unfold lkA chI
    rw [flatMap_filter']
    refine flatMap_same _ (fun c hc => ?_)
    have h1 : 0 < c := ris_above _ _ (ag_ris hao.1) c hc
    have h0 : c ≠ 0 := by omega
    unfold rlA
    rw [on_hn a h0]
    cases haw : a.awake with
    | true =>
      have ho := awake_none hao.1 haw c
      rw [on_hn a h0] at ho
      rw [ho]
      rfl
    | false =>
      cases hh : (hnI a c false || hnI a c true) with
      | false =>
        rw [Bool.or_eq_false_iff] at hh
        rw [hh.1, hh.2]
        rfl
      | true =>
        have e : (false || (!hnI a c false && !hnI a c true)) = false := by
          rw [Bool.false_or, ← Bool.not_or, hh]; rfl
        rw [e, if_neg (by simp), if_pos rfl, List.filter_map]
        unfold wkI
        congr 1
        apply List.filter_congr
        intro k hk
        obtain ⟨i, hi, rfl⟩ := List.getElem_of_mem ha
        show rfI s ⟨k, s[i].id, c⟩ = _
        rw [rf_fits hok]
        unfold fitsF
        dsimp only
        have hsi : standI (whoI s s[i].id) c = waitI s[i].arms c := by rw [who_at hok i hi, stand_off haw]
        rw [hsi]
        by_cases ek : k = s[i].id
        · rw [if_pos (Or.inr ek : s[i].id = -1 ∨ k = s[i].id)]
          subst ek
          simp
        · have g : (k != s[i].id) = true := by simpa using ek
          have := hao.2
          have q : ¬ (s[i].id = -1 ∨ k = s[i].id) := fun h => by
            rcases h with h | h
            · omega
            · exact ek h
          rw [if_neg q, g, Bool.true_and]
end Go.Proofs.Ytjabdhmkibahlaa
