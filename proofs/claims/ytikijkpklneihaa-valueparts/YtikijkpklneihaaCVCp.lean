import Derived.Test.YtikijkpklneihaaCVVa
import Derived.Lib.SlicesCompact
import Derived.Lib.RowBridge
namespace Go.Proofs.Ytikijkpklneihaa
open Go.RowKit
set_option linter.unusedVariables false
set_option linter.unusedSimpArgs false

/-- a list that rises -/
def Ris (l : List Int) : Prop := l.Pairwise (· < ·)
theorem ris_mem_nil {l : List Int} (h : ∀ x, ¬ x ∈ l) : l = [] := by
  cases l with
  | nil => rfl
  | cons a b => exact absurd List.mem_cons_self (h a)
theorem ris_one {a b : List Int} (ha : Ris a) (hb : Ris b) (h : ∀ x, x ∈ a ↔ x ∈ b) : a = b := by
  induction a generalizing b with
  | nil => exact (ris_mem_nil (fun x hx => by have := (h x).2 hx; cases this)).symm
  | cons x xs ih =>
    cases b with
    | nil => have := (h x).1 List.mem_cons_self; cases this
    | cons y ys =>
      have hx := List.pairwise_cons.1 ha
      have hy := List.pairwise_cons.1 hb
      have hxy : x = y := by
        rcases List.mem_cons.1 ((h x).1 List.mem_cons_self) with h1 | h1
        · exact h1
        · rcases List.mem_cons.1 ((h y).2 List.mem_cons_self) with h2 | h2
          · exact h2.symm
          · have a1 := hx.1 y h2
            have a2 := hy.1 x h1
            omega
      subst hxy
      rw [ih hx.2 hy.2 (fun z => ?_)]
      constructor
      · intro hz
        rcases List.mem_cons.1 ((h z).1 (List.mem_cons_of_mem _ hz)) with h1 | h1
        · have := hx.1 z hz; omega
        · exact h1
      · intro hz
        rcases List.mem_cons.1 ((h z).2 (List.mem_cons_of_mem _ hz)) with h1 | h1
        · have := hy.1 z hz; omega
        · exact h1
theorem comp_up (d : Array Int) (hd : ∀ i j, i < j → j < d.size → d[i]! ≤ d[j]!) : ∀ m, m ≤ d.size → Ris (Lib.compactUpTo d m) ∧ (∀ x, x ∈ Lib.compactUpTo d m ↔ ∃ j, j < m ∧ x = d[j]!) := by
  intro m
  induction m with
  | zero => intro _; exact ⟨by simp [Lib.compactUpTo, Ris], fun x => by simp [Lib.compactUpTo]⟩
  | succ m ih =>
    intro hm
    obtain ⟨h1, h2⟩ := ih (by omega)
    rw [Lib.compactUpTo_succ]
    by_cases hk : Lib.keeps d m = true
    · simp only [hk, if_true]
      refine ⟨List.pairwise_append.2 ⟨h1, by simp, fun a ha b hb => ?_⟩, fun x => ?_⟩
      · simp at hb
        subst hb
        obtain ⟨j, hj, rfl⟩ := (h2 a).1 ha
        have hne : m ≠ 0 := by omega
        have hdm : d[m]! ≠ d[m - 1]! := by
          intro e
          rw [Lib.keeps_neg (by omega) e] at hk
          cases hk
        have a1 := hd (m - 1) m (by omega) (by omega)
        have a2 : d[j]! ≤ d[m - 1]! := by
          rcases Nat.lt_or_ge j (m - 1) with h | h
          · exact hd j (m - 1) h (by omega)
          · have : j = m - 1 := by omega
            rw [this]; exact Int.le_refl _
        omega
      · rw [List.mem_append, h2]
        constructor
        · rintro (⟨j, hj, e⟩ | h)
          · exact ⟨j, by omega, e⟩
          · simp at h; exact ⟨m, by omega, h⟩
        · rintro ⟨j, hj, e⟩
          rcases Nat.lt_or_ge j m with h | h
          · exact .inl ⟨j, h, e⟩
          · have : j = m := by omega
            subst this; exact .inr (by simp [e])
    · have hk' : Lib.keeps d m = false := by simpa using hk
      simp only [hk', Bool.false_eq_true, if_false, List.append_nil]
      refine ⟨h1, fun x => ?_⟩
      rw [h2]
      constructor
      · rintro ⟨j, hj, e⟩; exact ⟨j, by omega, e⟩
      · rintro ⟨j, hj, e⟩
        rcases Nat.lt_or_ge j m with h | h
        · exact ⟨j, h, e⟩
        · have : j = m := by omega
          subst this
          have hm0 : 0 < j := by
            rcases Nat.eq_zero_or_pos j with h0 | h0
            · subst h0; simp [Lib.keeps] at hk'
            · exact h0
          have hde : d[j]! = d[j - 1]! := by
            rcases Classical.em (d[j]! = d[j - 1]!) with h | h
            · exact h
            · rw [Lib.keeps_pos h] at hk'; cases hk'
          exact ⟨j - 1, by omega, by rw [e, hde]⟩
/-- sorted and without what is there twice -/
def tidy (zs : List Int) : List Int := Lib.compact (zs.mergeSort fun x y => decide (x ≤ y))
theorem tidy_ris (zs : List Int) : Ris (tidy zs) ∧ ∀ x, x ∈ tidy zs ↔ x ∈ zs := by
  have hp := List.pairwise_mergeSort (le := fun x y : Int => decide (x ≤ y)) (fun a b c => by simp; omega) (fun a b => by simp; omega) zs
  have hm : ∀ x, x ∈ zs.mergeSort (fun x y => decide (x ≤ y)) ↔ x ∈ zs := fun x => (List.mergeSort_perm zs _).mem_iff
  unfold tidy Lib.compact
  generalize zs.mergeSort (fun x y => decide (x ≤ y)) = s at *
  have hget : ∀ j (h : j < s.length), s.toArray[j]! = s[j] := fun j h => by simp [getElem!_pos, h]
  obtain ⟨h1, h2⟩ := comp_up s.toArray (fun i j hij hj => by
    have hj' : j < s.length := by simpa using hj
    rw [hget i (by omega), hget j hj']
    have := List.pairwise_iff_getElem.1 hp i j (by omega) hj' hij
    simpa using this) s.length (by simp)
  refine ⟨h1, fun x => ?_⟩
  rw [h2, ← hm]
  constructor
  · rintro ⟨j, hj, rfl⟩
    rw [hget j hj]
    exact List.getElem_mem hj
  · intro hx
    obtain ⟨j, hj, rfl⟩ := List.getElem_of_mem hx
    exact ⟨j, hj, (hget j hj).symm⟩
/-- the channels among values -/
def chs (l : List V) : List Int := (l.filter (fun y => (y.k == 5) && decide (0 < y.n))).map V.n
theorem chs_snoc_yes {l : List V} {y : V} (h1 : y.k = 5) (h2 : 0 < y.n) : chs (l ++ [y]) = chs l ++ [y.n] := by simp [chs, h1, h2]
theorem chs_snoc_no {l : List V} {y : V} (h : ¬ (y.k = 5 ∧ 0 < y.n)) : chs (l ++ [y]) = chs l := by
  have : ((y.k == 5) && decide (0 < y.n)) = false := by simpa using h
  simp [chs, this]
theorem chs_len (l : List V) : (chs l).length ≤ l.length := by simp [chs]; exact List.length_filter_le _ _
/-- the channels in a value, rising -/
def IsCh (x : V) (cs : List Int) : Prop := Ris cs ∧ ∀ n, n ∈ cs ↔ ∃ y, Nod x y ∧ y.k = 5 ∧ 0 < y.n ∧ y.n = n
theorem IsCh.one {x : V} {a b : List Int} (ha : IsCh x a) (hb : IsCh x b) : a = b := ris_one ha.1 hb.1 (fun n => by rw [ha.2, hb.2])
theorem isCh_tidy {x : V} {xs : List (Value × V)} (h : AllOf x xs) : IsCh x (tidy (chs (xs.map Prod.snd))) := by
  obtain ⟨h1, h2⟩ := tidy_ris (chs (xs.map Prod.snd))
  refine ⟨h1, fun n => ?_⟩
  rw [h2]
  simp only [chs, List.mem_map, List.mem_filter, Bool.and_eq_true, beq_iff_eq, decide_eq_true_eq]
  constructor
  · rintro ⟨y, ⟨hy, hk, hn⟩, e⟩
    exact ⟨y, (h.1 y).2 (List.mem_map.2 hy), hk, hn, e⟩
  · rintro ⟨y, hy, hk, hn, e⟩
    exact ⟨y, ⟨List.mem_map.1 ((h.1 y).1 hy), hk, hn⟩, e⟩
end Go.Proofs.Ytikijkpklneihaa
