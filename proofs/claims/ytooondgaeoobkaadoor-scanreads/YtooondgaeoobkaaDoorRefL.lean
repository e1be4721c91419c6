import Derived.Test.YtooondgaeoobkaaDoorCovP
namespace Go.Proofs.YtooondgaeoobkaaDoor
open Go.RowKit
set_option linter.unusedVariables false
set_option linter.unusedSimpArgs false

theorem refDigit (c : Int) (w : World) : Calls Tryd.prog 26 #[.int .u8 c] w fun e w' => e = .returned (.bool (digI c)) ∧ w = w' := by
  unfold digI
  cases h1 : decide (48 ≤ c)
  · go_enter Tryd.func26, Tryd.ntmps26
    go_wp2
    go_ret
    exact ⟨by simp, rfl⟩
  · go_enter Tryd.func26, Tryd.ntmps26
    go_wp2
    go_ret
    exact ⟨by simp, rfl⟩
theorem refBlank (c : Int) (w : World) : Calls Tryd.prog 23 #[.int .u8 c] w fun e w' => e = .returned (.bool (blankI c)) ∧ w = w' := by
  unfold blankI
  cases h1 : (c == 9) <;> cases h2 : (c == 10) <;> cases h3 : (c == 13) <;>
    (go_enter Tryd.func23, Tryd.ntmps23
     go_wp2
     go_ret
     exact ⟨by simp, rfl⟩)
theorem refLetter (c : Int) (w : World) : Calls Tryd.prog 24 #[.int .u8 c] w fun e w' => e = .returned (.bool (wsI c)) ∧ w = w' := by
  unfold wsI
  cases h1 : decide (97 ≤ c) <;> cases h2 : decide (c ≤ 122) <;> cases h3 : decide (65 ≤ c) <;> cases h4 : decide (c ≤ 90) <;>
    (go_enter Tryd.func24, Tryd.ntmps24
     go_wp2
     go_ret
     exact ⟨by simp, rfl⟩)

/-! ### what the reference's Kind says of a word, of a sign -/
theorem word_head : ∀ i : Fin 21, wsI (((wordsT.getD i []).getD 0 0).toNat : Int) = true := by decide
theorem sign_head : ∀ i : Fin 27, wsI (((signsT.getD i []).getD 0 0).toNat : Int) = false := by decide
theorem signK_word (t : List UInt8) (h : wsI ((t.getD 0 0).toNat : Int) = true) : signK t = 0 := by
  rcases kindFrom_at signsT 40 t with h0 | ⟨i, a1, a2, a3⟩
  · exact h0
  · have a1 : i < 27 := a1
    have := sign_head ⟨i, a1⟩
    simp only at this
    rw [a3] at this
    rw [this] at h
    cases h
theorem wordK_sign (t : List UInt8) (h : wsI ((t.getD 0 0).toNat : Int) = false) : wordK t = 0 := by
  rcases kindFrom_at wordsT 10 t with h0 | ⟨i, a1, a2, a3⟩
  · exact h0
  · have a1 : i < 21 := a1
    have := word_head ⟨i, a1⟩
    simp only at this
    rw [a3, h] at this
    cases this
theorem kindK_word (t : List UInt8) (h : wsI ((t.getD 0 0).toNat : Int) = true) : kindK t = wordK t := by
  unfold kindK
  split
  · rename_i h0; rw [signK_word t h, h0]
  · rfl
theorem kindK_sign (t : List UInt8) (h : wsI ((t.getD 0 0).toNat : Int) = false) : kindK t = signK t := by
  unfold kindK
  rw [if_pos (wordK_sign t h)]

/-- the longest sign, by lengths -/
theorem sign_of (i : Nat) (h : i < 27) : signK (signsT.getD i []) = 40 + i := by
  have : ∀ i : Fin 27, signK (signsT.getD i []) = 40 + i := by decide
  exact this ⟨i, h⟩
theorem signK_mem (t : List UInt8) (h : signK t ≠ 0) : t ∈ signsT ∧ 40 ≤ signK t := by
  rcases kindFrom_at signsT 40 t with h0 | ⟨i, a1, a2, a3⟩
  · exact absurd h0 h
  · have a2' : signK t = 40 + i := a2
    refine ⟨?_, by omega⟩
    rw [← a3, List.getD_eq_getElem?_getD, List.getElem?_eq_getElem a1, Option.getD_some]
    exact List.getElem_mem a1
theorem best_here (l : List UInt8) (h : (bestS l).2 ≠ 0) : signK (l.take (bestS l).2) = (bestS l).1 ∧ (bestS l).2 ≤ 3 := by
  rcases (bestFrom_spec l signsT 40 (0, 0)).2.2 with h3 | ⟨i, a1, a2, a3, a4⟩
  · have : bestS l = (0, 0) := h3
    rw [this] at h; simp at h
  · have a1 : i < 27 := a1
    have e : (bestS l).1 = 40 + i := a2
    have a4' : (signsT.getD i []).length = (bestS l).2 := a4
    have hp := List.prefix_iff_eq_take.1 (List.isPrefixOf_iff_prefix.1 a3)
    have hs := sign_of i a1
    have h3 := sign_len i a1
    refine ⟨?_, by omega⟩
    rw [e, ← hs, ← a4', ← hp]
theorem best_more (l : List UInt8) (m : Nat) (hm : (bestS l).2 < m) (hl : m ≤ l.length) : signK (l.take m) = 0 := by
  rcases Nat.eq_zero_or_pos (signK (l.take m)) with h | h
  · exact h
  · obtain ⟨hmem, _⟩ := signK_mem (l.take m) (by omega)
    have hp : (l.take m).isPrefixOf l = true := List.isPrefixOf_iff_prefix.2 (List.take_prefix _ _)
    have := (bestFrom_spec l signsT 40 (0, 0)).2.1 _ hmem hp
    have hb : (l.take m).length ≤ (bestS l).2 := this
    simp at hb
    omega
end Go.Proofs.YtooondgaeoobkaaDoor
