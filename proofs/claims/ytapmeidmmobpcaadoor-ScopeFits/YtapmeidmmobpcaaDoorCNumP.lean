import Derived.Test.YtapmeidmmobpcaaDoorCTabs
import Derived.Lib.AtoiAll
namespace Go.Proofs.YtapmeidmmobpcaaDoor
open Go.RowKit
set_option linter.unusedVariables false
set_option linter.unusedSimpArgs false

/-- what digits spell, behind a number -/
def numFrom (acc : Nat) : List UInt8 → Nat
  | [] => acc
  | c :: r => numFrom (acc * 10 + (c.toNat - 48)) r
def numVal (l : List UInt8) : Nat := numFrom 0 l
def allDig : List UInt8 → Bool
  | [] => true
  | c :: r => digI c.toNat && allDig r

theorem numFrom_ge (l : List UInt8) : ∀ acc : Nat, acc ≤ numFrom acc l := by
  induction l with
  | nil => intro acc; exact Nat.le_refl _
  | cons c r ih =>
    intro acc
    have := ih (acc * 10 + (c.toNat - 48))
    show acc ≤ numFrom (acc * 10 + (c.toNat - 48)) r
    generalize numFrom (acc * 10 + (c.toNat - 48)) r = z at *
    omega

theorem parse_ok (l : List UInt8) : ∀ acc : Nat, allDig l = true → numFrom acc l < 18446744073709551616 → Lib.parseUint10 acc l = .ok (numFrom acc l) := by
  induction l with
  | nil => intro acc _ _; rfl
  | cons c r ih =>
    intro acc hd h
    simp only [allDig, digI, Bool.and_eq_true, decide_eq_true_eq] at hd
    obtain ⟨⟨h1, h2⟩, h3⟩ := hd
    have hs : numFrom acc (c :: r) = numFrom (acc * 10 + (c.toNat - 48)) r := rfl
    rw [hs] at h ⊢
    have hge := numFrom_ge r (acc * 10 + (c.toNat - 48))
    have ih' := ih (acc * 10 + (c.toNat - 48)) h3 h
    have e1 : 48 ≤ c.toNat ∧ c.toNat ≤ 57 := by omega
    have e2 : ¬ 1844674407370955162 ≤ acc := by omega
    have e3 : ¬ 18446744073709551616 ≤ acc * 10 + (c.toNat - 48) := by omega
    rw [Lib.parseUint10, if_pos e1, if_neg e2, if_neg e3]
    exact ih'

theorem parse_range (l : List UInt8) : ∀ acc : Nat, allDig l = true → acc < 18446744073709551616 → 18446744073709551616 ≤ numFrom acc l → Lib.parseUint10 acc l = .range := by
  induction l with
  | nil =>
    intro acc _ h1 h2
    have e : numFrom acc [] = acc := rfl
    rw [e] at h2
    omega
  | cons c r ih =>
    intro acc hd h0 h
    simp only [allDig, digI, Bool.and_eq_true, decide_eq_true_eq] at hd
    obtain ⟨⟨h1, h2⟩, h3⟩ := hd
    have hs : numFrom acc (c :: r) = numFrom (acc * 10 + (c.toNat - 48)) r := rfl
    rw [hs] at h
    have e1 : 48 ≤ c.toNat ∧ c.toNat ≤ 57 := by omega
    rw [Lib.parseUint10, if_pos e1]
    by_cases e2 : 1844674407370955162 ≤ acc
    · rw [if_pos e2]
    · by_cases e3 : 18446744073709551616 ≤ acc * 10 + (c.toNat - 48)
      · rw [if_neg e2, if_pos e3]
      · rw [if_neg e2, if_neg e3]
        exact ih _ h3 (by omega) h

theorem atoi_ok (l : List UInt8) (hne : l ≠ []) (hd : allDig l = true) (hv : numVal l < 9223372036854775808) : Lib.atoiAll l = .ok (numVal l : Int) := by
  cases l with
  | nil => exact absurd rfl hne
  | cons c r =>
    have hp := parse_ok (c :: r) 0 hd (by unfold numVal at hv; omega)
    have hd' := hd
    simp only [allDig, digI, Bool.and_eq_true, decide_eq_true_eq] at hd'
    obtain ⟨⟨h1, h2⟩, _⟩ := hd'
    have n43 : ¬ (c.toNat = 43 ∨ c.toNat = 45) := by omega
    have n45 : ¬ c.toNat = 45 := by omega
    have hm : Lib.parseMag (c :: r) = .ok (numVal (c :: r)) := by
      unfold Lib.parseMag; rw [if_neg (by simp)]; exact hp
    have hsel : (if c.toNat = 43 ∨ c.toNat = 45 then r else c :: r) = c :: r := if_neg n43
    unfold Lib.atoiAll
    dsimp only
    rw [hsel, hm]
    dsimp only
    generalize numVal (c :: r) = z at *
    rw [if_neg (by omega), if_neg (by omega), if_neg n45]

theorem atoi_range (l : List UInt8) (hne : l ≠ []) (hd : allDig l = true) (hv : ¬ numVal l < 9223372036854775808) : Lib.atoiAll l = .range := by
  cases l with
  | nil => exact absurd rfl hne
  | cons c r =>
    have hd' := hd
    simp only [allDig, digI, Bool.and_eq_true, decide_eq_true_eq] at hd'
    obtain ⟨⟨h1, h2⟩, _⟩ := hd'
    have n43 : ¬ (c.toNat = 43 ∨ c.toNat = 45) := by omega
    have n45 : ¬ c.toNat = 45 := by omega
    by_cases b : numVal (c :: r) < 18446744073709551616
    · have hp := parse_ok (c :: r) 0 hd b
      have hm : Lib.parseMag (c :: r) = .ok (numVal (c :: r)) := by
        unfold Lib.parseMag; rw [if_neg (by simp)]; exact hp
      have hsel : (if c.toNat = 43 ∨ c.toNat = 45 then r else c :: r) = c :: r := if_neg n43
      unfold Lib.atoiAll
      dsimp only
      rw [hsel, hm]
      dsimp only
      generalize numVal (c :: r) = z at *
      rw [if_pos ⟨n45, by omega⟩]
    · have hp := parse_range (c :: r) 0 hd (by omega) (by unfold numVal at b; omega)
      have hm : Lib.parseMag (c :: r) = .range := by
        unfold Lib.parseMag; rw [if_neg (by simp)]; exact hp
      have hsel : (if c.toNat = 43 ∨ c.toNat = 45 then r else c :: r) = c :: r := if_neg n43
      unfold Lib.atoiAll
      dsimp only
      rw [hsel, hm]

theorem allDig_span : ∀ l : List UInt8, allDig (l.take (spanL digI l)) = true
  | [] => rfl
  | c :: r => by
    by_cases h : digI (c.toNat : Int) = true
    · simp [spanL, h, allDig, allDig_span r]
    · simp [spanL, h, allDig]

/-- the number that stands at k -/
def numR (xs : List UInt8) (k : Nat) : Tok × Nat :=
  if spanTo digI xs k < xs.length ∧ wsI ((xs.getD (spanTo digI xs k) 0).toNat : Int) = true then (tok0, 12)
  else if ((xs.getD k 0).toNat : Int) = 48 ∧ 1 < spanTo digI xs k - k then (tok0, 12)
  else if numVal (cut xs k (spanTo digI xs k)) < 9223372036854775808 then (⟨2, k, spanTo digI xs k - k, numVal (cut xs k (spanTo digI xs k))⟩, 0)
  else (tok0, 12)
end Go.Proofs.YtapmeidmmobpcaaDoor
