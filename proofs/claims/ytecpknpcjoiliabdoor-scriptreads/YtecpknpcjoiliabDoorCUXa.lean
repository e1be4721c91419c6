import Derived.Test.YtecpknpcjoiliabDoorCUDg
namespace Go.Proofs.YtecpknpcjoiliabDoor
open Go.RowKit
set_option linter.unusedVariables false
set_option linter.unusedSimpArgs false

set_option maxRecDepth 100000 in
set_option maxHeartbeats 2000000 in
theorem rkind_any (t : List UInt8) (w : World) : Calls Tryd.prog 38 #[strV t] w fun e w' => e = .returned (.tuple #[.int .i64 (kindI t : Nat), .int .i64 (if kindI t = 0 then (0 : Nat) else (shapeI (kindI t)).2 : Nat)]) ∧ w' = w := by
  by_cases h1 : t = [115, 116, 101, 112]
  · subst h1
    go_enter Tryd.func38, Tryd.ntmps38
    go_wp2
    go_ret2
    exact ⟨rfl, rfl⟩
  · by_cases h2 : t = [105, 110]
    · subst h2
      go_enter Tryd.func38, Tryd.ntmps38
      go_wp2
      go_ret2
      exact ⟨rfl, rfl⟩
    · by_cases h3 : t = [111, 117, 116]
      · subst h3
        go_enter Tryd.func38, Tryd.ntmps38
        go_wp2
        go_ret2
        exact ⟨rfl, rfl⟩
      · by_cases h4 : t = [112, 114, 111, 98, 101]
        · subst h4
          go_enter Tryd.func38, Tryd.ntmps38
          go_wp2
          go_ret2
          exact ⟨rfl, rfl⟩
        · have hk : kindI t = 0 := by unfold kindI; rw [if_neg h1, if_neg h2, if_neg h3, if_neg h4]
          rw [hk]
          have a1 : (t == [115, 116, 101, 112]) = false := by simpa using h1
          have a2 : (t == [105, 110]) = false := by simpa using h2
          have a3 : (t == [111, 117, 116]) = false := by simpa using h3
          have a4 : (t == [112, 114, 111, 98, 101]) = false := by simpa using h4
          go_enter Tryd.func38, Tryd.ntmps38
          go_wp2
          go_ret2
          exact ⟨rfl, rfl⟩
/-! ### numbers, plain -/
def valL (l : List UInt8) : Nat := l.foldl (fun n c => 10 * n + (c.toNat - 48)) 0
theorem valL_snoc (l : List UInt8) (c : UInt8) : valL (l ++ [c]) = 10 * valL l + (c.toNat - 48) := by simp [valL]
theorem valL_dec (u : Nat) : valL (Lib.decDigits u) = u := by
  induction u using Nat.strongRecOn with
  | ind u ih =>
    by_cases h : u < 10
    · rw [Lib.decDigits, dif_pos h]
      have e : (UInt8.ofNat (48 + u)).toNat = 48 + u := UInt8.toNat_ofNat_of_lt' (by omega : 48 + u < 256)
      show 10 * 0 + ((UInt8.ofNat (48 + u)).toNat - 48) = u
      rw [e]
      omega
    · rw [Lib.decDigits, dif_neg h, valL_snoc, ih (u / 10) (by omega)]
      have e : (UInt8.ofNat (48 + u % 10)).toNat = 48 + u % 10 := UInt8.toNat_ofNat_of_lt' (by omega : 48 + u % 10 < 256)
      rw [e]
      omega
theorem valL_mono : ∀ (r l : List UInt8), valL l ≤ valL (l ++ r)
  | [], l => by simp
  | c :: r, l => by
    have h1 := valL_mono r (l ++ [c])
    rw [valL_snoc] at h1
    have e : l ++ c :: r = l ++ [c] ++ r := by simp
    rw [e]
    omega
/-- the digits of a word: what stands behind a minus -/
def digW (t : List UInt8) : List UInt8 := match t with
  | [] => []
  | c :: r => if c = 45 then r else c :: r
/-- a word that is a number, but the least one -/
theorem num_form {t : List UInt8} {y : Int} (h : numOf t = some y) (hm : y ≠ -9223372036854775808) : digW t = Lib.decDigits y.natAbs ∧ y.natAbs ≤ 9223372036854775807 ∧ (y < 0 ↔ (digW t).length < t.length) := by
  obtain ⟨e, h1, h2⟩ := numOf_some h
  by_cases hn : y < 0
  · obtain ⟨k, rfl⟩ : ∃ k : Nat, y = -(k : Int) := ⟨(-y).toNat, by omega⟩
    have hk : 1 ≤ k := by omega
    rw [Lib.itoa_neg k hk] at e
    have e1 : (-(k : Int)).natAbs = k := by omega
    subst e
    rw [e1]
    refine ⟨rfl, by omega, ?_⟩
    have : digW (45 :: Lib.decDigits k) = Lib.decDigits k := rfl
    rw [this]
    simp
    omega
  · obtain ⟨k, rfl⟩ : ∃ k : Nat, y = (k : Int) := ⟨y.toNat, by omega⟩
    rw [Lib.itoa_nonneg] at e
    subst e
    have hd := dec_dig k
    have hne := dec_ne k
    have e1 : ((k : Int)).natAbs = k := by omega
    rw [e1]
    have hq : digW (Lib.decDigits k) = Lib.decDigits k := by
      generalize Lib.decDigits k = l at *
      match l, hne with
      | c :: r, _ =>
        have hc := hd c List.mem_cons_self
        show (if c = 45 then r else c :: r) = c :: r
        rw [if_neg]
        intro e
        rw [e] at hc
        have : (45 : UInt8).toNat = 45 := rfl
        omega
    rw [hq]
    exact ⟨rfl, by omega, ⟨fun h => absurd h hn, fun h => absurd h (by omega)⟩⟩
/-- a beginning of digits of a number -/
theorem num_pre {t : List UInt8} {y : Int} (h : numOf t = some y) (hm : y ≠ -9223372036854775808) (i : Nat) (hi : i < (digW t).length) : 48 ≤ ((digW t)[i]).toNat ∧ ((digW t)[i]).toNat ≤ 57 ∧ 10 * valL ((digW t).take i) + (((digW t)[i]).toNat - 48) ≤ 9223372036854775807 := by
  obtain ⟨e, hk, _⟩ := num_form h hm
  have hd := dec_dig y.natAbs
  have hv := valL_dec y.natAbs
  rw [← e] at hd hv
  have h1 := hd _ (List.getElem_mem hi)
  refine ⟨h1.1, h1.2, ?_⟩
  rw [← valL_snoc, ← List.take_succ_eq_append_getElem hi]
  have := valL_mono ((digW t).drop (i + 1)) ((digW t).take (i + 1))
  rw [List.take_append_drop, hv] at this
  omega
theorem num_len {t : List UInt8} {y : Int} (h : numOf t = some y) (hm : y ≠ -9223372036854775808) : 0 < (digW t).length ∧ (digW t).length ≤ 19 := by
  obtain ⟨e, hk, _⟩ := num_form h hm
  rw [e]
  have := dec_ne y.natAbs
  exact ⟨List.length_pos_iff.2 this, dec_len 18 y.natAbs (by omega)⟩
/-- what all of them come to -/
theorem num_val {t : List UInt8} {y : Int} (h : numOf t = some y) (hm : y ≠ -9223372036854775808) : y = (if (digW t).length < t.length then -(valL (digW t) : Int) else (valL (digW t) : Int)) := by
  obtain ⟨e, hk, hs⟩ := num_form h hm
  have hv := valL_dec y.natAbs
  rw [← e] at hv
  rw [hv]
  split
  · rename_i h1
    have := hs.2 h1
    omega
  · rename_i h1
    have : ¬ y < 0 := fun h2 => h1 (hs.1 h2)
    omega
end Go.Proofs.YtecpknpcjoiliabDoor
