import Derived.Test.YtblhklbpcalglaaGreatDoorCPlain
import Derived.Test.YtblhklbpcalglaaGreatDoorChecked
import Derived.WalkKit
import Derived.WalkSpells
import Derived.WalkLawsBesides
namespace Go.Proofs.YtblhklbpcalglaaGreatDoor
open Go.RowKit
set_option linter.unusedVariables false
set_option linter.unusedSimpArgs false
theorem ret_int {k : IntKind} {a b : Int} (h : a = b) : Ending.returned (.int k a) = .returned (.int k b) := by rw [h]
theorem isRemark_any (c : Int) (w : World) : Calls Tryz.prog 17 #[.int .u8 c] w fun e w' => e = .returned (.bool (remI c)) ∧ w = w' := by
  go_enter Tryz.func17, Tryz.ntmps17
  go_wp2
  go_ret
  exact ⟨rfl, rfl⟩
theorem isDigit_any (c : Int) (w : World) : Calls Tryz.prog 20 #[.int .u8 c] w fun e w' => e = .returned (.bool (digI c)) ∧ w = w' := by
  unfold digI
  by_cases h1 : 48 ≤ c
  · go_enter Tryz.func20, Tryz.ntmps20
    go_wp2
    go_ret
    exact ⟨by simp [h1], rfl⟩
  · have h2 : decide (48 ≤ c) = false := by simpa using h1
    rw [h2]
    go_enter Tryz.func20, Tryz.ntmps20
    go_wp2
    go_ret
    exact ⟨by simp, rfl⟩
theorem isBlank_any (c : Int) (w : World) : Calls Tryz.prog 15 #[.int .u8 c] w fun e w' => e = .returned (.bool (blankI c)) ∧ w = w' := by
  unfold blankI
  cases h1 : (c == 9)
  · cases h2 : (c == 10)
    · cases h3 : (c == 13)
      · go_enter Tryz.func15, Tryz.ntmps15
        go_wp2
        go_ret
        exact ⟨by simp, rfl⟩
      · go_enter Tryz.func15, Tryz.ntmps15
        go_wp2
        go_ret
        exact ⟨by simp, rfl⟩
    · go_enter Tryz.func15, Tryz.ntmps15
      go_wp2
      go_ret
      exact ⟨by simp, rfl⟩
  · go_enter Tryz.func15, Tryz.ntmps15
    go_wp2
    go_ret
    exact ⟨by simp, rfl⟩
theorem isWordStart_any (c : Int) (w : World) : Calls Tryz.prog 18 #[.int .u8 c] w fun e w' => e = .returned (.bool (wsI c)) ∧ w = w' := by
  unfold wsI
  cases h1 : decide (97 ≤ c) <;> cases h2 : decide (c ≤ 122) <;> cases h3 : decide (65 ≤ c) <;> cases h4 : decide (c ≤ 90) <;>
    (go_enter Tryz.func18, Tryz.ntmps18
     go_wp2
     go_ret
     exact ⟨by simp, rfl⟩)
theorem isWordByte_any (c : Int) (w : World) : Calls Tryz.prog 28 #[.int .u8 c] w fun e w' => e = .returned (.bool (wbI c)) ∧ w = w' := by
  unfold wbI
  cases h1 : wsI c
  · go_enter Tryz.func28, Tryz.ntmps28
    go_wp2_with (first | (go_at_call 18; refine (isWordStart_any _ _).mono ?_; rintro e w' ⟨rfl, rfl⟩) | (go_at_call 20; refine (isDigit_any _ _).mono ?_; rintro e w' ⟨rfl, rfl⟩))
    go_ret
    exact ⟨by simp, rfl⟩
  · go_enter Tryz.func28, Tryz.ntmps28
    go_wp2_with (first | (go_at_call 18; refine (isWordStart_any _ _).mono ?_; rintro e w' ⟨rfl, rfl⟩) | (go_at_call 20; refine (isDigit_any _ _).mono ?_; rintro e w' ⟨rfl, rfl⟩))
    go_ret
    exact ⟨by simp, rfl⟩
def Src (w : World) (b o : Nat) (xs : List UInt8) : Prop := ∀ i (h : i < xs.length), w.cell? ⟨b, o + i, none⟩ = some (.int .u8 (xs[i].toNat : Int))
theorem span33_any (b o cap : Nat) (xs : List UInt8) (k : Nat) (w : World) (hs : Src w b o xs) (hl : xs.length ≤ maxLen) (hk : k ≤ xs.length) :
    Calls Tryz.prog 16 #[.slice (some ⟨b, o, none⟩) xs.length cap, .int .i64 k, .func (.func 17) #[] #[]] w fun e w' => e = .returned (.int .i64 (spanTo remI xs k)) ∧ w = w' := by
  unfold maxLen at hl
  go_enter Tryz.func16, Tryz.ntmps16
  go_wp2
  go_loop [1] (fun i => ∃ j : Nat, j ≤ xs.length ∧ i = .int .i64 j ∧ Hid (spanTo remI xs k = spanTo remI xs j)) (fun i => xs.length - (intOf i).toNat)
  case atStart => exact ⟨k, hk, rfl, rfl⟩
  case round =>
    obtain ⟨j, hj, rfl, H⟩ := hrel
    by_cases hlt : j < xs.length
    · have hc := hs j hlt
      cases hb : remI (xs[j].toNat : Int)
      · go_wp2_with (first | (go_at_call 17; refine (isRemark_any _ _).mono ?_; rintro e w' ⟨rfl, rfl⟩))
        go_ret
        exact ⟨ret_int (by rw [H.out, spanTo_no _ _ _ hlt hb]), rfl⟩
      · go_wp2_with (first | (go_at_call 17; refine (isRemark_any _ _).mono ?_; rintro e w' ⟨rfl, rfl⟩))
        go_round
        case rel => exact ⟨j + 1, by omega, by go_num, by rw [H.out]; exact spanTo_yes _ _ _ hlt hb⟩
        case measure => simp [intOf]; omega
    · go_wp2
      go_ret
      exact ⟨ret_int (by rw [H.out, spanTo_end _ _ _ (by omega)]), rfl⟩
theorem span36_any (b o cap : Nat) (xs : List UInt8) (k : Nat) (w : World) (hs : Src w b o xs) (hl : xs.length ≤ maxLen) (hk : k ≤ xs.length) :
    Calls Tryz.prog 16 #[.slice (some ⟨b, o, none⟩) xs.length cap, .int .i64 k, .func (.func 20) #[] #[]] w fun e w' => e = .returned (.int .i64 (spanTo digI xs k)) ∧ w = w' := by
  unfold maxLen at hl
  go_enter Tryz.func16, Tryz.ntmps16
  go_wp2
  go_loop [1] (fun i => ∃ j : Nat, j ≤ xs.length ∧ i = .int .i64 j ∧ Hid (spanTo digI xs k = spanTo digI xs j)) (fun i => xs.length - (intOf i).toNat)
  case atStart => exact ⟨k, hk, rfl, rfl⟩
  case round =>
    obtain ⟨j, hj, rfl, H⟩ := hrel
    by_cases hlt : j < xs.length
    · have hc := hs j hlt
      cases hb : digI (xs[j].toNat : Int)
      · go_wp2_with (first | (go_at_call 20; refine (isDigit_any _ _).mono ?_; rintro e w' ⟨rfl, rfl⟩))
        go_ret
        exact ⟨ret_int (by rw [H.out, spanTo_no _ _ _ hlt hb]), rfl⟩
      · go_wp2_with (first | (go_at_call 20; refine (isDigit_any _ _).mono ?_; rintro e w' ⟨rfl, rfl⟩))
        go_round
        case rel => exact ⟨j + 1, by omega, by go_num, by rw [H.out]; exact spanTo_yes _ _ _ hlt hb⟩
        case measure => simp [intOf]; omega
    · go_wp2
      go_ret
      exact ⟨ret_int (by rw [H.out, spanTo_end _ _ _ (by omega)]), rfl⟩
theorem span39_any (b o cap : Nat) (xs : List UInt8) (k : Nat) (w : World) (hs : Src w b o xs) (hl : xs.length ≤ maxLen) (hk : k ≤ xs.length) :
    Calls Tryz.prog 16 #[.slice (some ⟨b, o, none⟩) xs.length cap, .int .i64 k, .func (.func 28) #[] #[]] w fun e w' => e = .returned (.int .i64 (spanTo wbI xs k)) ∧ w = w' := by
  unfold maxLen at hl
  go_enter Tryz.func16, Tryz.ntmps16
  go_wp2
  go_loop [1] (fun i => ∃ j : Nat, j ≤ xs.length ∧ i = .int .i64 j ∧ Hid (spanTo wbI xs k = spanTo wbI xs j)) (fun i => xs.length - (intOf i).toNat)
  case atStart => exact ⟨k, hk, rfl, rfl⟩
  case round =>
    obtain ⟨j, hj, rfl, H⟩ := hrel
    by_cases hlt : j < xs.length
    · have hc := hs j hlt
      cases hb : wbI (xs[j].toNat : Int)
      · go_wp2_with (first | (go_at_call 28; refine (isWordByte_any _ _).mono ?_; rintro e w' ⟨rfl, rfl⟩))
        go_ret
        exact ⟨ret_int (by rw [H.out, spanTo_no _ _ _ hlt hb]), rfl⟩
      · go_wp2_with (first | (go_at_call 28; refine (isWordByte_any _ _).mono ?_; rintro e w' ⟨rfl, rfl⟩))
        go_round
        case rel => exact ⟨j + 1, by omega, by go_num, by rw [H.out]; exact spanTo_yes _ _ _ hlt hb⟩
        case measure => simp [intOf]; omega
    · go_wp2
      go_ret
      exact ⟨ret_int (by rw [H.out, spanTo_end _ _ _ (by omega)]), rfl⟩
theorem skip_any (b o cap : Nat) (xs : List UInt8) (k : Nat) (w : World) (hs : Src w b o xs) (hl : xs.length ≤ maxLen) (hk : k ≤ xs.length) :
    Calls Tryz.prog 10 #[.slice (some ⟨b, o, none⟩) xs.length cap, .int .i64 k] w fun e w' => e = .returned (.int .i64 (skipTo xs k)) ∧ w = w' := by
  have hl0 := hl
  unfold maxLen at hl
  go_enter Tryz.func10, Tryz.ntmps10
  go_wp2
  go_loop [1] (fun i => ∃ j : Nat, j ≤ xs.length ∧ i = .int .i64 j ∧ Hid (skipTo xs k = skipTo xs j)) (fun i => xs.length - (intOf i).toNat)
  case atStart => exact ⟨k, hk, rfl, rfl⟩
  case round =>
    obtain ⟨j, hj, rfl, H⟩ := hrel
    by_cases hlt : j < xs.length
    · have hc := hs j hlt
      cases hb : blankI (xs[j].toNat : Int)
      · cases hr : ((xs[j].toNat : Int) == 35)
        · go_wp2_with (first | (go_at_call 15; refine (isBlank_any _ _).mono ?_; rintro e w' ⟨rfl, rfl⟩))
          go_ret
          exact ⟨ret_int (by rw [H.out, skipTo_no _ _ hlt hb hr]), rfl⟩
        · have hgt := spanTo_rem_gt xs j hlt hr
          have hle := (spanTo_le remI xs j hj).2
          go_wp2_with (first | (go_at_call 15; refine (isBlank_any _ _).mono ?_; rintro e w' ⟨rfl, rfl⟩) | (go_at_call 16; refine (span33_any _ _ _ _ _ _ hs hl0 hj).mono ?_; rintro e w' ⟨rfl, rfl⟩))
          go_round
          case rel => exact ⟨spanTo remI xs j, hle, rfl, by rw [H.out]; exact skipTo_rem _ _ hlt hb hr⟩
          case measure => simp [intOf]; omega
      · go_wp2_with (first | (go_at_call 15; refine (isBlank_any _ _).mono ?_; rintro e w' ⟨rfl, rfl⟩))
        go_round
        case rel => exact ⟨j + 1, by omega, by go_num, by rw [H.out]; exact skipTo_blank _ _ hlt hb⟩
        case measure => simp [intOf]; omega
    · go_wp2
      go_ret
      exact ⟨ret_int (by rw [H.out, skipTo_end _ _ (by omega)]), rfl⟩
theorem skip_none (a : Option Addr) (cap : Nat) (w : World) :
    Calls Tryz.prog 10 #[.slice a 0 cap, .int .i64 0] w fun e w' => e = .returned (.int .i64 0) ∧ w = w' := by
  go_enter Tryz.func10, Tryz.ntmps10
  go_wp2
  go_loop [1] (fun i => i = .int .i64 0) (fun _ => 0)
  case atStart => rfl
  case round =>
    subst hrel
    go_wp2
    go_ret
    exact ⟨rfl, rfl⟩
end Go.Proofs.YtblhklbpcalglaaGreatDoor
