import Derived.Test.YtblhklbpcalglaaGreatDoorCRSim
namespace Go.Proofs.YtblhklbpcalglaaGreatDoor
open Go.RowKit
set_option linter.unusedVariables false
set_option linter.unusedSimpArgs false
theorem text_eqk {k : Nat} (hk : k = 0 ∨ k = 1 ∨ k = 2 ∨ (10 ≤ k ∧ k < 31) ∨ (40 ≤ k ∧ k < 67)) (c : Nat) (hc : (10 ≤ c ∧ c < 31) ∨ (40 ≤ c ∧ c < 67)) (t : List UInt8) (ht : textK (c : Int) = t) : ((⟨(textK (k : Nat)).toArray⟩ : ByteArray).toList == t) = decide (k = c) := by
  rw [ByteArray.toList_eq]
  have hiff := text_is hk hc
  by_cases e : k = c
  · rw [decide_eq_true e, beq_iff_eq, ← ht]
    exact hiff.2 e
  · rw [decide_eq_false e, beq_eq_false_iff_ne, ← ht]
    exact fun h' => e (hiff.1 h')
theorem between_0 {tx : ByteArray} (d0 : (tx.toList == [124, 124]) = true) (W : World) : Calls Tryz.prog 74 #[.string tx] W fun e W' => e = .returned (.int .i64 11) ∧ W' = W := by
  go_enter Tryz.func74, Tryz.ntmps74
  go_wp2
  go_ret
  exact ⟨rfl, rfl⟩
theorem between_1 {tx : ByteArray} (d0 : (tx.toList == [124, 124]) = false) (d1 : (tx.toList == [38, 38]) = true) (W : World) : Calls Tryz.prog 74 #[.string tx] W fun e W' => e = .returned (.int .i64 12) ∧ W' = W := by
  go_enter Tryz.func74, Tryz.ntmps74
  go_wp2
  go_ret
  exact ⟨rfl, rfl⟩
theorem between_2 {tx : ByteArray} (d0 : (tx.toList == [124, 124]) = false) (d1 : (tx.toList == [38, 38]) = false) (d2 : (tx.toList == [61, 61]) = true) (W : World) : Calls Tryz.prog 74 #[.string tx] W fun e W' => e = .returned (.int .i64 21) ∧ W' = W := by
  go_enter Tryz.func74, Tryz.ntmps74
  go_wp2
  go_ret
  exact ⟨rfl, rfl⟩
theorem between_3 {tx : ByteArray} (d0 : (tx.toList == [124, 124]) = false) (d1 : (tx.toList == [38, 38]) = false) (d2 : (tx.toList == [61, 61]) = false) (d3 : (tx.toList == [33, 61]) = true) (W : World) : Calls Tryz.prog 74 #[.string tx] W fun e W' => e = .returned (.int .i64 22) ∧ W' = W := by
  go_enter Tryz.func74, Tryz.ntmps74
  go_wp2
  go_ret
  exact ⟨rfl, rfl⟩
theorem between_4 {tx : ByteArray} (d0 : (tx.toList == [124, 124]) = false) (d1 : (tx.toList == [38, 38]) = false) (d2 : (tx.toList == [61, 61]) = false) (d3 : (tx.toList == [33, 61]) = false) (d4 : (tx.toList == [60]) = true) (W : World) : Calls Tryz.prog 74 #[.string tx] W fun e W' => e = .returned (.int .i64 23) ∧ W' = W := by
  go_enter Tryz.func74, Tryz.ntmps74
  go_wp2
  go_ret
  exact ⟨rfl, rfl⟩
theorem between_5 {tx : ByteArray} (d0 : (tx.toList == [124, 124]) = false) (d1 : (tx.toList == [38, 38]) = false) (d2 : (tx.toList == [61, 61]) = false) (d3 : (tx.toList == [33, 61]) = false) (d4 : (tx.toList == [60]) = false) (d5 : (tx.toList == [60, 61]) = true) (W : World) : Calls Tryz.prog 74 #[.string tx] W fun e W' => e = .returned (.int .i64 24) ∧ W' = W := by
  go_enter Tryz.func74, Tryz.ntmps74
  go_wp2
  go_ret
  exact ⟨rfl, rfl⟩
theorem between_6 {tx : ByteArray} (d0 : (tx.toList == [124, 124]) = false) (d1 : (tx.toList == [38, 38]) = false) (d2 : (tx.toList == [61, 61]) = false) (d3 : (tx.toList == [33, 61]) = false) (d4 : (tx.toList == [60]) = false) (d5 : (tx.toList == [60, 61]) = false) (d6 : (tx.toList == [62]) = true) (W : World) : Calls Tryz.prog 74 #[.string tx] W fun e W' => e = .returned (.int .i64 25) ∧ W' = W := by
  go_enter Tryz.func74, Tryz.ntmps74
  go_wp2
  go_ret
  exact ⟨rfl, rfl⟩
theorem between_7 {tx : ByteArray} (d0 : (tx.toList == [124, 124]) = false) (d1 : (tx.toList == [38, 38]) = false) (d2 : (tx.toList == [61, 61]) = false) (d3 : (tx.toList == [33, 61]) = false) (d4 : (tx.toList == [60]) = false) (d5 : (tx.toList == [60, 61]) = false) (d6 : (tx.toList == [62]) = false) (d7 : (tx.toList == [62, 61]) = true) (W : World) : Calls Tryz.prog 74 #[.string tx] W fun e W' => e = .returned (.int .i64 26) ∧ W' = W := by
  go_enter Tryz.func74, Tryz.ntmps74
  go_wp2
  go_ret
  exact ⟨rfl, rfl⟩
theorem between_8 {tx : ByteArray} (d0 : (tx.toList == [124, 124]) = false) (d1 : (tx.toList == [38, 38]) = false) (d2 : (tx.toList == [61, 61]) = false) (d3 : (tx.toList == [33, 61]) = false) (d4 : (tx.toList == [60]) = false) (d5 : (tx.toList == [60, 61]) = false) (d6 : (tx.toList == [62]) = false) (d7 : (tx.toList == [62, 61]) = false) (d8 : (tx.toList == [43]) = true) (W : World) : Calls Tryz.prog 74 #[.string tx] W fun e W' => e = .returned (.int .i64 31) ∧ W' = W := by
  go_enter Tryz.func74, Tryz.ntmps74
  go_wp2
  go_ret
  exact ⟨rfl, rfl⟩
theorem between_9 {tx : ByteArray} (d0 : (tx.toList == [124, 124]) = false) (d1 : (tx.toList == [38, 38]) = false) (d2 : (tx.toList == [61, 61]) = false) (d3 : (tx.toList == [33, 61]) = false) (d4 : (tx.toList == [60]) = false) (d5 : (tx.toList == [60, 61]) = false) (d6 : (tx.toList == [62]) = false) (d7 : (tx.toList == [62, 61]) = false) (d8 : (tx.toList == [43]) = false) (d9 : (tx.toList == [45]) = true) (W : World) : Calls Tryz.prog 74 #[.string tx] W fun e W' => e = .returned (.int .i64 32) ∧ W' = W := by
  go_enter Tryz.func74, Tryz.ntmps74
  go_wp2
  go_ret
  exact ⟨rfl, rfl⟩
theorem between_10 {tx : ByteArray} (d0 : (tx.toList == [124, 124]) = false) (d1 : (tx.toList == [38, 38]) = false) (d2 : (tx.toList == [61, 61]) = false) (d3 : (tx.toList == [33, 61]) = false) (d4 : (tx.toList == [60]) = false) (d5 : (tx.toList == [60, 61]) = false) (d6 : (tx.toList == [62]) = false) (d7 : (tx.toList == [62, 61]) = false) (d8 : (tx.toList == [43]) = false) (d9 : (tx.toList == [45]) = false) (d10 : (tx.toList == [42]) = true) (W : World) : Calls Tryz.prog 74 #[.string tx] W fun e W' => e = .returned (.int .i64 41) ∧ W' = W := by
  go_enter Tryz.func74, Tryz.ntmps74
  go_wp2
  go_ret
  exact ⟨rfl, rfl⟩
theorem between_11 {tx : ByteArray} (d0 : (tx.toList == [124, 124]) = false) (d1 : (tx.toList == [38, 38]) = false) (d2 : (tx.toList == [61, 61]) = false) (d3 : (tx.toList == [33, 61]) = false) (d4 : (tx.toList == [60]) = false) (d5 : (tx.toList == [60, 61]) = false) (d6 : (tx.toList == [62]) = false) (d7 : (tx.toList == [62, 61]) = false) (d8 : (tx.toList == [43]) = false) (d9 : (tx.toList == [45]) = false) (d10 : (tx.toList == [42]) = false) (d11 : (tx.toList == [47]) = true) (W : World) : Calls Tryz.prog 74 #[.string tx] W fun e W' => e = .returned (.int .i64 42) ∧ W' = W := by
  go_enter Tryz.func74, Tryz.ntmps74
  go_wp2
  go_ret
  exact ⟨rfl, rfl⟩
theorem between_12 {tx : ByteArray} (d0 : (tx.toList == [124, 124]) = false) (d1 : (tx.toList == [38, 38]) = false) (d2 : (tx.toList == [61, 61]) = false) (d3 : (tx.toList == [33, 61]) = false) (d4 : (tx.toList == [60]) = false) (d5 : (tx.toList == [60, 61]) = false) (d6 : (tx.toList == [62]) = false) (d7 : (tx.toList == [62, 61]) = false) (d8 : (tx.toList == [43]) = false) (d9 : (tx.toList == [45]) = false) (d10 : (tx.toList == [42]) = false) (d11 : (tx.toList == [47]) = false) (d12 : (tx.toList == [37]) = true) (W : World) : Calls Tryz.prog 74 #[.string tx] W fun e W' => e = .returned (.int .i64 43) ∧ W' = W := by
  go_enter Tryz.func74, Tryz.ntmps74
  go_wp2
  go_ret
  exact ⟨rfl, rfl⟩
theorem between_13 {tx : ByteArray} (d0 : (tx.toList == [124, 124]) = false) (d1 : (tx.toList == [38, 38]) = false) (d2 : (tx.toList == [61, 61]) = false) (d3 : (tx.toList == [33, 61]) = false) (d4 : (tx.toList == [60]) = false) (d5 : (tx.toList == [60, 61]) = false) (d6 : (tx.toList == [62]) = false) (d7 : (tx.toList == [62, 61]) = false) (d8 : (tx.toList == [43]) = false) (d9 : (tx.toList == [45]) = false) (d10 : (tx.toList == [42]) = false) (d11 : (tx.toList == [47]) = false) (d12 : (tx.toList == [37]) = false) (W : World) : Calls Tryz.prog 74 #[.string tx] W fun e W' => e = .returned (.int .i64 0) ∧ W' = W := by
  go_enter Tryz.func74, Tryz.ntmps74
  go_wp2
  go_ret
  exact ⟨rfl, rfl⟩
theorem between_any {k : Nat} (hk : k = 0 ∨ k = 1 ∨ k = 2 ∨ (10 ≤ k ∧ k < 31) ∨ (40 ≤ k ∧ k < 67)) (W : World) : Calls Tryz.prog 74 #[.string ⟨(textK (k : Nat)).toArray⟩] W fun e W' => e = .returned (.int .i64 (betw k)) ∧ W' = W := by
  unfold betw
  by_cases c0 : k = 63
  · rw [if_pos c0]; exact between_0 (by rw [text_eqk hk 63 (by decide) _ (by decide)]; exact decide_eq_true c0) W
  rw [if_neg c0]
  by_cases c1 : k = 62
  · rw [if_pos c1]; exact between_1 (by rw [text_eqk hk 63 (by decide) _ (by decide)]; exact decide_eq_false c0) (by rw [text_eqk hk 62 (by decide) _ (by decide)]; exact decide_eq_true c1) W
  rw [if_neg c1]
  by_cases c2 : k = 51
  · rw [if_pos c2]; exact between_2 (by rw [text_eqk hk 63 (by decide) _ (by decide)]; exact decide_eq_false c0) (by rw [text_eqk hk 62 (by decide) _ (by decide)]; exact decide_eq_false c1) (by rw [text_eqk hk 51 (by decide) _ (by decide)]; exact decide_eq_true c2) W
  rw [if_neg c2]
  by_cases c3 : k = 52
  · rw [if_pos c3]; exact between_3 (by rw [text_eqk hk 63 (by decide) _ (by decide)]; exact decide_eq_false c0) (by rw [text_eqk hk 62 (by decide) _ (by decide)]; exact decide_eq_false c1) (by rw [text_eqk hk 51 (by decide) _ (by decide)]; exact decide_eq_false c2) (by rw [text_eqk hk 52 (by decide) _ (by decide)]; exact decide_eq_true c3) W
  rw [if_neg c3]
  by_cases c4 : k = 53
  · rw [if_pos c4]; exact between_4 (by rw [text_eqk hk 63 (by decide) _ (by decide)]; exact decide_eq_false c0) (by rw [text_eqk hk 62 (by decide) _ (by decide)]; exact decide_eq_false c1) (by rw [text_eqk hk 51 (by decide) _ (by decide)]; exact decide_eq_false c2) (by rw [text_eqk hk 52 (by decide) _ (by decide)]; exact decide_eq_false c3) (by rw [text_eqk hk 53 (by decide) _ (by decide)]; exact decide_eq_true c4) W
  rw [if_neg c4]
  by_cases c5 : k = 54
  · rw [if_pos c5]; exact between_5 (by rw [text_eqk hk 63 (by decide) _ (by decide)]; exact decide_eq_false c0) (by rw [text_eqk hk 62 (by decide) _ (by decide)]; exact decide_eq_false c1) (by rw [text_eqk hk 51 (by decide) _ (by decide)]; exact decide_eq_false c2) (by rw [text_eqk hk 52 (by decide) _ (by decide)]; exact decide_eq_false c3) (by rw [text_eqk hk 53 (by decide) _ (by decide)]; exact decide_eq_false c4) (by rw [text_eqk hk 54 (by decide) _ (by decide)]; exact decide_eq_true c5) W
  rw [if_neg c5]
  by_cases c6 : k = 55
  · rw [if_pos c6]; exact between_6 (by rw [text_eqk hk 63 (by decide) _ (by decide)]; exact decide_eq_false c0) (by rw [text_eqk hk 62 (by decide) _ (by decide)]; exact decide_eq_false c1) (by rw [text_eqk hk 51 (by decide) _ (by decide)]; exact decide_eq_false c2) (by rw [text_eqk hk 52 (by decide) _ (by decide)]; exact decide_eq_false c3) (by rw [text_eqk hk 53 (by decide) _ (by decide)]; exact decide_eq_false c4) (by rw [text_eqk hk 54 (by decide) _ (by decide)]; exact decide_eq_false c5) (by rw [text_eqk hk 55 (by decide) _ (by decide)]; exact decide_eq_true c6) W
  rw [if_neg c6]
  by_cases c7 : k = 56
  · rw [if_pos c7]; exact between_7 (by rw [text_eqk hk 63 (by decide) _ (by decide)]; exact decide_eq_false c0) (by rw [text_eqk hk 62 (by decide) _ (by decide)]; exact decide_eq_false c1) (by rw [text_eqk hk 51 (by decide) _ (by decide)]; exact decide_eq_false c2) (by rw [text_eqk hk 52 (by decide) _ (by decide)]; exact decide_eq_false c3) (by rw [text_eqk hk 53 (by decide) _ (by decide)]; exact decide_eq_false c4) (by rw [text_eqk hk 54 (by decide) _ (by decide)]; exact decide_eq_false c5) (by rw [text_eqk hk 55 (by decide) _ (by decide)]; exact decide_eq_false c6) (by rw [text_eqk hk 56 (by decide) _ (by decide)]; exact decide_eq_true c7) W
  rw [if_neg c7]
  by_cases c8 : k = 57
  · rw [if_pos c8]; exact between_8 (by rw [text_eqk hk 63 (by decide) _ (by decide)]; exact decide_eq_false c0) (by rw [text_eqk hk 62 (by decide) _ (by decide)]; exact decide_eq_false c1) (by rw [text_eqk hk 51 (by decide) _ (by decide)]; exact decide_eq_false c2) (by rw [text_eqk hk 52 (by decide) _ (by decide)]; exact decide_eq_false c3) (by rw [text_eqk hk 53 (by decide) _ (by decide)]; exact decide_eq_false c4) (by rw [text_eqk hk 54 (by decide) _ (by decide)]; exact decide_eq_false c5) (by rw [text_eqk hk 55 (by decide) _ (by decide)]; exact decide_eq_false c6) (by rw [text_eqk hk 56 (by decide) _ (by decide)]; exact decide_eq_false c7) (by rw [text_eqk hk 57 (by decide) _ (by decide)]; exact decide_eq_true c8) W
  rw [if_neg c8]
  by_cases c9 : k = 58
  · rw [if_pos c9]; exact between_9 (by rw [text_eqk hk 63 (by decide) _ (by decide)]; exact decide_eq_false c0) (by rw [text_eqk hk 62 (by decide) _ (by decide)]; exact decide_eq_false c1) (by rw [text_eqk hk 51 (by decide) _ (by decide)]; exact decide_eq_false c2) (by rw [text_eqk hk 52 (by decide) _ (by decide)]; exact decide_eq_false c3) (by rw [text_eqk hk 53 (by decide) _ (by decide)]; exact decide_eq_false c4) (by rw [text_eqk hk 54 (by decide) _ (by decide)]; exact decide_eq_false c5) (by rw [text_eqk hk 55 (by decide) _ (by decide)]; exact decide_eq_false c6) (by rw [text_eqk hk 56 (by decide) _ (by decide)]; exact decide_eq_false c7) (by rw [text_eqk hk 57 (by decide) _ (by decide)]; exact decide_eq_false c8) (by rw [text_eqk hk 58 (by decide) _ (by decide)]; exact decide_eq_true c9) W
  rw [if_neg c9]
  by_cases c10 : k = 59
  · rw [if_pos c10]; exact between_10 (by rw [text_eqk hk 63 (by decide) _ (by decide)]; exact decide_eq_false c0) (by rw [text_eqk hk 62 (by decide) _ (by decide)]; exact decide_eq_false c1) (by rw [text_eqk hk 51 (by decide) _ (by decide)]; exact decide_eq_false c2) (by rw [text_eqk hk 52 (by decide) _ (by decide)]; exact decide_eq_false c3) (by rw [text_eqk hk 53 (by decide) _ (by decide)]; exact decide_eq_false c4) (by rw [text_eqk hk 54 (by decide) _ (by decide)]; exact decide_eq_false c5) (by rw [text_eqk hk 55 (by decide) _ (by decide)]; exact decide_eq_false c6) (by rw [text_eqk hk 56 (by decide) _ (by decide)]; exact decide_eq_false c7) (by rw [text_eqk hk 57 (by decide) _ (by decide)]; exact decide_eq_false c8) (by rw [text_eqk hk 58 (by decide) _ (by decide)]; exact decide_eq_false c9) (by rw [text_eqk hk 59 (by decide) _ (by decide)]; exact decide_eq_true c10) W
  rw [if_neg c10]
  by_cases c11 : k = 60
  · rw [if_pos c11]; exact between_11 (by rw [text_eqk hk 63 (by decide) _ (by decide)]; exact decide_eq_false c0) (by rw [text_eqk hk 62 (by decide) _ (by decide)]; exact decide_eq_false c1) (by rw [text_eqk hk 51 (by decide) _ (by decide)]; exact decide_eq_false c2) (by rw [text_eqk hk 52 (by decide) _ (by decide)]; exact decide_eq_false c3) (by rw [text_eqk hk 53 (by decide) _ (by decide)]; exact decide_eq_false c4) (by rw [text_eqk hk 54 (by decide) _ (by decide)]; exact decide_eq_false c5) (by rw [text_eqk hk 55 (by decide) _ (by decide)]; exact decide_eq_false c6) (by rw [text_eqk hk 56 (by decide) _ (by decide)]; exact decide_eq_false c7) (by rw [text_eqk hk 57 (by decide) _ (by decide)]; exact decide_eq_false c8) (by rw [text_eqk hk 58 (by decide) _ (by decide)]; exact decide_eq_false c9) (by rw [text_eqk hk 59 (by decide) _ (by decide)]; exact decide_eq_false c10) (by rw [text_eqk hk 60 (by decide) _ (by decide)]; exact decide_eq_true c11) W
  rw [if_neg c11]
  by_cases c12 : k = 61
  · rw [if_pos c12]; exact between_12 (by rw [text_eqk hk 63 (by decide) _ (by decide)]; exact decide_eq_false c0) (by rw [text_eqk hk 62 (by decide) _ (by decide)]; exact decide_eq_false c1) (by rw [text_eqk hk 51 (by decide) _ (by decide)]; exact decide_eq_false c2) (by rw [text_eqk hk 52 (by decide) _ (by decide)]; exact decide_eq_false c3) (by rw [text_eqk hk 53 (by decide) _ (by decide)]; exact decide_eq_false c4) (by rw [text_eqk hk 54 (by decide) _ (by decide)]; exact decide_eq_false c5) (by rw [text_eqk hk 55 (by decide) _ (by decide)]; exact decide_eq_false c6) (by rw [text_eqk hk 56 (by decide) _ (by decide)]; exact decide_eq_false c7) (by rw [text_eqk hk 57 (by decide) _ (by decide)]; exact decide_eq_false c8) (by rw [text_eqk hk 58 (by decide) _ (by decide)]; exact decide_eq_false c9) (by rw [text_eqk hk 59 (by decide) _ (by decide)]; exact decide_eq_false c10) (by rw [text_eqk hk 60 (by decide) _ (by decide)]; exact decide_eq_false c11) (by rw [text_eqk hk 61 (by decide) _ (by decide)]; exact decide_eq_true c12) W
  rw [if_neg c12]
  exact between_13 (by rw [text_eqk hk 63 (by decide) _ (by decide)]; exact decide_eq_false c0) (by rw [text_eqk hk 62 (by decide) _ (by decide)]; exact decide_eq_false c1) (by rw [text_eqk hk 51 (by decide) _ (by decide)]; exact decide_eq_false c2) (by rw [text_eqk hk 52 (by decide) _ (by decide)]; exact decide_eq_false c3) (by rw [text_eqk hk 53 (by decide) _ (by decide)]; exact decide_eq_false c4) (by rw [text_eqk hk 54 (by decide) _ (by decide)]; exact decide_eq_false c5) (by rw [text_eqk hk 55 (by decide) _ (by decide)]; exact decide_eq_false c6) (by rw [text_eqk hk 56 (by decide) _ (by decide)]; exact decide_eq_false c7) (by rw [text_eqk hk 57 (by decide) _ (by decide)]; exact decide_eq_false c8) (by rw [text_eqk hk 58 (by decide) _ (by decide)]; exact decide_eq_false c9) (by rw [text_eqk hk 59 (by decide) _ (by decide)]; exact decide_eq_false c10) (by rw [text_eqk hk 60 (by decide) _ (by decide)]; exact decide_eq_false c11) (by rw [text_eqk hk 61 (by decide) _ (by decide)]; exact decide_eq_false c12) W
end Go.Proofs.YtblhklbpcalglaaGreatDoor
