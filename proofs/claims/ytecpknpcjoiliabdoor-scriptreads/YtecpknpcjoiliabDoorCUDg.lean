import Derived.Test.YtecpknpcjoiliabDoorCUPb
namespace Go.Proofs.YtecpknpcjoiliabDoor
open Go.RowKit
set_option linter.unusedVariables false
set_option linter.unusedSimpArgs false

/-- the digits ahead of the last one -/
def decHead (v : Nat) : List UInt8 := if v < 10 then [] else Lib.decDigits (v / 10)
theorem dec_split (v : Nat) : Lib.decDigits v = decHead v ++ [UInt8.ofNat (48 + v % 10)] := by
  unfold decHead
  rw [Lib.decDigits]
  split
  · rename_i h
    rw [Nat.mod_eq_of_lt h]
    rfl
  · rfl
theorem dec_step {v : Nat} (h : ¬ v < 10) (s : List UInt8) : decHead v ++ s = decHead (v / 10) ++ (UInt8.ofNat (48 + v / 10 % 10) :: s) := by
  have e : decHead v = Lib.decDigits (v / 10) := by unfold decHead; rw [if_neg h]
  rw [e, dec_split (v / 10)]
  simp
/-- one byte as a text -/
theorem one_str (X : World) (H : Nat) (hH : X.heap.size = H) (d : Nat) (hd : d < 10) : (convert 55 9 (.slice (some ⟨H, 0, none⟩) 1 1)).run Tryd.prog (X.alloc (.cells #[.int .u8 (48 + (d : Int))] 5)) = .ok (strV [UInt8.ofNat (48 + d)]) (X.alloc (.cells #[.int .u8 (48 + (d : Int))] 5)) := by
  subst hH
  have e : (UInt8.ofNat (48 + d)).toNat = 48 + d := UInt8.toNat_ofNat_of_lt' (by omega : 48 + d < 256)
  have h : BO (X.alloc (.cells #[.int .u8 (48 + (d : Int))] 5)) 0 (.slice (some ⟨X.heap.size, 0, none⟩) 1 1) [UInt8.ofNat (48 + d)] := by
    refine ⟨by simp [Lib.byteCells], .inr ⟨X.heap.size, 1, #[.int .u8 (48 + (d : Int))], rfl, Nat.zero_le _, heap_alloc_new X _, Nat.le_refl _, by unfold maxLen; omega, rfl, ?_⟩⟩
    simp [Lib.byteCells, e]
    omega
  exact h.str
theorem cat_str (a b : List UInt8) : Value.string ((⟨a.toArray⟩ : ByteArray) ++ ⟨b.toArray⟩) = strV (a ++ b) := by
  show Value.string _ = Value.string _
  congr 1
set_option maxRecDepth 100000 in
set_option maxHeartbeats 1000000 in
theorem digits_pos (u : Nat) (hu : u < 9223372036854775808) (w : World) : Calls Tryd.prog 43 #[.int .i64 u] w fun e w' => e = .returned (strV (Lib.decDigits u)) ∧ Below w.heap.size w w' := by
  have HS := one_str w w.heap.size rfl (u % 10) (by omega)
  have e1 : (((u % 10 : Nat) : Nat) : Int) = (u : Int) % 10 := by omega
  rw [e1] at HS
  have hb := below1 w (.cells #[.int .u8 (48 + (u : Int) % 10)] 5)
  have HB : Bx _ := ⟨hb⟩
  have HI : Bx (Lib.decDigits u = decHead u ++ [UInt8.ofNat (48 + u % 10)]) := ⟨dec_split u⟩
  generalize [UInt8.ofNat (48 + u % 10)] = s0 at *
  clear hb e1
  go_enter Tryd.func43, Tryd.ntmps43
  go_wp2
  clear HS
  go_loopw [0, 3] (fun x y wr => ∃ v s, v ≤ u ∧ x = .int .i64 ((v : Nat) : Int) ∧ y = strV s ∧ Bx (Lib.decDigits u = decHead v ++ s) ∧ Bx (Below w.heap.size w wr)) (fun x _ _ => (intOf x).toNat)
  case atStart => exact ⟨u, s0, Nat.le_refl _, rfl, rfl, HI, HB⟩
  case round =>
    obtain ⟨v, s, hv, rfl, rfl, HI2, HB2⟩ := hrel
    clear HI HB
    by_cases h : v < 10
    · have g : ¬ (10 : Int) ≤ (v : Int) := by omega
      have hr : Bx (Lib.decDigits u = s) := ⟨by rw [HI2.out]; unfold decHead; rw [if_pos h]; rfl⟩
      go_wp2
      go_ret
      exact ⟨by rw [hr.out]; rfl, HB2.out⟩
    · have g : (10 : Int) ≤ (v : Int) := by omega
      have HI3 : Bx (Lib.decDigits u = decHead (v / 10) ++ ([UInt8.ofNat (48 + v / 10 % 10)] ++ s)) := ⟨by rw [HI2.out, dec_step h]; rfl⟩
      have HS := one_str wr wr.heap.size rfl (v / 10 % 10) (by omega)
      have e1 : (((v / 10 % 10 : Nat) : Nat) : Int) = (v : Int) / 10 % 10 := by omega
      rw [e1] at HS
      have hb := below1 wr (.cells #[.int .u8 (48 + (v : Int) / 10 % 10)] 5)
      have HB3 : Bx (Below w.heap.size w (wr.alloc (.cells #[.int .u8 (48 + (v : Int) / 10 % 10)] 5))) := ⟨HB2.out.trans (hb.mono HB2.out.size)⟩
      generalize [UInt8.ofNat (48 + v / 10 % 10)] = s1 at *
      clear hb e1
      have hcat : ¬ 9223372036854775807 < s1.length + s.length := by
        have h1 := congrArg List.length HI3.out
        rw [List.length_append, List.length_append] at h1
        have h2 := dec_len 19 u (by omega)
        omega
      go_wp2
      go_roundw
      case rel => exact ⟨v / 10, s1 ++ s, by omega, by simp, cat_str s1 s, HI3, HB3⟩
      case measure => simp [intOf]; omega
theorem itoa_min : Lib.itoa (-9223372036854775808) = [45, 57, 50, 50, 51, 51, 55, 50, 48, 51, 54, 56, 53, 52, 55, 55, 53, 56, 48, 56] := by kernel_rfl
set_option maxRecDepth 100000 in
set_option maxHeartbeats 1000000 in
theorem Digits_any (n : Int) (hn : I64 n) (w : World) : Calls Tryd.prog 43 #[.int .i64 n] w fun e w' => e = .returned (strV (Lib.itoa n)) ∧ Below w.heap.size w w' := by
  obtain ⟨h1, h2⟩ := hn
  by_cases h : n < 0
  · by_cases hm : n = -9223372036854775808
    · subst hm
      rw [itoa_min]
      go_enter Tryd.func43, Tryd.ntmps43
      go_wp2
      go_ret
      exact ⟨rfl, Below.refl _ _⟩
    · obtain ⟨m, rfl⟩ : ∃ m : Nat, n = -(m : Int) := ⟨(-n).toNat, by omega⟩
      have hm1 : 1 ≤ m := by omega
      have HP := digits_pos m (by omega) w
      have hl := dec_len 19 m (by omega)
      rw [Lib.itoa_neg m hm1]
      have hcat : ¬ 9223372036854775807 < 1 + (Lib.decDigits m).length := by omega
      have hwr : IntKind.i64.wrap (- -(m : Int)) = (m : Int) := by
        rw [IntKind.wrap_i64]; omega
      have hwr2 : IntKind.i64.wrap (m : Int) = (m : Int) := by
        rw [IntKind.wrap_i64]; omega
      have hne : (-(m : Int) == -9223372036854775808) = false := by simp; omega
      have hne2 : ¬ -(m : Int) = -9223372036854775808 := hm
      have hlt : -(m : Int) < 0 := by omega
      generalize Lib.decDigits m = s at *
      clear hl
      go_enter Tryd.func43, Tryd.ntmps43
      go_wp2_with (go_at_call 43; refine HP.mono ?_; rintro e w1 ⟨rfl, hb⟩)
      go_ret
      exact ⟨congrArg Ending.returned (cat_str [45] s), hb⟩
  · obtain ⟨m, rfl⟩ : ∃ m : Nat, n = (m : Int) := ⟨n.toNat, by omega⟩
    rw [Lib.itoa_nonneg]
    exact digits_pos m (by omega) w
end Go.Proofs.YtecpknpcjoiliabDoor
