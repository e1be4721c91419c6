import Derived.Test.YtooondgaeoobkaaDoorCovP
namespace Go.Proofs.YtooondgaeoobkaaDoor
open Go.RowKit
set_option linter.unusedVariables false
set_option linter.unusedSimpArgs false

theorem passedL_step (m : Bool) (xs : List UInt8) (j : Nat) (h : j < xs.length) : passedL m (xs.drop j) = if !(m || (xs[j].toNat : Int) == 35) && !blankI xs[j].toNat then false else passedL ((m || (xs[j].toNat : Int) == 35) && (xs[j].toNat : Int) != 10) (xs.drop (j + 1)) := by
  rw [drop_at xs j h]; rfl

set_option maxHeartbeats 2000000 in
theorem passed_some (b o cap : Nat) (xs : List UInt8) (w : World) (hs : Src w b o xs) (hl : xs.length ≤ 65536) :
    Calls Tryd.prog 17 #[.slice (some ⟨b, o, none⟩) xs.length cap] w fun e w' => e = .returned (.bool (passedL false xs)) ∧ w = w' := by
  go_enter Tryd.func17, Tryd.ntmps17
  go_wp2
  go_loop [3, 4] (fun v i => ∃ (m : Bool) (j : Nat), j ≤ xs.length ∧ i = .int .i64 j ∧ v = .bool m ∧ Box (passedL false xs = passedL m (xs.drop j))) (fun _ i => xs.length - (intOf i).toNat)
  case atStart => exact ⟨false, 0, Nat.zero_le _, rfl, rfl, ⟨rfl⟩⟩
  case round =>
    obtain ⟨m, j, hj, rfl, rfl, H⟩ := hrel
    by_cases hlt : j < xs.length
    · have hc := hs j hlt
      have HS := passedL_step m xs j hlt
      have HT : Box (passedL false xs = if !(m || (xs[j].toNat : Int) == 35) && !blankI xs[j].toNat then false else passedL ((m || (xs[j].toNat : Int) == 35) && (xs[j].toNat : Int) != 10) (xs.drop (j + 1))) := ⟨H.out.trans HS⟩
      clear HS H hs
      generalize (xs[j].toNat : Int) = c at *
      cases h35 : (c == 35)
      · cases m
        · cases h32 : (c == 32)
          · cases h9 : (c == 9)
            · cases h10 : (c == 10)
              · cases h13 : (c == 13)
                · have n1 : (c != 32) = true := by rw [bne, h32]; rfl
                  have n2 : (c != 9) = true := by rw [bne, h9]; rfl
                  have n3 : (c != 10) = true := by rw [bne, h10]; rfl
                  have n4 : (c != 13) = true := by rw [bne, h13]; rfl
                  have HF : Box (passedL false xs = false) := ⟨by rw [HT.out, h35]; simp [blankI, h32, h9, h10, h13]⟩
                  go_wp2
                  go_ret
                  exact ⟨by rw [HF.out]; rfl, rfl⟩
                · have n1 : (c != 32) = true := by rw [bne, h32]; rfl
                  have n2 : (c != 9) = true := by rw [bne, h9]; rfl
                  have n3 : (c != 10) = true := by rw [bne, h10]; rfl
                  have n4 : (c != 13) = false := by rw [bne, h13]; rfl
                  have HF : Box (passedL false xs = passedL false (xs.drop (j + 1))) := ⟨by rw [HT.out, h35]; simp [blankI, h13]⟩
                  go_wp2
                  go_round
                  case rel => exact ⟨false, j + 1, by omega, by go_num, rfl, HF⟩
                  case measure => simp [intOf]; omega
              · have n1 : (c != 32) = true := by rw [bne, h32]; rfl
                have n2 : (c != 9) = true := by rw [bne, h9]; rfl
                have n3 : (c != 10) = false := by rw [bne, h10]; rfl
                have HF : Box (passedL false xs = passedL false (xs.drop (j + 1))) := ⟨by rw [HT.out, h35]; simp [blankI, h10]⟩
                go_wp2
                go_round
                case rel => exact ⟨false, j + 1, by omega, by go_num, rfl, HF⟩
                case measure => simp [intOf]; omega
            · have n1 : (c != 32) = true := by rw [bne, h32]; rfl
              have n2 : (c != 9) = false := by rw [bne, h9]; rfl
              have h10 : (c == 10) = false := by rw [beq_iff_eq] at h9; rw [h9]; rfl
              have HF : Box (passedL false xs = passedL false (xs.drop (j + 1))) := ⟨by rw [HT.out, h35]; simp [blankI, h9]⟩
              go_wp2
              go_round
              case rel => exact ⟨false, j + 1, by omega, by go_num, rfl, HF⟩
              case measure => simp [intOf]; omega
          · have n1 : (c != 32) = false := by rw [bne, h32]; rfl
            have h10 : (c == 10) = false := by rw [beq_iff_eq] at h32; rw [h32]; rfl
            have HF : Box (passedL false xs = passedL false (xs.drop (j + 1))) := ⟨by rw [HT.out, h35]; simp [blankI, h32]⟩
            go_wp2
            go_round
            case rel => exact ⟨false, j + 1, by omega, by go_num, rfl, HF⟩
            case measure => simp [intOf]; omega
        · cases h10 : (c == 10)
          · have HF : Box (passedL false xs = passedL true (xs.drop (j + 1))) := ⟨by rw [HT.out]; simp [bne, h10]⟩
            go_wp2
            go_round
            case rel => exact ⟨true, j + 1, by omega, by go_num, rfl, HF⟩
            case measure => simp [intOf]; omega
          · have HF : Box (passedL false xs = passedL false (xs.drop (j + 1))) := ⟨by rw [HT.out]; simp [bne, h10]⟩
            go_wp2
            go_round
            case rel => exact ⟨false, j + 1, by omega, by go_num, rfl, HF⟩
            case measure => simp [intOf]; omega
      · have h10 : (c == 10) = false := by rw [beq_iff_eq] at h35; rw [h35]; rfl
        have HF : Box (passedL false xs = passedL true (xs.drop (j + 1))) := ⟨by rw [HT.out, h35]; simp [bne, h10]⟩
        go_wp2
        go_round
        case rel => exact ⟨true, j + 1, by omega, by go_num, rfl, HF⟩
        case measure => simp [intOf]; omega
    · have HF : Box (passedL false xs = true) := ⟨by rw [H.out, List.drop_eq_nil_of_le (by omega)]; cases m <;> rfl⟩
      go_wp2
      go_ret
      exact ⟨by rw [HF.out]; rfl, rfl⟩
theorem passed_none (a : Option Addr) (cap : Nat) (w : World) : Calls Tryd.prog 17 #[.slice a 0 cap] w fun e w' => e = .returned (.bool true) ∧ w = w' := by
  go_enter Tryd.func17, Tryd.ntmps17
  go_wp2
  go_loop [3, 4] (fun v i => v = .bool false ∧ i = .int .i64 0) (fun _ _ => 0)
  case atStart => exact ⟨rfl, rfl⟩
  case round =>
    obtain ⟨rfl, rfl⟩ := hrel
    go_wp2
    go_ret
    exact ⟨rfl, rfl⟩
end Go.Proofs.YtooondgaeoobkaaDoor
