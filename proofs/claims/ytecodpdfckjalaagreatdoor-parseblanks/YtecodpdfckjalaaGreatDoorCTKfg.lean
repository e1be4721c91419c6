import Derived.Test.YtecodpdfckjalaaGreatDoorCTCurA
import Derived.Test.YtecodpdfckjalaaGreatDoorCTKfa
import Derived.Test.YtecodpdfckjalaaGreatDoorCTKfb
import Derived.Test.YtecodpdfckjalaaGreatDoorCTKfc
import Derived.Test.YtecodpdfckjalaaGreatDoorCTKfd
import Derived.Test.YtecodpdfckjalaaGreatDoorCTKfe
import Derived.Test.YtecodpdfckjalaaGreatDoorCTKff
namespace Go.Proofs.YtecodpdfckjalaaGreatDoor
open Go.RowKit
set_option linter.unusedVariables false
set_option linter.unusedSimpArgs false

set_option maxHeartbeats 1000000 in
set_option maxRecDepth 100000 in
theorem kidsFit_46 (w : World) (ka : Option Addr) (kc nb no nc : Nat) (l : List Nd) (p : Int) (num : Nat) (hnum : num ≤ maxLen) (ks : List Nat) (nm : ByteArray) (H : Bx (KSt w nb no nc l num (kW w ka kc nb no nc l.length 46 p num ks.length nm) (ks, false))) :
    KFit w ka kc nb no nc l 46 p num ks nm := by
  unfold maxLen at hnum
  obtain ⟨a, cap, n, m, hg, b4, b2, b1, hlt⟩ := H.out.post
  have HP : Bx _ := ⟨H.out.post⟩
  clear H
  unfold kW at *
  unfold KFit
  generalize hF : kidsFitI (kdN l) _ (num : Int) ks = F
  have HF : Bx _ := ⟨hF⟩
  clear hF
  go_enter Tryz.func26, Tryz.ntmps26
  go_upto_block 0 with fail
  refine wp_block ?_
  refine wp_mono ?_ sw_in0
  repeat (refine wp_seq_k ?_; intro _ _; refine wp_block ?_; refine wp_mono ?_ sw_in)
  go_wp2_with (first
    | (refine sw_exit rfl ?_)
    | (refine sw_normal ?_))
  clear hg b4 b2 b1 hlt
  go_loopw [93] (fun i wr => ∃ j : Nat, j ≤ num ∧ i = .int .i64 j ∧ KPost w nb no nc l num (cIter (justI 45 ∘ kdN l) j (ks, false)) wr) (fun i _ => num - (intOf i).toNat)
  case atStart => exact ⟨0, Nat.zero_le _, rfl, HP.out⟩
  case round =>
    obtain ⟨j, hj, rfl, a1, c1, n1, m1, hg, b4, b2, b1, hlt⟩ := hrel
    by_cases hjn : j < num
    · go_wp2_with (first
        | (refine sw_exit rfl ?_)
        | (refine sw_normal ?_)
        | (go_at_call 41; refine (k_one _ _ hcl hg).mono ?_; clear hcl hg b4 b2 b1 hlt; rintro e W' ⟨rfl, hp⟩)
        | (go_at_call 43; refine (k_just _ hg).mono ?_; clear hg b4 b2 b1 hlt; rintro e W' ⟨_, rfl, hcl, a1, c1, n1, m1, hg, b4, b2, b1, hlt⟩))
      go_roundw
      case rel => exact ⟨j + 1, by omega, by go_num, by rw [cIter_succ]; exact hp⟩
      case measure => simp [intOf]; omega
    · have hjn : j = num := by omega
      subst hjn
      go_wp2_with (first
        | (refine sw_exit rfl ?_)
        | (refine sw_normal ?_)
        | (go_at_call 42; first | (refine (k_many (.func (.func 32) #[] #[]) _ (cls_stat _ _ _ _ _ _ _) hg).mono ?_; clear hg b4 b2 b1 hlt; rintro e W' ⟨rfl, a1, c1, n1, m1, hg, b4, b2, b1, hlt⟩)))
      all_goals
        go_ret
        refine kfit_end hg HF (kidsRun_46 _ _ _) ?_
        simp_all
end Go.Proofs.YtecodpdfckjalaaGreatDoor
namespace Go.Proofs.YtecodpdfckjalaaGreatDoor
open Go.RowKit
set_option linter.unusedVariables false
set_option linter.unusedSimpArgs false

theorem kind_cases (k : Int) (h : kindI k = true) : k = 1 ∨ k = 2 ∨ k = 3 ∨ k = 4 ∨ k = 5 ∨ k = 6 ∨ k = 7 ∨ k = 11 ∨ k = 12 ∨ k = 13 ∨ k = 14 ∨ k = 15 ∨ k = 16 ∨ k = 17 ∨ k = 18 ∨ k = 19 ∨ k = 20 ∨ k = 21 ∨ k = 22 ∨ k = 23 ∨ k = 24 ∨ k = 25 ∨ k = 31 ∨ k = 32 ∨ k = 33 ∨ k = 34 ∨ k = 35 ∨ k = 36 ∨ k = 37 ∨ k = 38 ∨ k = 39 ∨ k = 40 ∨ k = 41 ∨ k = 42 ∨ k = 43 ∨ k = 44 ∨ k = 45 ∨ k = 46 := by
  unfold kindI typI exprI statI at h
  simp at h
  omega

theorem kidsFit_any (w : World) (ka : Option Addr) (kc nb no nc : Nat) (l : List Nd) (k p num : Int) (ks : List Nat) (nm : ByteArray) (hk : kindI k = true) (h46 : k = 46 → ∃ m : Nat, num = (m : Int) ∧ m ≤ maxLen)
    (H : KSt w nb no nc l num (kW w ka kc nb no nc l.length k p num ks.length nm) (ks, false)) : KFit w ka kc nb no nc l k p num ks nm := by
  rcases kind_cases k hk with rfl | rfl | rfl | rfl | rfl | rfl | rfl | rfl | rfl | rfl | rfl | rfl | rfl | rfl | rfl | rfl | rfl | rfl | rfl | rfl | rfl | rfl | rfl | rfl | rfl | rfl | rfl | rfl | rfl | rfl | rfl | rfl | rfl | rfl | rfl | rfl | rfl | rfl
  · exact kidsFit_1 w ka kc nb no nc l p num ks nm ⟨H⟩
  · exact kidsFit_2 w ka kc nb no nc l p num ks nm ⟨H⟩
  · exact kidsFit_3 w ka kc nb no nc l p num ks nm ⟨H⟩
  · exact kidsFit_4 w ka kc nb no nc l p num ks nm ⟨H⟩
  · exact kidsFit_5 w ka kc nb no nc l p num ks nm ⟨H⟩
  · exact kidsFit_6 w ka kc nb no nc l p num ks nm ⟨H⟩
  · exact kidsFit_7 w ka kc nb no nc l p num ks nm ⟨H⟩
  · exact kidsFit_11 w ka kc nb no nc l p num ks nm ⟨H⟩
  · exact kidsFit_12 w ka kc nb no nc l p num ks nm ⟨H⟩
  · exact kidsFit_13 w ka kc nb no nc l p num ks nm ⟨H⟩
  · exact kidsFit_14 w ka kc nb no nc l p num ks nm ⟨H⟩
  · exact kidsFit_15 w ka kc nb no nc l p num ks nm ⟨H⟩
  · exact kidsFit_16 w ka kc nb no nc l p num ks nm ⟨H⟩
  · exact kidsFit_17 w ka kc nb no nc l p num ks nm ⟨H⟩
  · exact kidsFit_18 w ka kc nb no nc l p num ks nm ⟨H⟩
  · exact kidsFit_19 w ka kc nb no nc l p num ks nm ⟨H⟩
  · exact kidsFit_20 w ka kc nb no nc l p num ks nm ⟨H⟩
  · exact kidsFit_21 w ka kc nb no nc l p num ks nm ⟨H⟩
  · exact kidsFit_22 w ka kc nb no nc l p num ks nm ⟨H⟩
  · exact kidsFit_23 w ka kc nb no nc l p num ks nm ⟨H⟩
  · exact kidsFit_24 w ka kc nb no nc l p num ks nm ⟨H⟩
  · exact kidsFit_25 w ka kc nb no nc l p num ks nm ⟨H⟩
  · exact kidsFit_31 w ka kc nb no nc l p num ks nm ⟨H⟩
  · exact kidsFit_32 w ka kc nb no nc l p num ks nm ⟨H⟩
  · exact kidsFit_33 w ka kc nb no nc l p num ks nm ⟨H⟩
  · exact kidsFit_34 w ka kc nb no nc l p num ks nm ⟨H⟩
  · exact kidsFit_35 w ka kc nb no nc l p num ks nm ⟨H⟩
  · exact kidsFit_36 w ka kc nb no nc l p num ks nm ⟨H⟩
  · exact kidsFit_37 w ka kc nb no nc l p num ks nm ⟨H⟩
  · exact kidsFit_38 w ka kc nb no nc l p num ks nm ⟨H⟩
  · exact kidsFit_39 w ka kc nb no nc l p num ks nm ⟨H⟩
  · exact kidsFit_40 w ka kc nb no nc l p num ks nm ⟨H⟩
  · exact kidsFit_41 w ka kc nb no nc l p num ks nm ⟨H⟩
  · exact kidsFit_42 w ka kc nb no nc l p num ks nm ⟨H⟩
  · exact kidsFit_43 w ka kc nb no nc l p num ks nm ⟨H⟩
  · exact kidsFit_44 w ka kc nb no nc l p num ks nm ⟨H⟩
  · exact kidsFit_45 w ka kc nb no nc l p num ks nm ⟨H⟩
  · obtain ⟨m, rfl, hm⟩ := h46 rfl
    exact kidsFit_46 w ka kc nb no nc l p m hm ks nm ⟨H⟩
end Go.Proofs.YtecodpdfckjalaaGreatDoor
