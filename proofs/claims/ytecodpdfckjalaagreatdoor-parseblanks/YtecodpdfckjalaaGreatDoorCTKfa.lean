import Derived.Test.YtecodpdfckjalaaGreatDoorCTCurA
namespace Go.Proofs.YtecodpdfckjalaaGreatDoor
open Go.RowKit
set_option linter.unusedVariables false
set_option linter.unusedSimpArgs false

set_option maxHeartbeats 1000000 in
set_option maxRecDepth 100000 in
theorem kidsFit_1 (w : World) (ka : Option Addr) (kc nb no nc : Nat) (l : List Nd) (p num : Int) (ks : List Nat) (nm : ByteArray) (H : Bx (KSt w nb no nc l num (kW w ka kc nb no nc l.length 1 p num ks.length nm) (ks, false))) :
    KFit w ka kc nb no nc l 1 p num ks nm := by
  obtain ⟨a, cap, n, m, hg, b4, b2, b1, hlt⟩ := H.out.post
  clear H
  unfold kW at *
  unfold KFit
  generalize hF : kidsFitI (kdN l) _ num ks = F
  have HF : Bx _ := ⟨hF⟩
  clear hF
  go_enter Tryz.func26, Tryz.ntmps26
  go_upto_block 0 with fail
  refine wp_block ?_
  refine wp_mono ?_ sw_in0
  repeat (refine wp_seq_k ?_; intro _ _; refine wp_block ?_; refine wp_mono ?_ sw_in)
  go_wp2_with (first
    | (refine sw_exit rfl ?_)
    | (refine sw_normal ?_))
  all_goals
    go_ret
    refine kfit_end hg HF (kidsRun_1 _ _ _) ?_
    simp_all
set_option maxHeartbeats 1000000 in
set_option maxRecDepth 100000 in
theorem kidsFit_2 (w : World) (ka : Option Addr) (kc nb no nc : Nat) (l : List Nd) (p num : Int) (ks : List Nat) (nm : ByteArray) (H : Bx (KSt w nb no nc l num (kW w ka kc nb no nc l.length 2 p num ks.length nm) (ks, false))) :
    KFit w ka kc nb no nc l 2 p num ks nm := by
  obtain ⟨a, cap, n, m, hg, b4, b2, b1, hlt⟩ := H.out.post
  clear H
  unfold kW at *
  unfold KFit
  generalize hF : kidsFitI (kdN l) _ num ks = F
  have HF : Bx _ := ⟨hF⟩
  clear hF
  go_enter Tryz.func26, Tryz.ntmps26
  go_upto_block 0 with fail
  refine wp_block ?_
  refine wp_mono ?_ sw_in0
  repeat (refine wp_seq_k ?_; intro _ _; refine wp_block ?_; refine wp_mono ?_ sw_in)
  go_wp2_with (first
    | (refine sw_exit rfl ?_)
    | (refine sw_normal ?_))
  all_goals
    go_ret
    refine kfit_end hg HF (kidsRun_2 _ _ _) ?_
    simp_all
set_option maxHeartbeats 1000000 in
set_option maxRecDepth 100000 in
theorem kidsFit_3 (w : World) (ka : Option Addr) (kc nb no nc : Nat) (l : List Nd) (p num : Int) (ks : List Nat) (nm : ByteArray) (H : Bx (KSt w nb no nc l num (kW w ka kc nb no nc l.length 3 p num ks.length nm) (ks, false))) :
    KFit w ka kc nb no nc l 3 p num ks nm := by
  obtain ⟨a, cap, n, m, hg, b4, b2, b1, hlt⟩ := H.out.post
  clear H
  unfold kW at *
  unfold KFit
  generalize hF : kidsFitI (kdN l) _ num ks = F
  have HF : Bx _ := ⟨hF⟩
  clear hF
  go_enter Tryz.func26, Tryz.ntmps26
  go_upto_block 0 with fail
  refine wp_block ?_
  refine wp_mono ?_ sw_in0
  repeat (refine wp_seq_k ?_; intro _ _; refine wp_block ?_; refine wp_mono ?_ sw_in)
  go_wp2_with (first
    | (refine sw_exit rfl ?_)
    | (refine sw_normal ?_))
  all_goals
    go_ret
    refine kfit_end hg HF (kidsRun_3 _ _ _) ?_
    simp_all
set_option maxHeartbeats 1000000 in
set_option maxRecDepth 100000 in
theorem kidsFit_4 (w : World) (ka : Option Addr) (kc nb no nc : Nat) (l : List Nd) (p num : Int) (ks : List Nat) (nm : ByteArray) (H : Bx (KSt w nb no nc l num (kW w ka kc nb no nc l.length 4 p num ks.length nm) (ks, false))) :
    KFit w ka kc nb no nc l 4 p num ks nm := by
  obtain ⟨a, cap, n, m, hg, b4, b2, b1, hlt⟩ := H.out.post
  clear H
  unfold kW at *
  unfold KFit
  generalize hF : kidsFitI (kdN l) _ num ks = F
  have HF : Bx _ := ⟨hF⟩
  clear hF
  go_enter Tryz.func26, Tryz.ntmps26
  go_upto_block 0 with fail
  refine wp_block ?_
  refine wp_mono ?_ sw_in0
  repeat (refine wp_seq_k ?_; intro _ _; refine wp_block ?_; refine wp_mono ?_ sw_in)
  go_wp2_with (first
    | (refine sw_exit rfl ?_)
    | (refine sw_normal ?_)
    | (go_at_call 41; first | (refine (k_one (.func (.func 28) #[] #[]) _ (cls_type _ _ _ _ _ _ _) hg).mono ?_; clear hg b4 b2 b1 hlt; rintro e W' ⟨rfl, a1, c1, n1, m1, hg, b4, b2, b1, hlt⟩)))
  all_goals
    go_ret
    refine kfit_end hg HF (kidsRun_4 _ _ _) ?_
    simp_all
set_option maxHeartbeats 1000000 in
set_option maxRecDepth 100000 in
theorem kidsFit_5 (w : World) (ka : Option Addr) (kc nb no nc : Nat) (l : List Nd) (p num : Int) (ks : List Nat) (nm : ByteArray) (H : Bx (KSt w nb no nc l num (kW w ka kc nb no nc l.length 5 p num ks.length nm) (ks, false))) :
    KFit w ka kc nb no nc l 5 p num ks nm := by
  obtain ⟨a, cap, n, m, hg, b4, b2, b1, hlt⟩ := H.out.post
  clear H
  unfold kW at *
  unfold KFit
  generalize hF : kidsFitI (kdN l) _ num ks = F
  have HF : Bx _ := ⟨hF⟩
  clear hF
  go_enter Tryz.func26, Tryz.ntmps26
  go_upto_block 0 with fail
  refine wp_block ?_
  refine wp_mono ?_ sw_in0
  repeat (refine wp_seq_k ?_; intro _ _; refine wp_block ?_; refine wp_mono ?_ sw_in)
  go_wp2_with (first
    | (refine sw_exit rfl ?_)
    | (refine sw_normal ?_)
    | (go_at_call 41; first | (refine (k_one (.func (.func 28) #[] #[]) _ (cls_type _ _ _ _ _ _ _) hg).mono ?_; clear hg b4 b2 b1 hlt; rintro e W' ⟨rfl, a1, c1, n1, m1, hg, b4, b2, b1, hlt⟩))
    | (go_at_call 42; first | (refine (k_many (.func (.func 28) #[] #[]) _ (cls_type _ _ _ _ _ _ _) hg).mono ?_; clear hg b4 b2 b1 hlt; rintro e W' ⟨rfl, a1, c1, n1, m1, hg, b4, b2, b1, hlt⟩)))
  all_goals
    go_ret
    refine kfit_end hg HF (kidsRun_5 _ _ _) ?_
    simp_all
set_option maxHeartbeats 1000000 in
set_option maxRecDepth 100000 in
theorem kidsFit_6 (w : World) (ka : Option Addr) (kc nb no nc : Nat) (l : List Nd) (p num : Int) (ks : List Nat) (nm : ByteArray) (H : Bx (KSt w nb no nc l num (kW w ka kc nb no nc l.length 6 p num ks.length nm) (ks, false))) :
    KFit w ka kc nb no nc l 6 p num ks nm := by
  obtain ⟨a, cap, n, m, hg, b4, b2, b1, hlt⟩ := H.out.post
  clear H
  unfold kW at *
  unfold KFit
  generalize hF : kidsFitI (kdN l) _ num ks = F
  have HF : Bx _ := ⟨hF⟩
  clear hF
  go_enter Tryz.func26, Tryz.ntmps26
  go_upto_block 0 with fail
  refine wp_block ?_
  refine wp_mono ?_ sw_in0
  repeat (refine wp_seq_k ?_; intro _ _; refine wp_block ?_; refine wp_mono ?_ sw_in)
  go_wp2_with (first
    | (refine sw_exit rfl ?_)
    | (refine sw_normal ?_)
    | (go_at_call 41; first | (refine (k_one (.func (.func 28) #[] #[]) _ (cls_type _ _ _ _ _ _ _) hg).mono ?_; clear hg b4 b2 b1 hlt; rintro e W' ⟨rfl, a1, c1, n1, m1, hg, b4, b2, b1, hlt⟩)))
  all_goals
    go_ret
    refine kfit_end hg HF (kidsRun_6 _ _ _) ?_
    simp_all
set_option maxHeartbeats 1000000 in
set_option maxRecDepth 100000 in
theorem kidsFit_7 (w : World) (ka : Option Addr) (kc nb no nc : Nat) (l : List Nd) (p num : Int) (ks : List Nat) (nm : ByteArray) (H : Bx (KSt w nb no nc l num (kW w ka kc nb no nc l.length 7 p num ks.length nm) (ks, false))) :
    KFit w ka kc nb no nc l 7 p num ks nm := by
  obtain ⟨a, cap, n, m, hg, b4, b2, b1, hlt⟩ := H.out.post
  clear H
  unfold kW at *
  unfold KFit
  generalize hF : kidsFitI (kdN l) _ num ks = F
  have HF : Bx _ := ⟨hF⟩
  clear hF
  go_enter Tryz.func26, Tryz.ntmps26
  go_upto_block 0 with fail
  refine wp_block ?_
  refine wp_mono ?_ sw_in0
  repeat (refine wp_seq_k ?_; intro _ _; refine wp_block ?_; refine wp_mono ?_ sw_in)
  go_wp2_with (first
    | (refine sw_exit rfl ?_)
    | (refine sw_normal ?_)
    | (go_at_call 42; first | (refine (k_many (.func (.func 28) #[] #[]) _ (cls_type _ _ _ _ _ _ _) hg).mono ?_; clear hg b4 b2 b1 hlt; rintro e W' ⟨rfl, a1, c1, n1, m1, hg, b4, b2, b1, hlt⟩)))
  all_goals
    go_ret
    refine kfit_end hg HF (kidsRun_7 _ _ _) ?_
    simp_all
end Go.Proofs.YtecodpdfckjalaaGreatDoor
