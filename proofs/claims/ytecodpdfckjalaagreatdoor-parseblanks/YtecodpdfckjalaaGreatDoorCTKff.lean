import Derived.Test.YtecodpdfckjalaaGreatDoorCTCurA
namespace Go.Proofs.YtecodpdfckjalaaGreatDoor
open Go.RowKit
set_option linter.unusedVariables false
set_option linter.unusedSimpArgs false

set_option maxHeartbeats 1000000 in
set_option maxRecDepth 100000 in
theorem kidsFit_40 (w : World) (ka : Option Addr) (kc nb no nc : Nat) (l : List Nd) (p num : Int) (ks : List Nat) (nm : ByteArray) (H : Bx (KSt w nb no nc l num (kW w ka kc nb no nc l.length 40 p num ks.length nm) (ks, false))) :
    KFit w ka kc nb no nc l 40 p num ks nm := by
  obtain ⟨a, cap, n, m, hg, b4, b2, b1, hlt⟩ := H.out.post
  clear H
  unfold kW at *
  unfold KFit
  generalize hF : kidsFitI (kdN l) _ num ks = F
  have HF : Bx _ := ⟨hF⟩
  clear hF
  go_enter Tryz.func26, Tryz.ntmps26
  go_upto_block 0 with fail
  refine wp_block ?_
  refine wp_mono ?_ sw_in0
  repeat (refine wp_seq_k ?_; intro _ _; refine wp_block ?_; refine wp_mono ?_ sw_in)
  go_wp2_with (first
    | (refine sw_exit rfl ?_)
    | (refine sw_normal ?_)
    | (go_at_call 42; first | (refine (k_many (.func (.func 46) #[] #[]) _ (cls_arm _ _ _ _ _ _ _) hg).mono ?_; clear hg b4 b2 b1 hlt; rintro e W' ⟨rfl, a1, c1, n1, m1, hg, b4, b2, b1, hlt⟩)))
  all_goals
    go_ret
    refine kfit_end hg HF (kidsRun_40 _ _ _) ?_
    simp_all
set_option maxHeartbeats 1000000 in
set_option maxRecDepth 100000 in
theorem kidsFit_41 (w : World) (ka : Option Addr) (kc nb no nc : Nat) (l : List Nd) (p num : Int) (ks : List Nat) (nm : ByteArray) (H : Bx (KSt w nb no nc l num (kW w ka kc nb no nc l.length 41 p num ks.length nm) (ks, false))) :
    KFit w ka kc nb no nc l 41 p num ks nm := by
  obtain ⟨a, cap, n, m, hg, b4, b2, b1, hlt⟩ := H.out.post
  clear H
  unfold kW at *
  unfold KFit
  generalize hF : kidsFitI (kdN l) _ num ks = F
  have HF : Bx _ := ⟨hF⟩
  clear hF
  go_enter Tryz.func26, Tryz.ntmps26
  go_upto_block 0 with fail
  refine wp_block ?_
  refine wp_mono ?_ sw_in0
  repeat (refine wp_seq_k ?_; intro _ _; refine wp_block ?_; refine wp_mono ?_ sw_in)
  go_wp2_with (first
    | (refine sw_exit rfl ?_)
    | (refine sw_normal ?_)
    | (go_at_call 42; first | (refine (k_many (.func (.func 32) #[] #[]) _ (cls_stat _ _ _ _ _ _ _) hg).mono ?_; clear hg b4 b2 b1 hlt; rintro e W' ⟨rfl, a1, c1, n1, m1, hg, b4, b2, b1, hlt⟩)))
  all_goals
    go_ret
    refine kfit_end hg HF (kidsRun_41 _ _ _) ?_
    simp_all
set_option maxHeartbeats 1000000 in
set_option maxRecDepth 100000 in
theorem kidsFit_42 (w : World) (ka : Option Addr) (kc nb no nc : Nat) (l : List Nd) (p num : Int) (ks : List Nat) (nm : ByteArray) (H : Bx (KSt w nb no nc l num (kW w ka kc nb no nc l.length 42 p num ks.length nm) (ks, false))) :
    KFit w ka kc nb no nc l 42 p num ks nm := by
  obtain ⟨a, cap, n, m, hg, b4, b2, b1, hlt⟩ := H.out.post
  clear H
  unfold kW at *
  unfold KFit
  generalize hF : kidsFitI (kdN l) _ num ks = F
  have HF : Bx _ := ⟨hF⟩
  clear hF
  go_enter Tryz.func26, Tryz.ntmps26
  go_upto_block 0 with fail
  refine wp_block ?_
  refine wp_mono ?_ sw_in0
  repeat (refine wp_seq_k ?_; intro _ _; refine wp_block ?_; refine wp_mono ?_ sw_in)
  go_wp2_with (first
    | (refine sw_exit rfl ?_)
    | (refine sw_normal ?_)
    | (go_at_call 41; first | (refine (k_one (.func (.func 28) #[] #[]) _ (cls_type _ _ _ _ _ _ _) hg).mono ?_; clear hg b4 b2 b1 hlt; rintro e W' ⟨rfl, a1, c1, n1, m1, hg, b4, b2, b1, hlt⟩)))
  all_goals
    go_ret
    refine kfit_end hg HF (kidsRun_42 _ _ _) ?_
    simp_all
set_option maxHeartbeats 1000000 in
set_option maxRecDepth 100000 in
theorem kidsFit_43 (w : World) (ka : Option Addr) (kc nb no nc : Nat) (l : List Nd) (p num : Int) (ks : List Nat) (nm : ByteArray) (H : Bx (KSt w nb no nc l num (kW w ka kc nb no nc l.length 43 p num ks.length nm) (ks, false))) :
    KFit w ka kc nb no nc l 43 p num ks nm := by
  obtain ⟨a, cap, n, m, hg, b4, b2, b1, hlt⟩ := H.out.post
  clear H
  unfold kW at *
  unfold KFit
  generalize hF : kidsFitI (kdN l) _ num ks = F
  have HF : Bx _ := ⟨hF⟩
  clear hF
  go_enter Tryz.func26, Tryz.ntmps26
  go_upto_block 0 with fail
  refine wp_block ?_
  refine wp_mono ?_ sw_in0
  repeat (refine wp_seq_k ?_; intro _ _; refine wp_block ?_; refine wp_mono ?_ sw_in)
  go_wp2_with (first
    | (refine sw_exit rfl ?_)
    | (refine sw_normal ?_)
    | (go_at_call 41; first | (refine (k_one _ _ hcl hg).mono ?_; clear hcl hg b4 b2 b1 hlt; rintro e W' ⟨rfl, a1, c1, n1, m1, hg, b4, b2, b1, hlt⟩) | (refine (k_one (.func (.func 30) #[] #[]) _ (cls_expr _ _ _ _ _ _ _) hg).mono ?_; clear hg b4 b2 b1 hlt; rintro e W' ⟨rfl, a1, c1, n1, m1, hg, b4, b2, b1, hlt⟩))
    | (go_at_call 43; refine (k_just _ hg).mono ?_; clear hg b4 b2 b1 hlt; rintro e W' ⟨_, rfl, hcl, a1, c1, n1, m1, hg, b4, b2, b1, hlt⟩))
  all_goals
    go_ret
    refine kfit_end hg HF (kidsRun_43 _ _ _) ?_
    simp_all
set_option maxHeartbeats 1000000 in
set_option maxRecDepth 100000 in
theorem kidsFit_44 (w : World) (ka : Option Addr) (kc nb no nc : Nat) (l : List Nd) (p num : Int) (ks : List Nat) (nm : ByteArray) (H : Bx (KSt w nb no nc l num (kW w ka kc nb no nc l.length 44 p num ks.length nm) (ks, false))) :
    KFit w ka kc nb no nc l 44 p num ks nm := by
  obtain ⟨a, cap, n, m, hg, b4, b2, b1, hlt⟩ := H.out.post
  clear H
  unfold kW at *
  unfold KFit
  generalize hF : kidsFitI (kdN l) _ num ks = F
  have HF : Bx _ := ⟨hF⟩
  clear hF
  go_enter Tryz.func26, Tryz.ntmps26
  go_upto_block 0 with fail
  refine wp_block ?_
  refine wp_mono ?_ sw_in0
  repeat (refine wp_seq_k ?_; intro _ _; refine wp_block ?_; refine wp_mono ?_ sw_in)
  go_wp2_with (first
    | (refine sw_exit rfl ?_)
    | (refine sw_normal ?_)
    | (go_at_call 41; first | (refine (k_one _ _ hcl hg).mono ?_; clear hcl hg b4 b2 b1 hlt; rintro e W' ⟨rfl, a1, c1, n1, m1, hg, b4, b2, b1, hlt⟩) | (refine (k_one (.func (.func 30) #[] #[]) _ (cls_expr _ _ _ _ _ _ _) hg).mono ?_; clear hg b4 b2 b1 hlt; rintro e W' ⟨rfl, a1, c1, n1, m1, hg, b4, b2, b1, hlt⟩))
    | (go_at_call 43; refine (k_just _ hg).mono ?_; clear hg b4 b2 b1 hlt; rintro e W' ⟨_, rfl, hcl, a1, c1, n1, m1, hg, b4, b2, b1, hlt⟩))
  all_goals
    go_ret
    refine kfit_end hg HF (kidsRun_44 _ _ _) ?_
    simp_all
set_option maxHeartbeats 1000000 in
set_option maxRecDepth 100000 in
theorem kidsFit_45 (w : World) (ka : Option Addr) (kc nb no nc : Nat) (l : List Nd) (p num : Int) (ks : List Nat) (nm : ByteArray) (H : Bx (KSt w nb no nc l num (kW w ka kc nb no nc l.length 45 p num ks.length nm) (ks, false))) :
    KFit w ka kc nb no nc l 45 p num ks nm := by
  obtain ⟨a, cap, n, m, hg, b4, b2, b1, hlt⟩ := H.out.post
  clear H
  unfold kW at *
  unfold KFit
  generalize hF : kidsFitI (kdN l) _ num ks = F
  have HF : Bx _ := ⟨hF⟩
  clear hF
  go_enter Tryz.func26, Tryz.ntmps26
  go_upto_block 0 with fail
  refine wp_block ?_
  refine wp_mono ?_ sw_in0
  repeat (refine wp_seq_k ?_; intro _ _; refine wp_block ?_; refine wp_mono ?_ sw_in)
  go_wp2_with (first
    | (refine sw_exit rfl ?_)
    | (refine sw_normal ?_)
    | (go_at_call 41; first | (refine (k_one (.func (.func 28) #[] #[]) _ (cls_type _ _ _ _ _ _ _) hg).mono ?_; clear hg b4 b2 b1 hlt; rintro e W' ⟨rfl, a1, c1, n1, m1, hg, b4, b2, b1, hlt⟩)))
  all_goals
    go_ret
    refine kfit_end hg HF (kidsRun_45 _ _ _) ?_
    simp_all
end Go.Proofs.YtecodpdfckjalaaGreatDoor
