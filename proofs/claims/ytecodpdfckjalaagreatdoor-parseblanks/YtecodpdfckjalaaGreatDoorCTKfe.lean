import Derived.Test.YtecodpdfckjalaaGreatDoorCTCurA
namespace Go.Proofs.YtecodpdfckjalaaGreatDoor
open Go.RowKit
set_option linter.unusedVariables false
set_option linter.unusedSimpArgs false

set_option maxHeartbeats 1000000 in
set_option maxRecDepth 100000 in
theorem kidsFit_36 (w : World) (ka : Option Addr) (kc nb no nc : Nat) (l : List Nd) (p num : Int) (ks : List Nat) (nm : ByteArray) (H : Bx (KSt w nb no nc l num (kW w ka kc nb no nc l.length 36 p num ks.length nm) (ks, false))) :
    KFit w ka kc nb no nc l 36 p num ks nm := by
  obtain ⟨a, cap, n, m, hg, b4, b2, b1, hlt⟩ := H.out.post
  clear H
  unfold kW at *
  unfold KFit
  generalize hF : kidsFitI (kdN l) _ num ks = F
  have HF : Bx _ := ⟨hF⟩
  clear hF
  go_enter Tryz.func26, Tryz.ntmps26
  go_upto_block 0 with fail
  refine wp_block ?_
  refine wp_mono ?_ sw_in0
  repeat (refine wp_seq_k ?_; intro _ _; refine wp_block ?_; refine wp_mono ?_ sw_in)
  go_wp2_with (first
    | (refine sw_exit rfl ?_)
    | (refine sw_normal ?_)
    | (go_at_call 41; first | (refine (k_one _ _ hcl hg).mono ?_; clear hcl hg b4 b2 b1 hlt; rintro e W' ⟨rfl, a1, c1, n1, m1, hg, b4, b2, b1, hlt⟩) | (refine (k_one (.func (.func 30) #[] #[]) _ (cls_expr _ _ _ _ _ _ _) hg).mono ?_; clear hg b4 b2 b1 hlt; rintro e W' ⟨rfl, a1, c1, n1, m1, hg, b4, b2, b1, hlt⟩))
    | (go_at_call 44; first | (refine (k_maybe (.func (.func 45) #[] #[]) _ (cls_else _ _ _ _ _ _ _) hg).mono ?_; clear hg b4 b2 b1 hlt; rintro e W' ⟨_, rfl, a1, c1, n1, m1, hg, b4, b2, b1, hlt⟩))
    | (go_at_call 43; refine (k_just _ hg).mono ?_; clear hg b4 b2 b1 hlt; rintro e W' ⟨_, rfl, hcl, a1, c1, n1, m1, hg, b4, b2, b1, hlt⟩))
  all_goals
    go_ret
    refine kfit_end hg HF (kidsRun_36 _ _ _) ?_
    simp_all
set_option maxHeartbeats 1000000 in
set_option maxRecDepth 100000 in
theorem kidsFit_37 (w : World) (ka : Option Addr) (kc nb no nc : Nat) (l : List Nd) (p num : Int) (ks : List Nat) (nm : ByteArray) (H : Bx (KSt w nb no nc l num (kW w ka kc nb no nc l.length 37 p num ks.length nm) (ks, false))) :
    KFit w ka kc nb no nc l 37 p num ks nm := by
  obtain ⟨a, cap, n, m, hg, b4, b2, b1, hlt⟩ := H.out.post
  clear H
  unfold kW at *
  unfold KFit
  generalize hF : kidsFitI (kdN l) _ num ks = F
  have HF : Bx _ := ⟨hF⟩
  clear hF
  go_enter Tryz.func26, Tryz.ntmps26
  go_upto_block 0 with fail
  refine wp_block ?_
  refine wp_mono ?_ sw_in0
  repeat (refine wp_seq_k ?_; intro _ _; refine wp_block ?_; refine wp_mono ?_ sw_in)
  go_wp2_with (first
    | (refine sw_exit rfl ?_)
    | (refine sw_normal ?_)
    | (go_at_call 41; first | (refine (k_one _ _ hcl hg).mono ?_; clear hcl hg b4 b2 b1 hlt; rintro e W' ⟨rfl, a1, c1, n1, m1, hg, b4, b2, b1, hlt⟩) | (refine (k_one (.func (.func 30) #[] #[]) _ (cls_expr _ _ _ _ _ _ _) hg).mono ?_; clear hg b4 b2 b1 hlt; rintro e W' ⟨rfl, a1, c1, n1, m1, hg, b4, b2, b1, hlt⟩))
    | (go_at_call 43; refine (k_just _ hg).mono ?_; clear hg b4 b2 b1 hlt; rintro e W' ⟨_, rfl, hcl, a1, c1, n1, m1, hg, b4, b2, b1, hlt⟩))
  all_goals
    go_ret
    refine kfit_end hg HF (kidsRun_37 _ _ _) ?_
    simp_all
set_option maxHeartbeats 1000000 in
set_option maxRecDepth 100000 in
theorem kidsFit_38 (w : World) (ka : Option Addr) (kc nb no nc : Nat) (l : List Nd) (p num : Int) (ks : List Nat) (nm : ByteArray) (H : Bx (KSt w nb no nc l num (kW w ka kc nb no nc l.length 38 p num ks.length nm) (ks, false))) :
    KFit w ka kc nb no nc l 38 p num ks nm := by
  obtain ⟨a, cap, n, m, hg, b4, b2, b1, hlt⟩ := H.out.post
  clear H
  unfold kW at *
  unfold KFit
  generalize hF : kidsFitI (kdN l) _ num ks = F
  have HF : Bx _ := ⟨hF⟩
  clear hF
  go_enter Tryz.func26, Tryz.ntmps26
  go_upto_block 0 with fail
  refine wp_block ?_
  refine wp_mono ?_ sw_in0
  repeat (refine wp_seq_k ?_; intro _ _; refine wp_block ?_; refine wp_mono ?_ sw_in)
  go_wp2_with (first
    | (refine sw_exit rfl ?_)
    | (refine sw_normal ?_)
    | (go_at_call 44; first | (refine (k_maybe (.func (.func 30) #[] #[]) _ (cls_expr _ _ _ _ _ _ _) hg).mono ?_; clear hg b4 b2 b1 hlt; rintro e W' ⟨_, rfl, a1, c1, n1, m1, hg, b4, b2, b1, hlt⟩)))
  all_goals
    go_ret
    refine kfit_end hg HF (kidsRun_38 _ _ _) ?_
    simp_all
set_option maxHeartbeats 1000000 in
set_option maxRecDepth 100000 in
theorem kidsFit_39 (w : World) (ka : Option Addr) (kc nb no nc : Nat) (l : List Nd) (p num : Int) (ks : List Nat) (nm : ByteArray) (H : Bx (KSt w nb no nc l num (kW w ka kc nb no nc l.length 39 p num ks.length nm) (ks, false))) :
    KFit w ka kc nb no nc l 39 p num ks nm := by
  obtain ⟨a, cap, n, m, hg, b4, b2, b1, hlt⟩ := H.out.post
  clear H
  unfold kW at *
  unfold KFit
  generalize hF : kidsFitI (kdN l) _ num ks = F
  have HF : Bx _ := ⟨hF⟩
  clear hF
  go_enter Tryz.func26, Tryz.ntmps26
  go_upto_block 0 with fail
  refine wp_block ?_
  refine wp_mono ?_ sw_in0
  repeat (refine wp_seq_k ?_; intro _ _; refine wp_block ?_; refine wp_mono ?_ sw_in)
  go_wp2_with (first
    | (refine sw_exit rfl ?_)
    | (refine sw_normal ?_)
    | (go_at_call 41; first | (refine (k_one (.func (.func 30) #[] #[]) _ (cls_expr _ _ _ _ _ _ _) hg).mono ?_; clear hg b4 b2 b1 hlt; rintro e W' ⟨rfl, a1, c1, n1, m1, hg, b4, b2, b1, hlt⟩)))
  all_goals
    go_ret
    refine kfit_end hg HF (kidsRun_39 _ _ _) ?_
    simp_all
end Go.Proofs.YtecodpdfckjalaaGreatDoor
