import Derived.Test.YtecodpdfckjalaaGreatDoorCTCurA
namespace Go.Proofs.YtecodpdfckjalaaGreatDoor
open Go.RowKit
set_option linter.unusedVariables false
set_option linter.unusedSimpArgs false

set_option maxHeartbeats 1000000 in
set_option maxRecDepth 100000 in
theorem kidsFit_11 (w : World) (ka : Option Addr) (kc nb no nc : Nat) (l : List Nd) (p num : Int) (ks : List Nat) (nm : ByteArray) (H : Bx (KSt w nb no nc l num (kW w ka kc nb no nc l.length 11 p num ks.length nm) (ks, false))) :
    KFit w ka kc nb no nc l 11 p num ks nm := by
  obtain ⟨a, cap, n, m, hg, b4, b2, b1, hlt⟩ := H.out.post
  clear H
  unfold kW at *
  unfold KFit
  generalize hF : kidsFitI (kdN l) _ num ks = F
  have HF : Bx _ := ⟨hF⟩
  clear hF
  go_enter Tryz.func26, Tryz.ntmps26
  go_upto_block 0 with fail
  refine wp_block ?_
  refine wp_mono ?_ sw_in0
  repeat (refine wp_seq_k ?_; intro _ _; refine wp_block ?_; refine wp_mono ?_ sw_in)
  go_wp2_with (first
    | (refine sw_exit rfl ?_)
    | (refine sw_normal ?_))
  all_goals
    go_ret
    refine kfit_end hg HF (kidsRun_11 _ _ _) ?_
    simp_all
set_option maxHeartbeats 1000000 in
set_option maxRecDepth 100000 in
theorem kidsFit_12 (w : World) (ka : Option Addr) (kc nb no nc : Nat) (l : List Nd) (p num : Int) (ks : List Nat) (nm : ByteArray) (H : Bx (KSt w nb no nc l num (kW w ka kc nb no nc l.length 12 p num ks.length nm) (ks, false))) :
    KFit w ka kc nb no nc l 12 p num ks nm := by
  obtain ⟨a, cap, n, m, hg, b4, b2, b1, hlt⟩ := H.out.post
  clear H
  unfold kW at *
  unfold KFit
  generalize hF : kidsFitI (kdN l) _ num ks = F
  have HF : Bx _ := ⟨hF⟩
  clear hF
  go_enter Tryz.func26, Tryz.ntmps26
  go_upto_block 0 with fail
  refine wp_block ?_
  refine wp_mono ?_ sw_in0
  repeat (refine wp_seq_k ?_; intro _ _; refine wp_block ?_; refine wp_mono ?_ sw_in)
  go_wp2_with (first
    | (refine sw_exit rfl ?_)
    | (refine sw_normal ?_))
  all_goals
    go_ret
    refine kfit_end hg HF (kidsRun_12 _ _ _) ?_
    simp_all
set_option maxHeartbeats 1000000 in
set_option maxRecDepth 100000 in
theorem kidsFit_13 (w : World) (ka : Option Addr) (kc nb no nc : Nat) (l : List Nd) (p num : Int) (ks : List Nat) (nm : ByteArray) (H : Bx (KSt w nb no nc l num (kW w ka kc nb no nc l.length 13 p num ks.length nm) (ks, false))) :
    KFit w ka kc nb no nc l 13 p num ks nm := by
  obtain ⟨a, cap, n, m, hg, b4, b2, b1, hlt⟩ := H.out.post
  clear H
  unfold kW at *
  unfold KFit
  generalize hF : kidsFitI (kdN l) _ num ks = F
  have HF : Bx _ := ⟨hF⟩
  clear hF
  go_enter Tryz.func26, Tryz.ntmps26
  go_upto_block 0 with fail
  refine wp_block ?_
  refine wp_mono ?_ sw_in0
  repeat (refine wp_seq_k ?_; intro _ _; refine wp_block ?_; refine wp_mono ?_ sw_in)
  go_wp2_with (first
    | (refine sw_exit rfl ?_)
    | (refine sw_normal ?_))
  all_goals
    go_ret
    refine kfit_end hg HF (kidsRun_13 _ _ _) ?_
    simp_all
set_option maxHeartbeats 1000000 in
set_option maxRecDepth 100000 in
theorem kidsFit_14 (w : World) (ka : Option Addr) (kc nb no nc : Nat) (l : List Nd) (p num : Int) (ks : List Nat) (nm : ByteArray) (H : Bx (KSt w nb no nc l num (kW w ka kc nb no nc l.length 14 p num ks.length nm) (ks, false))) :
    KFit w ka kc nb no nc l 14 p num ks nm := by
  obtain ⟨a, cap, n, m, hg, b4, b2, b1, hlt⟩ := H.out.post
  clear H
  unfold kW at *
  unfold KFit
  generalize hF : kidsFitI (kdN l) _ num ks = F
  have HF : Bx _ := ⟨hF⟩
  clear hF
  go_enter Tryz.func26, Tryz.ntmps26
  go_upto_block 0 with fail
  refine wp_block ?_
  refine wp_mono ?_ sw_in0
  repeat (refine wp_seq_k ?_; intro _ _; refine wp_block ?_; refine wp_mono ?_ sw_in)
  go_wp2_with (first
    | (refine sw_exit rfl ?_)
    | (refine sw_normal ?_)
    | (go_at_call 41; first | (refine (k_one (.func (.func 30) #[] #[]) _ (cls_expr _ _ _ _ _ _ _) hg).mono ?_; clear hg b4 b2 b1 hlt; rintro e W' ⟨rfl, a1, c1, n1, m1, hg, b4, b2, b1, hlt⟩)))
  all_goals
    go_ret
    refine kfit_end hg HF (kidsRun_14 _ _ _) ?_
    simp_all
set_option maxHeartbeats 1000000 in
set_option maxRecDepth 100000 in
theorem kidsFit_15 (w : World) (ka : Option Addr) (kc nb no nc : Nat) (l : List Nd) (p num : Int) (ks : List Nat) (nm : ByteArray) (H : Bx (KSt w nb no nc l num (kW w ka kc nb no nc l.length 15 p num ks.length nm) (ks, false))) :
    KFit w ka kc nb no nc l 15 p num ks nm := by
  obtain ⟨a, cap, n, m, hg, b4, b2, b1, hlt⟩ := H.out.post
  clear H
  unfold kW at *
  unfold KFit
  generalize hF : kidsFitI (kdN l) _ num ks = F
  have HF : Bx _ := ⟨hF⟩
  clear hF
  go_enter Tryz.func26, Tryz.ntmps26
  go_upto_block 0 with fail
  refine wp_block ?_
  refine wp_mono ?_ sw_in0
  repeat (refine wp_seq_k ?_; intro _ _; refine wp_block ?_; refine wp_mono ?_ sw_in)
  go_wp2_with (first
    | (refine sw_exit rfl ?_)
    | (refine sw_normal ?_)
    | (go_at_call 41; first | (refine (k_one (.func (.func 30) #[] #[]) _ (cls_expr _ _ _ _ _ _ _) hg).mono ?_; clear hg b4 b2 b1 hlt; rintro e W' ⟨rfl, a1, c1, n1, m1, hg, b4, b2, b1, hlt⟩))
    | (go_at_call 42; first | (refine (k_many (.func (.func 30) #[] #[]) _ (cls_expr _ _ _ _ _ _ _) hg).mono ?_; clear hg b4 b2 b1 hlt; rintro e W' ⟨rfl, a1, c1, n1, m1, hg, b4, b2, b1, hlt⟩)))
  all_goals
    go_ret
    refine kfit_end hg HF (kidsRun_15 _ _ _) ?_
    simp_all
set_option maxHeartbeats 1000000 in
set_option maxRecDepth 100000 in
theorem kidsFit_16 (w : World) (ka : Option Addr) (kc nb no nc : Nat) (l : List Nd) (p num : Int) (ks : List Nat) (nm : ByteArray) (H : Bx (KSt w nb no nc l num (kW w ka kc nb no nc l.length 16 p num ks.length nm) (ks, false))) :
    KFit w ka kc nb no nc l 16 p num ks nm := by
  obtain ⟨a, cap, n, m, hg, b4, b2, b1, hlt⟩ := H.out.post
  clear H
  unfold kW at *
  unfold KFit
  generalize hF : kidsFitI (kdN l) _ num ks = F
  have HF : Bx _ := ⟨hF⟩
  clear hF
  go_enter Tryz.func26, Tryz.ntmps26
  go_upto_block 0 with fail
  refine wp_block ?_
  refine wp_mono ?_ sw_in0
  repeat (refine wp_seq_k ?_; intro _ _; refine wp_block ?_; refine wp_mono ?_ sw_in)
  go_wp2_with (first
    | (refine sw_exit rfl ?_)
    | (refine sw_normal ?_)
    | (go_at_call 41; first | (refine (k_one (.func (.func 30) #[] #[]) _ (cls_expr _ _ _ _ _ _ _) hg).mono ?_; clear hg b4 b2 b1 hlt; rintro e W' ⟨rfl, a1, c1, n1, m1, hg, b4, b2, b1, hlt⟩))
    | (go_at_call 42; first | (refine (k_many (.func (.func 30) #[] #[]) _ (cls_expr _ _ _ _ _ _ _) hg).mono ?_; clear hg b4 b2 b1 hlt; rintro e W' ⟨rfl, a1, c1, n1, m1, hg, b4, b2, b1, hlt⟩)))
  all_goals
    go_ret
    refine kfit_end hg HF (kidsRun_16 _ _ _) ?_
    simp_all
set_option maxHeartbeats 1000000 in
set_option maxRecDepth 100000 in
theorem kidsFit_17 (w : World) (ka : Option Addr) (kc nb no nc : Nat) (l : List Nd) (p num : Int) (ks : List Nat) (nm : ByteArray) (H : Bx (KSt w nb no nc l num (kW w ka kc nb no nc l.length 17 p num ks.length nm) (ks, false))) :
    KFit w ka kc nb no nc l 17 p num ks nm := by
  obtain ⟨a, cap, n, m, hg, b4, b2, b1, hlt⟩ := H.out.post
  clear H
  unfold kW at *
  unfold KFit
  generalize hF : kidsFitI (kdN l) _ num ks = F
  have HF : Bx _ := ⟨hF⟩
  clear hF
  go_enter Tryz.func26, Tryz.ntmps26
  go_upto_block 0 with fail
  refine wp_block ?_
  refine wp_mono ?_ sw_in0
  repeat (refine wp_seq_k ?_; intro _ _; refine wp_block ?_; refine wp_mono ?_ sw_in)
  go_wp2_with (first
    | (refine sw_exit rfl ?_)
    | (refine sw_normal ?_)
    | (go_at_call 41; first | (refine (k_one (.func (.func 30) #[] #[]) _ (cls_expr _ _ _ _ _ _ _) hg).mono ?_; clear hg b4 b2 b1 hlt; rintro e W' ⟨rfl, a1, c1, n1, m1, hg, b4, b2, b1, hlt⟩)))
  all_goals
    go_ret
    refine kfit_end hg HF (kidsRun_17 _ _ _) ?_
    simp_all
set_option maxHeartbeats 1000000 in
set_option maxRecDepth 100000 in
theorem kidsFit_18 (w : World) (ka : Option Addr) (kc nb no nc : Nat) (l : List Nd) (p num : Int) (ks : List Nat) (nm : ByteArray) (H : Bx (KSt w nb no nc l num (kW w ka kc nb no nc l.length 18 p num ks.length nm) (ks, false))) :
    KFit w ka kc nb no nc l 18 p num ks nm := by
  obtain ⟨a, cap, n, m, hg, b4, b2, b1, hlt⟩ := H.out.post
  clear H
  unfold kW at *
  unfold KFit
  generalize hF : kidsFitI (kdN l) _ num ks = F
  have HF : Bx _ := ⟨hF⟩
  clear hF
  go_enter Tryz.func26, Tryz.ntmps26
  go_upto_block 0 with fail
  refine wp_block ?_
  refine wp_mono ?_ sw_in0
  repeat (refine wp_seq_k ?_; intro _ _; refine wp_block ?_; refine wp_mono ?_ sw_in)
  go_wp2_with (first
    | (refine sw_exit rfl ?_)
    | (refine sw_normal ?_)
    | (go_at_call 41; first | (refine (k_one (.func (.func 30) #[] #[]) _ (cls_expr _ _ _ _ _ _ _) hg).mono ?_; clear hg b4 b2 b1 hlt; rintro e W' ⟨rfl, a1, c1, n1, m1, hg, b4, b2, b1, hlt⟩)))
  all_goals
    go_ret
    refine kfit_end hg HF (kidsRun_18 _ _ _) ?_
    simp_all
end Go.Proofs.YtecodpdfckjalaaGreatDoor
