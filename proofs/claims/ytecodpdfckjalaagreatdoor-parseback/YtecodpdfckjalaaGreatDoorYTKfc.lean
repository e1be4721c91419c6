import Derived.Test.YtecodpdfckjalaaGreatDoorYTCurA
set_option linter.unusedVariables false
set_option linter.unusedSimpArgs false
set_option maxHeartbeats 4000000
set_option maxRecDepth 100000
namespace Go.Proofs.YtecodpdfckjalaaGreatDoor
open Go.RowKit
theorem zy (w : World) (ka : Option Addr) (kc nb no nc : Nat) (l : List Nd) (p num : Int) (ks : List Nat) (nm : ByteArray) (H : Bx (KSt w nb no nc l num (kW w ka kc nb no nc l.length 19 p num ks.length nm) (ks, false))) :
  bS w ka kc nb no nc l 19 p num ks nm := by
 obtain ⟨a, cap, n, m, hg, b4, b2, b1, hlt⟩ := H.out.post
 clear H
 unfold kW at *
 unfold bS
 generalize hF : aA (kdN l) _ num ks = F
 have HF : Bx _ := ⟨hF⟩
 clear hF
 go_enter Tryz.func26, Tryz.ntmps26
 go_upto_block 0 with fail
 refine wp_block ?_
 refine wp_mono ?_ bU
 repeat (refine wp_seq_k ?_; intro _ _; refine wp_block ?_; refine wp_mono ?_ dI)
 go_wp2_with (first
  | (refine bu rfl ?_)
  | (refine aS ?_)
  | (go_at_call 41; first | (refine (eu _ _ hcl hg).mono ?_; clear hcl hg b4 b2 b1 hlt; rintro e W' ⟨rfl, a1, c1, n1, m1, hg, b4, b2, b1, hlt⟩))
  | (go_at_call 43; refine (mE _ hg).mono ?_; clear hg b4 b2 b1 hlt; rintro e W' ⟨_, rfl, hcl, a1, c1, n1, m1, hg, b4, b2, b1, hlt⟩))
 all_goals
  go_ret
  refine aZ hg HF (qD _ _ _) ?_
  simp_all
theorem zz (w : World) (ka : Option Addr) (kc nb no nc : Nat) (l : List Nd) (p num : Int) (ks : List Nat) (nm : ByteArray) (H : Bx (KSt w nb no nc l num (kW w ka kc nb no nc l.length 20 p num ks.length nm) (ks, false))) :
  bS w ka kc nb no nc l 20 p num ks nm := by
 obtain ⟨a, cap, n, m, hg, b4, b2, b1, hlt⟩ := H.out.post
 clear H
 unfold kW at *
 unfold bS
 generalize hF : aA (kdN l) _ num ks = F
 have HF : Bx _ := ⟨hF⟩
 clear hF
 go_enter Tryz.func26, Tryz.ntmps26
 go_upto_block 0 with fail
 refine wp_block ?_
 refine wp_mono ?_ bU
 repeat (refine wp_seq_k ?_; intro _ _; refine wp_block ?_; refine wp_mono ?_ dI)
 go_wp2_with (first
  | (refine bu rfl ?_)
  | (refine aS ?_)
  | (go_at_call 41; first | (refine (eu _ _ hcl hg).mono ?_; clear hcl hg b4 b2 b1 hlt; rintro e W' ⟨rfl, a1, c1, n1, m1, hg, b4, b2, b1, hlt⟩) | (refine (eu (.func (.func 28) #[] #[]) _ (iA _ _ _ _ _ _ _) hg).mono ?_; clear hg b4 b2 b1 hlt; rintro e W' ⟨rfl, a1, c1, n1, m1, hg, b4, b2, b1, hlt⟩))
  | (go_at_call 42; first | (refine (jW _ _ hcl hg).mono ?_; clear hcl hg b4 b2 b1 hlt; rintro e W' ⟨rfl, a1, c1, n1, m1, hg, b4, b2, b1, hlt⟩))
  | (go_at_call 43; refine (mE _ hg).mono ?_; clear hg b4 b2 b1 hlt; rintro e W' ⟨_, rfl, hcl, a1, c1, n1, m1, hg, b4, b2, b1, hlt⟩))
 all_goals
  go_ret
  refine aZ hg HF (by first | exact kX _ _ _ (by simp_all) | exact kY _ _ _ (by simp_all)) ?_
  simp_all
theorem zA (w : World) (ka : Option Addr) (kc nb no nc : Nat) (l : List Nd) (p num : Int) (ks : List Nat) (nm : ByteArray) (H : Bx (KSt w nb no nc l num (kW w ka kc nb no nc l.length 21 p num ks.length nm) (ks, false))) :
  bS w ka kc nb no nc l 21 p num ks nm := by
 obtain ⟨a, cap, n, m, hg, b4, b2, b1, hlt⟩ := H.out.post
 clear H
 unfold kW at *
 unfold bS
 generalize hF : aA (kdN l) _ num ks = F
 have HF : Bx _ := ⟨hF⟩
 clear hF
 go_enter Tryz.func26, Tryz.ntmps26
 go_upto_block 0 with fail
 refine wp_block ?_
 refine wp_mono ?_ bU
 repeat (refine wp_seq_k ?_; intro _ _; refine wp_block ?_; refine wp_mono ?_ dI)
 go_wp2_with (first
  | (refine bu rfl ?_)
  | (refine aS ?_)
  | (go_at_call 41; first | (refine (eu (.func (.func 30) #[] #[]) _ (bY _ _ _ _ _ _ _) hg).mono ?_; clear hg b4 b2 b1 hlt; rintro e W' ⟨rfl, a1, c1, n1, m1, hg, b4, b2, b1, hlt⟩)))
 all_goals
  go_ret
  refine aZ hg HF (qE _ _ _) ?_
  simp_all
theorem zB (w : World) (ka : Option Addr) (kc nb no nc : Nat) (l : List Nd) (p num : Int) (ks : List Nat) (nm : ByteArray) (H : Bx (KSt w nb no nc l num (kW w ka kc nb no nc l.length 22 p num ks.length nm) (ks, false))) :
  bS w ka kc nb no nc l 22 p num ks nm := by
 obtain ⟨a, cap, n, m, hg, b4, b2, b1, hlt⟩ := H.out.post
 clear H
 unfold kW at *
 unfold bS
 generalize hF : aA (kdN l) _ num ks = F
 have HF : Bx _ := ⟨hF⟩
 clear hF
 go_enter Tryz.func26, Tryz.ntmps26
 go_upto_block 0 with fail
 refine wp_block ?_
 refine wp_mono ?_ bU
 repeat (refine wp_seq_k ?_; intro _ _; refine wp_block ?_; refine wp_mono ?_ dI)
 go_wp2_with (first
  | (refine bu rfl ?_)
  | (refine aS ?_)
  | (go_at_call 41; first | (refine (eu (.func (.func 30) #[] #[]) _ (bY _ _ _ _ _ _ _) hg).mono ?_; clear hg b4 b2 b1 hlt; rintro e W' ⟨rfl, a1, c1, n1, m1, hg, b4, b2, b1, hlt⟩)))
 all_goals
  go_ret
  refine aZ hg HF (jX _ _ _) ?_
  simp_all
theorem zC (w : World) (ka : Option Addr) (kc nb no nc : Nat) (l : List Nd) (p num : Int) (ks : List Nat) (nm : ByteArray) (H : Bx (KSt w nb no nc l num (kW w ka kc nb no nc l.length 23 p num ks.length nm) (ks, false))) :
  bS w ka kc nb no nc l 23 p num ks nm := by
 obtain ⟨a, cap, n, m, hg, b4, b2, b1, hlt⟩ := H.out.post
 clear H
 unfold kW at *
 unfold bS
 generalize hF : aA (kdN l) _ num ks = F
 have HF : Bx _ := ⟨hF⟩
 clear hF
 go_enter Tryz.func26, Tryz.ntmps26
 go_upto_block 0 with fail
 refine wp_block ?_
 refine wp_mono ?_ bU
 repeat (refine wp_seq_k ?_; intro _ _; refine wp_block ?_; refine wp_mono ?_ dI)
 go_wp2_with (first
  | (refine bu rfl ?_)
  | (refine aS ?_)
  | (go_at_call 41; first | (refine (eu (.func (.func 30) #[] #[]) _ (bY _ _ _ _ _ _ _) hg).mono ?_; clear hg b4 b2 b1 hlt; rintro e W' ⟨rfl, a1, c1, n1, m1, hg, b4, b2, b1, hlt⟩))
  | (go_at_call 42; first | (refine (jW (.func (.func 30) #[] #[]) _ (bY _ _ _ _ _ _ _) hg).mono ?_; clear hg b4 b2 b1 hlt; rintro e W' ⟨rfl, a1, c1, n1, m1, hg, b4, b2, b1, hlt⟩)))
 all_goals
  go_ret
  refine aZ hg HF (jY _ _ _) ?_
  simp_all
end Go.Proofs.YtecodpdfckjalaaGreatDoor
