import Derived.Test.YtecodpdfckjalaaGreatDoorYTCurA
set_option linter.unusedVariables false
set_option linter.unusedSimpArgs false
set_option maxHeartbeats 4000000
set_option maxRecDepth 100000
namespace Go.Proofs.YtecodpdfckjalaaGreatDoor
open Go.RowKit
theorem zl (w : World) (ka : Option Addr) (kc nb no nc : Nat) (l : List Nd) (p num : Int) (ks : List Nat) (nm : ByteArray) (H : Bx (KSt w nb no nc l num (kW w ka kc nb no nc l.length 11 p num ks.length nm) (ks, false))) :
  bS w ka kc nb no nc l 11 p num ks nm := by
 obtain ⟨a, cap, n, m, hg, b4, b2, b1, hlt⟩ := H.out.post
 clear H
 unfold kW at *
 unfold bS
 generalize hF : aA (kdN l) _ num ks = F
 have HF : Bx _ := ⟨hF⟩
 clear hF
 go_enter Tryz.func26, Tryz.ntmps26
 go_upto_block 0 with fail
 refine wp_block ?_
 refine wp_mono ?_ bU
 repeat (refine wp_seq_k ?_; intro _ _; refine wp_block ?_; refine wp_mono ?_ dI)
 go_wp2_with (first
  | (refine bu rfl ?_)
  | (refine aS ?_))
 all_goals
  go_ret
  refine aZ hg HF (zh _ _ _) ?_
  simp_all
theorem zm (w : World) (ka : Option Addr) (kc nb no nc : Nat) (l : List Nd) (p num : Int) (ks : List Nat) (nm : ByteArray) (H : Bx (KSt w nb no nc l num (kW w ka kc nb no nc l.length 12 p num ks.length nm) (ks, false))) :
  bS w ka kc nb no nc l 12 p num ks nm := by
 obtain ⟨a, cap, n, m, hg, b4, b2, b1, hlt⟩ := H.out.post
 clear H
 unfold kW at *
 unfold bS
 generalize hF : aA (kdN l) _ num ks = F
 have HF : Bx _ := ⟨hF⟩
 clear hF
 go_enter Tryz.func26, Tryz.ntmps26
 go_upto_block 0 with fail
 refine wp_block ?_
 refine wp_mono ?_ bU
 repeat (refine wp_seq_k ?_; intro _ _; refine wp_block ?_; refine wp_mono ?_ dI)
 go_wp2_with (first
  | (refine bu rfl ?_)
  | (refine aS ?_))
 all_goals
  go_ret
  refine aZ hg HF (zi _ _ _) ?_
  simp_all
theorem zn (w : World) (ka : Option Addr) (kc nb no nc : Nat) (l : List Nd) (p num : Int) (ks : List Nat) (nm : ByteArray) (H : Bx (KSt w nb no nc l num (kW w ka kc nb no nc l.length 13 p num ks.length nm) (ks, false))) :
  bS w ka kc nb no nc l 13 p num ks nm := by
 obtain ⟨a, cap, n, m, hg, b4, b2, b1, hlt⟩ := H.out.post
 clear H
 unfold kW at *
 unfold bS
 generalize hF : aA (kdN l) _ num ks = F
 have HF : Bx _ := ⟨hF⟩
 clear hF
 go_enter Tryz.func26, Tryz.ntmps26
 go_upto_block 0 with fail
 refine wp_block ?_
 refine wp_mono ?_ bU
 repeat (refine wp_seq_k ?_; intro _ _; refine wp_block ?_; refine wp_mono ?_ dI)
 go_wp2_with (first
  | (refine bu rfl ?_)
  | (refine aS ?_))
 all_goals
  go_ret
  refine aZ hg HF (zk _ _ _) ?_
  simp_all
theorem zo (w : World) (ka : Option Addr) (kc nb no nc : Nat) (l : List Nd) (p num : Int) (ks : List Nat) (nm : ByteArray) (H : Bx (KSt w nb no nc l num (kW w ka kc nb no nc l.length 14 p num ks.length nm) (ks, false))) :
  bS w ka kc nb no nc l 14 p num ks nm := by
 obtain ⟨a, cap, n, m, hg, b4, b2, b1, hlt⟩ := H.out.post
 clear H
 unfold kW at *
 unfold bS
 generalize hF : aA (kdN l) _ num ks = F
 have HF : Bx _ := ⟨hF⟩
 clear hF
 go_enter Tryz.func26, Tryz.ntmps26
 go_upto_block 0 with fail
 refine wp_block ?_
 refine wp_mono ?_ bU
 repeat (refine wp_seq_k ?_; intro _ _; refine wp_block ?_; refine wp_mono ?_ dI)
 go_wp2_with (first
  | (refine bu rfl ?_)
  | (refine aS ?_)
  | (go_at_call 41; first | (refine (eu (.func (.func 30) #[] #[]) _ (bY _ _ _ _ _ _ _) hg).mono ?_; clear hg b4 b2 b1 hlt; rintro e W' ⟨rfl, a1, c1, n1, m1, hg, b4, b2, b1, hlt⟩)))
 all_goals
  go_ret
  refine aZ hg HF (qy _ _ _) ?_
  simp_all
theorem zq (w : World) (ka : Option Addr) (kc nb no nc : Nat) (l : List Nd) (p num : Int) (ks : List Nat) (nm : ByteArray) (H : Bx (KSt w nb no nc l num (kW w ka kc nb no nc l.length 15 p num ks.length nm) (ks, false))) :
  bS w ka kc nb no nc l 15 p num ks nm := by
 obtain ⟨a, cap, n, m, hg, b4, b2, b1, hlt⟩ := H.out.post
 clear H
 unfold kW at *
 unfold bS
 generalize hF : aA (kdN l) _ num ks = F
 have HF : Bx _ := ⟨hF⟩
 clear hF
 go_enter Tryz.func26, Tryz.ntmps26
 go_upto_block 0 with fail
 refine wp_block ?_
 refine wp_mono ?_ bU
 repeat (refine wp_seq_k ?_; intro _ _; refine wp_block ?_; refine wp_mono ?_ dI)
 go_wp2_with (first
  | (refine bu rfl ?_)
  | (refine aS ?_)
  | (go_at_call 41; first | (refine (eu (.func (.func 30) #[] #[]) _ (bY _ _ _ _ _ _ _) hg).mono ?_; clear hg b4 b2 b1 hlt; rintro e W' ⟨rfl, a1, c1, n1, m1, hg, b4, b2, b1, hlt⟩))
  | (go_at_call 42; first | (refine (jW (.func (.func 30) #[] #[]) _ (bY _ _ _ _ _ _ _) hg).mono ?_; clear hg b4 b2 b1 hlt; rintro e W' ⟨rfl, a1, c1, n1, m1, hg, b4, b2, b1, hlt⟩)))
 all_goals
  go_ret
  refine aZ hg HF (qz _ _ _) ?_
  simp_all
theorem zt (w : World) (ka : Option Addr) (kc nb no nc : Nat) (l : List Nd) (p num : Int) (ks : List Nat) (nm : ByteArray) (H : Bx (KSt w nb no nc l num (kW w ka kc nb no nc l.length 16 p num ks.length nm) (ks, false))) :
  bS w ka kc nb no nc l 16 p num ks nm := by
 obtain ⟨a, cap, n, m, hg, b4, b2, b1, hlt⟩ := H.out.post
 clear H
 unfold kW at *
 unfold bS
 generalize hF : aA (kdN l) _ num ks = F
 have HF : Bx _ := ⟨hF⟩
 clear hF
 go_enter Tryz.func26, Tryz.ntmps26
 go_upto_block 0 with fail
 refine wp_block ?_
 refine wp_mono ?_ bU
 repeat (refine wp_seq_k ?_; intro _ _; refine wp_block ?_; refine wp_mono ?_ dI)
 go_wp2_with (first
  | (refine bu rfl ?_)
  | (refine aS ?_)
  | (go_at_call 41; first | (refine (eu (.func (.func 30) #[] #[]) _ (bY _ _ _ _ _ _ _) hg).mono ?_; clear hg b4 b2 b1 hlt; rintro e W' ⟨rfl, a1, c1, n1, m1, hg, b4, b2, b1, hlt⟩))
  | (go_at_call 42; first | (refine (jW (.func (.func 30) #[] #[]) _ (bY _ _ _ _ _ _ _) hg).mono ?_; clear hg b4 b2 b1 hlt; rintro e W' ⟨rfl, a1, c1, n1, m1, hg, b4, b2, b1, hlt⟩)))
 all_goals
  go_ret
  refine aZ hg HF (qA _ _ _) ?_
  simp_all
theorem zu (w : World) (ka : Option Addr) (kc nb no nc : Nat) (l : List Nd) (p num : Int) (ks : List Nat) (nm : ByteArray) (H : Bx (KSt w nb no nc l num (kW w ka kc nb no nc l.length 17 p num ks.length nm) (ks, false))) :
  bS w ka kc nb no nc l 17 p num ks nm := by
 obtain ⟨a, cap, n, m, hg, b4, b2, b1, hlt⟩ := H.out.post
 clear H
 unfold kW at *
 unfold bS
 generalize hF : aA (kdN l) _ num ks = F
 have HF : Bx _ := ⟨hF⟩
 clear hF
 go_enter Tryz.func26, Tryz.ntmps26
 go_upto_block 0 with fail
 refine wp_block ?_
 refine wp_mono ?_ bU
 repeat (refine wp_seq_k ?_; intro _ _; refine wp_block ?_; refine wp_mono ?_ dI)
 go_wp2_with (first
  | (refine bu rfl ?_)
  | (refine aS ?_)
  | (go_at_call 41; first | (refine (eu (.func (.func 30) #[] #[]) _ (bY _ _ _ _ _ _ _) hg).mono ?_; clear hg b4 b2 b1 hlt; rintro e W' ⟨rfl, a1, c1, n1, m1, hg, b4, b2, b1, hlt⟩)))
 all_goals
  go_ret
  refine aZ hg HF (qB _ _ _) ?_
  simp_all
theorem zw (w : World) (ka : Option Addr) (kc nb no nc : Nat) (l : List Nd) (p num : Int) (ks : List Nat) (nm : ByteArray) (H : Bx (KSt w nb no nc l num (kW w ka kc nb no nc l.length 18 p num ks.length nm) (ks, false))) :
  bS w ka kc nb no nc l 18 p num ks nm := by
 obtain ⟨a, cap, n, m, hg, b4, b2, b1, hlt⟩ := H.out.post
 clear H
 unfold kW at *
 unfold bS
 generalize hF : aA (kdN l) _ num ks = F
 have HF : Bx _ := ⟨hF⟩
 clear hF
 go_enter Tryz.func26, Tryz.ntmps26
 go_upto_block 0 with fail
 refine wp_block ?_
 refine wp_mono ?_ bU
 repeat (refine wp_seq_k ?_; intro _ _; refine wp_block ?_; refine wp_mono ?_ dI)
 go_wp2_with (first
  | (refine bu rfl ?_)
  | (refine aS ?_)
  | (go_at_call 41; first | (refine (eu (.func (.func 30) #[] #[]) _ (bY _ _ _ _ _ _ _) hg).mono ?_; clear hg b4 b2 b1 hlt; rintro e W' ⟨rfl, a1, c1, n1, m1, hg, b4, b2, b1, hlt⟩)))
 all_goals
  go_ret
  refine aZ hg HF (qC _ _ _) ?_
  simp_all
end Go.Proofs.YtecodpdfckjalaaGreatDoor
