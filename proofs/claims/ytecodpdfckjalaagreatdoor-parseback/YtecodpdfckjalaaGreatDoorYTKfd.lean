import Derived.Test.YtecodpdfckjalaaGreatDoorYTCurA
set_option linter.unusedVariables false
set_option linter.unusedSimpArgs false
set_option maxHeartbeats 4000000
set_option maxRecDepth 100000
namespace Go.Proofs.YtecodpdfckjalaaGreatDoor
open Go.RowKit
theorem zD (w : World) (ka : Option Addr) (kc nb no nc : Nat) (l : List Nd) (p num : Int) (ks : List Nat) (nm : ByteArray) (H : Bx (KSt w nb no nc l num (kW w ka kc nb no nc l.length 24 p num ks.length nm) (ks, false))) :
  bS w ka kc nb no nc l 24 p num ks nm := by
 obtain ⟨a, cap, n, m, hg, b4, b2, b1, hlt⟩ := H.out.post
 clear H
 unfold kW at *
 unfold bS
 generalize hF : aA (kdN l) _ num ks = F
 have HF : Bx _ := ⟨hF⟩
 clear hF
 go_enter Tryz.func26, Tryz.ntmps26
 go_upto_block 0 with fail
 refine wp_block ?_
 refine wp_mono ?_ bU
 repeat (refine wp_seq_k ?_; intro _ _; refine wp_block ?_; refine wp_mono ?_ dI)
 go_wp2_with (first
  | (refine bu rfl ?_)
  | (refine aS ?_)
  | (go_at_call 41; first | (refine (eu (.func (.func 30) #[] #[]) _ (bY _ _ _ _ _ _ _) hg).mono ?_; clear hg b4 b2 b1 hlt; rintro e W' ⟨rfl, a1, c1, n1, m1, hg, b4, b2, b1, hlt⟩)))
 all_goals
  go_ret
  refine aZ hg HF (jZ _ _ _) ?_
  simp_all
theorem zF (w : World) (ka : Option Addr) (kc nb no nc : Nat) (l : List Nd) (p num : Int) (ks : List Nat) (nm : ByteArray) (H : Bx (KSt w nb no nc l num (kW w ka kc nb no nc l.length 25 p num ks.length nm) (ks, false))) :
  bS w ka kc nb no nc l 25 p num ks nm := by
 obtain ⟨a, cap, n, m, hg, b4, b2, b1, hlt⟩ := H.out.post
 clear H
 unfold kW at *
 unfold bS
 generalize hF : aA (kdN l) _ num ks = F
 have HF : Bx _ := ⟨hF⟩
 clear hF
 go_enter Tryz.func26, Tryz.ntmps26
 go_upto_block 0 with fail
 refine wp_block ?_
 refine wp_mono ?_ bU
 repeat (refine wp_seq_k ?_; intro _ _; refine wp_block ?_; refine wp_mono ?_ dI)
 go_wp2_with (first
  | (refine bu rfl ?_)
  | (refine aS ?_)
  | (go_at_call 41; first | (refine (eu (.func (.func 30) #[] #[]) _ (bY _ _ _ _ _ _ _) hg).mono ?_; clear hg b4 b2 b1 hlt; rintro e W' ⟨rfl, a1, c1, n1, m1, hg, b4, b2, b1, hlt⟩)))
 all_goals
  go_ret
  refine aZ hg HF (j3 _ _ _) ?_
  simp_all
theorem zG (w : World) (ka : Option Addr) (kc nb no nc : Nat) (l : List Nd) (p num : Int) (ks : List Nat) (nm : ByteArray) (H : Bx (KSt w nb no nc l num (kW w ka kc nb no nc l.length 31 p num ks.length nm) (ks, false))) :
  bS w ka kc nb no nc l 31 p num ks nm := by
 obtain ⟨a, cap, n, m, hg, b4, b2, b1, hlt⟩ := H.out.post
 clear H
 unfold kW at *
 unfold bS
 generalize hF : aA (kdN l) _ num ks = F
 have HF : Bx _ := ⟨hF⟩
 clear hF
 go_enter Tryz.func26, Tryz.ntmps26
 go_upto_block 0 with fail
 refine wp_block ?_
 refine wp_mono ?_ bU
 repeat (refine wp_seq_k ?_; intro _ _; refine wp_block ?_; refine wp_mono ?_ dI)
 go_wp2_with (first
  | (refine bu rfl ?_)
  | (refine aS ?_)
  | (go_at_call 41; first | (refine (eu (.func (.func 30) #[] #[]) _ (bY _ _ _ _ _ _ _) hg).mono ?_; clear hg b4 b2 b1 hlt; rintro e W' ⟨rfl, a1, c1, n1, m1, hg, b4, b2, b1, hlt⟩)))
 all_goals
  go_ret
  refine aZ hg HF (qF _ _ _) ?_
  simp_all
theorem zH (w : World) (ka : Option Addr) (kc nb no nc : Nat) (l : List Nd) (p num : Int) (ks : List Nat) (nm : ByteArray) (H : Bx (KSt w nb no nc l num (kW w ka kc nb no nc l.length 32 p num ks.length nm) (ks, false))) :
  bS w ka kc nb no nc l 32 p num ks nm := by
 obtain ⟨a, cap, n, m, hg, b4, b2, b1, hlt⟩ := H.out.post
 clear H
 unfold kW at *
 unfold bS
 generalize hF : aA (kdN l) _ num ks = F
 have HF : Bx _ := ⟨hF⟩
 clear hF
 go_enter Tryz.func26, Tryz.ntmps26
 go_upto_block 0 with fail
 refine wp_block ?_
 refine wp_mono ?_ bU
 repeat (refine wp_seq_k ?_; intro _ _; refine wp_block ?_; refine wp_mono ?_ dI)
 go_wp2_with (first
  | (refine bu rfl ?_)
  | (refine aS ?_)
  | (go_at_call 41; first | (refine (eu (.func (.func 28) #[] #[]) _ (iA _ _ _ _ _ _ _) hg).mono ?_; clear hg b4 b2 b1 hlt; rintro e W' ⟨rfl, a1, c1, n1, m1, hg, b4, b2, b1, hlt⟩))
  | (go_at_call 44; first | (refine (vK (.func (.func 30) #[] #[]) _ (bY _ _ _ _ _ _ _) hg).mono ?_; clear hg b4 b2 b1 hlt; rintro e W' ⟨_, rfl, a1, c1, n1, m1, hg, b4, b2, b1, hlt⟩)))
 all_goals
  go_ret
  refine aZ hg HF (mF _ _ _) ?_
  simp_all
theorem zI (w : World) (ka : Option Addr) (kc nb no nc : Nat) (l : List Nd) (p num : Int) (ks : List Nat) (nm : ByteArray) (H : Bx (KSt w nb no nc l num (kW w ka kc nb no nc l.length 33 p num ks.length nm) (ks, false))) :
  bS w ka kc nb no nc l 33 p num ks nm := by
 obtain ⟨a, cap, n, m, hg, b4, b2, b1, hlt⟩ := H.out.post
 clear H
 unfold kW at *
 unfold bS
 generalize hF : aA (kdN l) _ num ks = F
 have HF : Bx _ := ⟨hF⟩
 clear hF
 go_enter Tryz.func26, Tryz.ntmps26
 go_upto_block 0 with fail
 refine wp_block ?_
 refine wp_mono ?_ bU
 repeat (refine wp_seq_k ?_; intro _ _; refine wp_block ?_; refine wp_mono ?_ dI)
 go_wp2_with (first
  | (refine bu rfl ?_)
  | (refine aS ?_)
  | (go_at_call 41; first | (refine (eu (.func (.func 30) #[] #[]) _ (bY _ _ _ _ _ _ _) hg).mono ?_; clear hg b4 b2 b1 hlt; rintro e W' ⟨rfl, a1, c1, n1, m1, hg, b4, b2, b1, hlt⟩)))
 all_goals
  go_ret
  refine aZ hg HF (mG _ _ _) ?_
  simp_all
theorem zJ (w : World) (ka : Option Addr) (kc nb no nc : Nat) (l : List Nd) (p num : Int) (ks : List Nat) (nm : ByteArray) (H : Bx (KSt w nb no nc l num (kW w ka kc nb no nc l.length 34 p num ks.length nm) (ks, false))) :
  bS w ka kc nb no nc l 34 p num ks nm := by
 obtain ⟨a, cap, n, m, hg, b4, b2, b1, hlt⟩ := H.out.post
 clear H
 unfold kW at *
 unfold bS
 generalize hF : aA (kdN l) _ num ks = F
 have HF : Bx _ := ⟨hF⟩
 clear hF
 go_enter Tryz.func26, Tryz.ntmps26
 go_upto_block 0 with fail
 refine wp_block ?_
 refine wp_mono ?_ bU
 repeat (refine wp_seq_k ?_; intro _ _; refine wp_block ?_; refine wp_mono ?_ dI)
 go_wp2_with (first
  | (refine bu rfl ?_)
  | (refine aS ?_)
  | (go_at_call 41; first | (refine (eu (.func (.func 30) #[] #[]) _ (bY _ _ _ _ _ _ _) hg).mono ?_; clear hg b4 b2 b1 hlt; rintro e W' ⟨rfl, a1, c1, n1, m1, hg, b4, b2, b1, hlt⟩)))
 all_goals
  go_ret
  refine aZ hg HF (mH _ _ _) ?_
  simp_all
theorem zK (w : World) (ka : Option Addr) (kc nb no nc : Nat) (l : List Nd) (p num : Int) (ks : List Nat) (nm : ByteArray) (H : Bx (KSt w nb no nc l num (kW w ka kc nb no nc l.length 35 p num ks.length nm) (ks, false))) :
  bS w ka kc nb no nc l 35 p num ks nm := by
 obtain ⟨a, cap, n, m, hg, b4, b2, b1, hlt⟩ := H.out.post
 clear H
 unfold kW at *
 unfold bS
 generalize hF : aA (kdN l) _ num ks = F
 have HF : Bx _ := ⟨hF⟩
 clear hF
 go_enter Tryz.func26, Tryz.ntmps26
 go_upto_block 0 with fail
 refine wp_block ?_
 refine wp_mono ?_ bU
 repeat (refine wp_seq_k ?_; intro _ _; refine wp_block ?_; refine wp_mono ?_ dI)
 go_wp2_with (first
  | (refine bu rfl ?_)
  | (refine aS ?_)
  | (go_at_call 41; first | (refine (eu (.func (.func 30) #[] #[]) _ (bY _ _ _ _ _ _ _) hg).mono ?_; clear hg b4 b2 b1 hlt; rintro e W' ⟨rfl, a1, c1, n1, m1, hg, b4, b2, b1, hlt⟩)))
 all_goals
  go_ret
  refine aZ hg HF (qG _ _ _) ?_
  simp_all
end Go.Proofs.YtecodpdfckjalaaGreatDoor
