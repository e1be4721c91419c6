import Derived.Test.YtecodpdfckjalaaGreatDoorYTCurA
set_option linter.unusedVariables false
set_option linter.unusedSimpArgs false
set_option maxHeartbeats 4000000
set_option maxRecDepth 100000
namespace Go.Proofs.YtecodpdfckjalaaGreatDoor
open Go.RowKit
theorem CJ (w : World) (ka : Option Addr) (kc nb no nc : Nat) (l : List Nd) (p num : Int) (ks : List Nat) (nm : ByteArray) (H : Bx (KSt w nb no nc l num (kW w ka kc nb no nc l.length 1 p num ks.length nm) (ks, false))) :
  bS w ka kc nb no nc l 1 p num ks nm := by
 obtain ⟨a, cap, n, m, hg, b4, b2, b1, hlt⟩ := H.out.post
 clear H
 unfold kW at *
 unfold bS
 generalize hF : aA (kdN l) _ num ks = F
 have HF : Bx _ := ⟨hF⟩
 clear hF
 go_enter Tryz.func26, Tryz.ntmps26
 go_upto_block 0 with fail
 refine wp_block ?_
 refine wp_mono ?_ bU
 repeat (refine wp_seq_k ?_; intro _ _; refine wp_block ?_; refine wp_mono ?_ dI)
 go_wp2_with (first
  | (refine bu rfl ?_)
  | (refine aS ?_))
 all_goals
  go_ret
  refine aZ hg HF (CE _ _ _) ?_
  simp_all
theorem CK (w : World) (ka : Option Addr) (kc nb no nc : Nat) (l : List Nd) (p num : Int) (ks : List Nat) (nm : ByteArray) (H : Bx (KSt w nb no nc l num (kW w ka kc nb no nc l.length 2 p num ks.length nm) (ks, false))) :
  bS w ka kc nb no nc l 2 p num ks nm := by
 obtain ⟨a, cap, n, m, hg, b4, b2, b1, hlt⟩ := H.out.post
 clear H
 unfold kW at *
 unfold bS
 generalize hF : aA (kdN l) _ num ks = F
 have HF : Bx _ := ⟨hF⟩
 clear hF
 go_enter Tryz.func26, Tryz.ntmps26
 go_upto_block 0 with fail
 refine wp_block ?_
 refine wp_mono ?_ bU
 repeat (refine wp_seq_k ?_; intro _ _; refine wp_block ?_; refine wp_mono ?_ dI)
 go_wp2_with (first
  | (refine bu rfl ?_)
  | (refine aS ?_))
 all_goals
  go_ret
  refine aZ hg HF (CF _ _ _) ?_
  simp_all
theorem CL (w : World) (ka : Option Addr) (kc nb no nc : Nat) (l : List Nd) (p num : Int) (ks : List Nat) (nm : ByteArray) (H : Bx (KSt w nb no nc l num (kW w ka kc nb no nc l.length 3 p num ks.length nm) (ks, false))) :
  bS w ka kc nb no nc l 3 p num ks nm := by
 obtain ⟨a, cap, n, m, hg, b4, b2, b1, hlt⟩ := H.out.post
 clear H
 unfold kW at *
 unfold bS
 generalize hF : aA (kdN l) _ num ks = F
 have HF : Bx _ := ⟨hF⟩
 clear hF
 go_enter Tryz.func26, Tryz.ntmps26
 go_upto_block 0 with fail
 refine wp_block ?_
 refine wp_mono ?_ bU
 repeat (refine wp_seq_k ?_; intro _ _; refine wp_block ?_; refine wp_mono ?_ dI)
 go_wp2_with (first
  | (refine bu rfl ?_)
  | (refine aS ?_))
 all_goals
  go_ret
  refine aZ hg HF (CG _ _ _) ?_
  simp_all
theorem CO (w : World) (ka : Option Addr) (kc nb no nc : Nat) (l : List Nd) (p num : Int) (ks : List Nat) (nm : ByteArray) (H : Bx (KSt w nb no nc l num (kW w ka kc nb no nc l.length 4 p num ks.length nm) (ks, false))) :
  bS w ka kc nb no nc l 4 p num ks nm := by
 obtain ⟨a, cap, n, m, hg, b4, b2, b1, hlt⟩ := H.out.post
 clear H
 unfold kW at *
 unfold bS
 generalize hF : aA (kdN l) _ num ks = F
 have HF : Bx _ := ⟨hF⟩
 clear hF
 go_enter Tryz.func26, Tryz.ntmps26
 go_upto_block 0 with fail
 refine wp_block ?_
 refine wp_mono ?_ bU
 repeat (refine wp_seq_k ?_; intro _ _; refine wp_block ?_; refine wp_mono ?_ dI)
 go_wp2_with (first
  | (refine bu rfl ?_)
  | (refine aS ?_)
  | (go_at_call 41; first | (refine (eu (.func (.func 28) #[] #[]) _ (iA _ _ _ _ _ _ _) hg).mono ?_; clear hg b4 b2 b1 hlt; rintro e W' ⟨rfl, a1, c1, n1, m1, hg, b4, b2, b1, hlt⟩)))
 all_goals
  go_ret
  refine aZ hg HF (um _ _ _) ?_
  simp_all
theorem CP (w : World) (ka : Option Addr) (kc nb no nc : Nat) (l : List Nd) (p num : Int) (ks : List Nat) (nm : ByteArray) (H : Bx (KSt w nb no nc l num (kW w ka kc nb no nc l.length 5 p num ks.length nm) (ks, false))) :
  bS w ka kc nb no nc l 5 p num ks nm := by
 obtain ⟨a, cap, n, m, hg, b4, b2, b1, hlt⟩ := H.out.post
 clear H
 unfold kW at *
 unfold bS
 generalize hF : aA (kdN l) _ num ks = F
 have HF : Bx _ := ⟨hF⟩
 clear hF
 go_enter Tryz.func26, Tryz.ntmps26
 go_upto_block 0 with fail
 refine wp_block ?_
 refine wp_mono ?_ bU
 repeat (refine wp_seq_k ?_; intro _ _; refine wp_block ?_; refine wp_mono ?_ dI)
 go_wp2_with (first
  | (refine bu rfl ?_)
  | (refine aS ?_)
  | (go_at_call 41; first | (refine (eu (.func (.func 28) #[] #[]) _ (iA _ _ _ _ _ _ _) hg).mono ?_; clear hg b4 b2 b1 hlt; rintro e W' ⟨rfl, a1, c1, n1, m1, hg, b4, b2, b1, hlt⟩))
  | (go_at_call 42; first | (refine (jW (.func (.func 28) #[] #[]) _ (iA _ _ _ _ _ _ _) hg).mono ?_; clear hg b4 b2 b1 hlt; rintro e W' ⟨rfl, a1, c1, n1, m1, hg, b4, b2, b1, hlt⟩)))
 all_goals
  go_ret
  refine aZ hg HF (uo _ _ _) ?_
  simp_all
theorem CQ (w : World) (ka : Option Addr) (kc nb no nc : Nat) (l : List Nd) (p num : Int) (ks : List Nat) (nm : ByteArray) (H : Bx (KSt w nb no nc l num (kW w ka kc nb no nc l.length 6 p num ks.length nm) (ks, false))) :
  bS w ka kc nb no nc l 6 p num ks nm := by
 obtain ⟨a, cap, n, m, hg, b4, b2, b1, hlt⟩ := H.out.post
 clear H
 unfold kW at *
 unfold bS
 generalize hF : aA (kdN l) _ num ks = F
 have HF : Bx _ := ⟨hF⟩
 clear hF
 go_enter Tryz.func26, Tryz.ntmps26
 go_upto_block 0 with fail
 refine wp_block ?_
 refine wp_mono ?_ bU
 repeat (refine wp_seq_k ?_; intro _ _; refine wp_block ?_; refine wp_mono ?_ dI)
 go_wp2_with (first
  | (refine bu rfl ?_)
  | (refine aS ?_)
  | (go_at_call 41; first | (refine (eu (.func (.func 28) #[] #[]) _ (iA _ _ _ _ _ _ _) hg).mono ?_; clear hg b4 b2 b1 hlt; rintro e W' ⟨rfl, a1, c1, n1, m1, hg, b4, b2, b1, hlt⟩)))
 all_goals
  go_ret
  refine aZ hg HF (uq _ _ _) ?_
  simp_all
theorem CR (w : World) (ka : Option Addr) (kc nb no nc : Nat) (l : List Nd) (p num : Int) (ks : List Nat) (nm : ByteArray) (H : Bx (KSt w nb no nc l num (kW w ka kc nb no nc l.length 7 p num ks.length nm) (ks, false))) :
  bS w ka kc nb no nc l 7 p num ks nm := by
 obtain ⟨a, cap, n, m, hg, b4, b2, b1, hlt⟩ := H.out.post
 clear H
 unfold kW at *
 unfold bS
 generalize hF : aA (kdN l) _ num ks = F
 have HF : Bx _ := ⟨hF⟩
 clear hF
 go_enter Tryz.func26, Tryz.ntmps26
 go_upto_block 0 with fail
 refine wp_block ?_
 refine wp_mono ?_ bU
 repeat (refine wp_seq_k ?_; intro _ _; refine wp_block ?_; refine wp_mono ?_ dI)
 go_wp2_with (first
  | (refine bu rfl ?_)
  | (refine aS ?_)
  | (go_at_call 42; first | (refine (jW (.func (.func 28) #[] #[]) _ (iA _ _ _ _ _ _ _) hg).mono ?_; clear hg b4 b2 b1 hlt; rintro e W' ⟨rfl, a1, c1, n1, m1, hg, b4, b2, b1, hlt⟩)))
 all_goals
  go_ret
  refine aZ hg HF (ut _ _ _) ?_
  simp_all
end Go.Proofs.YtecodpdfckjalaaGreatDoor
