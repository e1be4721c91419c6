import Derived.Test.YtecodpdfckjalaaGreatDoorZTCurA
set_option linter.unusedVariables false
set_option linter.unusedSimpArgs false
set_option maxHeartbeats 4000000
set_option maxRecDepth 100000
namespace Go.Proofs.YtecodpdfckjalaaGreatDoor
open Go.RowKit
theorem zG (w : World) (ka : Option Addr) (kc nb no nc : Nat) (l : List Nd) (p num : Int) (ks : List Nat) (nm : ByteArray) (H : Bx (KSt w nb no nc l num (kW w ka kc nb no nc l.length 40 p num ks.length nm) (ks, false))) :
  bM w ka kc nb no nc l 40 p num ks nm := by
 obtain ⟨a, cap, n, m, hg, b4, b2, b1, hlt⟩ := H.out.post
 clear H
 unfold kW at *
 unfold bM
 generalize hF : aD (kdN l) _ num ks = F
 have HF : Bx _ := ⟨hF⟩
 clear hF
 go_enter Tryz.func26, Tryz.ntmps26
 go_upto_block 0 with fail
 refine wp_block ?_
 refine wp_mono ?_ bN
 repeat (refine wp_seq_k ?_; intro _ _; refine wp_block ?_; refine wp_mono ?_ dG)
 go_wp2_with (first
  | (refine bn rfl ?_)
  | (refine aP ?_)
  | (go_at_call 42; first | (refine (jR (.func (.func 46) #[] #[]) _ (F8 _ _ _ _ _ _ _) hg).mono ?_; clear hg b4 b2 b1 hlt; rintro e W' ⟨rfl, a1, c1, n1, m1, hg, b4, b2, b1, hlt⟩)))
 all_goals
  go_ret
  refine aY hg HF (qB _ _ _) ?_
  simp_all
theorem zH (w : World) (ka : Option Addr) (kc nb no nc : Nat) (l : List Nd) (p num : Int) (ks : List Nat) (nm : ByteArray) (H : Bx (KSt w nb no nc l num (kW w ka kc nb no nc l.length 41 p num ks.length nm) (ks, false))) :
  bM w ka kc nb no nc l 41 p num ks nm := by
 obtain ⟨a, cap, n, m, hg, b4, b2, b1, hlt⟩ := H.out.post
 clear H
 unfold kW at *
 unfold bM
 generalize hF : aD (kdN l) _ num ks = F
 have HF : Bx _ := ⟨hF⟩
 clear hF
 go_enter Tryz.func26, Tryz.ntmps26
 go_upto_block 0 with fail
 refine wp_block ?_
 refine wp_mono ?_ bN
 repeat (refine wp_seq_k ?_; intro _ _; refine wp_block ?_; refine wp_mono ?_ dG)
 go_wp2_with (first
  | (refine bn rfl ?_)
  | (refine aP ?_)
  | (go_at_call 42; first | (refine (jR (.func (.func 32) #[] #[]) _ (vT _ _ _ _ _ _ _) hg).mono ?_; clear hg b4 b2 b1 hlt; rintro e W' ⟨rfl, a1, c1, n1, m1, hg, b4, b2, b1, hlt⟩)))
 all_goals
  go_ret
  refine aY hg HF (qC _ _ _) ?_
  simp_all
theorem zI (w : World) (ka : Option Addr) (kc nb no nc : Nat) (l : List Nd) (p num : Int) (ks : List Nat) (nm : ByteArray) (H : Bx (KSt w nb no nc l num (kW w ka kc nb no nc l.length 42 p num ks.length nm) (ks, false))) :
  bM w ka kc nb no nc l 42 p num ks nm := by
 obtain ⟨a, cap, n, m, hg, b4, b2, b1, hlt⟩ := H.out.post
 clear H
 unfold kW at *
 unfold bM
 generalize hF : aD (kdN l) _ num ks = F
 have HF : Bx _ := ⟨hF⟩
 clear hF
 go_enter Tryz.func26, Tryz.ntmps26
 go_upto_block 0 with fail
 refine wp_block ?_
 refine wp_mono ?_ bN
 repeat (refine wp_seq_k ?_; intro _ _; refine wp_block ?_; refine wp_mono ?_ dG)
 go_wp2_with (first
  | (refine bn rfl ?_)
  | (refine aP ?_)
  | (go_at_call 41; first | (refine (dU (.func (.func 28) #[] #[]) _ (gZ _ _ _ _ _ _ _) hg).mono ?_; clear hg b4 b2 b1 hlt; rintro e W' ⟨rfl, a1, c1, n1, m1, hg, b4, b2, b1, hlt⟩)))
 all_goals
  go_ret
  refine aY hg HF (qD _ _ _) ?_
  simp_all
theorem zJ (w : World) (ka : Option Addr) (kc nb no nc : Nat) (l : List Nd) (p num : Int) (ks : List Nat) (nm : ByteArray) (H : Bx (KSt w nb no nc l num (kW w ka kc nb no nc l.length 43 p num ks.length nm) (ks, false))) :
  bM w ka kc nb no nc l 43 p num ks nm := by
 obtain ⟨a, cap, n, m, hg, b4, b2, b1, hlt⟩ := H.out.post
 clear H
 unfold kW at *
 unfold bM
 generalize hF : aD (kdN l) _ num ks = F
 have HF : Bx _ := ⟨hF⟩
 clear hF
 go_enter Tryz.func26, Tryz.ntmps26
 go_upto_block 0 with fail
 refine wp_block ?_
 refine wp_mono ?_ bN
 repeat (refine wp_seq_k ?_; intro _ _; refine wp_block ?_; refine wp_mono ?_ dG)
 go_wp2_with (first
  | (refine bn rfl ?_)
  | (refine aP ?_)
  | (go_at_call 41; first | (refine (dU _ _ hcl hg).mono ?_; clear hcl hg b4 b2 b1 hlt; rintro e W' ⟨rfl, a1, c1, n1, m1, hg, b4, b2, b1, hlt⟩) | (refine (dU (.func (.func 30) #[] #[]) _ (bQ _ _ _ _ _ _ _) hg).mono ?_; clear hg b4 b2 b1 hlt; rintro e W' ⟨rfl, a1, c1, n1, m1, hg, b4, b2, b1, hlt⟩))
  | (go_at_call 43; refine (lZ _ hg).mono ?_; clear hg b4 b2 b1 hlt; rintro e W' ⟨_, rfl, hcl, a1, c1, n1, m1, hg, b4, b2, b1, hlt⟩))
 all_goals
  go_ret
  refine aY hg HF (qE _ _ _) ?_
  simp_all
theorem zK (w : World) (ka : Option Addr) (kc nb no nc : Nat) (l : List Nd) (p num : Int) (ks : List Nat) (nm : ByteArray) (H : Bx (KSt w nb no nc l num (kW w ka kc nb no nc l.length 44 p num ks.length nm) (ks, false))) :
  bM w ka kc nb no nc l 44 p num ks nm := by
 obtain ⟨a, cap, n, m, hg, b4, b2, b1, hlt⟩ := H.out.post
 clear H
 unfold kW at *
 unfold bM
 generalize hF : aD (kdN l) _ num ks = F
 have HF : Bx _ := ⟨hF⟩
 clear hF
 go_enter Tryz.func26, Tryz.ntmps26
 go_upto_block 0 with fail
 refine wp_block ?_
 refine wp_mono ?_ bN
 repeat (refine wp_seq_k ?_; intro _ _; refine wp_block ?_; refine wp_mono ?_ dG)
 go_wp2_with (first
  | (refine bn rfl ?_)
  | (refine aP ?_)
  | (go_at_call 41; first | (refine (dU _ _ hcl hg).mono ?_; clear hcl hg b4 b2 b1 hlt; rintro e W' ⟨rfl, a1, c1, n1, m1, hg, b4, b2, b1, hlt⟩) | (refine (dU (.func (.func 30) #[] #[]) _ (bQ _ _ _ _ _ _ _) hg).mono ?_; clear hg b4 b2 b1 hlt; rintro e W' ⟨rfl, a1, c1, n1, m1, hg, b4, b2, b1, hlt⟩))
  | (go_at_call 43; refine (lZ _ hg).mono ?_; clear hg b4 b2 b1 hlt; rintro e W' ⟨_, rfl, hcl, a1, c1, n1, m1, hg, b4, b2, b1, hlt⟩))
 all_goals
  go_ret
  refine aY hg HF (jX _ _ _) ?_
  simp_all
theorem zL (w : World) (ka : Option Addr) (kc nb no nc : Nat) (l : List Nd) (p num : Int) (ks : List Nat) (nm : ByteArray) (H : Bx (KSt w nb no nc l num (kW w ka kc nb no nc l.length 45 p num ks.length nm) (ks, false))) :
  bM w ka kc nb no nc l 45 p num ks nm := by
 obtain ⟨a, cap, n, m, hg, b4, b2, b1, hlt⟩ := H.out.post
 clear H
 unfold kW at *
 unfold bM
 generalize hF : aD (kdN l) _ num ks = F
 have HF : Bx _ := ⟨hF⟩
 clear hF
 go_enter Tryz.func26, Tryz.ntmps26
 go_upto_block 0 with fail
 refine wp_block ?_
 refine wp_mono ?_ bN
 repeat (refine wp_seq_k ?_; intro _ _; refine wp_block ?_; refine wp_mono ?_ dG)
 go_wp2_with (first
  | (refine bn rfl ?_)
  | (refine aP ?_)
  | (go_at_call 41; first | (refine (dU (.func (.func 28) #[] #[]) _ (gZ _ _ _ _ _ _ _) hg).mono ?_; clear hg b4 b2 b1 hlt; rintro e W' ⟨rfl, a1, c1, n1, m1, hg, b4, b2, b1, hlt⟩)))
 all_goals
  go_ret
  refine aY hg HF (qF _ _ _) ?_
  simp_all
end Go.Proofs.YtecodpdfckjalaaGreatDoor
