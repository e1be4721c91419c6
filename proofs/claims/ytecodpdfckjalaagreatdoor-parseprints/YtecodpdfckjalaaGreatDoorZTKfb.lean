import Derived.Test.YtecodpdfckjalaaGreatDoorZTCurA
set_option linter.unusedVariables false
set_option linter.unusedSimpArgs false
set_option maxHeartbeats 4000000
set_option maxRecDepth 100000
namespace Go.Proofs.YtecodpdfckjalaaGreatDoor
open Go.RowKit
theorem y9 (w : World) (ka : Option Addr) (kc nb no nc : Nat) (l : List Nd) (p num : Int) (ks : List Nat) (nm : ByteArray) (H : Bx (KSt w nb no nc l num (kW w ka kc nb no nc l.length 11 p num ks.length nm) (ks, false))) :
  bM w ka kc nb no nc l 11 p num ks nm := by
 obtain ⟨a, cap, n, m, hg, b4, b2, b1, hlt⟩ := H.out.post
 clear H
 unfold kW at *
 unfold bM
 generalize hF : aD (kdN l) _ num ks = F
 have HF : Bx _ := ⟨hF⟩
 clear hF
 go_enter Tryz.func26, Tryz.ntmps26
 go_upto_block 0 with fail
 refine wp_block ?_
 refine wp_mono ?_ bN
 repeat (refine wp_seq_k ?_; intro _ _; refine wp_block ?_; refine wp_mono ?_ dG)
 go_wp2_with (first
  | (refine bn rfl ?_)
  | (refine aP ?_))
 all_goals
  go_ret
  refine aY hg HF (y5 _ _ _) ?_
  simp_all
theorem za (w : World) (ka : Option Addr) (kc nb no nc : Nat) (l : List Nd) (p num : Int) (ks : List Nat) (nm : ByteArray) (H : Bx (KSt w nb no nc l num (kW w ka kc nb no nc l.length 12 p num ks.length nm) (ks, false))) :
  bM w ka kc nb no nc l 12 p num ks nm := by
 obtain ⟨a, cap, n, m, hg, b4, b2, b1, hlt⟩ := H.out.post
 clear H
 unfold kW at *
 unfold bM
 generalize hF : aD (kdN l) _ num ks = F
 have HF : Bx _ := ⟨hF⟩
 clear hF
 go_enter Tryz.func26, Tryz.ntmps26
 go_upto_block 0 with fail
 refine wp_block ?_
 refine wp_mono ?_ bN
 repeat (refine wp_seq_k ?_; intro _ _; refine wp_block ?_; refine wp_mono ?_ dG)
 go_wp2_with (first
  | (refine bn rfl ?_)
  | (refine aP ?_))
 all_goals
  go_ret
  refine aY hg HF (y7 _ _ _) ?_
  simp_all
theorem zb (w : World) (ka : Option Addr) (kc nb no nc : Nat) (l : List Nd) (p num : Int) (ks : List Nat) (nm : ByteArray) (H : Bx (KSt w nb no nc l num (kW w ka kc nb no nc l.length 13 p num ks.length nm) (ks, false))) :
  bM w ka kc nb no nc l 13 p num ks nm := by
 obtain ⟨a, cap, n, m, hg, b4, b2, b1, hlt⟩ := H.out.post
 clear H
 unfold kW at *
 unfold bM
 generalize hF : aD (kdN l) _ num ks = F
 have HF : Bx _ := ⟨hF⟩
 clear hF
 go_enter Tryz.func26, Tryz.ntmps26
 go_upto_block 0 with fail
 refine wp_block ?_
 refine wp_mono ?_ bN
 repeat (refine wp_seq_k ?_; intro _ _; refine wp_block ?_; refine wp_mono ?_ dG)
 go_wp2_with (first
  | (refine bn rfl ?_)
  | (refine aP ?_))
 all_goals
  go_ret
  refine aY hg HF (y8 _ _ _) ?_
  simp_all
theorem ze (w : World) (ka : Option Addr) (kc nb no nc : Nat) (l : List Nd) (p num : Int) (ks : List Nat) (nm : ByteArray) (H : Bx (KSt w nb no nc l num (kW w ka kc nb no nc l.length 14 p num ks.length nm) (ks, false))) :
  bM w ka kc nb no nc l 14 p num ks nm := by
 obtain ⟨a, cap, n, m, hg, b4, b2, b1, hlt⟩ := H.out.post
 clear H
 unfold kW at *
 unfold bM
 generalize hF : aD (kdN l) _ num ks = F
 have HF : Bx _ := ⟨hF⟩
 clear hF
 go_enter Tryz.func26, Tryz.ntmps26
 go_upto_block 0 with fail
 refine wp_block ?_
 refine wp_mono ?_ bN
 repeat (refine wp_seq_k ?_; intro _ _; refine wp_block ?_; refine wp_mono ?_ dG)
 go_wp2_with (first
  | (refine bn rfl ?_)
  | (refine aP ?_)
  | (go_at_call 41; first | (refine (dU (.func (.func 30) #[] #[]) _ (bQ _ _ _ _ _ _ _) hg).mono ?_; clear hg b4 b2 b1 hlt; rintro e W' ⟨rfl, a1, c1, n1, m1, hg, b4, b2, b1, hlt⟩)))
 all_goals
  go_ret
  refine aY hg HF (qh _ _ _) ?_
  simp_all
theorem zf (w : World) (ka : Option Addr) (kc nb no nc : Nat) (l : List Nd) (p num : Int) (ks : List Nat) (nm : ByteArray) (H : Bx (KSt w nb no nc l num (kW w ka kc nb no nc l.length 15 p num ks.length nm) (ks, false))) :
  bM w ka kc nb no nc l 15 p num ks nm := by
 obtain ⟨a, cap, n, m, hg, b4, b2, b1, hlt⟩ := H.out.post
 clear H
 unfold kW at *
 unfold bM
 generalize hF : aD (kdN l) _ num ks = F
 have HF : Bx _ := ⟨hF⟩
 clear hF
 go_enter Tryz.func26, Tryz.ntmps26
 go_upto_block 0 with fail
 refine wp_block ?_
 refine wp_mono ?_ bN
 repeat (refine wp_seq_k ?_; intro _ _; refine wp_block ?_; refine wp_mono ?_ dG)
 go_wp2_with (first
  | (refine bn rfl ?_)
  | (refine aP ?_)
  | (go_at_call 41; first | (refine (dU (.func (.func 30) #[] #[]) _ (bQ _ _ _ _ _ _ _) hg).mono ?_; clear hg b4 b2 b1 hlt; rintro e W' ⟨rfl, a1, c1, n1, m1, hg, b4, b2, b1, hlt⟩))
  | (go_at_call 42; first | (refine (jR (.func (.func 30) #[] #[]) _ (bQ _ _ _ _ _ _ _) hg).mono ?_; clear hg b4 b2 b1 hlt; rintro e W' ⟨rfl, a1, c1, n1, m1, hg, b4, b2, b1, hlt⟩)))
 all_goals
  go_ret
  refine aY hg HF (qi _ _ _) ?_
  simp_all
theorem zg (w : World) (ka : Option Addr) (kc nb no nc : Nat) (l : List Nd) (p num : Int) (ks : List Nat) (nm : ByteArray) (H : Bx (KSt w nb no nc l num (kW w ka kc nb no nc l.length 16 p num ks.length nm) (ks, false))) :
  bM w ka kc nb no nc l 16 p num ks nm := by
 obtain ⟨a, cap, n, m, hg, b4, b2, b1, hlt⟩ := H.out.post
 clear H
 unfold kW at *
 unfold bM
 generalize hF : aD (kdN l) _ num ks = F
 have HF : Bx _ := ⟨hF⟩
 clear hF
 go_enter Tryz.func26, Tryz.ntmps26
 go_upto_block 0 with fail
 refine wp_block ?_
 refine wp_mono ?_ bN
 repeat (refine wp_seq_k ?_; intro _ _; refine wp_block ?_; refine wp_mono ?_ dG)
 go_wp2_with (first
  | (refine bn rfl ?_)
  | (refine aP ?_)
  | (go_at_call 41; first | (refine (dU (.func (.func 30) #[] #[]) _ (bQ _ _ _ _ _ _ _) hg).mono ?_; clear hg b4 b2 b1 hlt; rintro e W' ⟨rfl, a1, c1, n1, m1, hg, b4, b2, b1, hlt⟩))
  | (go_at_call 42; first | (refine (jR (.func (.func 30) #[] #[]) _ (bQ _ _ _ _ _ _ _) hg).mono ?_; clear hg b4 b2 b1 hlt; rintro e W' ⟨rfl, a1, c1, n1, m1, hg, b4, b2, b1, hlt⟩)))
 all_goals
  go_ret
  refine aY hg HF (qj _ _ _) ?_
  simp_all
theorem zh (w : World) (ka : Option Addr) (kc nb no nc : Nat) (l : List Nd) (p num : Int) (ks : List Nat) (nm : ByteArray) (H : Bx (KSt w nb no nc l num (kW w ka kc nb no nc l.length 17 p num ks.length nm) (ks, false))) :
  bM w ka kc nb no nc l 17 p num ks nm := by
 obtain ⟨a, cap, n, m, hg, b4, b2, b1, hlt⟩ := H.out.post
 clear H
 unfold kW at *
 unfold bM
 generalize hF : aD (kdN l) _ num ks = F
 have HF : Bx _ := ⟨hF⟩
 clear hF
 go_enter Tryz.func26, Tryz.ntmps26
 go_upto_block 0 with fail
 refine wp_block ?_
 refine wp_mono ?_ bN
 repeat (refine wp_seq_k ?_; intro _ _; refine wp_block ?_; refine wp_mono ?_ dG)
 go_wp2_with (first
  | (refine bn rfl ?_)
  | (refine aP ?_)
  | (go_at_call 41; first | (refine (dU (.func (.func 30) #[] #[]) _ (bQ _ _ _ _ _ _ _) hg).mono ?_; clear hg b4 b2 b1 hlt; rintro e W' ⟨rfl, a1, c1, n1, m1, hg, b4, b2, b1, hlt⟩)))
 all_goals
  go_ret
  refine aY hg HF (ql _ _ _) ?_
  simp_all
theorem zi (w : World) (ka : Option Addr) (kc nb no nc : Nat) (l : List Nd) (p num : Int) (ks : List Nat) (nm : ByteArray) (H : Bx (KSt w nb no nc l num (kW w ka kc nb no nc l.length 18 p num ks.length nm) (ks, false))) :
  bM w ka kc nb no nc l 18 p num ks nm := by
 obtain ⟨a, cap, n, m, hg, b4, b2, b1, hlt⟩ := H.out.post
 clear H
 unfold kW at *
 unfold bM
 generalize hF : aD (kdN l) _ num ks = F
 have HF : Bx _ := ⟨hF⟩
 clear hF
 go_enter Tryz.func26, Tryz.ntmps26
 go_upto_block 0 with fail
 refine wp_block ?_
 refine wp_mono ?_ bN
 repeat (refine wp_seq_k ?_; intro _ _; refine wp_block ?_; refine wp_mono ?_ dG)
 go_wp2_with (first
  | (refine bn rfl ?_)
  | (refine aP ?_)
  | (go_at_call 41; first | (refine (dU (.func (.func 30) #[] #[]) _ (bQ _ _ _ _ _ _ _) hg).mono ?_; clear hg b4 b2 b1 hlt; rintro e W' ⟨rfl, a1, c1, n1, m1, hg, b4, b2, b1, hlt⟩)))
 all_goals
  go_ret
  refine aY hg HF (qm _ _ _) ?_
  simp_all
end Go.Proofs.YtecodpdfckjalaaGreatDoor
