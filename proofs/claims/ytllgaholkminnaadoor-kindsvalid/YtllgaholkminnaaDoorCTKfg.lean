import Derived.Test.YtllgaholkminnaaDoorCTKf
import Derived.Test.YtllgaholkminnaaDoorCTSw
import Derived.Test.YtllgaholkminnaaDoorCTRun
namespace Go.Proofs.YtllgaholkminnaaDoor
open Go.RowKit
set_option linter.unusedVariables false
set_option linter.unusedSimpArgs false

set_option maxHeartbeats 1000000 in
set_option maxRecDepth 100000 in
theorem kidsFit_46 (w : World) (ka : Option Addr) (kc nb no nc : Nat) (l : List Nd) (p : Int) (num : Nat) (hnum : num ≤ maxLen) (ks : List Nat) (nm : ByteArray) (H : Bx (KSt w nb no nc l num (kW w ka kc nb no nc l.length 46 p num ks.length nm) (ks, false))) :
    KFit w ka kc nb no nc l 46 p num ks nm := by
  unfold maxLen at hnum
  obtain ⟨a, cap, n, m, hg, b4, b2, b1, hlt⟩ := H.out.post
  have HP : Bx _ := ⟨H.out.post⟩
  clear H
  unfold kW at *
  unfold KFit
  generalize hF : kidsFitI (kdN l) _ (num : Int) ks = F
  have HF : Bx _ := ⟨hF⟩
  clear hF
  go_enter Tryd.func38, Tryd.ntmps38
  go_upto_block 0 with fail
  refine wp_block ?_
  refine wp_mono ?_ sw_in0
  repeat (refine wp_seq_k ?_; intro _ _; refine wp_block ?_; refine wp_mono ?_ sw_in)
  go_wp2_with (first
    | (refine sw_exit rfl ?_)
    | (refine sw_normal ?_))
  clear hg b4 b2 b1 hlt
  go_loopw [93] (fun i wr => ∃ j : Nat, j ≤ num ∧ i = .int .i64 j ∧ KPost w nb no nc l num (cIter (justI 45 ∘ kdN l) j (ks, false)) wr) (fun i _ => num - (intOf i).toNat)
  case atStart => exact ⟨0, Nat.zero_le _, rfl, HP.out⟩
  case round =>
    obtain ⟨j, hj, rfl, a1, c1, n1, m1, hg, b4, b2, b1, hlt⟩ := hrel
    by_cases hjn : j < num
    · go_wp2_with (first
        | (refine sw_exit rfl ?_)
        | (refine sw_normal ?_)
        | (go_at_call 49; refine (k_one _ _ hcl hg).mono ?_; clear hcl hg b4 b2 b1 hlt; rintro e W' ⟨rfl, hp⟩)
        | (go_at_call 51; refine (k_just _ hg).mono ?_; clear hg b4 b2 b1 hlt; rintro e W' ⟨_, rfl, hcl, a1, c1, n1, m1, hg, b4, b2, b1, hlt⟩))
      go_roundw
      case rel => exact ⟨j + 1, by omega, by go_num, by rw [cIter_succ]; exact hp⟩
      case measure => simp [intOf]; omega
    · have hjn : j = num := by omega
      subst hjn
      go_wp2_with (first
        | (refine sw_exit rfl ?_)
        | (refine sw_normal ?_)
        | (go_at_call 50; first | (refine (k_many (.func (.func 46) #[] #[]) _ (cls_stat _ _ _ _ _ _ _) hg).mono ?_; clear hg b4 b2 b1 hlt; rintro e W' ⟨rfl, a1, c1, n1, m1, hg, b4, b2, b1, hlt⟩)))
      all_goals
        go_ret
        refine kfit_end hg HF (kidsRun_46 _ _ _) ?_
        simp_all
end Go.Proofs.YtllgaholkminnaaDoor
