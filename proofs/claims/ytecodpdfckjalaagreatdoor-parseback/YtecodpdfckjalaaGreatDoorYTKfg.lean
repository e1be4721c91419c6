import Derived.Test.YtecodpdfckjalaaGreatDoorYTCurA
import Derived.Test.YtecodpdfckjalaaGreatDoorYTKfa
import Derived.Test.YtecodpdfckjalaaGreatDoorYTKfb
import Derived.Test.YtecodpdfckjalaaGreatDoorYTKfc
import Derived.Test.YtecodpdfckjalaaGreatDoorYTKfd
import Derived.Test.YtecodpdfckjalaaGreatDoorYTKfe
import Derived.Test.YtecodpdfckjalaaGreatDoorYTKff
set_option linter.unusedVariables false
set_option linter.unusedSimpArgs false
set_option maxHeartbeats 4000000
set_option maxRecDepth 100000
namespace Go.Proofs.YtecodpdfckjalaaGreatDoor
open Go.RowKit
theorem zV (w : World) (ka : Option Addr) (kc nb no nc : Nat) (l : List Nd) (p : Int) (num : Nat) (hnum : num <= maxLen) (ks : List Nat) (nm : ByteArray) (H : Bx (KSt w nb no nc l num (kW w ka kc nb no nc l.length 46 p num ks.length nm) (ks, false))) :
  bS w ka kc nb no nc l 46 p num ks nm := by
 unfold maxLen at hnum
 obtain ⟨a, cap, n, m, hg, b4, b2, b1, hlt⟩ := H.out.post
 have HP : Bx _ := ⟨H.out.post⟩
 clear H
 unfold kW at *
 unfold bS
 generalize hF : aA (kdN l) _ (num : Int) ks = F
 have HF : Bx _ := ⟨hF⟩
 clear hF
 go_enter Tryz.func26, Tryz.ntmps26
 go_upto_block 0 with fail
 refine wp_block ?_
 refine wp_mono ?_ bU
 repeat (refine wp_seq_k ?_; intro _ _; refine wp_block ?_; refine wp_mono ?_ dI)
 go_wp2_with (first
  | (refine bu rfl ?_)
  | (refine aS ?_))
 clear hg b4 b2 b1 hlt
 go_loopw [93] (fun i wr => ∃ j : Nat, j <= num /\ i = .int .i64 j /\ ul w nb no nc l num (kC (dN 45 ∘ kdN l) j (ks, false)) wr) (fun i _ => num - (intOf i).toNat)
 case atStart => exact ⟨0, Nat.zero_le _, rfl, HP.out⟩
 case round =>
  obtain ⟨j, hj, rfl, a1, c1, n1, m1, hg, b4, b2, b1, hlt⟩ := hrel
  by_cases hjn : j < num
  ·go_wp2_with (first
    | (refine bu rfl ?_)
    | (refine aS ?_)
    | (go_at_call 41; refine (eu _ _ hcl hg).mono ?_; clear hcl hg b4 b2 b1 hlt; rintro e W' ⟨rfl, hp⟩)
    | (go_at_call 43; refine (mE _ hg).mono ?_; clear hg b4 b2 b1 hlt; rintro e W' ⟨_, rfl, hcl, a1, c1, n1, m1, hg, b4, b2, b1, hlt⟩))
   go_roundw
   case rel => exact ⟨j + 1, by omega, by go_num, by rw [qc]; exact hp⟩
   case measure => simp [intOf]; omega
  ·have hjn : j = num := by omega
   subst hjn
   go_wp2_with (first
    | (refine bu rfl ?_)
    | (refine aS ?_)
    | (go_at_call 42; first | (refine (jW (.func (.func 32) #[] #[]) _ (xk _ _ _ _ _ _ _) hg).mono ?_; clear hg b4 b2 b1 hlt; rintro e W' ⟨rfl, a1, c1, n1, m1, hg, b4, b2, b1, hlt⟩)))
   all_goals
    go_ret
    refine aZ hg HF (qP _ _ _) ?_
    simp_all
theorem j5 (k : Int) (h : gP k = true) : k = 1 ∨ k = 2 ∨ k = 3 ∨ k = 4 ∨ k = 5 ∨ k = 6 ∨ k = 7 ∨ k = 11 ∨ k = 12 ∨ k = 13 ∨ k = 14 ∨ k = 15 ∨ k = 16 ∨ k = 17 ∨ k = 18 ∨ k = 19 ∨ k = 20 ∨ k = 21 ∨ k = 22 ∨ k = 23 ∨ k = 24 ∨ k = 25 ∨ k = 31 ∨ k = 32 ∨ k = 33 ∨ k = 34 ∨ k = 35 ∨ k = 36 ∨ k = 37 ∨ k = 38 ∨ k = 39 ∨ k = 40 ∨ k = 41 ∨ k = 42 ∨ k = 43 ∨ k = 44 ∨ k = 45 ∨ k = 46 := by
 unfold gP fF bq gL at h
 simp at h
 omega
theorem xm (w : World) (ka : Option Addr) (kc nb no nc : Nat) (l : List Nd) (k p num : Int) (ks : List Nat) (nm : ByteArray) (hk : gP k = true) (h46 : k = 46 -> ∃ m : Nat, num = (m : Int) /\ m <= maxLen)
  (H : KSt w nb no nc l num (kW w ka kc nb no nc l.length k p num ks.length nm) (ks, false)) : bS w ka kc nb no nc l k p num ks nm := by
 rcases j5 k hk with rfl | rfl | rfl | rfl | rfl | rfl | rfl | rfl | rfl | rfl | rfl | rfl | rfl | rfl | rfl | rfl | rfl | rfl | rfl | rfl | rfl | rfl | rfl | rfl | rfl | rfl | rfl | rfl | rfl | rfl | rfl | rfl | rfl | rfl | rfl | rfl | rfl | rfl
 ·exact CJ w ka kc nb no nc l p num ks nm ⟨H⟩
 ·exact CK w ka kc nb no nc l p num ks nm ⟨H⟩
 ·exact CL w ka kc nb no nc l p num ks nm ⟨H⟩
 ·exact CO w ka kc nb no nc l p num ks nm ⟨H⟩
 ·exact CP w ka kc nb no nc l p num ks nm ⟨H⟩
 ·exact CQ w ka kc nb no nc l p num ks nm ⟨H⟩
 ·exact CR w ka kc nb no nc l p num ks nm ⟨H⟩
 ·exact zl w ka kc nb no nc l p num ks nm ⟨H⟩
 ·exact zm w ka kc nb no nc l p num ks nm ⟨H⟩
 ·exact zn w ka kc nb no nc l p num ks nm ⟨H⟩
 ·exact zo w ka kc nb no nc l p num ks nm ⟨H⟩
 ·exact zq w ka kc nb no nc l p num ks nm ⟨H⟩
 ·exact zt w ka kc nb no nc l p num ks nm ⟨H⟩
 ·exact zu w ka kc nb no nc l p num ks nm ⟨H⟩
 ·exact zw w ka kc nb no nc l p num ks nm ⟨H⟩
 ·exact zy w ka kc nb no nc l p num ks nm ⟨H⟩
 ·exact zz w ka kc nb no nc l p num ks nm ⟨H⟩
 ·exact zA w ka kc nb no nc l p num ks nm ⟨H⟩
 ·exact zB w ka kc nb no nc l p num ks nm ⟨H⟩
 ·exact zC w ka kc nb no nc l p num ks nm ⟨H⟩
 ·exact zD w ka kc nb no nc l p num ks nm ⟨H⟩
 ·exact zF w ka kc nb no nc l p num ks nm ⟨H⟩
 ·exact zG w ka kc nb no nc l p num ks nm ⟨H⟩
 ·exact zH w ka kc nb no nc l p num ks nm ⟨H⟩
 ·exact zI w ka kc nb no nc l p num ks nm ⟨H⟩
 ·exact zJ w ka kc nb no nc l p num ks nm ⟨H⟩
 ·exact zK w ka kc nb no nc l p num ks nm ⟨H⟩
 ·exact zL w ka kc nb no nc l p num ks nm ⟨H⟩
 ·exact zM w ka kc nb no nc l p num ks nm ⟨H⟩
 ·exact zN w ka kc nb no nc l p num ks nm ⟨H⟩
 ·exact zO w ka kc nb no nc l p num ks nm ⟨H⟩
 ·exact zP w ka kc nb no nc l p num ks nm ⟨H⟩
 ·exact zQ w ka kc nb no nc l p num ks nm ⟨H⟩
 ·exact zR w ka kc nb no nc l p num ks nm ⟨H⟩
 ·exact zS w ka kc nb no nc l p num ks nm ⟨H⟩
 ·exact zT w ka kc nb no nc l p num ks nm ⟨H⟩
 ·exact zU w ka kc nb no nc l p num ks nm ⟨H⟩
 ·obtain ⟨m, rfl, hm⟩ := h46 rfl
  exact zV w ka kc nb no nc l p m hm ks nm ⟨H⟩
def qQ (w : World) (fb : Nat) (fs : List Nat) : Prop := ∀ j, j < fs.length -> w.cell? ⟨fb, j, none⟩ = some (.int .i64 (fs.getD j 0 : Nat))
theorem Eu {kids : List Int} {m : Nat} (h : m < kids.length) : (kids.take (m + 1)).reverse = kids[m] :: (kids.take m).reverse := by
 rw [List.take_succ_eq_append_getElem h]
 simp
theorem jy (kids : List Int) (fs : List Nat) (ka : Option Addr) (kc fb N fc B : Nat) (w : World) (hk : aO w B (.slice ka kids.length kc) kids) (hf : qQ w fb fs) (hle : ∀ j, j < fs.length -> fs.getD j 0 <= j) (hN : fs.length <= N) (hNm : N <= maxLen) :
  Calls Tryz.prog 25 #[.slice ka kids.length kc, .slice (some ⟨fb, 0, none⟩) N fc, .int .i64 fs.length] w fun e w' => e = .returned (.bool (fV fs fs.length kids)) /\ w = w' := by
 obtain ⟨a, cap, he, h1, h2, h3⟩ := hk.ex
 simp only [Value.slice.injEq, true_and] at he
 obtain ⟨rfl, rfl⟩ := he
 clear hk
 unfold maxLen at *
 generalize hF : fV fs fs.length kids = F
 have HF : Bx _ := ⟨hF⟩
 clear hF
 go_enter Tryz.func25, Tryz.ntmps25
 go_wp2
 go_loop [7, 8] (fun x i => ∃ m nx : Nat, m <= kids.length /\ nx <= fs.length /\ x = .int .i64 nx /\ i = .int .i64 ((m : Int) - 1) /\ Bx (fM fs nx (kids.take m).reverse = F)) (fun _ i => ((intOf i) + 1).toNat)
 case atStart => exact ⟨kids.length, fs.length, Nat.le_refl _, Nat.le_refl _, rfl, by go_num, ⟨by rw [← HF.out]; unfold fV; simp⟩⟩
 case round =>
  obtain ⟨m, nx, hm, hnx, rfl, rfl, HO⟩ := hrel
  match m, hm, HO with
  | 0, hm, HO =>
   go_wp2
   go_ret
   exact ⟨ek (by rw [← HO.out]; rfl), rfl⟩
  | m + 1, hm, HO =>
   obtain ⟨b, o, rfl, hbB, hcell⟩ := h3 (by omega)
   have hc := hcell m (by omega)
   have HO' : Bx (fM fs nx (kids[m] :: (kids.take m).reverse) = F) := ⟨by rw [← Eu (by omega)]; exact HO.out⟩
   have hm1 : ((m + 1 : Nat) : Int) - 1 = (m : Int) := by omega
   rw [hm1]
   generalize hx : kids[m] = x at *
   clear HO hcell h3 hm1 hx
   by_cases e1 : x = (nx : Int) - 1
   ·subst e1
    by_cases e2 : nx = 0
    ·subst e2
     go_wp2
     go_ret
     exact ⟨ek (by rw [← HO'.out]; rfl), rfl⟩
    ·obtain ⟨y, rfl⟩ : ∃ y, nx = y + 1 := ⟨nx - 1, by omega⟩
     have hy : ((y + 1 : Nat) : Int) - 1 = (y : Int) := by omega
     rw [hy] at hc HO'
     have hcf := hf y (by omega)
     have hly := hle y (by omega)
     have HO2 : Bx (fM fs (fs.getD y 0) (kids.take m).reverse = F) := ⟨by rw [← HO'.out, fM]; rw [if_pos ⟨by omega, by omega⟩]; simp⟩
     clear HO' hf hle
     generalize fs.getD y 0 = z at *
     go_wp2
     go_round
     case rel => exact ⟨m, z, by omega, by omega, rfl, by go_num, HO2⟩
     case measure => simp [intOf]
   ·have e3 : (x != (nx : Int) - 1) = true := by rw [bne_iff_ne]; exact e1
    have HO2 : Bx (false = F) := ⟨by rw [← HO'.out, fM]; rw [if_neg (fun h => e1 h.1)]⟩
    clear HO' hf hle
    go_wp2
    go_ret
    exact ⟨ek HO2.out, rfl⟩
end Go.Proofs.YtecodpdfckjalaaGreatDoor
