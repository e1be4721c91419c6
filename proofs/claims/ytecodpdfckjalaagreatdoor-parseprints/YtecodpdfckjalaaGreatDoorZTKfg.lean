import Derived.Test.YtecodpdfckjalaaGreatDoorZTCurA
import Derived.Test.YtecodpdfckjalaaGreatDoorZTKfa
import Derived.Test.YtecodpdfckjalaaGreatDoorZTKfb
import Derived.Test.YtecodpdfckjalaaGreatDoorZTKfc
import Derived.Test.YtecodpdfckjalaaGreatDoorZTKfd
import Derived.Test.YtecodpdfckjalaaGreatDoorZTKfe
import Derived.Test.YtecodpdfckjalaaGreatDoorZTKff
import Derived.Test.YtecodpdfckjalaaGreatDoorZScan
set_option linter.unusedVariables false
set_option linter.unusedSimpArgs false
set_option maxHeartbeats 4000000
set_option maxRecDepth 100000
namespace Go.Proofs.YtecodpdfckjalaaGreatDoor
open Go.RowKit
theorem zM (w : World) (ka : Option Addr) (kc nb no nc : Nat) (l : List Nd) (p : Int) (num : Nat) (hnum : num <= maxLen) (ks : List Nat) (nm : ByteArray) (H : Bx (KSt w nb no nc l num (kW w ka kc nb no nc l.length 46 p num ks.length nm) (ks, false))) :
  bM w ka kc nb no nc l 46 p num ks nm := by
 unfold maxLen at hnum
 obtain ⟨a, cap, n, m, hg, b4, b2, b1, hlt⟩ := H.out.post
 have HP : Bx _ := ⟨H.out.post⟩
 clear H
 unfold kW at *
 unfold bM
 generalize hF : aD (kdN l) _ (num : Int) ks = F
 have HF : Bx _ := ⟨hF⟩
 clear hF
 go_enter Tryz.func26, Tryz.ntmps26
 go_upto_block 0 with fail
 refine wp_block ?_
 refine wp_mono ?_ bN
 repeat (refine wp_seq_k ?_; intro _ _; refine wp_block ?_; refine wp_mono ?_ dG)
 go_wp2_with (first
  | (refine bn rfl ?_)
  | (refine aP ?_))
 clear hg b4 b2 b1 hlt
 go_loopw [93] (fun i wr => ∃ j : Nat, j <= num /\ i = .int .i64 j /\ sK w nb no nc l num (jv (cu 45 ∘ kdN l) j (ks, false)) wr) (fun i _ => num - (intOf i).toNat)
 case atStart => exact ⟨0, Nat.zero_le _, rfl, HP.out⟩
 case round =>
  obtain ⟨j, hj, rfl, a1, c1, n1, m1, hg, b4, b2, b1, hlt⟩ := hrel
  by_cases hjn : j < num
  ·go_wp2_with (first
    | (refine bn rfl ?_)
    | (refine aP ?_)
    | (go_at_call 41; refine (dU _ _ hcl hg).mono ?_; clear hcl hg b4 b2 b1 hlt; rintro e W' ⟨rfl, hp⟩)
    | (go_at_call 43; refine (lZ _ hg).mono ?_; clear hg b4 b2 b1 hlt; rintro e W' ⟨_, rfl, hcl, a1, c1, n1, m1, hg, b4, b2, b1, hlt⟩))
   go_roundw
   case rel => exact ⟨j + 1, by omega, by go_num, by rw [pM]; exact hp⟩
   case measure => simp [intOf]; omega
  ·have hjn : j = num := by omega
   subst hjn
   go_wp2_with (first
    | (refine bn rfl ?_)
    | (refine aP ?_)
    | (go_at_call 42; first | (refine (jR (.func (.func 32) #[] #[]) _ (vT _ _ _ _ _ _ _) hg).mono ?_; clear hg b4 b2 b1 hlt; rintro e W' ⟨rfl, a1, c1, n1, m1, hg, b4, b2, b1, hlt⟩)))
   all_goals
    go_ret
    refine aY hg HF (qG _ _ _) ?_
    simp_all
theorem mg (k : Int) (h : fZ k = true) : k = 1 ∨ k = 2 ∨ k = 3 ∨ k = 4 ∨ k = 5 ∨ k = 6 ∨ k = 7 ∨ k = 11 ∨ k = 12 ∨ k = 13 ∨ k = 14 ∨ k = 15 ∨ k = 16 ∨ k = 17 ∨ k = 18 ∨ k = 19 ∨ k = 20 ∨ k = 21 ∨ k = 22 ∨ k = 23 ∨ k = 24 ∨ k = 25 ∨ k = 31 ∨ k = 32 ∨ k = 33 ∨ k = 34 ∨ k = 35 ∨ k = 36 ∨ k = 37 ∨ k = 38 ∨ k = 39 ∨ k = 40 ∨ k = 41 ∨ k = 42 ∨ k = 43 ∨ k = 44 ∨ k = 45 ∨ k = 46 := by
 unfold fZ dZ aL gM at h
 simp at h
 omega
theorem vU (w : World) (ka : Option Addr) (kc nb no nc : Nat) (l : List Nd) (k p num : Int) (ks : List Nat) (nm : ByteArray) (hk : fZ k = true) (h46 : k = 46 -> ∃ m : Nat, num = (m : Int) /\ m <= maxLen)
  (H : KSt w nb no nc l num (kW w ka kc nb no nc l.length k p num ks.length nm) (ks, false)) : bM w ka kc nb no nc l k p num ks nm := by
 rcases mg k hk with rfl | rfl | rfl | rfl | rfl | rfl | rfl | rfl | rfl | rfl | rfl | rfl | rfl | rfl | rfl | rfl | rfl | rfl | rfl | rfl | rfl | rfl | rfl | rfl | rfl | rfl | rfl | rfl | rfl | rfl | rfl | rfl | rfl | rfl | rfl | rfl | rfl | rfl
 ·exact Cj w ka kc nb no nc l p num ks nm ⟨H⟩
 ·exact Ck w ka kc nb no nc l p num ks nm ⟨H⟩
 ·exact Cm w ka kc nb no nc l p num ks nm ⟨H⟩
 ·exact Cn w ka kc nb no nc l p num ks nm ⟨H⟩
 ·exact Co w ka kc nb no nc l p num ks nm ⟨H⟩
 ·exact Cq w ka kc nb no nc l p num ks nm ⟨H⟩
 ·exact Cr w ka kc nb no nc l p num ks nm ⟨H⟩
 ·exact y9 w ka kc nb no nc l p num ks nm ⟨H⟩
 ·exact za w ka kc nb no nc l p num ks nm ⟨H⟩
 ·exact zb w ka kc nb no nc l p num ks nm ⟨H⟩
 ·exact ze w ka kc nb no nc l p num ks nm ⟨H⟩
 ·exact zf w ka kc nb no nc l p num ks nm ⟨H⟩
 ·exact zg w ka kc nb no nc l p num ks nm ⟨H⟩
 ·exact zh w ka kc nb no nc l p num ks nm ⟨H⟩
 ·exact zi w ka kc nb no nc l p num ks nm ⟨H⟩
 ·exact zk w ka kc nb no nc l p num ks nm ⟨H⟩
 ·exact zl w ka kc nb no nc l p num ks nm ⟨H⟩
 ·exact zm w ka kc nb no nc l p num ks nm ⟨H⟩
 ·exact zn w ka kc nb no nc l p num ks nm ⟨H⟩
 ·exact zo w ka kc nb no nc l p num ks nm ⟨H⟩
 ·exact zq w ka kc nb no nc l p num ks nm ⟨H⟩
 ·exact zt w ka kc nb no nc l p num ks nm ⟨H⟩
 ·exact zu w ka kc nb no nc l p num ks nm ⟨H⟩
 ·exact zw w ka kc nb no nc l p num ks nm ⟨H⟩
 ·exact zy w ka kc nb no nc l p num ks nm ⟨H⟩
 ·exact zz w ka kc nb no nc l p num ks nm ⟨H⟩
 ·exact zA w ka kc nb no nc l p num ks nm ⟨H⟩
 ·exact zB w ka kc nb no nc l p num ks nm ⟨H⟩
 ·exact zC w ka kc nb no nc l p num ks nm ⟨H⟩
 ·exact zD w ka kc nb no nc l p num ks nm ⟨H⟩
 ·exact zF w ka kc nb no nc l p num ks nm ⟨H⟩
 ·exact zG w ka kc nb no nc l p num ks nm ⟨H⟩
 ·exact zH w ka kc nb no nc l p num ks nm ⟨H⟩
 ·exact zI w ka kc nb no nc l p num ks nm ⟨H⟩
 ·exact zJ w ka kc nb no nc l p num ks nm ⟨H⟩
 ·exact zK w ka kc nb no nc l p num ks nm ⟨H⟩
 ·exact zL w ka kc nb no nc l p num ks nm ⟨H⟩
 ·obtain ⟨m, rfl, hm⟩ := h46 rfl
  exact zM w ka kc nb no nc l p m hm ks nm ⟨H⟩
def qH (w : World) (fb : Nat) (fs : List Nat) : Prop := ∀ j, j < fs.length -> w.cell? ⟨fb, j, none⟩ = some (.int .i64 (fs.getD j 0 : Nat))
theorem Eh {kids : List Int} {m : Nat} (h : m < kids.length) : (kids.take (m + 1)).reverse = kids[m] :: (kids.take m).reverse := by
 rw [List.take_succ_eq_append_getElem h]
 simp
theorem jw (kids : List Int) (fs : List Nat) (ka : Option Addr) (kc fb N fc B : Nat) (w : World) (hk : aQ w B (.slice ka kids.length kc) kids) (hf : qH w fb fs) (hle : ∀ j, j < fs.length -> fs.getD j 0 <= j) (hN : fs.length <= N) (hNm : N <= maxLen) :
  Calls Tryz.prog 25 #[.slice ka kids.length kc, .slice (some ⟨fb, 0, none⟩) N fc, .int .i64 fs.length] w fun e w' => e = .returned (.bool (eZ fs fs.length kids)) /\ w = w' := by
 obtain ⟨a, cap, he, h1, h2, h3⟩ := hk.ex
 simp only [Value.slice.injEq, true_and] at he
 obtain ⟨rfl, rfl⟩ := he
 clear hk
 unfold maxLen at *
 generalize hF : eZ fs fs.length kids = F
 have HF : Bx _ := ⟨hF⟩
 clear hF
 go_enter Tryz.func25, Tryz.ntmps25
 go_wp2
 go_loop [7, 8] (fun x i => ∃ m nx : Nat, m <= kids.length /\ nx <= fs.length /\ x = .int .i64 nx /\ i = .int .i64 ((m : Int) - 1) /\ Bx (dx fs nx (kids.take m).reverse = F)) (fun _ i => ((intOf i) + 1).toNat)
 case atStart => exact ⟨kids.length, fs.length, Nat.le_refl _, Nat.le_refl _, rfl, by go_num, ⟨by rw [← HF.out]; unfold eZ; simp⟩⟩
 case round =>
  obtain ⟨m, nx, hm, hnx, rfl, rfl, HO⟩ := hrel
  match m, hm, HO with
  | 0, hm, HO =>
   go_wp2
   go_ret
   exact ⟨dS (by rw [← HO.out]; rfl), rfl⟩
  | m + 1, hm, HO =>
   obtain ⟨b, o, rfl, hbB, hcell⟩ := h3 (by omega)
   have hc := hcell m (by omega)
   have HO' : Bx (dx fs nx (kids[m] :: (kids.take m).reverse) = F) := ⟨by rw [← Eh (by omega)]; exact HO.out⟩
   have hm1 : ((m + 1 : Nat) : Int) - 1 = (m : Int) := by omega
   rw [hm1]
   generalize hx : kids[m] = x at *
   clear HO hcell h3 hm1 hx
   by_cases e1 : x = (nx : Int) - 1
   ·subst e1
    by_cases e2 : nx = 0
    ·subst e2
     go_wp2
     go_ret
     exact ⟨dS (by rw [← HO'.out]; rfl), rfl⟩
    ·obtain ⟨y, rfl⟩ : ∃ y, nx = y + 1 := ⟨nx - 1, by omega⟩
     have hy : ((y + 1 : Nat) : Int) - 1 = (y : Int) := by omega
     rw [hy] at hc HO'
     have hcf := hf y (by omega)
     have hly := hle y (by omega)
     have HO2 : Bx (dx fs (fs.getD y 0) (kids.take m).reverse = F) := ⟨by rw [← HO'.out, dx]; rw [if_pos ⟨by omega, by omega⟩]; simp⟩
     clear HO' hf hle
     generalize fs.getD y 0 = z at *
     go_wp2
     go_round
     case rel => exact ⟨m, z, by omega, by omega, rfl, by go_num, HO2⟩
     case measure => simp [intOf]
   ·have e3 : (x != (nx : Int) - 1) = true := by rw [bne_iff_ne]; exact e1
    have HO2 : Bx (false = F) := ⟨by rw [← HO'.out, dx]; rw [if_neg (fun h => e1 h.1)]⟩
    clear HO' hf hle
    go_wp2
    go_ret
    exact ⟨dS HO2.out, rfl⟩
structure iG (w : World) (a : Option Addr) (cap : Nat) (xs : List UInt8) : Prop where
 at_ : 0 < xs.length -> ∃ b o, a = some ⟨b, o, none⟩ /\ b < w.heap.size /\ Src w b o xs
 cap_ : xs.length <= cap
 max_ : xs.length <= maxLen
theorem iG.below {w w' : World} {a : Option Addr} {cap : Nat} {xs : List UInt8} (h : iG w a cap xs) (hb : Below w.heap.size w w') : iG w' a cap xs := by
 refine ⟨fun h0 => ?_, h.cap_, h.max_⟩
 obtain ⟨b, o, h1, h2, h3⟩ := h.at_ h0
 exact ⟨b, o, h1, by have := hb.size; omega, h3.below h2 hb⟩
theorem Cs (a : Option Addr) (n cap : Nat) (w : World) (hn : 65536 < n) (hm : n <= maxLen) :
  Calls Tryz.prog 19 #[.slice a n cap] w fun e w' => e = .returned (.tuple #[.slice none 0 0, .agg #[.int .i64 65536, .int .i64 10]]) /\ Below w.heap.size w w' := by
 unfold maxLen at hm
 have h1 : (65536 : Int) < (n : Int) := by omega
 go_enter Tryz.func19, Tryz.ntmps19
 go_wp2
 refine bodyPost_ret (v := .tuple #[.slice none 0 0, .agg #[.int .i64 65536, .int .i64 10]]) (by simp [results, Tryz.results19, go_sem]) rfl ⟨rfl, ?_⟩
 exact (Below.refl _ _).alloc (Nat.le_refl _) _
theorem Ct (a : Option Addr) (cap : Nat) (w : World) :
  Calls Tryz.prog 19 #[.slice a 0 cap] w fun e w' => e = .returned (.tuple #[.slice none 0 0, .agg #[.int .i64 0, .int .i64 0]]) /\ Below w.heap.size w w' := by
 go_enter Tryz.func19, Tryz.ntmps19
 go_wp2_with (first | (go_at_call 35; refine (skip_none _ _ _).mono ?_; rintro e w' ⟨rfl, rfl⟩))
 go_loopw [4, 5] (fun v i wr => v = .slice none 0 0 /\ i = .int .i64 0 /\ wr = w.alloc (.cells #[.int .i64 0, .int .i64 0] 30)) (fun _ _ _ => 0)
 case atStart => exact ⟨rfl, rfl, rfl⟩
 case round =>
  obtain ⟨rfl, rfl, rfl⟩ := hrel
  go_wp2
  refine bodyPost_ret (v := .tuple #[.slice none 0 0, .agg #[.int .i64 0, .int .i64 0]]) (by simp [results, Tryz.results19, go_sem]) rfl ⟨rfl, ?_⟩
  exact (Below.refl _ _).alloc (Nat.le_refl _) _
theorem jH (a : Option Addr) (cap : Nat) (xs : List UInt8) (w : World) (hs : iG w a cap xs) (hL : Laid w) :
  Calls Tryz.prog 19 #[.slice a xs.length cap] w fun e w' => ∃ v, e = .returned (.tuple #[v, .agg #[.int .i64 (aA xs).2.1, .int .i64 (aA xs).2.2]]) /\ w'.ownsRow w.heap.size 62 4 v (aA xs).1.length (dF (aA xs).1) /\ Below w.heap.size w w' := by
 by_cases h1 : 65536 < xs.length
 ·have hA : aA xs = ([], 65536, 10) := by unfold aA; rw [if_pos h1]
  rw [hA]
  refine (Cs a xs.length cap w h1 hs.max_).mono ?_
  rintro e w' ⟨rfl, hb⟩
  exact ⟨.slice none 0 0, rfl, World.ownsRow_nil _ _ _ _, hb⟩
 ·by_cases h0 : 0 < xs.length
  ·obtain ⟨b, o, rfl, hb, hc⟩ := hs.at_ h0
   exact Ca b o cap xs w hc hb (by omega) hs.cap_ hL
  ·have hx : xs = [] := List.eq_nil_of_length_eq_zero (by omega)
   subst hx
   have hA : aA [] = ([], 0, 0) := rfl
   rw [hA]
   refine (Ct a cap w).mono ?_
   rintro e w' ⟨rfl, hb⟩
   exact ⟨.slice none 0 0, rfl, World.ownsRow_nil _ _ _ _, hb⟩
end Go.Proofs.YtecodpdfckjalaaGreatDoor
