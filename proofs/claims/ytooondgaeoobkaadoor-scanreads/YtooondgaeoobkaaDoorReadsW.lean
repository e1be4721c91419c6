import Derived.Test.YtooondgaeoobkaaDoorReadsN
import Derived.Test.YtooondgaeoobkaaDoorShown
namespace Go.Proofs.YtooondgaeoobkaaDoor
open Go.RowKit
set_option linter.unusedVariables false
set_option linter.unusedSimpArgs false

set_option maxRecDepth 100000 in
set_option maxHeartbeats 4000000 in
theorem reads_walk (a1 a2 : Option Addr) (cap1 cap2 n m : Nat) (src oth : List UInt8) (w : World) (hs1 : IsSrc w a1 cap1 src) (hs2 : IsSrc w a2 cap2 oth) (hn : src.length = n) (hm : oth.length = m) (hL : Laid w) (hsz : n ≤ 140737488351232) (hmz : m ≤ 140737488351232)
    (t1 t2 t3 : List Tok) (f1 c1 f2 c2 f3 c3 : Nat) (HS1 : Box (scanAll src = (t1, f1, c1))) (HS2 : Box (scanAll oth = (t2, f2, c2))) (HS3 : Box (scanAll (src.map swB) = (t3, f3, c3))) (l1 : t1.length ≤ 65536) (l2 : t2.length ≤ 65536) (l3 : t3.length ≤ 65536) :
    Calls Tryd.prog 4 #[.slice a1 n cap1, .slice a2 m cap2] w fun e w' => e = .returned (.bool true) ∧ Below w.heap.size w w' := by
  obtain ⟨i5, hi5, hz50, hz51, hz52⟩ := info_parts info5
  have hsl4 := fun W g => slice_four W g n
  have hslh := fun W g => slice_h W g 0 (n + 4) (n + 4) n (by omega)
  have H1 : Box (IsSrc w a1 cap1 src) := ⟨hs1⟩
  have H2 : Box (IsSrc w a2 cap2 oth) := ⟨hs2⟩
  have HL : Box (Laid w) := ⟨hL⟩
  have T1 : Box True := ⟨trivial⟩
  have T2 : Box True := ⟨trivial⟩
  have T3 : Box True := ⟨trivial⟩
  have T4 : Box True := ⟨trivial⟩
  have T5 : Box True := ⟨trivial⟩
  have T6 : Box True := ⟨trivial⟩
  have T7 : Box True := ⟨trivial⟩
  have T8 : Box True := ⟨trivial⟩
  have HX : Box _ := ⟨str4 src⟩
  clear hs1 hs2 hL
  go_enter Tryd.func4, Tryd.ntmps4
  go_wp2_with (first
    | (go_at_call 8; refine Calls.mono (shown_any w HL.out) ?_; rintro e W1 ⟨rfl, hb1⟩)
    | (at_make; refine wpList_make_full _ rfl _ _ 26 rfl w.heap.size 5 i5 (.int .u8 0) 1 Tryd.underlying26 hi5 hz50 hz51 .i64 .i64 _ _ (n + 4) rfl rfl (by push_cast; rfl) (by push_cast; rfl) (by rw [hz52]; omega) (by unfold maxLen; omega) (by have := hb1.size; simp; omega) ?_; intro W3 ho3 hg3; obtain ⟨W4, W5, hcp4, hcp5, S0⟩ := copies (n := n) hb1 hn H1.out (by unfold maxLen; omega) hg3 (by have e : (Value.int IntKind.u8 0).cells = #[.int .u8 0] := rfl; rw [e] at ho3; simpa using ho3); clear ho3 hg3; have HS0 : Box _ := ⟨S0⟩; clear S0)
    | (go_at_call 13; clear T1; refine Calls.mono (scan13 _ _ _ src n t1 f1 c1 hn (own_src HS0.out hn) (HL.out.below HS0.out.old) HS1.out) ?_; rintro e W6 ⟨va, rfl, hva, hb6⟩; have LA := lies_of hva; have HSa : Box _ := ⟨((HS0.out.next hb6).add hva HS0.out.size).fault f1 c1⟩; have hz6 := hb6.size; have hz5 := HS0.out.size; clear hva hb6)
    | (go_at_call 13; clear T2; refine Calls.mono (scan13 _ _ _ oth m t2 f2 c2 hm (H2.out.below HSa.out.old) (HL.out.below HSa.out.old) HS2.out) ?_; rintro e W7 ⟨vb, rfl, hvb, hb7⟩; have LB := lies_of hvb; have HSb : Box _ := ⟨((HSa.out.next hb7).add hvb HSa.out.size).fault f2 c2⟩; have hz7 := hb7.size; clear hvb hb7)
    | (go_at_call 13; clear T3; refine Calls.mono (scan13 _ _ _ src n t1 f1 c1 hn (own_src HSb.out hn) (HL.out.below HSb.out.old) HS1.out) ?_; rintro e W8 ⟨vc, rfl, hvc, hb8⟩; have LC := lies_of hvc; have HSc : Box _ := ⟨((HSb.out.next hb8).add hvc HSb.out.size).fault f1 c1⟩; have hz8 := hb8.size; clear hvc hb8)
    | (go_at_call 14; clear T4; refine Calls.mono (scan14 _ _ _ src n t1 f1 c1 hn (H1.out.below HSc.out.old) HS1.out) ?_; rintro e W9 ⟨vd, rfl, hvd, hb9⟩; have HSd : Box _ := ⟨((HSc.out.next hb9).add hvd HSc.out.size).fault f1 c1⟩; have hz9 := hb9.size; clear hvd hb9)
    | (go_at_call 14; clear T5; refine Calls.mono (scan14 _ _ _ oth m t2 f2 c2 hm (H2.out.below HSd.out.old) HS2.out) ?_; rintro e W10 ⟨ve, rfl, hve, hb10⟩; have HSe : Box _ := ⟨((HSd.out.next hb10).add hve HSd.out.size).fault f2 c2⟩; have hz10 := hb10.size; clear hve hb10)
    | (go_at_call 15; clear T6; refine Calls.mono (keep_row HSe.out va vd t1 l1 (by simp) (by simp) (by simp)) ?_; rintro e W11 ⟨rfl, vo1, vw1, m1, S11, L1⟩; have HSf : Box _ := ⟨S11⟩; have hz11 := L1.2; have LM1 := L1.1; clear S11 L1)
    | (go_at_call 15; clear T7; refine Calls.mono (keep_row HSf.out vb ve t2 l2 (by simp) (by simp) (by simp)) ?_; rintro e W12 ⟨rfl, vo2, vw2, m2, S12, L2⟩; have HSg : Box _ := ⟨S12⟩; have hz12 := L2.2; have LM2 := L2.1; clear S12 L2)
    | (go_at_call 15; clear T8; refine Calls.mono (keep_row HSg.out vc vd t1 l1 (by simp) (by simp) (by simp)) ?_; rintro e W13 ⟨rfl, vo3, vw3, m3, S13, L3⟩; have HSh : Box _ := ⟨S13⟩; have hz13 := L3.2; have LM3 := L3.1; obtain ⟨q60, q61, q62, q63⟩ := fault_at (S13.rows (faultR W6.heap.size f1 c1) (by simp)); obtain ⟨q70, q71, q72, q73⟩ := fault_at (S13.rows (faultR W7.heap.size f2 c2) (by simp)); obtain ⟨q80, q81, q82, q83⟩ := fault_at (S13.rows (faultR W8.heap.size f1 c1) (by simp)); obtain ⟨q90, q91, q92, q93⟩ := fault_at (S13.rows (faultR W9.heap.size f1 c1) (by simp)); obtain ⟨qa0, qa1, qa2, qa3⟩ := fault_at (S13.rows (faultR W10.heap.size f2 c2) (by simp)); have hcv1 := conv_all W13 _ (n + 4) (src ++ x4) (n + 4) (by simp [x4, hn]) (own_all S13 hn); have hcv2 := conv_all W13 a1 cap1 src n hn (H1.out.below S13.old); clear S13 L3))
  rotate_left 1
  · exact absurd HX.out (by assumption)
  simp only [World.size_alloc] at LB LC LM1 hz7 hz8 hz9 hz10 hz11
  have S0 : Box (St w W13 W1.heap.size (W1.heap.size + 1) vo3 vw3 [⟨va, m1, t1.map tokQ⟩, ⟨vb, m2, t2.map tokQ⟩, ⟨vc, m3, t1.map tokQ⟩] (swTo src 0) [faultR W6.heap.size f1 c1, faultR W7.heap.size f2 c2]) :=
    ⟨by rw [swTo_zero]; exact HSh.out.sub (by simp)⟩
  have hsw := swTo_len src
  clear hcv1 hcv2 hcp4 hcp5 hsl4 q60 q61 q62 q63 q70 q71 q72 q73 q80 q81 q82 q83 q90 q91 q92 q93 qa0 qa1 qa2 qa3 HSh HX
  go_loopw [22] (fun i wr => ∃ k : Nat, k ≤ n ∧ i = .int .i64 k ∧ W13.heap.size ≤ wr.heap.size ∧ St w wr W1.heap.size (W1.heap.size + 1) vo3 vw3 [⟨va, m1, t1.map tokQ⟩, ⟨vb, m2, t2.map tokQ⟩, ⟨vc, m3, t1.map tokQ⟩] (swTo src k) [faultR W6.heap.size f1 c1, faultR W7.heap.size f2 c2]) (fun i _ => n - (intOf i).toNat)
  case atStart => exact ⟨0, Nat.zero_le _, rfl, Nat.le_refl _, S0.out⟩
  case round =>
    obtain ⟨k, hk, rfl, hzw, S⟩ := hrel
    by_cases hlt : k < n
    · have hl := swTo_len src k n hn hk
      have hks : k < src.length := by omega
      obtain ⟨qc, qf, qg⟩ := S.cell k (by omega)
      rw [swTo_at src k hks] at qc
      by_cases h32 : src[k] = 32
      · have e : swTo src (k + 1) = (swTo src k).set k 43 := by rw [← swTo_step src k hks, h32]; rfl
        have S' : Box _ := ⟨S.byte k (by omega) 43⟩
        rw [← e] at S'
        rw [h32] at qc
        have qc' : wr.cell? ⟨W1.heap.size + 1, k, none⟩ = some (.int .u8 32) := qc
        clear S qc e hl hsw S0
        go_wp2
        go_roundw
        case rel => exact ⟨k + 1, by omega, by go_num, by simpa using hzw, S'.out⟩
        case measure => simp [intOf]; omega
      · by_cases h43 : src[k] = 43
        · have e : swTo src (k + 1) = (swTo src k).set k 32 := by rw [← swTo_step src k hks, h43]; rfl
          have S' : Box _ := ⟨S.byte k (by omega) 32⟩
          rw [← e] at S'
          rw [h43] at qc
          have qc' : wr.cell? ⟨W1.heap.size + 1, k, none⟩ = some (.int .u8 43) := qc
          clear S qc e hl hsw S0
          go_wp2
          go_roundw
          case rel => exact ⟨k + 1, by omega, by go_num, by simpa using hzw, S'.out⟩
          case measure => simp [intOf]; omega
        · have e := swTo_same src k hks h32 h43
          have S' : Box _ := ⟨S⟩
          rw [← e] at S'
          have b32 : ((src[k].toNat : Int) == 32) = false := byte_ne _ 32 (by omega) h32
          have b43 : ((src[k].toNat : Int) == 43) = false := byte_ne _ 43 (by omega) h43
          clear S e hl hsw S0
          generalize (src[k].toNat : Int) = d at *
          go_wp2
          go_roundw
          case rel => exact ⟨k + 1, by omega, by go_num, hzw, S'.out⟩
          case measure => simp [intOf]; omega
    · have hke : k = n := by omega
      subst hke
      obtain ⟨HI, HP⟩ := own_sw S hn
      have HS : Box _ := ⟨S⟩
      have HPB : Box _ := ⟨HP⟩
      have hzr := S.size
      clear S HI HP hsw S0
      have T9 : Box True := ⟨trivial⟩
      have T10 : Box True := ⟨trivial⟩
      have T11 : Box True := ⟨trivial⟩
      go_wp2_with (first
        | (at_builtin; refine app_row rfl (.tmp 142) (.tmp 145) 26 rfl w.heap.size 5 i5 (.int .u8 0) 1 1 Tryd.underlying26 hi5 hz50 hz51 hz52 rfl (by omega) _ 0 [] rfl (World.ownsRow_made wr #[] 0 hzr (Nat.zero_le _) rfl) w.heap.size _ k (bC (src.map swB)) rfl (owns_below HPB.out ((Below.refl _ _).alloc (Nat.le_refl _) _)) (bC_one _) (by unfold maxLen; omega) (by omega) (by simp; omega) ?_; intro vt W14 hvt0 hA14; have hvt : W14.ownsRow w.heap.size 5 1 vt k (bC (src.map swB)) := (by simpa using hvt0); obtain ⟨xt, ct, rfl, HIT⟩ := src_own hvt; obtain ⟨S14, hz14⟩ := HS.out.copied hA14; have HS14 : Box _ := ⟨S14⟩; have HRT : Box ((⟨5, 1, .slice xt k ct, k, bC (src.map swB)⟩ : Row).ok W14 w.heap.size) := ⟨⟨hvt⟩⟩; clear hvt0 hvt hA14 S14 HIT)
        | (go_at_call 13; clear T9; refine Calls.mono (scan13 _ _ _ (src.map swB) k t3 f3 c3 (by simp [hn]) (own_sw HS14.out hn).1 (HL.out.below HS14.out.old) HS3.out) ?_; rintro e W15 ⟨vx, rfl, hvx, hb15⟩; have LX := lies_of hvx; have hz15 := hb15.size; have S15 := (HS14.out.next hb15).add hvx HS14.out.size; obtain ⟨q60, q61, q62, q63⟩ := fault_at (S15.rows (faultR W6.heap.size f1 c1) (by simp)); obtain ⟨S16, R16⟩ := again10 S15 rfl (by omega) (HRT.out.below hb15) rfl f3 c3; have HS16 : Box _ := ⟨S16⟩; have HR16 : Box _ := ⟨R16⟩; clear S15 hvx hb15 S16 R16)
        | (go_at_call 14; clear T10; refine Calls.mono (scan14 _ _ _ (src.map swB) k t3 f3 c3 (by simp [hn]) (src_own2 HR16.out.own) HS3.out) ?_; rintro e W17 ⟨vy, rfl, hvy, hb17⟩; have hz17 := hb17.size; have S17 := (HS16.out.next hb17).add hvy HS16.out.size; obtain ⟨q70, q71, q72, q73⟩ := fault_at (S17.rows (faultR W7.heap.size f2 c2) (by simp)); have HS18 : Box _ := ⟨again12 S17 rfl rfl (by omega) f3 c3⟩; clear S17 hvy hb17)
        | (go_at_call 15; clear T11; refine Calls.mono (keep_row HS18.out vx vy t3 l3 (by simp) (by simp) (by simp)) ?_; rintro e W19 ⟨rfl, vo4, vw4, m4, S19, LM4, hz19⟩; have HS19 : Box _ := ⟨S19⟩; clear S19)
        | (go_at_call 16; refine Calls.mono (spoil_any w.heap.size W1.heap.size 4 vo4 vw4 _ W19 HS19.out.bk (alone4 LA LB LC LM1 LM2 LM3 LX LM4 (by omega) (by omega) (by omega) (by omega) (by omega) (by omega) (by simp at hz17 ⊢; omega)) rfl (by omega) (small4 (by simp; omega) (by simp; omega) (by simp; omega) (by simp; omega))) ?_; rintro e W20 ⟨rfl, hSp⟩; obtain ⟨r60, r61, r62, r63⟩ := fault_at (hSp.rows _ (HS19.out.rows (faultR W6.heap.size f3 c3) (by simp)) (show (34 : Nat) ≠ 30 by decide) (show (34 : Nat) ≠ 31 by decide) (show (34 : Nat) ≠ 40 by decide)); obtain ⟨r70, r71, r72, r73⟩ := fault_at (hSp.rows _ (HS19.out.rows (faultR W7.heap.size f3 c3) (by simp)) (show (34 : Nat) ≠ 30 by decide) (show (34 : Nat) ≠ 31 by decide) (show (34 : Nat) ≠ 40 by decide)); have HEND : Box _ := ⟨HS19.out.old.trans hSp.old⟩; clear hSp))
      go_ret
      exact ⟨rfl, HEND.out⟩
end Go.Proofs.YtooondgaeoobkaaDoor
