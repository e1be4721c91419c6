import Derived.Test.YtadmpgegolmkgaaDoorBWzI
set_option linter.unusedVariables false
set_option linter.unusedSimpArgs false
set_option maxHeartbeats 4000000
set_option maxRecDepth 100000
namespace Go.Proofs.YtadmpgegolmkgaaDoor
open Go.RowKit
theorem qV (w : World) (B : Nat) (hB : B <= w.heap.size) (ta : Option Addr) (tc : Nat) (ts : List CTy) (hr : Row (jT w B) B 3 ta tc ts) :
  Calls Tryd.prog 22 #[.slice ta ts.length tc] w fun e w' => e = .returned (.bool (dO ts)) /\ w = w' := by
 have hcap := hr.cap
 have hmx := hr.max
 unfold maxLen at hmx
 have HT : Bx (∀ k (hk : k < ts.length), _) := ⟨fun k hk => fq hr hk⟩
 unfold dO
 generalize hRR : gz ts.length ts = R
 have HR : Bx (gz ts.length (ts.drop 0) = R) := ⟨by rw [List.drop_zero]; exact hRR⟩
 clear hr hRR
 go_enter Tryd.func22, Tryd.ntmps22
 go_wp2
 go_loopg [3] (ts.length + 1) (fun f v3 wr => ∃ k : Nat, f = ts.length + 1 - k /\ k <= ts.length /\ v3 = .int .i64 k /\ Bx (gz ts.length (ts.drop k) = R) /\ wr = w)
 case atStart => exact ⟨0, by simp, Nat.zero_le _, rfl, HR, rfl⟩
 case round =>
  clear HR
  obtain ⟨k, hf, hk, rfl, HW, rfl⟩ := hrel
  obtain ⟨wD, rfl⟩ : ∃ X, X = wr := ⟨_, rfl⟩
  by_cases hlt : k < ts.length
  ·obtain ⟨b, o, ka, kc, rfl, hb, hks, HC⟩ := HT.out k hlt
   obtain ⟨c0, c1, c2⟩ := HC.out wD (Below.refl _ _)
   have hbl : b < wD.heap.size := by omega
   have hkI : (k : Int) < (ts.length : Int) := by omega
   have hw2 := (rZ hlt).symm.trans HW.out
   unfold kOk at hw2
   have hlm := hks.max
   have hlc := hks.cap
   unfold maxLen at hlm
   have HK : Bx _ := ⟨hks⟩
   clear HW HC hks HT
   generalize ts[k].kids = KS at *
   generalize ts[k].kind = KD at *
   generalize ts[k].res = RS at *
   obtain ⟨RE, hRE⟩ : ∃ RE, gz ts.length (ts.drop (k + 1)) = RE := ⟨_, rfl⟩
   rw [hRE] at hw2
   have HRE : Bx (gz ts.length (ts.drop (k + 1)) = RE) := ⟨hRE⟩
   clear hRE
   by_cases hkd1 : KD = 1
   ·have d1 : (KD == 1) = true := by simpa using hkd1
    have dn6 : (KD != 6) = true := by simp; omega
    have hkf : bT KD KS.length RS = (KS.length == 0 && !RS) := by rw [hkd1]; rfl
    by_cases hp : KS.length = 0
    ·have hc : ((KS.length : Int) == 0) = true := beq_iff_eq.2 (by omega)
     cases RS with
     | false =>
      have hkt : bT KD KS.length false = true := by rw [hkf]; simp [hp]
      clear hp hkf
      have hw3 : (KS.all (bJ ts.length) && RE) = R := by rw [← hw2, hkt]; rfl
      clear hw2
      have HIN : Bx (((KS.drop 0).all (bJ ts.length) && RE) = R) := ⟨by rw [List.drop_zero]; exact hw3⟩
      clear hw3
      go_wp2
      go_loopg [6] (KS.length + 1) (fun f v6 wr => ∃ m : Nat, f = KS.length + 1 - m /\ m <= KS.length /\ v6 = .int .i64 m /\ Bx (((KS.drop m).all (bJ ts.length) && RE) = R) /\ wr = wD)
      case atStart => exact ⟨0, by simp, Nat.zero_le _, rfl, HIN, rfl⟩
      case round =>
       clear HIN
       obtain ⟨m, hf2, hm, rfl, HQ, rfl⟩ := hrel
       obtain ⟨wE, rfl⟩ : ∃ X, X = wr := ⟨_, rfl⟩
       by_cases hml : m < KS.length
       ·obtain ⟨b2, o2, rfl, hb2, hcell⟩ := HK.out.at_ (by omega)
        have k0 := hcell m hml
        have hb2l : b2 < wE.heap.size := by omega
        have hmI : (m : Int) < (KS.length : Int) := by omega
        have hq := HQ.out
        rw [iC hml] at hq
        have hqq : ((bJ ts.length KS[m] && (KS.drop (m + 1)).all (bJ ts.length)) && RE) = R := hq
        clear hq HQ hcell HK
        generalize KS[m] = y at *
        have hky : bJ ts.length y = (decide (0 <= y) && decide (y < (ts.length : Int))) := rfl
        rw [hky] at hqq
        clear hky
        by_cases h0 : 0 <= y
        ·have hg : decide (y < 0) = false := decide_eq_false (by omega)
         by_cases h1 : y < (ts.length : Int)
         ·have hg1 : decide ((ts.length : Int) <= y) = false := decide_eq_false (by omega)
          rw [decide_eq_true h0, decide_eq_true h1, Bool.true_and, Bool.true_and] at hqq
          have HQ2 : Bx (((KS.drop (m + 1)).all (bJ ts.length) && RE) = R) := ⟨hqq⟩
          clear hqq h0 h1
          go_wp2
          go_roundg (KS.length + 1 - (m + 1))
          case measure => omega
          case rel => exact ⟨m + 1, rfl, by omega, by go_num, HQ2, rfl⟩
         ·have hg1 : decide ((ts.length : Int) <= y) = true := decide_eq_true (by omega)
          rw [decide_eq_false h1, Bool.and_false, Bool.false_and, Bool.false_and] at hqq
          subst hqq
          clear h0 h1
          go_wp2
          go_ret
          exact ⟨rfl, rfl⟩
        ·have hg : decide (y < 0) = true := decide_eq_true (by omega)
         rw [decide_eq_false h0, Bool.false_and, Bool.false_and, Bool.false_and] at hqq
         subst hqq
         clear h0
         go_wp2
         go_ret
         exact ⟨rfl, rfl⟩
       ·have HN : Bx (gz ts.length (ts.drop (k + 1)) = R) := ⟨by
         have := HQ.out
         rw [List.drop_eq_nil_of_le (by omega)] at this
         rw [HRE.out]
         simpa using this⟩
        obtain rfl : m = KS.length := by omega
        clear HQ HK
        go_wp2
        go_roundg (ts.length + 1 - (k + 1))
        case measure => omega
        case rel => exact ⟨k + 1, rfl, by omega, by go_num, HN, rfl⟩
     | true =>
      have hkt : bT KD KS.length true = false := by rw [hkf]; simp
      clear hp hkf
      have hR : R = false := by rw [← hw2, hkt]; rfl
      subst hR
      clear hw2 HK
      go_wp2
      go_ret
      exact ⟨rfl, rfl⟩
    ·have hc : ((KS.length : Int) == 0) = false := beq_eq_false_iff_ne.2 (by omega)
     have hkt : bT KD KS.length RS = false := by rw [hkf]; simp [hp]
     clear hp hkf
     have hR : R = false := by rw [← hw2, hkt]; rfl
     subst hR
     clear hw2 HK
     go_wp2
     go_ret
     exact ⟨rfl, rfl⟩
   by_cases hkd2 : KD = 2
   ·have d1 : (KD == 1) = false := by simpa using hkd1
    have d2 : (KD == 2) = true := by simpa using hkd2
    have dn6 : (KD != 6) = true := by simp; omega
    have hkf : bT KD KS.length RS = (KS.length == 0 && !RS) := by rw [hkd2]; rfl
    by_cases hp : KS.length = 0
    ·have hc : ((KS.length : Int) == 0) = true := beq_iff_eq.2 (by omega)
     cases RS with
     | false =>
      have hkt : bT KD KS.length false = true := by rw [hkf]; simp [hp]
      clear hp hkf
      have hw3 : (KS.all (bJ ts.length) && RE) = R := by rw [← hw2, hkt]; rfl
      clear hw2
      have HIN : Bx (((KS.drop 0).all (bJ ts.length) && RE) = R) := ⟨by rw [List.drop_zero]; exact hw3⟩
      clear hw3
      go_wp2
      go_loopg [6] (KS.length + 1) (fun f v6 wr => ∃ m : Nat, f = KS.length + 1 - m /\ m <= KS.length /\ v6 = .int .i64 m /\ Bx (((KS.drop m).all (bJ ts.length) && RE) = R) /\ wr = wD)
      case atStart => exact ⟨0, by simp, Nat.zero_le _, rfl, HIN, rfl⟩
      case round =>
       clear HIN
       obtain ⟨m, hf2, hm, rfl, HQ, rfl⟩ := hrel
       obtain ⟨wE, rfl⟩ : ∃ X, X = wr := ⟨_, rfl⟩
       by_cases hml : m < KS.length
       ·obtain ⟨b2, o2, rfl, hb2, hcell⟩ := HK.out.at_ (by omega)
        have k0 := hcell m hml
        have hb2l : b2 < wE.heap.size := by omega
        have hmI : (m : Int) < (KS.length : Int) := by omega
        have hq := HQ.out
        rw [iC hml] at hq
        have hqq : ((bJ ts.length KS[m] && (KS.drop (m + 1)).all (bJ ts.length)) && RE) = R := hq
        clear hq HQ hcell HK
        generalize KS[m] = y at *
        have hky : bJ ts.length y = (decide (0 <= y) && decide (y < (ts.length : Int))) := rfl
        rw [hky] at hqq
        clear hky
        by_cases h0 : 0 <= y
        ·have hg : decide (y < 0) = false := decide_eq_false (by omega)
         by_cases h1 : y < (ts.length : Int)
         ·have hg1 : decide ((ts.length : Int) <= y) = false := decide_eq_false (by omega)
          rw [decide_eq_true h0, decide_eq_true h1, Bool.true_and, Bool.true_and] at hqq
          have HQ2 : Bx (((KS.drop (m + 1)).all (bJ ts.length) && RE) = R) := ⟨hqq⟩
          clear hqq h0 h1
          go_wp2
          go_roundg (KS.length + 1 - (m + 1))
          case measure => omega
          case rel => exact ⟨m + 1, rfl, by omega, by go_num, HQ2, rfl⟩
         ·have hg1 : decide ((ts.length : Int) <= y) = true := decide_eq_true (by omega)
          rw [decide_eq_false h1, Bool.and_false, Bool.false_and, Bool.false_and] at hqq
          subst hqq
          clear h0 h1
          go_wp2
          go_ret
          exact ⟨rfl, rfl⟩
        ·have hg : decide (y < 0) = true := decide_eq_true (by omega)
         rw [decide_eq_false h0, Bool.false_and, Bool.false_and, Bool.false_and] at hqq
         subst hqq
         clear h0
         go_wp2
         go_ret
         exact ⟨rfl, rfl⟩
       ·have HN : Bx (gz ts.length (ts.drop (k + 1)) = R) := ⟨by
         have := HQ.out
         rw [List.drop_eq_nil_of_le (by omega)] at this
         rw [HRE.out]
         simpa using this⟩
        obtain rfl : m = KS.length := by omega
        clear HQ HK
        go_wp2
        go_roundg (ts.length + 1 - (k + 1))
        case measure => omega
        case rel => exact ⟨k + 1, rfl, by omega, by go_num, HN, rfl⟩
     | true =>
      have hkt : bT KD KS.length true = false := by rw [hkf]; simp
      clear hp hkf
      have hR : R = false := by rw [← hw2, hkt]; rfl
      subst hR
      clear hw2 HK
      go_wp2
      go_ret
      exact ⟨rfl, rfl⟩
    ·have hc : ((KS.length : Int) == 0) = false := beq_eq_false_iff_ne.2 (by omega)
     have hkt : bT KD KS.length RS = false := by rw [hkf]; simp [hp]
     clear hp hkf
     have hR : R = false := by rw [← hw2, hkt]; rfl
     subst hR
     clear hw2 HK
     go_wp2
     go_ret
     exact ⟨rfl, rfl⟩
   by_cases hkd3 : KD = 3
   ·have d1 : (KD == 1) = false := by simpa using hkd1
    have d2 : (KD == 2) = false := by simpa using hkd2
    have d3 : (KD == 3) = true := by simpa using hkd3
    have dn6 : (KD != 6) = true := by simp; omega
    have hkf : bT KD KS.length RS = (KS.length == 1 && !RS) := by rw [hkd3]; rfl
    by_cases hp : KS.length = 1
    ·have hc : ((KS.length : Int) == 1) = true := beq_iff_eq.2 (by omega)
     cases RS with
     | false =>
      have hkt : bT KD KS.length false = true := by rw [hkf]; simp [hp]
      clear hp hkf
      have hw3 : (KS.all (bJ ts.length) && RE) = R := by rw [← hw2, hkt]; rfl
      clear hw2
      have HIN : Bx (((KS.drop 0).all (bJ ts.length) && RE) = R) := ⟨by rw [List.drop_zero]; exact hw3⟩
      clear hw3
      go_wp2
      go_loopg [6] (KS.length + 1) (fun f v6 wr => ∃ m : Nat, f = KS.length + 1 - m /\ m <= KS.length /\ v6 = .int .i64 m /\ Bx (((KS.drop m).all (bJ ts.length) && RE) = R) /\ wr = wD)
      case atStart => exact ⟨0, by simp, Nat.zero_le _, rfl, HIN, rfl⟩
      case round =>
       clear HIN
       obtain ⟨m, hf2, hm, rfl, HQ, rfl⟩ := hrel
       obtain ⟨wE, rfl⟩ : ∃ X, X = wr := ⟨_, rfl⟩
       by_cases hml : m < KS.length
       ·obtain ⟨b2, o2, rfl, hb2, hcell⟩ := HK.out.at_ (by omega)
        have k0 := hcell m hml
        have hb2l : b2 < wE.heap.size := by omega
        have hmI : (m : Int) < (KS.length : Int) := by omega
        have hq := HQ.out
        rw [iC hml] at hq
        have hqq : ((bJ ts.length KS[m] && (KS.drop (m + 1)).all (bJ ts.length)) && RE) = R := hq
        clear hq HQ hcell HK
        generalize KS[m] = y at *
        have hky : bJ ts.length y = (decide (0 <= y) && decide (y < (ts.length : Int))) := rfl
        rw [hky] at hqq
        clear hky
        by_cases h0 : 0 <= y
        ·have hg : decide (y < 0) = false := decide_eq_false (by omega)
         by_cases h1 : y < (ts.length : Int)
         ·have hg1 : decide ((ts.length : Int) <= y) = false := decide_eq_false (by omega)
          rw [decide_eq_true h0, decide_eq_true h1, Bool.true_and, Bool.true_and] at hqq
          have HQ2 : Bx (((KS.drop (m + 1)).all (bJ ts.length) && RE) = R) := ⟨hqq⟩
          clear hqq h0 h1
          go_wp2
          go_roundg (KS.length + 1 - (m + 1))
          case measure => omega
          case rel => exact ⟨m + 1, rfl, by omega, by go_num, HQ2, rfl⟩
         ·have hg1 : decide ((ts.length : Int) <= y) = true := decide_eq_true (by omega)
          rw [decide_eq_false h1, Bool.and_false, Bool.false_and, Bool.false_and] at hqq
          subst hqq
          clear h0 h1
          go_wp2
          go_ret
          exact ⟨rfl, rfl⟩
        ·have hg : decide (y < 0) = true := decide_eq_true (by omega)
         rw [decide_eq_false h0, Bool.false_and, Bool.false_and, Bool.false_and] at hqq
         subst hqq
         clear h0
         go_wp2
         go_ret
         exact ⟨rfl, rfl⟩
       ·have HN : Bx (gz ts.length (ts.drop (k + 1)) = R) := ⟨by
         have := HQ.out
         rw [List.drop_eq_nil_of_le (by omega)] at this
         rw [HRE.out]
         simpa using this⟩
        obtain rfl : m = KS.length := by omega
        clear HQ HK
        go_wp2
        go_roundg (ts.length + 1 - (k + 1))
        case measure => omega
        case rel => exact ⟨k + 1, rfl, by omega, by go_num, HN, rfl⟩
     | true =>
      have hkt : bT KD KS.length true = false := by rw [hkf]; simp
      clear hp hkf
      have hR : R = false := by rw [← hw2, hkt]; rfl
      subst hR
      clear hw2 HK
      go_wp2
      go_ret
      exact ⟨rfl, rfl⟩
    ·have hc : ((KS.length : Int) == 1) = false := beq_eq_false_iff_ne.2 (by omega)
     have hkt : bT KD KS.length RS = false := by rw [hkf]; simp [hp]
     clear hp hkf
     have hR : R = false := by rw [← hw2, hkt]; rfl
     subst hR
     clear hw2 HK
     go_wp2
     go_ret
     exact ⟨rfl, rfl⟩
   by_cases hkd5 : KD = 5
   ·have d1 : (KD == 1) = false := by simpa using hkd1
    have d2 : (KD == 2) = false := by simpa using hkd2
    have d3 : (KD == 3) = false := by simpa using hkd3
    have d5 : (KD == 5) = true := by simpa using hkd5
    have dn6 : (KD != 6) = true := by simp; omega
    have hkf : bT KD KS.length RS = (KS.length == 1 && !RS) := by rw [hkd5]; rfl
    by_cases hp : KS.length = 1
    ·have hc : ((KS.length : Int) == 1) = true := beq_iff_eq.2 (by omega)
     cases RS with
     | false =>
      have hkt : bT KD KS.length false = true := by rw [hkf]; simp [hp]
      clear hp hkf
      have hw3 : (KS.all (bJ ts.length) && RE) = R := by rw [← hw2, hkt]; rfl
      clear hw2
      have HIN : Bx (((KS.drop 0).all (bJ ts.length) && RE) = R) := ⟨by rw [List.drop_zero]; exact hw3⟩
      clear hw3
      go_wp2
      go_loopg [6] (KS.length + 1) (fun f v6 wr => ∃ m : Nat, f = KS.length + 1 - m /\ m <= KS.length /\ v6 = .int .i64 m /\ Bx (((KS.drop m).all (bJ ts.length) && RE) = R) /\ wr = wD)
      case atStart => exact ⟨0, by simp, Nat.zero_le _, rfl, HIN, rfl⟩
      case round =>
       clear HIN
       obtain ⟨m, hf2, hm, rfl, HQ, rfl⟩ := hrel
       obtain ⟨wE, rfl⟩ : ∃ X, X = wr := ⟨_, rfl⟩
       by_cases hml : m < KS.length
       ·obtain ⟨b2, o2, rfl, hb2, hcell⟩ := HK.out.at_ (by omega)
        have k0 := hcell m hml
        have hb2l : b2 < wE.heap.size := by omega
        have hmI : (m : Int) < (KS.length : Int) := by omega
        have hq := HQ.out
        rw [iC hml] at hq
        have hqq : ((bJ ts.length KS[m] && (KS.drop (m + 1)).all (bJ ts.length)) && RE) = R := hq
        clear hq HQ hcell HK
        generalize KS[m] = y at *
        have hky : bJ ts.length y = (decide (0 <= y) && decide (y < (ts.length : Int))) := rfl
        rw [hky] at hqq
        clear hky
        by_cases h0 : 0 <= y
        ·have hg : decide (y < 0) = false := decide_eq_false (by omega)
         by_cases h1 : y < (ts.length : Int)
         ·have hg1 : decide ((ts.length : Int) <= y) = false := decide_eq_false (by omega)
          rw [decide_eq_true h0, decide_eq_true h1, Bool.true_and, Bool.true_and] at hqq
          have HQ2 : Bx (((KS.drop (m + 1)).all (bJ ts.length) && RE) = R) := ⟨hqq⟩
          clear hqq h0 h1
          go_wp2
          go_roundg (KS.length + 1 - (m + 1))
          case measure => omega
          case rel => exact ⟨m + 1, rfl, by omega, by go_num, HQ2, rfl⟩
         ·have hg1 : decide ((ts.length : Int) <= y) = true := decide_eq_true (by omega)
          rw [decide_eq_false h1, Bool.and_false, Bool.false_and, Bool.false_and] at hqq
          subst hqq
          clear h0 h1
          go_wp2
          go_ret
          exact ⟨rfl, rfl⟩
        ·have hg : decide (y < 0) = true := decide_eq_true (by omega)
         rw [decide_eq_false h0, Bool.false_and, Bool.false_and, Bool.false_and] at hqq
         subst hqq
         clear h0
         go_wp2
         go_ret
         exact ⟨rfl, rfl⟩
       ·have HN : Bx (gz ts.length (ts.drop (k + 1)) = R) := ⟨by
         have := HQ.out
         rw [List.drop_eq_nil_of_le (by omega)] at this
         rw [HRE.out]
         simpa using this⟩
        obtain rfl : m = KS.length := by omega
        clear HQ HK
        go_wp2
        go_roundg (ts.length + 1 - (k + 1))
        case measure => omega
        case rel => exact ⟨k + 1, rfl, by omega, by go_num, HN, rfl⟩
     | true =>
      have hkt : bT KD KS.length true = false := by rw [hkf]; simp
      clear hp hkf
      have hR : R = false := by rw [← hw2, hkt]; rfl
      subst hR
      clear hw2 HK
      go_wp2
      go_ret
      exact ⟨rfl, rfl⟩
    ·have hc : ((KS.length : Int) == 1) = false := beq_eq_false_iff_ne.2 (by omega)
     have hkt : bT KD KS.length RS = false := by rw [hkf]; simp [hp]
     clear hp hkf
     have hR : R = false := by rw [← hw2, hkt]; rfl
     subst hR
     clear hw2 HK
     go_wp2
     go_ret
     exact ⟨rfl, rfl⟩
   by_cases hkd4 : KD = 4
   ·have d1 : (KD == 1) = false := by simpa using hkd1
    have d2 : (KD == 2) = false := by simpa using hkd2
    have d3 : (KD == 3) = false := by simpa using hkd3
    have d5 : (KD == 5) = false := by simpa using hkd5
    have d4 : (KD == 4) = true := by simpa using hkd4
    have dn6 : (KD != 6) = true := by simp; omega
    have hkf : bT KD KS.length RS = (decide (2 <= KS.length) && !RS) := by rw [hkd4]; rfl
    by_cases hp : 2 <= KS.length
    ·have hc : decide ((2 : Int) <= (KS.length : Int)) = true := decide_eq_true (by omega)
     cases RS with
     | false =>
      have hkt : bT KD KS.length false = true := by rw [hkf]; simp [hp]
      clear hp hkf
      have hw3 : (KS.all (bJ ts.length) && RE) = R := by rw [← hw2, hkt]; rfl
      clear hw2
      have HIN : Bx (((KS.drop 0).all (bJ ts.length) && RE) = R) := ⟨by rw [List.drop_zero]; exact hw3⟩
      clear hw3
      go_wp2
      go_loopg [6] (KS.length + 1) (fun f v6 wr => ∃ m : Nat, f = KS.length + 1 - m /\ m <= KS.length /\ v6 = .int .i64 m /\ Bx (((KS.drop m).all (bJ ts.length) && RE) = R) /\ wr = wD)
      case atStart => exact ⟨0, by simp, Nat.zero_le _, rfl, HIN, rfl⟩
      case round =>
       clear HIN
       obtain ⟨m, hf2, hm, rfl, HQ, rfl⟩ := hrel
       obtain ⟨wE, rfl⟩ : ∃ X, X = wr := ⟨_, rfl⟩
       by_cases hml : m < KS.length
       ·obtain ⟨b2, o2, rfl, hb2, hcell⟩ := HK.out.at_ (by omega)
        have k0 := hcell m hml
        have hb2l : b2 < wE.heap.size := by omega
        have hmI : (m : Int) < (KS.length : Int) := by omega
        have hq := HQ.out
        rw [iC hml] at hq
        have hqq : ((bJ ts.length KS[m] && (KS.drop (m + 1)).all (bJ ts.length)) && RE) = R := hq
        clear hq HQ hcell HK
        generalize KS[m] = y at *
        have hky : bJ ts.length y = (decide (0 <= y) && decide (y < (ts.length : Int))) := rfl
        rw [hky] at hqq
        clear hky
        by_cases h0 : 0 <= y
        ·have hg : decide (y < 0) = false := decide_eq_false (by omega)
         by_cases h1 : y < (ts.length : Int)
         ·have hg1 : decide ((ts.length : Int) <= y) = false := decide_eq_false (by omega)
          rw [decide_eq_true h0, decide_eq_true h1, Bool.true_and, Bool.true_and] at hqq
          have HQ2 : Bx (((KS.drop (m + 1)).all (bJ ts.length) && RE) = R) := ⟨hqq⟩
          clear hqq h0 h1
          go_wp2
          go_roundg (KS.length + 1 - (m + 1))
          case measure => omega
          case rel => exact ⟨m + 1, rfl, by omega, by go_num, HQ2, rfl⟩
         ·have hg1 : decide ((ts.length : Int) <= y) = true := decide_eq_true (by omega)
          rw [decide_eq_false h1, Bool.and_false, Bool.false_and, Bool.false_and] at hqq
          subst hqq
          clear h0 h1
          go_wp2
          go_ret
          exact ⟨rfl, rfl⟩
        ·have hg : decide (y < 0) = true := decide_eq_true (by omega)
         rw [decide_eq_false h0, Bool.false_and, Bool.false_and, Bool.false_and] at hqq
         subst hqq
         clear h0
         go_wp2
         go_ret
         exact ⟨rfl, rfl⟩
       ·have HN : Bx (gz ts.length (ts.drop (k + 1)) = R) := ⟨by
         have := HQ.out
         rw [List.drop_eq_nil_of_le (by omega)] at this
         rw [HRE.out]
         simpa using this⟩
        obtain rfl : m = KS.length := by omega
        clear HQ HK
        go_wp2
        go_roundg (ts.length + 1 - (k + 1))
        case measure => omega
        case rel => exact ⟨k + 1, rfl, by omega, by go_num, HN, rfl⟩
     | true =>
      have hkt : bT KD KS.length true = false := by rw [hkf]; simp
      clear hp hkf
      have hR : R = false := by rw [← hw2, hkt]; rfl
      subst hR
      clear hw2 HK
      go_wp2
      go_ret
      exact ⟨rfl, rfl⟩
    ·have hc : decide ((2 : Int) <= (KS.length : Int)) = false := decide_eq_false (by omega)
     have hkt : bT KD KS.length RS = false := by rw [hkf]; simp [hp]
     clear hp hkf
     have hR : R = false := by rw [← hw2, hkt]; rfl
     subst hR
     clear hw2 HK
     go_wp2
     go_ret
     exact ⟨rfl, rfl⟩
   by_cases hkd6 : KD = 6
   ·have d1 : (KD == 1) = false := by simpa using hkd1
    have d2 : (KD == 2) = false := by simpa using hkd2
    have d3 : (KD == 3) = false := by simpa using hkd3
    have d5 : (KD == 5) = false := by simpa using hkd5
    have d4 : (KD == 4) = false := by simpa using hkd4
    have d6 : (KD == 6) = true := by simpa using hkd6
    have dn6 : (KD != 6) = false := by simp; omega
    have hkf : bT KD KS.length RS = (decide (1 <= KS.length) || !RS) := by rw [hkd6]; rfl
    cases RS with
    | false =>
     have hkt : bT KD KS.length false = true := by rw [hkf]; simp
     clear hkf
     have hw3 : (KS.all (bJ ts.length) && RE) = R := by rw [← hw2, hkt]; rfl
     clear hw2
     have HIN : Bx (((KS.drop 0).all (bJ ts.length) && RE) = R) := ⟨by rw [List.drop_zero]; exact hw3⟩
     clear hw3
     go_wp2
     go_loopg [6] (KS.length + 1) (fun f v6 wr => ∃ m : Nat, f = KS.length + 1 - m /\ m <= KS.length /\ v6 = .int .i64 m /\ Bx (((KS.drop m).all (bJ ts.length) && RE) = R) /\ wr = wD)
     case atStart => exact ⟨0, by simp, Nat.zero_le _, rfl, HIN, rfl⟩
     case round =>
      clear HIN
      obtain ⟨m, hf2, hm, rfl, HQ, rfl⟩ := hrel
      obtain ⟨wE, rfl⟩ : ∃ X, X = wr := ⟨_, rfl⟩
      by_cases hml : m < KS.length
      ·obtain ⟨b2, o2, rfl, hb2, hcell⟩ := HK.out.at_ (by omega)
       have k0 := hcell m hml
       have hb2l : b2 < wE.heap.size := by omega
       have hmI : (m : Int) < (KS.length : Int) := by omega
       have hq := HQ.out
       rw [iC hml] at hq
       have hqq : ((bJ ts.length KS[m] && (KS.drop (m + 1)).all (bJ ts.length)) && RE) = R := hq
       clear hq HQ hcell HK
       generalize KS[m] = y at *
       have hky : bJ ts.length y = (decide (0 <= y) && decide (y < (ts.length : Int))) := rfl
       rw [hky] at hqq
       clear hky
       by_cases h0 : 0 <= y
       ·have hg : decide (y < 0) = false := decide_eq_false (by omega)
        by_cases h1 : y < (ts.length : Int)
        ·have hg1 : decide ((ts.length : Int) <= y) = false := decide_eq_false (by omega)
         rw [decide_eq_true h0, decide_eq_true h1, Bool.true_and, Bool.true_and] at hqq
         have HQ2 : Bx (((KS.drop (m + 1)).all (bJ ts.length) && RE) = R) := ⟨hqq⟩
         clear hqq h0 h1
         go_wp2
         go_roundg (KS.length + 1 - (m + 1))
         case measure => omega
         case rel => exact ⟨m + 1, rfl, by omega, by go_num, HQ2, rfl⟩
        ·have hg1 : decide ((ts.length : Int) <= y) = true := decide_eq_true (by omega)
         rw [decide_eq_false h1, Bool.and_false, Bool.false_and, Bool.false_and] at hqq
         subst hqq
         clear h0 h1
         go_wp2
         go_ret
         exact ⟨rfl, rfl⟩
       ·have hg : decide (y < 0) = true := decide_eq_true (by omega)
        rw [decide_eq_false h0, Bool.false_and, Bool.false_and, Bool.false_and] at hqq
        subst hqq
        clear h0
        go_wp2
        go_ret
        exact ⟨rfl, rfl⟩
      ·have HN : Bx (gz ts.length (ts.drop (k + 1)) = R) := ⟨by
        have := HQ.out
        rw [List.drop_eq_nil_of_le (by omega)] at this
        rw [HRE.out]
        simpa using this⟩
       obtain rfl : m = KS.length := by omega
       clear HQ HK
       go_wp2
       go_roundg (ts.length + 1 - (k + 1))
       case measure => omega
       case rel => exact ⟨k + 1, rfl, by omega, by go_num, HN, rfl⟩
    | true =>
     by_cases hp : 1 <= KS.length
     ·have hc : decide ((1 : Int) <= (KS.length : Int)) = true := decide_eq_true (by omega)
      have hkt : bT KD KS.length true = true := by rw [hkf]; simp [hp]
      clear hp hkf
      have hw3 : (KS.all (bJ ts.length) && RE) = R := by rw [← hw2, hkt]; rfl
      clear hw2
      have HIN : Bx (((KS.drop 0).all (bJ ts.length) && RE) = R) := ⟨by rw [List.drop_zero]; exact hw3⟩
      clear hw3
      go_wp2
      go_loopg [6] (KS.length + 1) (fun f v6 wr => ∃ m : Nat, f = KS.length + 1 - m /\ m <= KS.length /\ v6 = .int .i64 m /\ Bx (((KS.drop m).all (bJ ts.length) && RE) = R) /\ wr = wD)
      case atStart => exact ⟨0, by simp, Nat.zero_le _, rfl, HIN, rfl⟩
      case round =>
       clear HIN
       obtain ⟨m, hf2, hm, rfl, HQ, rfl⟩ := hrel
       obtain ⟨wE, rfl⟩ : ∃ X, X = wr := ⟨_, rfl⟩
       by_cases hml : m < KS.length
       ·obtain ⟨b2, o2, rfl, hb2, hcell⟩ := HK.out.at_ (by omega)
        have k0 := hcell m hml
        have hb2l : b2 < wE.heap.size := by omega
        have hmI : (m : Int) < (KS.length : Int) := by omega
        have hq := HQ.out
        rw [iC hml] at hq
        have hqq : ((bJ ts.length KS[m] && (KS.drop (m + 1)).all (bJ ts.length)) && RE) = R := hq
        clear hq HQ hcell HK
        generalize KS[m] = y at *
        have hky : bJ ts.length y = (decide (0 <= y) && decide (y < (ts.length : Int))) := rfl
        rw [hky] at hqq
        clear hky
        by_cases h0 : 0 <= y
        ·have hg : decide (y < 0) = false := decide_eq_false (by omega)
         by_cases h1 : y < (ts.length : Int)
         ·have hg1 : decide ((ts.length : Int) <= y) = false := decide_eq_false (by omega)
          rw [decide_eq_true h0, decide_eq_true h1, Bool.true_and, Bool.true_and] at hqq
          have HQ2 : Bx (((KS.drop (m + 1)).all (bJ ts.length) && RE) = R) := ⟨hqq⟩
          clear hqq h0 h1
          go_wp2
          go_roundg (KS.length + 1 - (m + 1))
          case measure => omega
          case rel => exact ⟨m + 1, rfl, by omega, by go_num, HQ2, rfl⟩
         ·have hg1 : decide ((ts.length : Int) <= y) = true := decide_eq_true (by omega)
          rw [decide_eq_false h1, Bool.and_false, Bool.false_and, Bool.false_and] at hqq
          subst hqq
          clear h0 h1
          go_wp2
          go_ret
          exact ⟨rfl, rfl⟩
        ·have hg : decide (y < 0) = true := decide_eq_true (by omega)
         rw [decide_eq_false h0, Bool.false_and, Bool.false_and, Bool.false_and] at hqq
         subst hqq
         clear h0
         go_wp2
         go_ret
         exact ⟨rfl, rfl⟩
       ·have HN : Bx (gz ts.length (ts.drop (k + 1)) = R) := ⟨by
         have := HQ.out
         rw [List.drop_eq_nil_of_le (by omega)] at this
         rw [HRE.out]
         simpa using this⟩
        obtain rfl : m = KS.length := by omega
        clear HQ HK
        go_wp2
        go_roundg (ts.length + 1 - (k + 1))
        case measure => omega
        case rel => exact ⟨k + 1, rfl, by omega, by go_num, HN, rfl⟩
     ·have hc : decide ((1 : Int) <= (KS.length : Int)) = false := decide_eq_false (by omega)
      have hkt : bT KD KS.length true = false := by rw [hkf]; simp [hp]
      clear hp hkf
      have hR : R = false := by rw [← hw2, hkt]; rfl
      subst hR
      clear hw2 HK
      go_wp2
      go_ret
      exact ⟨rfl, rfl⟩
   have d1 : (KD == 1) = false := by simpa using hkd1
   have d2 : (KD == 2) = false := by simpa using hkd2
   have d3 : (KD == 3) = false := by simpa using hkd3
   have d5 : (KD == 5) = false := by simpa using hkd5
   have d4 : (KD == 4) = false := by simpa using hkd4
   have d6 : (KD == 6) = false := by simpa using hkd6
   have hkt : bT KD KS.length RS = false := by
    unfold bT
    rw [if_neg (by omega), if_neg (by omega), if_neg hkd4, if_neg hkd6]
   have hR : R = false := by rw [← hw2, hkt]; rfl
   subst hR
   clear hw2 HK
   go_wp2
   go_ret
   exact ⟨rfl, rfl⟩
  ·have hR : R = true := by
    have := HW.out
    rw [List.drop_eq_nil_of_le (by omega)] at this
    exact this.symm
   subst hR
   obtain rfl : k = ts.length := by omega
   clear HW HT
   go_wp2
   go_ret
   exact ⟨rfl, rfl⟩
end Go.Proofs.YtadmpgegolmkgaaDoor
