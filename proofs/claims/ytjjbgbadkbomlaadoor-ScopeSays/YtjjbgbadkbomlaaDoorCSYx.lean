import Derived.Test.YtjjbgbadkbomlaaDoorCSYh
namespace Go.Proofs.YtjjbgbadkbomlaaDoor
open Go.RowKit
set_option linter.unusedVariables false
set_option linter.unusedSimpArgs false

set_option maxRecDepth 100000 in
set_option maxHeartbeats 16000000 in
theorem says_ok (w : World) (B nb no nc : Nat) (l : List Nd) (hn : Nodes w B nb no nc l) (hL : Laid w) (h0 : 0 < l.length) (hbk : bulkL l ≤ 2147483647) (hc : (checkAll l).2 = 0) (hf : (namesS l).flt.2 = 0) :
    Calls Tryd.prog 3 #[.slice (some ⟨nb, no, none⟩) l.length nc] w fun e w' => e = .returned (.bool true) ∧ Below w.heap.size w w' := by
  have hB := hn.hi
  have hl31 : l.length ≤ 2147483647 := by have := bulk_len l; omega
  have HBY : Bx (Calls Tryd.prog 7 #[.slice (some ⟨nb, no, none⟩) l.length nc] w fun e w' => e = .returned (.bool false) ∧ w = w') := ⟨by
    have := beyond_some w B nb no nc l hn
    rw [decide_eq_false (by omega)] at this
    exact this⟩
  have HSH := Bx.mk (shown_any w hL)
  have HN1 : Bx (∀ W1, Below w.heap.size w W1 → _) := ⟨fun W1 b1 => names_ok (w := W1) (B := B) (a := some ⟨nb, no, none⟩) (cap := nc) (l := l) ⟨fun _ => ⟨nb, no, rfl, hn.below (b1.mono hB)⟩, by have := b1.size; omega⟩ (hL.below b1) hl31 hc hf⟩
  have HT := Bx.mk (kt_of hc)
  have HKO : Bx (∀ W3, Below w.heap.size w W3 → _) := ⟨fun W3 b3 => kidOf_any W3 B nb no nc l (hn.below (b3.mono hB)) HT.out hl31⟩
  obtain ⟨hsy, hall⟩ := names_say hc hf
  have HSY := Bx.mk hsy
  have HAL := Bx.mk hall
  have HND := Bx.mk hn
  have HRL : Bx ((namesS l).ref.length = l.length) := ⟨hsy.wf.refl_⟩
  unfold fltV at HN1
  generalize hs : namesS l = s at *
  clear hn hL hc hf hsy hall hs
  go_enter Tryd.func3, Tryd.ntmps3
  go_wp2_with (first
    | (go_at_call 7; refine Calls.mono HBY.out ?_; rintro e w' ⟨rfl, rfl⟩; clear HBY)
    | (go_at_call 8; refine Calls.mono HSH.out ?_; rintro e W1 ⟨rfl, b1⟩; replace b1 := Bx.mk b1; clear HSH)
    | (go_at_call 9; refine Calls.mono (HN1.out _ b1.out) ?_; rintro e W2 ⟨⟨rb, fb, fv, rfl, hnm⟩, b2⟩; replace hnm := Bx.mk hnm; replace b2 := Bx.mk b2; clear HN1)
    | (go_at_call 10; obtain ⟨W3, hW3, b3, q0, q1, s3⟩ := pair_in W2 #[.slice (some ⟨rb, 0, none⟩) l.length l.length, .slice (some ⟨fb, 0, none⟩) l.length l.length] #[.int .i64 0, .int .i64 0] 28 31; rw [hW3]; have B3 : Below w.heap.size w W3 := (by have z1 := b1.out.size; have z2 := b2.out.size; exact b1.out.trans ((b2.out.mono z1).trans (b3.mono (by omega)))); refine Calls.mono (HKO.out W3 B3) ?_; rintro e W4 ⟨rfl, b4, u, hu, hrow⟩; clear hW3; replace q0 := Bx.mk q0; replace s3 := Bx.mk s3; replace b3 := Bx.mk b3; replace B3 := Bx.mk B3; replace hu := Bx.mk hu; replace hrow := Bx.mk hrow; replace b4 := Bx.mk b4; clear HKO q1))
  have HV0 : Bx (SV l W4 B nb no nc W2.heap.size rb fb W3.heap.size s u) := ⟨by
    have z3 := b4.out.size
    have s3 := s3.out
    have b24 : Below W2.heap.size W2 W4 := b3.out.trans (b4.out.mono (by omega))
    have g0 := (b4.out.block W2.heap.size (by omega)).trans q0.out
    have l1 := hnm.out.lts
    refine ⟨HND.out.below ((B3.out.trans (b4.out.mono B3.out.size)).mono hB), (cell_of_row W4 _ 0 _ _ _ g0).trans rfl, (cell_of_row W4 _ 1 _ _ _ g0).trans rfl, fun j hj => ?_, (hnm.out.rws.below b24 l1.2).mono (by omega), fun j hj => hrow.out.cell hj⟩
    have hr := (b24.block rb l1.1).trans hnm.out.ref
    rw [cell_of_row W4 rb j _ _ _ hr]
    have hjr : j < s.ref.length := by rw [HRL.out]; exact hj
    unfold rf
    rw [List.getD_eq_getElem?_getD, List.getElem?_eq_getElem hjr]
    simp [intsC, hjr]⟩
  have HBW : Bx (Below w.heap.size w W4) := ⟨B3.out.trans (b4.out.mono B3.out.size)⟩
  have HUP := Bx.mk hu.out
  clear s3
  generalize W2.heap.size = tb at *
  generalize W3.heap.size = ub at *
  clear b1 b2 b3 b4 hnm q0 B3 hu hrow HND HRL
  go_loopw [6] (fun x wr => ∃ i : Nat, i ≤ l.length ∧ x = .int .i64 i ∧ Bx (∃ k, wr = W4.drewN k)) (fun x _ => l.length - (intOf x).toNat)
  case atStart => exact ⟨0, Nat.zero_le _, rfl, ⟨0, rfl⟩⟩
  case round =>
    obtain ⟨i, hi, rfl, HW⟩ := hrel
    by_cases hlt : i < l.length
    · have HV : Bx (SV l wr B nb no nc tb rb fb ub s u) := ⟨by obtain ⟨k, e⟩ := HW.out; rw [e]; exact HV0.out.drewN k⟩
      obtain ⟨ka, kc, hX⟩ := HV.out.nds.at_ i hlt
      have c0 := hX.c0
      have c3 := hX.c3
      have r0 := HV.out.ref i hlt
      have t0 := HV.out.t0
      have t1 := HV.out.t1
      have u0 := HV.out.up i hlt
      by_cases h13 : kdN l i = 13
      · have h13b : (ndN l i).kind = 13 := h13
        rw [h13b] at c0
        rcases nm_cases HSY.out (HAL.out i hlt h13) with ⟨hF, hnm⟩ | ⟨hF, hnm⟩ | ⟨d, hd, hF, hnm⟩
        · as_aux_lemma =>
            rw [hF.here] at r0
            rw [hnm] at c3
            unfold inN at c3
            have HUI : Bx _ := ⟨(up_step HT.out HUP.out hlt (In.self (l := l) (p := i))).1⟩
            have HFF := Bx.mk hF
            have HDR : Bx (∀ n, ∃ k, wr.drewN n = W4.drewN k) := ⟨fun n => by obtain ⟨k, e⟩ := HW.out; exact ⟨k + n, by rw [e, World.drewN_drewN]⟩⟩
            clear hX hF hnm HV
            go_wp2
            have g1 : decide ((l.length : Int) ≤ -2) = false := decide_eq_false (by omega)
            go_big_quiet (fail)
            go_wp2
            go_loopw [8] (fun x wr2 => (x = .int .i64 (-1) ∨ ∃ p : Nat, p < l.length ∧ x = .int .i64 p ∧ Bx (In l p i)) ∧ Bx (∃ k, wr2 = W4.drewN k)) (fun x _ => upM l.length x)
            case atStart => exact ⟨HUI.out, ⟨HDR.out _⟩⟩
            case round =>
              obtain ⟨hx, HW2⟩ := hrel
              clear c0 c3 r0 t0 t1 u0 HUI HDR
              rcases hx with rfl | ⟨p, hp, rfl, HP⟩
              · go_wp2
                refine ⟨⟨i + 1, by omega, by go_num, HW2⟩, ?_⟩
                simp [intOf]; omega
              · have HV : Bx (SV l wr B nb no nc tb rb fb ub s u) := ⟨by obtain ⟨k, e⟩ := HW2.out; rw [e]; exact HV0.out.drewN k⟩
                obtain ⟨ka3, kc3, hX3⟩ := HV.out.nds.at_ p hp
                have c0 := hX3.c0
                have t1 := HV.out.t1
                have u0 := HV.out.up p hp
                have HST : Bx _ := ⟨up_step HT.out HUP.out hp HP.out⟩
                clear hX3
                by_cases h20 : kdN l p = 20
                · have h20b : (ndN l p).kind = 20 := h20
                  rw [h20b] at c0
                  obtain ⟨fa, fc, f0, hfi⟩ := HV.out.free.at_ p hp
                  have d1 : ((-2 : Int) == (p : Int)) = false := by rw [beq_eq_false_iff_ne]; omega
                  obtain ⟨m1, m2⟩ := HFF.out.anc p h20 HP.out (fun e he => by omega)
                  have HHA : Bx (Calls Tryd.prog 12 #[.slice fa (frS s p).length fc, .int .i64 (-2)] wr fun e w' => e = .returned (.bool true) ∧ wr = w') := ⟨by have := has_any wr _ fa fc (frS s p) (-2) hfi; rw [decide_eq_true m1] at this; exact this⟩
                  generalize (frS s p).length = lf at *
                  clear hfi HV m1 m2
                  go_wp2_with (first | (go_at_call 12; refine Calls.mono HHA.out ?_; rintro e w9 ⟨rfl, rfl⟩))
                  exact ⟨⟨HST.out.1, HW2⟩, HST.out.2⟩
                · have d1 : ((ndN l p).kind != 20) = true := by rw [bne_iff_ne]; exact h20
                  generalize (ndN l p).kind = kd at *
                  clear HV
                  go_wp2
                  exact ⟨⟨HST.out.1, HW2⟩, HST.out.2⟩
        · as_aux_lemma =>
            rw [hF.here] at r0
            rw [hnm] at c3
            unfold outN at c3
            have HUI : Bx _ := ⟨(up_step HT.out HUP.out hlt (In.self (l := l) (p := i))).1⟩
            have HFF := Bx.mk hF
            have HDR : Bx (∀ n, ∃ k, wr.drewN n = W4.drewN k) := ⟨fun n => by obtain ⟨k, e⟩ := HW.out; exact ⟨k + n, by rw [e, World.drewN_drewN]⟩⟩
            clear hX hF hnm HV
            go_wp2
            have g1 : decide ((l.length : Int) ≤ -3) = false := decide_eq_false (by omega)
            go_big_quiet (fail)
            go_wp2
            go_loopw [8] (fun x wr2 => (x = .int .i64 (-1) ∨ ∃ p : Nat, p < l.length ∧ x = .int .i64 p ∧ Bx (In l p i)) ∧ Bx (∃ k, wr2 = W4.drewN k)) (fun x _ => upM l.length x)
            case atStart => exact ⟨HUI.out, ⟨HDR.out _⟩⟩
            case round =>
              obtain ⟨hx, HW2⟩ := hrel
              clear c0 c3 r0 t0 t1 u0 HUI HDR
              rcases hx with rfl | ⟨p, hp, rfl, HP⟩
              · go_wp2
                refine ⟨⟨i + 1, by omega, by go_num, HW2⟩, ?_⟩
                simp [intOf]; omega
              · have HV : Bx (SV l wr B nb no nc tb rb fb ub s u) := ⟨by obtain ⟨k, e⟩ := HW2.out; rw [e]; exact HV0.out.drewN k⟩
                obtain ⟨ka3, kc3, hX3⟩ := HV.out.nds.at_ p hp
                have c0 := hX3.c0
                have t1 := HV.out.t1
                have u0 := HV.out.up p hp
                have HST : Bx _ := ⟨up_step HT.out HUP.out hp HP.out⟩
                clear hX3
                by_cases h20 : kdN l p = 20
                · have h20b : (ndN l p).kind = 20 := h20
                  rw [h20b] at c0
                  obtain ⟨fa, fc, f0, hfi⟩ := HV.out.free.at_ p hp
                  have d1 : ((-3 : Int) == (p : Int)) = false := by rw [beq_eq_false_iff_ne]; omega
                  obtain ⟨m1, m2⟩ := HFF.out.anc p h20 HP.out (fun e he => by omega)
                  have HHA : Bx (Calls Tryd.prog 12 #[.slice fa (frS s p).length fc, .int .i64 (-3)] wr fun e w' => e = .returned (.bool true) ∧ wr = w') := ⟨by have := has_any wr _ fa fc (frS s p) (-3) hfi; rw [decide_eq_true m1] at this; exact this⟩
                  generalize (frS s p).length = lf at *
                  clear hfi HV m1 m2
                  go_wp2_with (first | (go_at_call 12; refine Calls.mono HHA.out ?_; rintro e w9 ⟨rfl, rfl⟩))
                  exact ⟨⟨HST.out.1, HW2⟩, HST.out.2⟩
                · have d1 : ((ndN l p).kind != 20) = true := by rw [bne_iff_ne]; exact h20
                  generalize (ndN l p).kind = kd at *
                  clear HV
                  go_wp2
                  exact ⟨⟨HST.out.1, HW2⟩, HST.out.2⟩
        · as_aux_lemma =>
            rw [hF.here] at r0
            obtain ⟨ka2, kc2, hX2⟩ := HV.out.nds.at_ d hd
            have c3d := hX2.c3
            rw [hnm] at c3
            generalize (ndN l d).name = nmd at *
            clear hX2
            have HUI : Bx _ := ⟨(up_step HT.out HUP.out hlt (In.self (l := l) (p := i))).1⟩
            have HFF := Bx.mk hF
            have HDR : Bx (∀ n, ∃ k, wr.drewN n = W4.drewN k) := ⟨fun n => by obtain ⟨k, e⟩ := HW.out; exact ⟨k + n, by rw [e, World.drewN_drewN]⟩⟩
            clear hX hF hnm HV
            go_wp2
            have gA : ((d : Int) == -1) = false := by rw [beq_eq_false_iff_ne]; omega
            have gB : decide ((d : Int) < -3) = false := decide_eq_false (by omega)
            have gC : decide ((l.length : Int) ≤ (d : Int)) = false := decide_eq_false (by omega)
            have gC2 : decide (l.length ≤ d) = false := decide_eq_false (by omega)
            have gD : decide ((0 : Int) ≤ (d : Int)) = true := decide_eq_true (by omega)
            have gE : ((d : Int) == -2) = false := by rw [beq_eq_false_iff_ne]; omega
            have gF : ((d : Int) == -3) = false := by rw [beq_eq_false_iff_ne]; omega
            have gG : (nmd.toList != nmd.toList) = false := by simp
            go_big_quiet (fail)
            go_wp2
            go_loopw [8] (fun x wr2 => (x = .int .i64 (-1) ∨ ∃ p : Nat, p < l.length ∧ x = .int .i64 p ∧ Bx (In l p i)) ∧ Bx (∃ k, wr2 = W4.drewN k)) (fun x _ => upM l.length x)
            case atStart => exact ⟨HUI.out, ⟨HDR.out _⟩⟩
            case round =>
              obtain ⟨hx, HW2⟩ := hrel
              clear c0 c3 r0 t0 t1 u0 HUI HDR c3d
              rcases hx with rfl | ⟨p, hp, rfl, HP⟩
              · go_wp2
                refine ⟨⟨i + 1, by omega, by go_num, HW2⟩, ?_⟩
                simp [intOf]; omega
              · have HV : Bx (SV l wr B nb no nc tb rb fb ub s u) := ⟨by obtain ⟨k, e⟩ := HW2.out; rw [e]; exact HV0.out.drewN k⟩
                obtain ⟨ka3, kc3, hX3⟩ := HV.out.nds.at_ p hp
                have c0 := hX3.c0
                have t1 := HV.out.t1
                have u0 := HV.out.up p hp
                have HST : Bx _ := ⟨up_step HT.out HUP.out hp HP.out⟩
                clear hX3
                by_cases h20 : kdN l p = 20
                · have h20b : (ndN l p).kind = 20 := h20
                  rw [h20b] at c0
                  obtain ⟨fa, fc, f0, hfi⟩ := HV.out.free.at_ p hp
                  by_cases hdp : d = p
                  · have d1 : ((d : Int) == (p : Int)) = true := by rw [hdp]; simp
                    clear hfi HV hdp
                    go_wp2
                    exact ⟨⟨HST.out.1, HW2⟩, HST.out.2⟩
                  · have d1 : ((d : Int) == (p : Int)) = false := by rw [beq_eq_false_iff_ne]; omega
                    obtain ⟨F, hFi⟩ := bool_of (In l p d)
                    have HWI : Bx _ := ⟨within_any HT.out HUP.out wr ub hl31 HV.out.up d p hd F hFi⟩
                    cases hFe : F with
                    | true =>
                      subst hFe
                      clear hfi HV hFi
                      go_wp2_with (first | (go_at_call 11; refine Calls.mono HWI.out ?_; rintro e w9 ⟨rfl, rfl⟩))
                      exact ⟨⟨HST.out.1, HW2⟩, HST.out.2⟩
                    | false =>
                      subst hFe
                      have hno : ∀ e : Nat, (d : Int) = e → ¬ In l p e := fun e he q => by
                        have : d = e := by omega
                        rw [← this] at q
                        exact absurd (hFi.2 q) (by simp)
                      obtain ⟨m1, m2⟩ := HFF.out.anc p h20 HP.out hno
                      have HHA : Bx (Calls Tryd.prog 12 #[.slice fa (frS s p).length fc, .int .i64 (d : Int)] wr fun e w' => e = .returned (.bool true) ∧ wr = w') := ⟨by have := has_any wr _ fa fc (frS s p) (d : Int) hfi; rw [decide_eq_true m1] at this; exact this⟩
                      generalize (frS s p).length = lf at *
                      obtain ⟨ka4, kc4, hX4⟩ := HV.out.nds.at_ d hd
                      have c0d := hX4.c0
                      have d2 : ((ndN l d).kind == 32) = false := by
                        unfold isVarP at m2
                        have : decide ((0 : Int) ≤ (d : Int)) = true := decide_eq_true (by omega)
                        rw [this, Bool.true_and] at m2
                        exact m2
                      generalize (ndN l d).kind = kd at *
                      clear hfi HV m1 m2 hX4 hFi hno
                      go_wp2_with (first | (go_at_call 11; refine Calls.mono HWI.out ?_; rintro e w9 ⟨rfl, rfl⟩) | (go_at_call 12; refine Calls.mono HHA.out ?_; rintro e w9 ⟨rfl, rfl⟩))
                      exact ⟨⟨HST.out.1, HW2⟩, HST.out.2⟩
                · have d1 : ((ndN l p).kind != 20) = true := by rw [bne_iff_ne]; exact h20
                  generalize (ndN l p).kind = kd at *
                  clear HV
                  go_wp2
                  exact ⟨⟨HST.out.1, HW2⟩, HST.out.2⟩
      · have d0 : ((ndN l i).kind != 13) = true := by rw [bne_iff_ne]; exact h13
        have rr : rf s i = -1 := Classical.byContradiction fun e => h13 (HSY.out.rr i e).1
        rw [rr] at r0
        clear HV hX c3 u0 t1
        go_wp2
        refine ⟨⟨i + 1, by omega, by go_num, HW⟩, ?_⟩
        simp [intOf]; omega
    · clear HAL
      go_wp2
      go_loopw [9] (fun x wr => ∃ p : Nat, p ≤ l.length ∧ x = .int .i64 p ∧ Bx (∃ k, wr = W4.drewN k)) (fun x _ => l.length - (intOf x).toNat)
      case atStart => exact ⟨0, Nat.zero_le _, rfl, HW⟩
      case round =>
        obtain ⟨p, hp, rfl, HW⟩ := hrel
        by_cases hlt2 : p < l.length
        · have HV : Bx (SV l wr B nb no nc tb rb fb ub s u) := ⟨by obtain ⟨k, e⟩ := HW.out; rw [e]; exact HV0.out.drewN k⟩
          obtain ⟨ka, kc, hX⟩ := HV.out.nds.at_ p hlt2
          have c0 := hX.c0
          have t1 := HV.out.t1
          obtain ⟨fa, fc, f0, hfi⟩ := HV.out.free.at_ p hlt2
          have hkl := ints_lenS hfi
          unfold maxLen at hkl
          by_cases h20 : kdN l p = 20
          · have h20b : (ndN l p).kind = 20 := h20
            rw [h20b] at c0
            clear hX hfi HV
            go_wp2
            go_loopw [10] (fun x wr => ∃ k : Nat, k ≤ (frS s p).length ∧ x = .int .i64 k ∧ Bx (∃ n, wr = W4.drewN n)) (fun x _ => (frS s p).length - (intOf x).toNat)
            case atStart => exact ⟨0, Nat.zero_le _, rfl, HW⟩
            case round =>
              clear c0 t1 f0
              obtain ⟨k, hk, rfl, HW⟩ := hrel
              have HV : Bx (SV l wr B nb no nc tb rb fb ub s u) := ⟨by obtain ⟨k, e⟩ := HW.out; rw [e]; exact HV0.out.drewN k⟩
              have t1 := HV.out.t1
              obtain ⟨fa, fc, f0, hfi⟩ := HV.out.free.at_ p hlt2
              by_cases hlt3 : k < (frS s p).length
              · obtain ⟨b, o, rfl, hbB, hfc, hcell⟩ := ints_cellsS hfi (by omega)
                have k1 := hcell k hlt3
                obtain ⟨n1, n2, n3⟩ := fr_facts HSY.out HT.out hlt3
                have HEX := Bx.mk n3
                have htl : ((frS s p).take k).length = k := by simp; omega
                have HHA : Bx (Calls Tryd.prog 12 #[.slice (some ⟨b, o, none⟩) k fc, .int .i64 (frS s p)[k]] wr fun e w' => e = .returned (.bool false) ∧ wr = w') := ⟨by
                  have := has_any wr _ (some ⟨b, o, none⟩) fc ((frS s p).take k) (frS s p)[k] (ints_take hfi (by omega))
                  rw [htl, decide_eq_false n1] at this
                  exact this⟩
                clear n1 n3 hfi hcell htl
                generalize hdk : (frS s p)[k] = dk at *
                clear hdk
                generalize (frS s p).length = lf at *
                by_cases h0d : 0 ≤ dk
                · as_aux_lemma =>
                    obtain ⟨d, rfl, hd, hnin, hk32⟩ : ∃ d : Nat, dk = d ∧ d < l.length ∧ ¬ In l p d ∧ ((ndN l d).kind == 32) = false := by
                      rcases n2 with e | e | e
                      · omega
                      · omega
                      · exact e
                    have g0 : ((d : Int) == (p : Int)) = false := by
                      rw [beq_eq_false_iff_ne]
                      intro e
                      have : d = p := by omega
                      exact hnin (by rw [this]; exact .self)
                    obtain ⟨ka4, kc4, hX4⟩ := HV.out.nds.at_ d hd
                    have c0d := hX4.c0
                    have HWI : Bx _ := ⟨within_any HT.out HUP.out wr ub hl31 HV.out.up d p hd false (by simp [hnin])⟩
                    generalize (ndN l d).kind = kd at *
                    clear n2 hX4 HV hnin
                    go_wp2_with (first | (go_at_call 11; refine Calls.mono HWI.out ?_; rintro e w9 ⟨rfl, rfl⟩) | (go_at_call 12; refine Calls.mono HHA.out ?_; rintro e w9 ⟨rfl, rfl⟩))
                    go_loopw [12, 13] (fun b x wr2 => ∃ i : Nat, ∃ bb : Bool, i ≤ l.length ∧ b = .bool bb ∧ x = .int .i64 i ∧ Bx ((bb = true ∨ ∀ j, j < i → ¬ (rf s j = (d : Int) ∧ In l p j)) ∧ ∃ n, wr2 = W4.drewN n)) (fun _ x _ => l.length - (intOf x).toNat)
                    case atStart => exact ⟨0, false, Nat.zero_le _, rfl, rfl, ⟨.inr fun j hj => absurd hj (by omega), HW.out⟩⟩
                    case round =>
                      obtain ⟨i, bb, hi2, rfl, rfl, HB⟩ := hrel
                      have HW3 : Bx (∃ n, wr = W4.drewN n) := ⟨HB.out.2⟩
                      have HV : Bx (SV l wr B nb no nc tb rb fb ub s u) := ⟨by obtain ⟨k, e⟩ := HW3.out; rw [e]; exact HV0.out.drewN k⟩
                      have t0 := HV.out.t0
                      by_cases hlt4 : i < l.length
                      · cases bb with
                        | true =>
                          clear HB HV
                          go_wp2
                          refine ⟨⟨k + 1, by omega, by go_num, HW3⟩, ?_⟩
                          simp [intOf]; omega
                        | false =>
                          have hno : ∀ j, j < i → ¬ (rf s j = (d : Int) ∧ In l p j) := by rcases HB.out.1 with q | q; cases q; exact q
                          have r0 := HV.out.ref i hlt4
                          by_cases he : rf s i = (d : Int)
                          · obtain ⟨F, hFi⟩ := bool_of (In l p i)
                            have HWI : Bx _ := ⟨within_any HT.out HUP.out wr ub hl31 HV.out.up i p hlt4 F hFi⟩
                            have HN : Bx ((F = true ∨ ∀ j, j < i + 1 → ¬ (rf s j = (d : Int) ∧ In l p j)) ∧ ∃ n, wr = W4.drewN n) := ⟨by
                              cases hh : F with
                              | true => exact .inl rfl
                              | false =>
                                right
                                intro j hj q
                                by_cases e : j = i
                                · rw [e] at q; rw [hFi.2 q.2] at hh; cases hh
                                · exact hno j (by omega) q, HW3.out⟩
                            rw [he] at r0
                            have g1 : ((d : Int) == (d : Int)) = true := by simp
                            clear HB HV hFi hno he
                            go_wp2_with (first | (go_at_call 11; refine Calls.mono HWI.out ?_; rintro e w9 ⟨rfl, rfl⟩))
                            refine ⟨⟨i + 1, F, by omega, rfl, by go_num, HN⟩, ?_⟩
                            simp [intOf]; omega
                          · have HN : Bx ((false = true ∨ ∀ j, j < i + 1 → ¬ (rf s j = (d : Int) ∧ In l p j)) ∧ ∃ n, wr = W4.drewN n) := ⟨.inr fun j hj q => by
                              by_cases e : j = i
                              · rw [e] at q; exact he q.1
                              · exact hno j (by omega) q, HW3.out⟩
                            have g1 : (rf s i == (d : Int)) = false := by rw [beq_eq_false_iff_ne]; exact he
                            generalize rf s i = ri at *
                            clear HB HV hno he
                            go_wp2
                            refine ⟨⟨i + 1, false, by omega, rfl, by go_num, HN⟩, ?_⟩
                            simp [intOf]; omega
                      · cases bb with
                        | true =>
                          clear HB HV
                          go_wp2
                          refine ⟨⟨k + 1, by omega, by go_num, HW3⟩, ?_⟩
                          simp [intOf]; omega
                        | false =>
                          exfalso
                          obtain ⟨j, h1, h2, h3⟩ := HEX.out
                          rcases HB.out.1 with q | q
                          · cases q
                          · exact q j (by omega) ⟨h2, h3⟩
                · as_aux_lemma =>
                    have g0 : (dk == (p : Int)) = false := by rw [beq_eq_false_iff_ne]; omega
                    have g2 : decide ((0 : Int) ≤ dk) = false := decide_eq_false h0d
                    clear n2 HV
                    go_wp2_with (first | (go_at_call 12; refine Calls.mono HHA.out ?_; rintro e w9 ⟨rfl, rfl⟩))
                    go_loopw [12, 13] (fun b x wr2 => ∃ i : Nat, ∃ bb : Bool, i ≤ l.length ∧ b = .bool bb ∧ x = .int .i64 i ∧ Bx ((bb = true ∨ ∀ j, j < i → ¬ (rf s j = dk ∧ In l p j)) ∧ ∃ n, wr2 = W4.drewN n)) (fun _ x _ => l.length - (intOf x).toNat)
                    case atStart => exact ⟨0, false, Nat.zero_le _, rfl, rfl, ⟨.inr fun j hj => absurd hj (by omega), HW.out⟩⟩
                    case round =>
                      obtain ⟨i, bb, hi2, rfl, rfl, HB⟩ := hrel
                      have HW3 : Bx (∃ n, wr = W4.drewN n) := ⟨HB.out.2⟩
                      have HV : Bx (SV l wr B nb no nc tb rb fb ub s u) := ⟨by obtain ⟨k, e⟩ := HW3.out; rw [e]; exact HV0.out.drewN k⟩
                      have t0 := HV.out.t0
                      by_cases hlt4 : i < l.length
                      · cases bb with
                        | true =>
                          clear HB HV
                          go_wp2
                          refine ⟨⟨k + 1, by omega, by go_num, HW3⟩, ?_⟩
                          simp [intOf]; omega
                        | false =>
                          have hno : ∀ j, j < i → ¬ (rf s j = dk ∧ In l p j) := by rcases HB.out.1 with q | q; cases q; exact q
                          have r0 := HV.out.ref i hlt4
                          by_cases he : rf s i = dk
                          · obtain ⟨F, hFi⟩ := bool_of (In l p i)
                            have HWI : Bx _ := ⟨within_any HT.out HUP.out wr ub hl31 HV.out.up i p hlt4 F hFi⟩
                            have HN : Bx ((F = true ∨ ∀ j, j < i + 1 → ¬ (rf s j = dk ∧ In l p j)) ∧ ∃ n, wr = W4.drewN n) := ⟨by
                              cases hh : F with
                              | true => exact .inl rfl
                              | false =>
                                right
                                intro j hj q
                                by_cases e : j = i
                                · rw [e] at q; rw [hFi.2 q.2] at hh; cases hh
                                · exact hno j (by omega) q, HW3.out⟩
                            rw [he] at r0
                            have g1 : (dk == dk) = true := by simp
                            clear HB HV hFi hno he
                            go_wp2_with (first | (go_at_call 11; refine Calls.mono HWI.out ?_; rintro e w9 ⟨rfl, rfl⟩))
                            refine ⟨⟨i + 1, F, by omega, rfl, by go_num, HN⟩, ?_⟩
                            simp [intOf]; omega
                          · have HN : Bx ((false = true ∨ ∀ j, j < i + 1 → ¬ (rf s j = dk ∧ In l p j)) ∧ ∃ n, wr = W4.drewN n) := ⟨.inr fun j hj q => by
                              by_cases e : j = i
                              · rw [e] at q; exact he q.1
                              · exact hno j (by omega) q, HW3.out⟩
                            have g1 : (rf s i == dk) = false := by rw [beq_eq_false_iff_ne]; exact he
                            generalize rf s i = ri at *
                            clear HB HV hno he
                            go_wp2
                            refine ⟨⟨i + 1, false, by omega, rfl, by go_num, HN⟩, ?_⟩
                            simp [intOf]; omega
                      · cases bb with
                        | true =>
                          clear HB HV
                          go_wp2
                          refine ⟨⟨k + 1, by omega, by go_num, HW3⟩, ?_⟩
                          simp [intOf]; omega
                        | false =>
                          exfalso
                          obtain ⟨j, h1, h2, h3⟩ := HEX.out
                          rcases HB.out.1 with q | q
                          · cases q
                          · exact q j (by omega) ⟨h2, h3⟩
              · clear hfi HV
                generalize (frS s p).length = lf at *
                go_wp2
                refine ⟨⟨p + 1, by omega, by go_num, HW⟩, ?_⟩
                simp [intOf]; omega
          · as_aux_lemma =>
              have d1 : ((ndN l p).kind != 20) = true := by rw [bne_iff_ne]; exact h20
              have hz : (frS s p).length = 0 := by
                cases e : frS s p with
                | nil => rfl
                | cons x r => exact absurd (HSY.out.fr p x (by rw [e]; simp)).1 h20
              rw [hz] at f0
              generalize (ndN l p).kind = kd at *
              clear hX hfi HV hz
              go_wp2
              go_loopw [10] (fun x wr => x = .int .i64 0 ∧ Bx (∃ n, wr = W4.drewN n)) (fun x _ => 0)
              case atStart => exact ⟨rfl, HW⟩
              case round =>
                clear t1 f0
                obtain ⟨rfl, HW⟩ := hrel
                have HV : Bx (SV l wr B nb no nc tb rb fb ub s u) := ⟨by obtain ⟨k, e⟩ := HW.out; rw [e]; exact HV0.out.drewN k⟩
                have t1 := HV.out.t1
                obtain ⟨fa, fc, f0, hfi⟩ := HV.out.free.at_ p hlt2
                have hz : (frS s p).length = 0 := by
                  cases e : frS s p with
                  | nil => rfl
                  | cons x r => exact absurd (HSY.out.fr p x (by rw [e]; simp)).1 h20
                rw [hz] at f0
                clear hfi HV hz
                go_wp2
                refine ⟨⟨p + 1, by omega, by go_num, HW⟩, ?_⟩
                simp [intOf]; omega
        · go_wp2
          go_ret
          obtain ⟨k, e⟩ := HW.out
          exact ⟨rfl, by rw [e]; exact drewN_bel HBW.out k⟩
end Go.Proofs.YtjjbgbadkbomlaaDoor
namespace Go.Proofs.YtjjbgbadkbomlaaDoor
open Go.RowKit
set_option linter.unusedVariables false
set_option linter.unusedSimpArgs false

set_option maxRecDepth 100000 in
set_option maxHeartbeats 2000000 in
theorem says_far (w : World) (a : Option Addr) (cap n : Nat) (HB : Calls Tryd.prog 7 #[.slice a n cap] w fun e w' => e = .returned (.bool true) ∧ w = w') :
    Calls Tryd.prog 3 #[.slice a n cap] w fun e w' => e = .returned (.bool true) ∧ Below w.heap.size w w' := by
  have HBY := Bx.mk HB
  clear HB
  go_enter Tryd.func3, Tryd.ntmps3
  go_wp2_with (first
    | (go_at_call 7; refine Calls.mono HBY.out ?_; rintro e w' ⟨rfl, rfl⟩; clear HBY))
  go_ret
  exact ⟨rfl, Below.refl _ _⟩
set_option maxRecDepth 100000 in
set_option maxHeartbeats 2000000 in
theorem says_bad (w : World) (B : Nat) (a : Option Addr) (cap : Nat) (l : List Nd) (hn : IsNodes w B a cap l) (hL : Laid w) (hl31 : l.length ≤ 2147483647) (hc : ¬ ((checkAll l).2 = 0 ∧ (namesS l).flt.2 = 0)) (HB : Calls Tryd.prog 7 #[.slice a l.length cap] w fun e w' => e = .returned (.bool false) ∧ w = w') :
    Calls Tryd.prog 3 #[.slice a l.length cap] w fun e w' => e = .returned (.bool true) ∧ Below w.heap.size w w' := by
  have HBY := Bx.mk HB
  have HSH := Bx.mk (shown_any w hL)
  have hB := hn.hi
  have HN1 : Bx (∀ W1, Below w.heap.size w W1 → _) := ⟨fun W1 b1 => names_bad (w := W1) (B := B) (a := a) (cap := cap) (l := l) (hn.below (b1.mono hB)) (hL.below b1) hl31 hc⟩
  unfold fltV nilNames at HN1
  clear HB hn hL hc
  generalize l.length = n at *
  have HE : Bx (∀ W1 W2 (o1 o2 : Obj), Below w.heap.size w W1 → Below W1.heap.size W1 W2 → Below w.heap.size w ((W2.alloc o1).alloc o2)) := ⟨fun W1 W2 o1 o2 b1 b2 => b1.trans ((b2.mono b1.size).trans (((Below.refl _ _).alloc (by have := b1.size; have := b2.size; omega) _).alloc (by have := b1.size; have := b2.size; simp; omega) _))⟩
  go_enter Tryd.func3, Tryd.ntmps3
  go_wp2_with (first
    | (go_at_call 7; refine Calls.mono HBY.out ?_; rintro e w' ⟨rfl, rfl⟩; clear HBY)
    | (go_at_call 8; refine Calls.mono HSH.out ?_; rintro e W1 ⟨rfl, b1⟩; replace b1 := Bx.mk b1; clear HSH)
    | (go_at_call 9; refine Calls.mono (HN1.out _ b1.out) ?_; rintro e W2 ⟨⟨p, c, hc, rfl⟩, b2⟩; replace b2 := Bx.mk b2; have e1 : (c != 0) = true := (by rw [bne_iff_ne]; exact hc); clear HN1))
  go_ret
  exact ⟨rfl, HE.out _ _ _ _ b1.out b2.out⟩
/-- **ScopeSays** -/
theorem says_walk (w : World) (a : Option Addr) (cap : Nat) (l : List Nd) (hn : IsNodes w w.heap.size a cap l) (hL : Laid w) :
    Calls Tryd.prog 3 #[.slice a l.length cap] w fun e w' => e = .returned (.bool true) ∧ Below w.heap.size w w' := by
  by_cases h0 : 0 < l.length
  · obtain ⟨nb, no, rfl, h⟩ := hn.at_ h0
    have hby := beyond_some w w.heap.size nb no cap l h
    by_cases hbk : 2147483647 < bulkL l
    · rw [decide_eq_true hbk] at hby
      exact says_far w _ cap l.length hby
    · rw [decide_eq_false hbk] at hby
      have hl31 : l.length ≤ 2147483647 := by have := bulk_len l; omega
      by_cases hc : (checkAll l).2 = 0 ∧ (namesS l).flt.2 = 0
      · exact says_ok w _ nb no cap l h hL h0 (by omega) hc.1 hc.2
      · exact says_bad w _ _ cap l hn hL hl31 hc hby
  · have hx : l = [] := List.eq_nil_of_length_eq_zero (by omega)
    subst hx
    exact says_bad w _ a cap [] hn hL (by simp) (fun h => by have := h.1; rw [check_no] at this; cases this) (beyond_none w a cap)
end Go.Proofs.YtjjbgbadkbomlaaDoor
