import Derived.Test.YtllgaholkminnaaDoorCKSame
import Derived.Test.YtllgaholkminnaaDoorCKLawP
import Derived.Test.YtllgaholkminnaaDoorCKOpenR
import Derived.Test.YtllgaholkminnaaDoorCKBey
namespace Go.Proofs.YtllgaholkminnaaDoor
open Go.RowKit
set_option linter.unusedVariables false
set_option linter.unusedSimpArgs false

set_option maxRecDepth 100000 in
set_option maxHeartbeats 40000000 in
theorem laws_yes (bc : Bool) (w : World) (nb no nc : Nat) (t : List Ty) (a b c : Int) (hn : Types w w.heap.size nb no nc t) (ha : I64 a) (hb : I64 b) (hc : I64 c) (hL : Laid w) (h0 : 0 < t.length) (hsm : t.length ≤ 300) (hby : beyondI 0 (lensT t) = false) (hv : validI t = true)
    (hbeyond : ∀ W x cap, IntsV W W.heap.size (.slice x t.length cap) (lensT t) → Calls Tryd.prog 8 #[.slice x t.length cap] W fun e w' => e = .returned (.bool false) ∧ W = w')
    (h3 : Three t (amongI a t.length) (amongI b t.length) (amongI c t.length) true bc bc) :
    Calls Tryd.prog 5 #[.slice (some ⟨nb, no, none⟩) t.length nc, .int .i64 a, .int .i64 b, .int .i64 c] w fun e w' => e = .returned (.bool true) ∧ Below w.heap.size w w' := by
  have hld := load_of_not_beyond hby
  have HS : Bx _ := ⟨shown_in w hL⟩
  have hb1' : ((t.length : Int) == 0) = false := by rw [beq_eq_false_iff_ne]; omega
  have hb2' : decide ((300 : Int) < t.length) = false := by simp; omega
  have HOR : Bx _ := ⟨ofRows_some w w.heap.size nb no nc t hn (by omega)⟩
  have HBY : Bx _ := ⟨hbeyond⟩
  have hA := among_lt a h0
  have hBB := among_lt b h0
  have hCC := among_lt c h0
  have HAM : Bx _ := ⟨fun (W : World) => And.intro (among_any W a t.length ha h0 (by omega)) (And.intro (among_any W b t.length hb h0 (by omega)) (among_any W c t.length hc h0 (by omega)))⟩
  have HVA : Bx (∀ W, Below w.heap.size w W → Calls Tryd.prog 12 #[.slice (some ⟨nb, no, none⟩) t.length nc] W fun e w' => e = .returned (.bool true) ∧ Below W.heap.size W w') := ⟨fun W hb => by have := Valid_some W w.heap.size nb no nc t (hn.below hb) h0; rw [hv] at this; exact this⟩
  generalize amongI a t.length = A at *
  generalize amongI b t.length = B at *
  generalize amongI c t.length = C at *
  have hab : Bis t A B := h3.ab.1 rfl
  have SAB : Bx _ := ⟨smC_of w w.heap.size nb no nc t A B hn hv hA hBB hld true h3.ab⟩
  have SBC : Bx _ := ⟨smC_of w w.heap.size nb no nc t B C hn hv hBB hCC hld bc h3.bc⟩
  have SAC : Bx _ := ⟨smC_of w w.heap.size nb no nc t A C hn hv hA hCC hld bc h3.ac⟩
  have SAA : Bx _ := ⟨smC_of w w.heap.size nb no nc t A A hn hv hA hA hld true (by simp [bis_refl])⟩
  have SBA : Bx _ := ⟨smC_of w w.heap.size nb no nc t B A hn hv hBB hA hld true (by simp [bis_symm hab])⟩
  have HKS : Bx (∀ k, k < (tyN t A).kids.length → SmC w nb no nc t (kidN t A k) (kidN t B k) true) := ⟨fun k hk => by
    have hal := (bis_is t A B hab).1
    obtain ⟨m, _, l1, e1⟩ := valid_kid hv hA hk
    obtain ⟨m', _, l2, e2⟩ := valid_kid hv hBB (k := k) (by rw [← hal.len]; exact hk)
    exact smC_of w w.heap.size nb no nc t _ _ hn hv (by rw [e1]; exact l1) (by rw [e2]; exact l2) hld true (by simp [(bis_is t A B hab).2 k hk])⟩
  have HN : Bx _ := ⟨hn⟩
  have HV : Bx _ := ⟨hv⟩
  have HAL : Bx _ := ⟨(bis_is t A B hab).1⟩
  have H3 : Bx _ := ⟨h3⟩
  have HLD : Bx _ := ⟨hld⟩
  have hnb := hn.lo
  have A1 : Bx True := ⟨trivial⟩
  have A2 : Bx True := ⟨trivial⟩
  have T1 : Bx True := ⟨trivial⟩
  have T2 : Bx True := ⟨trivial⟩
  have T3 : Bx True := ⟨trivial⟩
  have T4 : Bx True := ⟨trivial⟩
  clear hn hv hld hby hbeyond h3 hab hL ha hb hc
  cases bc
  · go_enter Tryd.func5, Tryd.ntmps5
    go_wp2_with (first
      | (go_at_call 9; refine Calls.mono HOR.out ?_; rintro e w1 ⟨a1, c1, rfl, ⟨hiv, hb1⟩⟩; have HIV : Bx _ := ⟨hiv⟩; clear hiv)
      | (go_at_call 8; refine Calls.mono (HBY.out _ _ _ HIV.out) ?_; rintro e w2 ⟨rfl, rfl⟩)
      | (go_at_call 10; refine Calls.mono (HS.out _ hb1) ?_; rintro e w3 ⟨rfl, hb3⟩; have hb4 := hb1.trans (hb3.mono hb1.size); clear hb3)
      | (go_at_call 17; have := A1; refine Calls.mono (HAM.out _).1 ?_; clear this A1; rintro e w5 ⟨rfl, rfl⟩)
      | (go_at_call 17; have := A2; refine Calls.mono (HAM.out _).2.1 ?_; clear this A2; rintro e w5 ⟨rfl, rfl⟩)
      | (go_at_call 17; refine Calls.mono (HAM.out _).2.2 ?_; rintro e w5 ⟨rfl, rfl⟩)
      | (go_at_call 12; refine Calls.mono (HVA.out _ hb4) ?_; rintro e w6 ⟨rfl, hb6⟩; have hb7 := hb4.trans (hb6.mono hb4.size); clear hb6)
      | (go_at_call 15; have := T1; refine Calls.mono (SAB.out _ hb7) ?_; clear this T1; rintro e w8 ⟨rfl, hb8⟩; have hb9 := hb7.trans (hb8.mono hb7.size); clear hb8)
      | (go_at_call 15; have := T2; refine Calls.mono (SBC.out _ hb9) ?_; clear this T2; rintro e w10 ⟨rfl, hb10⟩; have hb11 := hb9.trans (hb10.mono hb9.size); clear hb10)
      | (go_at_call 15; have := T3; refine Calls.mono (SAC.out _ hb11) ?_; clear this T3; rintro e w12 ⟨rfl, hb12⟩; have hb13 := hb11.trans (hb12.mono hb11.size); clear hb12)
      | (go_at_call 15; have := T4; refine Calls.mono (SAA.out _ hb13) ?_; clear this T4; rintro e w14 ⟨rfl, hb14⟩; have hb15 := hb13.trans (hb14.mono hb13.size); clear hb14)
      | (go_at_call 15; refine Calls.mono (SBA.out _ hb15) ?_; rintro e w16 ⟨rfl, hb16⟩; have hb17 := hb15.trans (hb16.mono hb15.size); clear hb16))
    have hNW := HN.out.below hb17
    obtain ⟨kx, kxc, hX⟩ := hNW.at_ A hA
    obtain ⟨ky, kyc, hY⟩ := hNW.at_ B hBB
    have x0 := hX.c0
    have x1 := hX.c1
    have x2 := hX.c2
    have y0 := hY.c0
    have y1 := hY.c1
    have y2 := hY.c2
    rw [← HAL.out.kind] at y0
    rw [← HAL.out.len] at y1
    rw [← HAL.out.res] at y2
    have hxl : (tyN t A).kids.length ≤ maxLen := by
      obtain ⟨_, _, _, _, h2, _⟩ := hX.kids.ex
      exact h2
    unfold maxLen at hxl
    have hcx : (tyN t A).kids.length ≤ kxc := by
      obtain ⟨_, _, he, h1, _, _⟩ := hX.kids.ex
      simp only [Value.slice.injEq, true_and] at he
      omega
    have hcy : (tyN t A).kids.length ≤ kyc := by
      obtain ⟨_, _, he, h1, _, _⟩ := hY.kids.ex
      simp only [Value.slice.injEq, true_and] at he
      rw [HAL.out.len]
      omega
    have hbw := hb17.size
    have HKX : Bx (∀ W, Below w16.heap.size w16 W → ∀ k, k < (tyN t A).kids.length → ∃ b1 o1 b2 o2, kx = some ⟨b1, o1, none⟩ ∧ ky = some ⟨b2, o2, none⟩ ∧ W.cell? ⟨b1, o1 + k, none⟩ = some (.int .i64 (kidN t A k : Nat)) ∧ W.cell? ⟨b2, o2 + k, none⟩ = some (.int .i64 (kidN t B k : Nat)) ∧ W.cell? ⟨nb, no + A * 3 + 1, none⟩ = some (.slice kx (tyN t A).kids.length kxc) ∧ W.cell? ⟨nb, no + B * 3 + 1, none⟩ = some (.slice ky (tyN t A).kids.length kyc)) := ⟨fun W hb k hk => by
      obtain ⟨b1, o1, e1, l1, g1, _⟩ := kid_in HV.out hA hX hk
      obtain ⟨b2, o2, e2, l2, g2, _⟩ := kid_in HV.out hBB hY (k := k) (by rw [← HAL.out.len]; exact hk)
      exact ⟨b1, o1, b2, o2, e1, e2, by rw [hb.cell (p := ⟨b1, o1 + k, none⟩) (by show b1 < _; omega)]; exact g1, by rw [hb.cell (p := ⟨b2, o2 + k, none⟩) (by show b2 < _; omega)]; exact g2, by rw [hb.cell (p := ⟨nb, no + A * 3 + 1, none⟩) (by show nb < _; omega)]; exact x1, by rw [hb.cell (p := ⟨nb, no + B * 3 + 1, none⟩) (by show nb < _; omega)]; exact y1⟩⟩
    have HX1 : Bx (∀ W, Below w16.heap.size w16 W → W.cell? ⟨nb, no + A * 3 + 1, none⟩ = some (.slice kx (tyN t A).kids.length kxc)) := ⟨fun W hb => by rw [hb.cell (p := ⟨nb, no + A * 3 + 1, none⟩) (by show nb < _; omega)]; exact x1⟩
    have HB17 : Bx _ := ⟨hb17⟩
    clear hX hY hNW SAB SBC SAC SAA SBA HVA HAM HIV HOR HBY HS hb1 hb4 hb7 hb9 hb11 hb13 hb15
    generalize hlx : (tyN t A).kids.length = lx at *
    generalize (tyN t A).kind = kd at *
    generalize (tyN t A).res = rs at *
    clear hlx
    go_region_held (fun w' => w'.cell? ⟨nb, no + A * 3, none⟩ = some (.int .i64 kd) ∧ w'.cell? ⟨nb, no + A * 3 + 1, none⟩ = some (.slice kx lx kxc) ∧ w'.cell? ⟨nb, no + A * 3 + 2, none⟩ = some (.bool rs) ∧ w'.cell? ⟨nb, no + B * 3, none⟩ = some (.int .i64 kd) ∧ w'.cell? ⟨nb, no + B * 3 + 1, none⟩ = some (.slice ky lx kyc) ∧ w'.cell? ⟨nb, no + B * 3 + 2, none⟩ = some (.bool rs)) (exact ⟨x0, x1, x2, y0, y1, y2⟩) (fail)
    clear x0 x1 x2 y0 y1 y2
    go_wp2
    go_loopw [15, 16] (fun x y wr => ∃ k : Nat, k ≤ lx ∧ x = .bool true ∧ y = .int .i64 k ∧ Bx (Below w16.heap.size w16 wr)) (fun _ y _ => lx - (intOf y).toNat)
    case atStart => exact ⟨0, Nat.zero_le _, rfl, rfl, ⟨(Below.refl _ _).drew⟩⟩
    case round =>
      obtain ⟨k, hk, rfl, rfl, HQ⟩ := hrel
      have z1 := HX1.out wr HQ.out
      have hbz := HQ.out.size
      by_cases hlt : k < lx
      · obtain ⟨b1, o1, b2, o2, rfl, rfl, g1, g2, g3, g4⟩ := HKX.out wr.drew HQ.out.drew k hlt
        have HSK : Bx (∀ W, Below w16.heap.size w16 W → Calls Tryd.prog 15 #[.slice (some ⟨nb, no, none⟩) t.length nc, .int .i64 (kidN t A k : Nat), .int .i64 (kidN t B k : Nat)] W fun e w' => e = .returned (.bool true) ∧ Below W.heap.size W w') := ⟨fun W hb => HKS.out k (by first | exact hlt | omega) W (HB17.out.trans (hb.mono hbw))⟩
        have HK4 : Bx (∀ W, Below w16.heap.size w16 W → W.cell? ⟨b1, o1 + k, none⟩ = some (.int .i64 (kidN t A k : Nat)) ∧ W.cell? ⟨b2, o2 + k, none⟩ = some (.int .i64 (kidN t B k : Nat)) ∧ W.cell? ⟨nb, no + A * 3 + 1, none⟩ = some (.slice (some ⟨b1, o1, none⟩) lx kxc) ∧ W.cell? ⟨nb, no + B * 3 + 1, none⟩ = some (.slice (some ⟨b2, o2, none⟩) lx kyc) ∧ Below w16.heap.size w16 W) := ⟨fun W hb => by
          obtain ⟨c1, d1, c2, d2, e1, e2, q1, q2, q3, q4⟩ := HKX.out W hb k hlt
          simp only [Option.some.injEq, Addr.mk.injEq, and_true] at e1 e2
          obtain ⟨rfl, rfl⟩ := e1
          obtain ⟨rfl, rfl⟩ := e2
          exact ⟨q1, q2, q3, q4, hb⟩⟩
        clear g1 g2 g3 g4
        generalize kidN t A k = ka at *
        generalize kidN t B k = kb at *
        have hq0 := HQ.out
        go_wp2_with fail
        go_region_held (fun w' => w'.cell? ⟨b1, o1 + k, none⟩ = some (.int .i64 (ka : Nat)) ∧ w'.cell? ⟨b2, o2 + k, none⟩ = some (.int .i64 (kb : Nat)) ∧ w'.cell? ⟨nb, no + A * 3 + 1, none⟩ = some (.slice (some ⟨b1, o1, none⟩) lx kxc) ∧ w'.cell? ⟨nb, no + B * 3 + 1, none⟩ = some (.slice (some ⟨b2, o2, none⟩) lx kyc) ∧ Below w16.heap.size w16 w')
          (first | exact HK4.out _ hq0.drew | exact HK4.out _ hq6)
          (first | (go_at_call 15; refine Calls.mono (HSK.out _ hq0.drew) ?_; rintro e w20 ⟨rfl, hb20⟩; have hq6 := hq0.drew.trans (hb20.mono hq0.drew.size); clear hb20))
        all_goals
          have HQ6 : Bx _ := ⟨hq6⟩
          go_wp2
          go_roundw
          case rel => exact ⟨k + 1, by omega, rfl, by go_num, HQ6⟩
          case measure => simp [intOf]; omega
      · have hke : k = lx := by omega
        subst hke
        have HBW : Bx (Below w.heap.size w wr) := ⟨HB17.out.trans (HQ.out.mono hbw)⟩
        have HOWN : Bx _ := ⟨ownRows_own wr wr.heap.size nb no nc t ((HN.out.below HBW.out).mono HBW.out.size (Nat.le_refl _)) HLD.out⟩
        clear HKX HX1 HKS HQ
        go_wp2_with (first | (go_at_call 11; refine Calls.mono HOWN.out ?_; rintro e w21 ⟨rfl, gs, hO, hb21⟩; have HO : Bx _ := ⟨hO⟩; have HB21 : Bx _ := ⟨hb21⟩; clear hO))
        have hsz21 := hb21.size
        have hHw : w.heap.size ≤ wr.heap.size := HBW.out.size
        have HB22 : Bx (∀ W, Below wr.heap.size w21 W → Below w.heap.size w W) := ⟨fun W hb => (HBW.out.trans (HB21.out.mono hHw)).trans (hb.mono hHw)⟩
        clear hb21 z1 hbz hb17 HB17 HBW HOWN HB21
        generalize wr.heap.size = HH at *
        go_loopw [18] (fun x wr2 => ∃ i : Nat, i ≤ t.length ∧ x = .int .i64 i ∧ Bx (OwT wr2 HH 0 (swapT t A B i) gs (swapT t A B i).length ∧ Below HH w21 wr2)) (fun x _ => t.length - (intOf x).toNat)
        case atStart => exact ⟨0, Nat.zero_le _, rfl, ⟨by rw [swapT_zero]; exact HO.out, Below.refl _ _⟩⟩
        case round =>
          obtain ⟨i, hi, rfl, HQ2⟩ := hrel
          clear HO
          by_cases hlt2 : i < t.length
          · have HM0 : Bx (OwT wr HH 0 (midT t A B i 0) gs (midT t A B i 0).length ∧ Below HH w21 wr) := ⟨by rw [mid_zero]; exact HQ2.out.1, HQ2.out.2⟩
            have hkm : (tyN t i).kids.length ≤ 2147483646 := kids_few HLD.out hlt2
            clear HQ2
            go_wp2
            go_loopw [19] (fun y wr3 => ∃ k : Nat, k ≤ (tyN t i).kids.length ∧ y = .int .i64 k ∧ Bx (OwT wr3 HH 0 (midT t A B i k) gs (midT t A B i k).length ∧ Below HH w21 wr3)) (fun y _ => (tyN t i).kids.length - (intOf y).toNat)
            case atStart => exact ⟨0, Nat.zero_le _, rfl, HM0⟩
            case round =>
              obtain ⟨k, hk2, rfl, HQ3⟩ := hrel
              clear HM0
              obtain ⟨p1, p2, p3, p4, p5⟩ := HQ3.out.1.at_ (i := i) (by rw [midT_len]; exact hlt2)
              rw [mid_kids hlt2] at p1 p5
              simp only [swapTo_len] at p1
              by_cases hlt3 : k < (tyN t i).kids.length
              · have p6 := p5 k _ (swapTo_at hlt3)
                have p7 := p4 k
                obtain ⟨m, hm, hml, _⟩ := valid_kid HV.out hlt2 hlt3
                have HKP : Bx (¬ ((tyN t i).kids[k] = (A : Int) ∧ (i + k) % 2 = 0) → OwT wr HH 0 (midT t A B i (k + 1)) gs (midT t A B i (k + 1)).length ∧ Below HH w21 wr) := ⟨fun h => ⟨by rw [mid_keep hlt2 hlt3 h]; exact HQ3.out.1, HQ3.out.2⟩⟩
                have HSW : Bx ((tyN t i).kids[k] = (A : Int) ∧ (i + k) % 2 = 0 → OwT (wr.setCell ⟨gs i, k, none⟩ (.int .i64 (B : Nat))) HH 0 (midT t A B i (k + 1)) gs (midT t A B i (k + 1)).length ∧ Below HH w21 (wr.setCell ⟨gs i, k, none⟩ (.int .i64 (B : Nat)))) := ⟨fun h => ⟨HQ3.out.1.swap hlt2 hlt3 h, Below.setCell (p := ⟨gs i, k, none⟩) HQ3.out.2 (by show HH ≤ gs i; have := HQ3.out.1.lo i (by rw [midT_len]; exact hlt2); omega) _⟩⟩
                rw [hm] at p6 HKP HSW
                clear p4 p5 HQ3 hm
                generalize (tyN t i).kids.length = li at *
                generalize gs i = gi at *
                by_cases e1 : m = A
                · subst e1
                  by_cases e2 : (i + k) % 2 = 0
                  · have e2' : ((((i : Int) + (k : Int)) % 2) == 0) = true := by simp; omega
                    have HX9 : Bx _ := ⟨HSW.out ⟨rfl, e2⟩⟩
                    clear HKP HSW
                    go_wp2
                    go_roundw
                    case rel => exact ⟨k + 1, by omega, by go_num, HX9⟩
                    case measure => simp [intOf]; omega
                  · have e2' : ((((i : Int) + (k : Int)) % 2) == 0) = false := by rw [beq_eq_false_iff_ne]; omega
                    have HX9 : Bx _ := ⟨HKP.out fun h => e2 h.2⟩
                    clear HKP HSW
                    go_wp2
                    go_roundw
                    case rel => exact ⟨k + 1, by omega, by go_num, HX9⟩
                    case measure => simp [intOf]; omega
                · have e1' : ((m : Int) == (A : Int)) = false := by rw [beq_eq_false_iff_ne]; omega
                  have HX9 : Bx _ := ⟨HKP.out fun h => e1 (by omega)⟩
                  clear HKP HSW
                  go_wp2
                  go_roundw
                  case rel => exact ⟨k + 1, by omega, by go_num, HX9⟩
                  case measure => simp [intOf]; omega
              · have HX8 : Bx (OwT wr HH 0 (swapT t A B (i + 1)) gs (swapT t A B (i + 1)).length ∧ Below HH w21 wr) := ⟨by
                  have := HQ3.out.1
                  rw [show k = (tyN t i).kids.length by omega, mid_end] at this
                  exact this, HQ3.out.2⟩
                have hlt3' : ¬ (k : Int) < ((tyN t i).kids.length : Int) := by omega
                clear p4 p5 HQ3
                generalize (tyN t i).kids.length = li at *
                go_wp2
                go_roundw
                case rel => exact ⟨i + 1, by omega, by go_num, HX8⟩
                case measure => simp [intOf]; omega
          · have hie : i = t.length := by omega
            subst hie
            have hTT : Types wr wr.heap.size HH 0 (t.length + 1) (swapT t A B t.length) := by
              have := HQ2.out.1.types (swap_wf HN.out.wf hBB hsm) (fun j hj => by rw [swapT_len] at hj; rw [(swapT_alike (t := t) (a := A) (b := B) (n := t.length) (i := j)).len]; have := kids_few HLD.out hj; unfold maxLen; omega) (by rw [swapT_len]; unfold maxLen; omega)
              rw [swapT_len] at this
              exact this
            have hvv := swap_valid (t := t) (a := A) (b := B) (n := t.length) HV.out hBB
            have hll : load (swapT t A B t.length) id ≤ 2147483647 := by rw [swap_load]; exact HLD.out
            have hsl := swapT_len t A B t.length
            have hab := H3.out.ab.1 rfl
            have U1 : Bx (SmC wr HH 0 (t.length + 1) (swapT t A B t.length) C A false) := ⟨smC_of wr wr.heap.size HH 0 (t.length + 1) _ C A hTT hvv (by omega) (by omega) hll _ (by rw [swap_bis HV.out hA hBB hab hCC hA]; exact ⟨fun h => bis_symm (H3.out.ac.1 h), fun h => H3.out.ac.2 (bis_symm h)⟩)⟩
            have U2 : Bx (SmC wr HH 0 (t.length + 1) (swapT t A B t.length) B C false) := ⟨smC_of wr wr.heap.size HH 0 (t.length + 1) _ B C hTT hvv (by omega) (by omega) hll _ (by rw [swap_bis HV.out hA hBB hab hBB hCC]; exact H3.out.bc)⟩
            have U3 : Bx (SmC wr HH 0 (t.length + 1) (swapT t A B t.length) A B true) := ⟨smC_of wr wr.heap.size HH 0 (t.length + 1) _ A B hTT hvv (by omega) (by omega) hll _ (by rw [swap_bis HV.out hA hBB hab hA hBB]; exact H3.out.ab)⟩
            unfold SmC at U1 U2 U3
            rw [hsl] at U1 U2 U3
            have V1 : Bx True := ⟨trivial⟩
            have V2 : Bx True := ⟨trivial⟩
            have HBZ : Bx _ := ⟨HB22.out _ HQ2.out.2⟩
            clear hTT hvv hll hsl hab HQ2 HB22
            go_wp2_with (first
              | (go_at_call 15; have := V1; refine Calls.mono (U1.out _ (Below.refl _ _)) ?_; clear this V1; rintro e w30 ⟨rfl, hb30⟩)
              | (go_at_call 15; have := V2; refine Calls.mono (U2.out _ hb30) ?_; clear this V2; rintro e w31 ⟨rfl, hb31⟩; have hb32 := hb30.trans (hb31.mono hb30.size); clear hb31)
              | (go_at_call 15; refine Calls.mono (U3.out _ hb32) ?_; rintro e w33 ⟨rfl, hb33⟩; have hb34 := hb32.trans (hb33.mono hb32.size); clear hb33))
            go_ret
            exact ⟨rfl, HBZ.out.trans (hb34.mono HBZ.out.size)⟩
  · go_enter Tryd.func5, Tryd.ntmps5
    go_wp2_with (first
      | (go_at_call 9; refine Calls.mono HOR.out ?_; rintro e w1 ⟨a1, c1, rfl, ⟨hiv, hb1⟩⟩; have HIV : Bx _ := ⟨hiv⟩; clear hiv)
      | (go_at_call 8; refine Calls.mono (HBY.out _ _ _ HIV.out) ?_; rintro e w2 ⟨rfl, rfl⟩)
      | (go_at_call 10; refine Calls.mono (HS.out _ hb1) ?_; rintro e w3 ⟨rfl, hb3⟩; have hb4 := hb1.trans (hb3.mono hb1.size); clear hb3)
      | (go_at_call 17; have := A1; refine Calls.mono (HAM.out _).1 ?_; clear this A1; rintro e w5 ⟨rfl, rfl⟩)
      | (go_at_call 17; have := A2; refine Calls.mono (HAM.out _).2.1 ?_; clear this A2; rintro e w5 ⟨rfl, rfl⟩)
      | (go_at_call 17; refine Calls.mono (HAM.out _).2.2 ?_; rintro e w5 ⟨rfl, rfl⟩)
      | (go_at_call 12; refine Calls.mono (HVA.out _ hb4) ?_; rintro e w6 ⟨rfl, hb6⟩; have hb7 := hb4.trans (hb6.mono hb4.size); clear hb6)
      | (go_at_call 15; have := T1; refine Calls.mono (SAB.out _ hb7) ?_; clear this T1; rintro e w8 ⟨rfl, hb8⟩; have hb9 := hb7.trans (hb8.mono hb7.size); clear hb8)
      | (go_at_call 15; have := T2; refine Calls.mono (SBC.out _ hb9) ?_; clear this T2; rintro e w10 ⟨rfl, hb10⟩; have hb11 := hb9.trans (hb10.mono hb9.size); clear hb10)
      | (go_at_call 15; have := T3; refine Calls.mono (SAC.out _ hb11) ?_; clear this T3; rintro e w12 ⟨rfl, hb12⟩; have hb13 := hb11.trans (hb12.mono hb11.size); clear hb12)
      | (go_at_call 15; have := T4; refine Calls.mono (SAA.out _ hb13) ?_; clear this T4; rintro e w14 ⟨rfl, hb14⟩; have hb15 := hb13.trans (hb14.mono hb13.size); clear hb14)
      | (go_at_call 15; refine Calls.mono (SBA.out _ hb15) ?_; rintro e w16 ⟨rfl, hb16⟩; have hb17 := hb15.trans (hb16.mono hb15.size); clear hb16))
    have hNW := HN.out.below hb17
    obtain ⟨kx, kxc, hX⟩ := hNW.at_ A hA
    obtain ⟨ky, kyc, hY⟩ := hNW.at_ B hBB
    have x0 := hX.c0
    have x1 := hX.c1
    have x2 := hX.c2
    have y0 := hY.c0
    have y1 := hY.c1
    have y2 := hY.c2
    rw [← HAL.out.kind] at y0
    rw [← HAL.out.len] at y1
    rw [← HAL.out.res] at y2
    have hxl : (tyN t A).kids.length ≤ maxLen := by
      obtain ⟨_, _, _, _, h2, _⟩ := hX.kids.ex
      exact h2
    unfold maxLen at hxl
    have hcx : (tyN t A).kids.length ≤ kxc := by
      obtain ⟨_, _, he, h1, _, _⟩ := hX.kids.ex
      simp only [Value.slice.injEq, true_and] at he
      omega
    have hcy : (tyN t A).kids.length ≤ kyc := by
      obtain ⟨_, _, he, h1, _, _⟩ := hY.kids.ex
      simp only [Value.slice.injEq, true_and] at he
      rw [HAL.out.len]
      omega
    have hbw := hb17.size
    have HKX : Bx (∀ W, Below w16.heap.size w16 W → ∀ k, k < (tyN t A).kids.length → ∃ b1 o1 b2 o2, kx = some ⟨b1, o1, none⟩ ∧ ky = some ⟨b2, o2, none⟩ ∧ W.cell? ⟨b1, o1 + k, none⟩ = some (.int .i64 (kidN t A k : Nat)) ∧ W.cell? ⟨b2, o2 + k, none⟩ = some (.int .i64 (kidN t B k : Nat)) ∧ W.cell? ⟨nb, no + A * 3 + 1, none⟩ = some (.slice kx (tyN t A).kids.length kxc) ∧ W.cell? ⟨nb, no + B * 3 + 1, none⟩ = some (.slice ky (tyN t A).kids.length kyc)) := ⟨fun W hb k hk => by
      obtain ⟨b1, o1, e1, l1, g1, _⟩ := kid_in HV.out hA hX hk
      obtain ⟨b2, o2, e2, l2, g2, _⟩ := kid_in HV.out hBB hY (k := k) (by rw [← HAL.out.len]; exact hk)
      exact ⟨b1, o1, b2, o2, e1, e2, by rw [hb.cell (p := ⟨b1, o1 + k, none⟩) (by show b1 < _; omega)]; exact g1, by rw [hb.cell (p := ⟨b2, o2 + k, none⟩) (by show b2 < _; omega)]; exact g2, by rw [hb.cell (p := ⟨nb, no + A * 3 + 1, none⟩) (by show nb < _; omega)]; exact x1, by rw [hb.cell (p := ⟨nb, no + B * 3 + 1, none⟩) (by show nb < _; omega)]; exact y1⟩⟩
    have HX1 : Bx (∀ W, Below w16.heap.size w16 W → W.cell? ⟨nb, no + A * 3 + 1, none⟩ = some (.slice kx (tyN t A).kids.length kxc)) := ⟨fun W hb => by rw [hb.cell (p := ⟨nb, no + A * 3 + 1, none⟩) (by show nb < _; omega)]; exact x1⟩
    have HB17 : Bx _ := ⟨hb17⟩
    clear hX hY hNW SAB SBC SAC SAA SBA HVA HAM HIV HOR HBY HS hb1 hb4 hb7 hb9 hb11 hb13 hb15
    generalize hlx : (tyN t A).kids.length = lx at *
    generalize (tyN t A).kind = kd at *
    generalize (tyN t A).res = rs at *
    clear hlx
    go_region_held (fun w' => w'.cell? ⟨nb, no + A * 3, none⟩ = some (.int .i64 kd) ∧ w'.cell? ⟨nb, no + A * 3 + 1, none⟩ = some (.slice kx lx kxc) ∧ w'.cell? ⟨nb, no + A * 3 + 2, none⟩ = some (.bool rs) ∧ w'.cell? ⟨nb, no + B * 3, none⟩ = some (.int .i64 kd) ∧ w'.cell? ⟨nb, no + B * 3 + 1, none⟩ = some (.slice ky lx kyc) ∧ w'.cell? ⟨nb, no + B * 3 + 2, none⟩ = some (.bool rs)) (exact ⟨x0, x1, x2, y0, y1, y2⟩) (fail)
    clear x0 x1 x2 y0 y1 y2
    go_wp2
    go_loopw [15, 16] (fun x y wr => ∃ k : Nat, k ≤ lx ∧ x = .bool true ∧ y = .int .i64 k ∧ Bx (Below w16.heap.size w16 wr)) (fun _ y _ => lx - (intOf y).toNat)
    case atStart => exact ⟨0, Nat.zero_le _, rfl, rfl, ⟨(Below.refl _ _).drew⟩⟩
    case round =>
      obtain ⟨k, hk, rfl, rfl, HQ⟩ := hrel
      have z1 := HX1.out wr HQ.out
      have hbz := HQ.out.size
      by_cases hlt : k < lx
      · obtain ⟨b1, o1, b2, o2, rfl, rfl, g1, g2, g3, g4⟩ := HKX.out wr.drew HQ.out.drew k hlt
        have HSK : Bx (∀ W, Below w16.heap.size w16 W → Calls Tryd.prog 15 #[.slice (some ⟨nb, no, none⟩) t.length nc, .int .i64 (kidN t A k : Nat), .int .i64 (kidN t B k : Nat)] W fun e w' => e = .returned (.bool true) ∧ Below W.heap.size W w') := ⟨fun W hb => HKS.out k (by first | exact hlt | omega) W (HB17.out.trans (hb.mono hbw))⟩
        have HK4 : Bx (∀ W, Below w16.heap.size w16 W → W.cell? ⟨b1, o1 + k, none⟩ = some (.int .i64 (kidN t A k : Nat)) ∧ W.cell? ⟨b2, o2 + k, none⟩ = some (.int .i64 (kidN t B k : Nat)) ∧ W.cell? ⟨nb, no + A * 3 + 1, none⟩ = some (.slice (some ⟨b1, o1, none⟩) lx kxc) ∧ W.cell? ⟨nb, no + B * 3 + 1, none⟩ = some (.slice (some ⟨b2, o2, none⟩) lx kyc) ∧ Below w16.heap.size w16 W) := ⟨fun W hb => by
          obtain ⟨c1, d1, c2, d2, e1, e2, q1, q2, q3, q4⟩ := HKX.out W hb k hlt
          simp only [Option.some.injEq, Addr.mk.injEq, and_true] at e1 e2
          obtain ⟨rfl, rfl⟩ := e1
          obtain ⟨rfl, rfl⟩ := e2
          exact ⟨q1, q2, q3, q4, hb⟩⟩
        clear g1 g2 g3 g4
        generalize kidN t A k = ka at *
        generalize kidN t B k = kb at *
        have hq0 := HQ.out
        go_wp2_with fail
        go_region_held (fun w' => w'.cell? ⟨b1, o1 + k, none⟩ = some (.int .i64 (ka : Nat)) ∧ w'.cell? ⟨b2, o2 + k, none⟩ = some (.int .i64 (kb : Nat)) ∧ w'.cell? ⟨nb, no + A * 3 + 1, none⟩ = some (.slice (some ⟨b1, o1, none⟩) lx kxc) ∧ w'.cell? ⟨nb, no + B * 3 + 1, none⟩ = some (.slice (some ⟨b2, o2, none⟩) lx kyc) ∧ Below w16.heap.size w16 w')
          (first | exact HK4.out _ hq0.drew | exact HK4.out _ hq6)
          (first | (go_at_call 15; refine Calls.mono (HSK.out _ hq0.drew) ?_; rintro e w20 ⟨rfl, hb20⟩; have hq6 := hq0.drew.trans (hb20.mono hq0.drew.size); clear hb20))
        all_goals
          have HQ6 : Bx _ := ⟨hq6⟩
          go_wp2
          go_roundw
          case rel => exact ⟨k + 1, by omega, rfl, by go_num, HQ6⟩
          case measure => simp [intOf]; omega
      · have hke : k = lx := by omega
        subst hke
        have HBW : Bx (Below w.heap.size w wr) := ⟨HB17.out.trans (HQ.out.mono hbw)⟩
        have HOWN : Bx _ := ⟨ownRows_own wr wr.heap.size nb no nc t ((HN.out.below HBW.out).mono HBW.out.size (Nat.le_refl _)) HLD.out⟩
        clear HKX HX1 HKS HQ
        go_wp2_with (first | (go_at_call 11; refine Calls.mono HOWN.out ?_; rintro e w21 ⟨rfl, gs, hO, hb21⟩; have HO : Bx _ := ⟨hO⟩; have HB21 : Bx _ := ⟨hb21⟩; clear hO))
        have hsz21 := hb21.size
        have hHw : w.heap.size ≤ wr.heap.size := HBW.out.size
        have HB22 : Bx (∀ W, Below wr.heap.size w21 W → Below w.heap.size w W) := ⟨fun W hb => (HBW.out.trans (HB21.out.mono hHw)).trans (hb.mono hHw)⟩
        clear hb21 z1 hbz hb17 HB17 HBW HOWN HB21
        generalize wr.heap.size = HH at *
        go_loopw [18] (fun x wr2 => ∃ i : Nat, i ≤ t.length ∧ x = .int .i64 i ∧ Bx (OwT wr2 HH 0 (swapT t A B i) gs (swapT t A B i).length ∧ Below HH w21 wr2)) (fun x _ => t.length - (intOf x).toNat)
        case atStart => exact ⟨0, Nat.zero_le _, rfl, ⟨by rw [swapT_zero]; exact HO.out, Below.refl _ _⟩⟩
        case round =>
          obtain ⟨i, hi, rfl, HQ2⟩ := hrel
          clear HO
          by_cases hlt2 : i < t.length
          · have HM0 : Bx (OwT wr HH 0 (midT t A B i 0) gs (midT t A B i 0).length ∧ Below HH w21 wr) := ⟨by rw [mid_zero]; exact HQ2.out.1, HQ2.out.2⟩
            have hkm : (tyN t i).kids.length ≤ 2147483646 := kids_few HLD.out hlt2
            clear HQ2
            go_wp2
            go_loopw [19] (fun y wr3 => ∃ k : Nat, k ≤ (tyN t i).kids.length ∧ y = .int .i64 k ∧ Bx (OwT wr3 HH 0 (midT t A B i k) gs (midT t A B i k).length ∧ Below HH w21 wr3)) (fun y _ => (tyN t i).kids.length - (intOf y).toNat)
            case atStart => exact ⟨0, Nat.zero_le _, rfl, HM0⟩
            case round =>
              obtain ⟨k, hk2, rfl, HQ3⟩ := hrel
              clear HM0
              obtain ⟨p1, p2, p3, p4, p5⟩ := HQ3.out.1.at_ (i := i) (by rw [midT_len]; exact hlt2)
              rw [mid_kids hlt2] at p1 p5
              simp only [swapTo_len] at p1
              by_cases hlt3 : k < (tyN t i).kids.length
              · have p6 := p5 k _ (swapTo_at hlt3)
                have p7 := p4 k
                obtain ⟨m, hm, hml, _⟩ := valid_kid HV.out hlt2 hlt3
                have HKP : Bx (¬ ((tyN t i).kids[k] = (A : Int) ∧ (i + k) % 2 = 0) → OwT wr HH 0 (midT t A B i (k + 1)) gs (midT t A B i (k + 1)).length ∧ Below HH w21 wr) := ⟨fun h => ⟨by rw [mid_keep hlt2 hlt3 h]; exact HQ3.out.1, HQ3.out.2⟩⟩
                have HSW : Bx ((tyN t i).kids[k] = (A : Int) ∧ (i + k) % 2 = 0 → OwT (wr.setCell ⟨gs i, k, none⟩ (.int .i64 (B : Nat))) HH 0 (midT t A B i (k + 1)) gs (midT t A B i (k + 1)).length ∧ Below HH w21 (wr.setCell ⟨gs i, k, none⟩ (.int .i64 (B : Nat)))) := ⟨fun h => ⟨HQ3.out.1.swap hlt2 hlt3 h, Below.setCell (p := ⟨gs i, k, none⟩) HQ3.out.2 (by show HH ≤ gs i; have := HQ3.out.1.lo i (by rw [midT_len]; exact hlt2); omega) _⟩⟩
                rw [hm] at p6 HKP HSW
                clear p4 p5 HQ3 hm
                generalize (tyN t i).kids.length = li at *
                generalize gs i = gi at *
                by_cases e1 : m = A
                · subst e1
                  by_cases e2 : (i + k) % 2 = 0
                  · have e2' : ((((i : Int) + (k : Int)) % 2) == 0) = true := by simp; omega
                    have HX9 : Bx _ := ⟨HSW.out ⟨rfl, e2⟩⟩
                    clear HKP HSW
                    go_wp2
                    go_roundw
                    case rel => exact ⟨k + 1, by omega, by go_num, HX9⟩
                    case measure => simp [intOf]; omega
                  · have e2' : ((((i : Int) + (k : Int)) % 2) == 0) = false := by rw [beq_eq_false_iff_ne]; omega
                    have HX9 : Bx _ := ⟨HKP.out fun h => e2 h.2⟩
                    clear HKP HSW
                    go_wp2
                    go_roundw
                    case rel => exact ⟨k + 1, by omega, by go_num, HX9⟩
                    case measure => simp [intOf]; omega
                · have e1' : ((m : Int) == (A : Int)) = false := by rw [beq_eq_false_iff_ne]; omega
                  have HX9 : Bx _ := ⟨HKP.out fun h => e1 (by omega)⟩
                  clear HKP HSW
                  go_wp2
                  go_roundw
                  case rel => exact ⟨k + 1, by omega, by go_num, HX9⟩
                  case measure => simp [intOf]; omega
              · have HX8 : Bx (OwT wr HH 0 (swapT t A B (i + 1)) gs (swapT t A B (i + 1)).length ∧ Below HH w21 wr) := ⟨by
                  have := HQ3.out.1
                  rw [show k = (tyN t i).kids.length by omega, mid_end] at this
                  exact this, HQ3.out.2⟩
                have hlt3' : ¬ (k : Int) < ((tyN t i).kids.length : Int) := by omega
                clear p4 p5 HQ3
                generalize (tyN t i).kids.length = li at *
                go_wp2
                go_roundw
                case rel => exact ⟨i + 1, by omega, by go_num, HX8⟩
                case measure => simp [intOf]; omega
          · have hie : i = t.length := by omega
            subst hie
            have hTT : Types wr wr.heap.size HH 0 (t.length + 1) (swapT t A B t.length) := by
              have := HQ2.out.1.types (swap_wf HN.out.wf hBB hsm) (fun j hj => by rw [swapT_len] at hj; rw [(swapT_alike (t := t) (a := A) (b := B) (n := t.length) (i := j)).len]; have := kids_few HLD.out hj; unfold maxLen; omega) (by rw [swapT_len]; unfold maxLen; omega)
              rw [swapT_len] at this
              exact this
            have hvv := swap_valid (t := t) (a := A) (b := B) (n := t.length) HV.out hBB
            have hll : load (swapT t A B t.length) id ≤ 2147483647 := by rw [swap_load]; exact HLD.out
            have hsl := swapT_len t A B t.length
            have hab := H3.out.ab.1 rfl
            have U1 : Bx (SmC wr HH 0 (t.length + 1) (swapT t A B t.length) C A true) := ⟨smC_of wr wr.heap.size HH 0 (t.length + 1) _ C A hTT hvv (by omega) (by omega) hll _ (by rw [swap_bis HV.out hA hBB hab hCC hA]; exact ⟨fun h => bis_symm (H3.out.ac.1 h), fun h => H3.out.ac.2 (bis_symm h)⟩)⟩
            have U2 : Bx (SmC wr HH 0 (t.length + 1) (swapT t A B t.length) B C true) := ⟨smC_of wr wr.heap.size HH 0 (t.length + 1) _ B C hTT hvv (by omega) (by omega) hll _ (by rw [swap_bis HV.out hA hBB hab hBB hCC]; exact H3.out.bc)⟩
            have U3 : Bx (SmC wr HH 0 (t.length + 1) (swapT t A B t.length) A B true) := ⟨smC_of wr wr.heap.size HH 0 (t.length + 1) _ A B hTT hvv (by omega) (by omega) hll _ (by rw [swap_bis HV.out hA hBB hab hA hBB]; exact H3.out.ab)⟩
            unfold SmC at U1 U2 U3
            rw [hsl] at U1 U2 U3
            have V1 : Bx True := ⟨trivial⟩
            have V2 : Bx True := ⟨trivial⟩
            have HBZ : Bx _ := ⟨HB22.out _ HQ2.out.2⟩
            clear hTT hvv hll hsl hab HQ2 HB22
            go_wp2_with (first
              | (go_at_call 15; have := V1; refine Calls.mono (U1.out _ (Below.refl _ _)) ?_; clear this V1; rintro e w30 ⟨rfl, hb30⟩)
              | (go_at_call 15; have := V2; refine Calls.mono (U2.out _ hb30) ?_; clear this V2; rintro e w31 ⟨rfl, hb31⟩; have hb32 := hb30.trans (hb31.mono hb30.size); clear hb31)
              | (go_at_call 15; refine Calls.mono (U3.out _ hb32) ?_; rintro e w33 ⟨rfl, hb33⟩; have hb34 := hb32.trans (hb33.mono hb32.size); clear hb33))
            go_ret
            exact ⟨rfl, HBZ.out.trans (hb34.mono HBZ.out.size)⟩
end Go.Proofs.YtllgaholkminnaaDoor
