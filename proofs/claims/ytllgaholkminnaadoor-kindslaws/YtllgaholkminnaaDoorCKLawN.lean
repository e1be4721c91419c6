import Derived.Test.YtllgaholkminnaaDoorCKSame
import Derived.Test.YtllgaholkminnaaDoorCKLawP
import Derived.Test.YtllgaholkminnaaDoorCKOwn
import Derived.Deep.QuietTactic
import Derived.BigQuiet
import Derived.Test.YtllgaholkminnaaDoorCKOpenR
import Derived.Test.YtllgaholkminnaaDoorCKBey
import Derived.Test.YtllgaholkminnaaDoorCKLaws
namespace Go.Proofs.YtllgaholkminnaaDoor
open Go.RowKit
set_option linter.unusedVariables false
set_option linter.unusedSimpArgs false

set_option maxRecDepth 100000 in
set_option maxHeartbeats 40000000 in
theorem laws_no (bc ac : Bool) (w : World) (nb no nc : Nat) (t : List Ty) (a b c : Int) (hn : Types w w.heap.size nb no nc t) (ha : I64 a) (hb : I64 b) (hc : I64 c) (hL : Laid w) (h0 : 0 < t.length) (hsm : t.length ≤ 300) (hby : beyondI 0 (lensT t) = false) (hv : validI t = true)
    (hbeyond : ∀ W x cap, IntsV W W.heap.size (.slice x t.length cap) (lensT t) → Calls Tryd.prog 8 #[.slice x t.length cap] W fun e w' => e = .returned (.bool false) ∧ W = w')
    (h3 : Three t (amongI a t.length) (amongI b t.length) (amongI c t.length) false bc ac) :
    Calls Tryd.prog 5 #[.slice (some ⟨nb, no, none⟩) t.length nc, .int .i64 a, .int .i64 b, .int .i64 c] w fun e w' => e = .returned (.bool true) ∧ Below w.heap.size w w' := by
  have hld := load_of_not_beyond hby
  have HS : Bx _ := ⟨shown_in w hL⟩
  have hb1' : ((t.length : Int) == 0) = false := by rw [beq_eq_false_iff_ne]; omega
  have hb2' : decide ((300 : Int) < t.length) = false := by simp; omega
  have HOR : Bx _ := ⟨ofRows_some w w.heap.size nb no nc t hn (by omega)⟩
  have HBY : Bx _ := ⟨hbeyond⟩
  have hA := among_lt a h0
  have hBB := among_lt b h0
  have hCC := among_lt c h0
  have HAM : Bx _ := ⟨fun (W : World) => And.intro (among_any W a t.length ha h0 (by omega)) (And.intro (among_any W b t.length hb h0 (by omega)) (among_any W c t.length hc h0 (by omega)))⟩
  have HVA : Bx (∀ W, Below w.heap.size w W → Calls Tryd.prog 12 #[.slice (some ⟨nb, no, none⟩) t.length nc] W fun e w' => e = .returned (.bool true) ∧ Below W.heap.size W w') := ⟨fun W hb => by have := Valid_some W w.heap.size nb no nc t (hn.below hb) h0; rw [hv] at this; exact this⟩
  generalize amongI a t.length = A at *
  generalize amongI b t.length = B at *
  generalize amongI c t.length = C at *
  have hnab : ¬ Bis t A B := fun h => by have := h3.ab.2 h; cases this
  have SAB : Bx _ := ⟨smC_of w w.heap.size nb no nc t A B hn hv hA hBB hld false h3.ab⟩
  have SBC : Bx _ := ⟨smC_of w w.heap.size nb no nc t B C hn hv hBB hCC hld bc h3.bc⟩
  have SAC : Bx _ := ⟨smC_of w w.heap.size nb no nc t A C hn hv hA hCC hld ac h3.ac⟩
  have SAA : Bx _ := ⟨smC_of w w.heap.size nb no nc t A A hn hv hA hA hld true (by simp [bis_refl])⟩
  have SBA : Bx _ := ⟨smC_of w w.heap.size nb no nc t B A hn hv hBB hA hld false (by simp; exact fun h => hnab (bis_symm h))⟩
  have HKS : Bx (∀ k, k < (tyN t A).kids.length → k < (tyN t B).kids.length → ∃ r : Bool, (r = true → Bis t (kidN t A k) (kidN t B k)) ∧ SmC w nb no nc t (kidN t A k) (kidN t B k) r) := ⟨fun k hk hk2 => by
    obtain ⟨m, _, l1, e1⟩ := valid_kid hv hA hk
    obtain ⟨m', _, l2, e2⟩ := valid_kid hv hBB hk2
    obtain ⟨r, hr, h⟩ := Same_all w w.heap.size nb no nc t (kidN t A k) (kidN t B k) hn hv (by rw [e1]; exact l1) (by rw [e2]; exact l2) hld
    exact ⟨r, hr.1, h⟩⟩
  have HNB : Bx (Alike (tyN t A) (tyN t B) → ¬ ∀ k, k < (tyN t A).kids.length → Bis t (kidN t A k) (kidN t B k)) := ⟨fun h1 h2 => hnab (bis_of h1 h2)⟩
  have HN : Bx _ := ⟨hn⟩
  have HV : Bx _ := ⟨hv⟩
  have HLD : Bx _ := ⟨hld⟩
  have hnb := hn.lo
  have A1 : Bx True := ⟨trivial⟩
  have A2 : Bx True := ⟨trivial⟩
  have T1 : Bx True := ⟨trivial⟩
  have T2 : Bx True := ⟨trivial⟩
  have T3 : Bx True := ⟨trivial⟩
  have T4 : Bx True := ⟨trivial⟩
  clear hn hv hld hby hbeyond h3 hnab hL ha hb hc
  go_enter Tryd.func5, Tryd.ntmps5
  go_wp2_with (first
    | (go_at_call 9; refine Calls.mono HOR.out ?_; rintro e w1 ⟨a1, c1, rfl, ⟨hiv, hb1⟩⟩; have HIV : Bx _ := ⟨hiv⟩; clear hiv)
    | (go_at_call 8; refine Calls.mono (HBY.out _ _ _ HIV.out) ?_; rintro e w2 ⟨rfl, rfl⟩)
    | (go_at_call 10; refine Calls.mono (HS.out _ hb1) ?_; rintro e w3 ⟨rfl, hb3⟩; have hb4 := hb1.trans (hb3.mono hb1.size); clear hb3)
    | (go_at_call 17; have := A1; refine Calls.mono (HAM.out _).1 ?_; clear this A1; rintro e w5 ⟨rfl, rfl⟩)
    | (go_at_call 17; have := A2; refine Calls.mono (HAM.out _).2.1 ?_; clear this A2; rintro e w5 ⟨rfl, rfl⟩)
    | (go_at_call 17; refine Calls.mono (HAM.out _).2.2 ?_; rintro e w5 ⟨rfl, rfl⟩)
    | (go_at_call 12; refine Calls.mono (HVA.out _ hb4) ?_; rintro e w6 ⟨rfl, hb6⟩; have hb7 := hb4.trans (hb6.mono hb4.size); clear hb6)
    | (go_at_call 15; have := T1; refine Calls.mono (SAB.out _ hb7) ?_; clear this T1; rintro e w8 ⟨rfl, hb8⟩; have hb9 := hb7.trans (hb8.mono hb7.size); clear hb8)
    | (go_at_call 15; have := T2; refine Calls.mono (SBC.out _ hb9) ?_; clear this T2; rintro e w10 ⟨rfl, hb10⟩; have hb11 := hb9.trans (hb10.mono hb9.size); clear hb10)
    | (go_at_call 15; have := T3; refine Calls.mono (SAC.out _ hb11) ?_; clear this T3; rintro e w12 ⟨rfl, hb12⟩; have hb13 := hb11.trans (hb12.mono hb11.size); clear hb12)
    | (go_at_call 15; have := T4; refine Calls.mono (SAA.out _ hb13) ?_; clear this T4; rintro e w14 ⟨rfl, hb14⟩; have hb15 := hb13.trans (hb14.mono hb13.size); clear hb14)
    | (go_at_call 15; refine Calls.mono (SBA.out _ hb15) ?_; rintro e w16 ⟨rfl, hb16⟩; have hb17 := hb15.trans (hb16.mono hb15.size); clear hb16))
  have hNW := HN.out.below hb17
  obtain ⟨kx, kxc, hX⟩ := hNW.at_ A hA
  obtain ⟨ky, kyc, hY⟩ := hNW.at_ B hBB
  have x0 := hX.c0
  have x1 := hX.c1
  have x2 := hX.c2
  have y0 := hY.c0
  have y1 := hY.c1
  have y2 := hY.c2
  have hxl : (tyN t A).kids.length ≤ maxLen := by
    obtain ⟨_, _, _, _, h2, _⟩ := hX.kids.ex
    exact h2
  have hyl : (tyN t B).kids.length ≤ maxLen := by
    obtain ⟨_, _, _, _, h2, _⟩ := hY.kids.ex
    exact h2
  unfold maxLen at hxl hyl
  have hcx : (tyN t A).kids.length ≤ kxc := by
    obtain ⟨_, _, he, h1, _, _⟩ := hX.kids.ex
    simp only [Value.slice.injEq, true_and] at he
    omega
  have hcy : (tyN t B).kids.length ≤ kyc := by
    obtain ⟨_, _, he, h1, _, _⟩ := hY.kids.ex
    simp only [Value.slice.injEq, true_and] at he
    omega
  have hbw := hb17.size
  have hnw : nb < w16.heap.size := by omega
  have HKX : Bx (∀ W, Below w16.heap.size w16 W → ∀ k, k < (tyN t A).kids.length → k < (tyN t B).kids.length → ∃ b1 o1 b2 o2, kx = some ⟨b1, o1, none⟩ ∧ ky = some ⟨b2, o2, none⟩ ∧ W.cell? ⟨b1, o1 + k, none⟩ = some (.int .i64 (kidN t A k : Nat)) ∧ W.cell? ⟨b2, o2 + k, none⟩ = some (.int .i64 (kidN t B k : Nat)) ∧ W.cell? ⟨nb, no + A * 3 + 1, none⟩ = some (.slice kx (tyN t A).kids.length kxc) ∧ W.cell? ⟨nb, no + B * 3 + 1, none⟩ = some (.slice ky (tyN t B).kids.length kyc)) := ⟨fun W hb k hk hk2 => by
    obtain ⟨b1, o1, e1, l1, g1, _⟩ := kid_in HV.out hA hX hk
    obtain ⟨b2, o2, e2, l2, g2, _⟩ := kid_in HV.out hBB hY hk2
    exact ⟨b1, o1, b2, o2, e1, e2, by rw [hb.cell (p := ⟨b1, o1 + k, none⟩) (by show b1 < _; omega)]; exact g1, by rw [hb.cell (p := ⟨b2, o2 + k, none⟩) (by show b2 < _; omega)]; exact g2, by rw [hb.cell (p := ⟨nb, no + A * 3 + 1, none⟩) (by show nb < _; omega)]; exact x1, by rw [hb.cell (p := ⟨nb, no + B * 3 + 1, none⟩) (by show nb < _; omega)]; exact y1⟩⟩
  have HX1 : Bx (∀ W, Below w16.heap.size w16 W → W.cell? ⟨nb, no + A * 3 + 1, none⟩ = some (.slice kx (tyN t A).kids.length kxc)) := ⟨fun W hb => by rw [hb.cell (p := ⟨nb, no + A * 3 + 1, none⟩) (by show nb < _; omega)]; exact x1⟩
  have HB17 : Bx _ := ⟨hb17⟩
  have HBD : Bx (∀ n, Below w.heap.size w (w16.drewN n)) := ⟨fun n => below_drewN hb17 n⟩
  have HA2 : Bx ((tyN t A).kind = (tyN t B).kind → (tyN t A).kids.length = (tyN t B).kids.length → (tyN t A).res = (tyN t B).res → ¬ ∀ k, k < (tyN t A).kids.length → Bis t (kidN t A k) (kidN t B k)) := ⟨fun h1 h2 h3 => HNB.out ⟨h1, h2, h3⟩⟩
  clear hX hY hNW SAB SBC SAC SAA SBA HVA HAM HIV HOR HBY HS hb1 hb4 hb7 hb9 hb11 hb13 hb15 HNB HN HV HLD
  generalize (tyN t A).kids.length = lx at *
  generalize (tyN t B).kids.length = ly at *
  generalize (tyN t A).kind = kdx at *
  generalize (tyN t B).kind = kdy at *
  generalize (tyN t A).res = rx at *
  generalize (tyN t B).res = ry at *
  by_cases e1 : kdx = kdy
  · by_cases e2 : rx = ry
    · by_cases e3 : lx = ly
      · subst e1
        subst e2
        subst e3
        have HNA : Bx _ := ⟨HA2.out rfl rfl rfl⟩
        clear HA2
        go_quiet (fail)
        clear x0 x1 x2 y0 y1 y2
        go_wp2
        go_loopw [15, 16] (fun x y wr => ∃ (k : Nat) (r : Bool), k ≤ lx ∧ x = .bool r ∧ y = .int .i64 k ∧ Bx (Below w16.heap.size w16 wr ∧ (r = true → ∀ j, j < k → Bis t (kidN t A j) (kidN t B j)))) (fun _ y _ => lx - (intOf y).toNat)
        case atStart => exact ⟨0, true, Nat.zero_le _, rfl, rfl, ⟨below_drewN (Below.refl _ _) _, fun _ j hj => absurd hj (by omega)⟩⟩
        case round =>
          obtain ⟨k, r, hk, rfl, rfl, HQ⟩ := hrel
          have z1 := HX1.out wr HQ.out.1
          have hbz := HQ.out.1.size
          have hnz : nb < wr.heap.size := by omega
          by_cases hlt : k < lx
          · obtain ⟨b1, o1, b2, o2, rfl, rfl, g1, g2, g3, g4⟩ := HKX.out wr HQ.out.1 k hlt hlt
            cases r
            · have HX5 : Bx (∀ n, Below w16.heap.size w16 (wr.drewN n) ∧ (false = true → ∀ j, j < k + 1 → Bis t (kidN t A j) (kidN t B j))) := ⟨fun n => ⟨below_drewN HQ.out.1 n, fun h => by cases h⟩⟩
              have hb1z : b1 < wr.heap.size := World.block_lt_of_cell? wr _ g1
              have hb2z : b2 < wr.heap.size := World.block_lt_of_cell? wr _ g2
              generalize kidN t A k = ka at g1
              generalize kidN t B k = kb at g2
              clear HQ
              go_wp2_with fail
              go_quiet (fail)
              all_goals
                have HX6 : Bx _ := ⟨HX5.out nq⟩
                go_wp2
                go_roundw
                case rel => exact ⟨k + 1, false, by omega, rfl, by go_num, HX6⟩
                case measure => simp [intOf]; omega
            · obtain ⟨rk, hrk, hsk⟩ := HKS.out k hlt hlt
              have HSK : Bx (∀ W, Below w16.heap.size w16 W → Calls Tryd.prog 15 #[.slice (some ⟨nb, no, none⟩) t.length nc, .int .i64 (kidN t A k : Nat), .int .i64 (kidN t B k : Nat)] W fun e w' => e = .returned (.bool rk) ∧ Below W.heap.size W w') := ⟨fun W hb => hsk W (HB17.out.trans (hb.mono hbw))⟩
              have HNX : Bx (rk = true → ∀ j, j < k + 1 → Bis t (kidN t A j) (kidN t B j)) := ⟨fun h j hj => by
                by_cases e : j < k
                · exact HQ.out.2 rfl j e
                · have : j = k := by omega
                  subst this
                  exact hrk h⟩
              have HK4 : Bx (∀ W, Below w16.heap.size w16 W → W.cell? ⟨b1, o1 + k, none⟩ = some (.int .i64 (kidN t A k : Nat)) ∧ W.cell? ⟨b2, o2 + k, none⟩ = some (.int .i64 (kidN t B k : Nat)) ∧ W.cell? ⟨nb, no + A * 3 + 1, none⟩ = some (.slice (some ⟨b1, o1, none⟩) lx kxc) ∧ W.cell? ⟨nb, no + B * 3 + 1, none⟩ = some (.slice (some ⟨b2, o2, none⟩) lx kyc) ∧ Below w16.heap.size w16 W) := ⟨fun W hb => by
                obtain ⟨c1, d1, c2, d2, e1, e2, q1, q2, q3, q4⟩ := HKX.out W hb k hlt hlt
                simp only [Option.some.injEq, Addr.mk.injEq, and_true] at e1 e2
                obtain ⟨rfl, rfl⟩ := e1
                obtain ⟨rfl, rfl⟩ := e2
                exact ⟨q1, q2, q3, q4, hb⟩⟩
              clear g1 g2 g3 g4 hsk hrk
              generalize hka : kidN t A k = ka at HSK HK4
              generalize hkb : kidN t B k = kb at HSK HK4
              clear hka hkb
              have hq0 := HQ.out.1
              go_wp2_with fail
              go_region_held (fun w' => w'.cell? ⟨b1, o1 + k, none⟩ = some (.int .i64 (ka : Nat)) ∧ w'.cell? ⟨b2, o2 + k, none⟩ = some (.int .i64 (kb : Nat)) ∧ w'.cell? ⟨nb, no + A * 3 + 1, none⟩ = some (.slice (some ⟨b1, o1, none⟩) lx kxc) ∧ w'.cell? ⟨nb, no + B * 3 + 1, none⟩ = some (.slice (some ⟨b2, o2, none⟩) lx kyc) ∧ Below w16.heap.size w16 w')
                (first | exact HK4.out _ hq0.drew | exact HK4.out _ hq6)
                (first | (go_at_call 15; refine Calls.mono (HSK.out _ hq0.drew) ?_; rintro e w20 ⟨rfl, hb20⟩; have hq6 := hq0.drew.trans (hb20.mono hq0.drew.size); clear hb20))
              all_goals
                have HQ6 : Bx _ := ⟨And.intro hq6 HNX.out⟩
                go_wp2
                go_roundw
                case rel => exact ⟨k + 1, rk, by omega, rfl, by go_num, HQ6⟩
                case measure => simp [intOf]; omega
          · have hke : k = lx := by omega
            subst hke
            have HRF : Bx (r = false) := ⟨by
              cases r with
              | false => rfl
              | true => exact absurd (HQ.out.2 rfl) HNA.out⟩
            obtain rfl := HRF.out
            have HBQ := HB17.out.trans (HQ.out.1.mono hbw)
            go_wp2
            go_ret
            exact ⟨rfl, HBQ⟩
      · subst e1
        subst e2
        have e3' : ((lx : Int) == (ly : Int)) = false := by rw [beq_eq_false_iff_ne]; omega
        clear HKX HKS HA2
        go_quiet (fail)
        all_goals
          go_wp2
          go_loopw [15, 16] (fun x y wr => x = .bool false ∧ y = .int .i64 0 ∧ Below w.heap.size w wr) (fun _ _ _ => 0)
          case atStart => exact ⟨rfl, rfl, HBD.out _⟩
          case round =>
            obtain ⟨rfl, rfl, hbq⟩ := hrel
            go_wp2
            go_ret
            exact ⟨rfl, hbq⟩
    · subst e1
      clear HKX HKS HA2
      have e2' : (rx == ry) = false := by rw [beq_eq_false_iff_ne]; exact e2
      go_quiet (fail)
      all_goals
        go_wp2
        go_loopw [15, 16] (fun x y wr => x = .bool false ∧ y = .int .i64 0 ∧ Below w.heap.size w wr) (fun _ _ _ => 0)
        case atStart => exact ⟨rfl, rfl, HBD.out _⟩
        case round =>
          obtain ⟨rfl, rfl, hbq⟩ := hrel
          go_wp2
          go_ret
          exact ⟨rfl, hbq⟩
  · have e1' : (kdx == kdy) = false := by rw [beq_eq_false_iff_ne]; exact e1
    clear HKX HKS HA2
    go_quiet (fail)
    all_goals
      go_wp2
      go_loopw [15, 16] (fun x y wr => x = .bool false ∧ y = .int .i64 0 ∧ Below w.heap.size w wr) (fun _ _ _ => 0)
      case atStart => exact ⟨rfl, rfl, HBD.out _⟩
      case round =>
        obtain ⟨rfl, rfl, hbq⟩ := hrel
        go_wp2
        go_ret
        exact ⟨rfl, hbq⟩
end Go.Proofs.YtllgaholkminnaaDoor
namespace Go.Proofs.YtllgaholkminnaaDoor
open Go.RowKit
set_option linter.unusedVariables false
set_option linter.unusedSimpArgs false

set_option maxRecDepth 100000 in
theorem laws_none (w : World) (ad : Option Addr) (cap : Nat) (a b c : Int) (hL : Laid w) :
    Calls Tryd.prog 5 #[.slice ad 0 cap, .int .i64 a, .int .i64 b, .int .i64 c] w fun e w' => e = .returned (.bool true) ∧ Below w.heap.size w w' := by
  have HS0 : Bx _ := ⟨shown_in w hL w (Below.refl _ _)⟩
  clear hL
  go_enter Tryd.func5, Tryd.ntmps5
  go_wp2_with (first | (go_at_call 10; refine Calls.mono HS0.out ?_; rintro e w1 ⟨rfl, hb1⟩))
  go_ret
  exact ⟨rfl, hb1⟩
set_option maxRecDepth 100000 in
theorem laws_big (w : World) (ad : Option Addr) (cap : Nat) (n : Nat) (a b c : Int) (hL : Laid w) (hbig : 300 < n) :
    Calls Tryd.prog 5 #[.slice ad n cap, .int .i64 a, .int .i64 b, .int .i64 c] w fun e w' => e = .returned (.bool true) ∧ Below w.heap.size w w' := by
  have HS0 : Bx _ := ⟨shown_in w hL w (Below.refl _ _)⟩
  have hb1' : ((n : Int) == 0) = false := by rw [beq_eq_false_iff_ne]; omega
  have hb2' : decide ((300 : Int) < n) = true := by simp; omega
  clear hL
  go_enter Tryd.func5, Tryd.ntmps5
  go_wp2_with (first | (go_at_call 10; refine Calls.mono HS0.out ?_; rintro e w1 ⟨rfl, hb1⟩))
  go_ret
  exact ⟨rfl, hb1⟩
set_option maxRecDepth 100000 in
set_option maxHeartbeats 4000000 in
theorem laws_beyond (w : World) (nb no nc : Nat) (t : List Ty) (a b c : Int) (hn : Types w w.heap.size nb no nc t) (hL : Laid w) (h0 : 0 < t.length) (hsm : t.length ≤ 300)
    (hbeyond : ∀ W x cap, IntsV W W.heap.size (.slice x t.length cap) (lensT t) → Calls Tryd.prog 8 #[.slice x t.length cap] W fun e w' => e = .returned (.bool true) ∧ W = w') :
    Calls Tryd.prog 5 #[.slice (some ⟨nb, no, none⟩) t.length nc, .int .i64 a, .int .i64 b, .int .i64 c] w fun e w' => e = .returned (.bool true) ∧ Below w.heap.size w w' := by
  have HS : Bx _ := ⟨shown_in w hL⟩
  have hb1' : ((t.length : Int) == 0) = false := by rw [beq_eq_false_iff_ne]; omega
  have hb2' : decide ((300 : Int) < t.length) = false := by simp; omega
  have HOR : Bx _ := ⟨ofRows_some w w.heap.size nb no nc t hn (by omega)⟩
  have HBY : Bx _ := ⟨hbeyond⟩
  clear hn hL hbeyond
  go_enter Tryd.func5, Tryd.ntmps5
  go_wp2_with (first
    | (go_at_call 9; refine Calls.mono HOR.out ?_; rintro e w1 ⟨a1, c1, rfl, ⟨hiv, hb1⟩⟩; have HIV : Bx _ := ⟨hiv⟩; clear hiv)
    | (go_at_call 8; refine Calls.mono (HBY.out _ _ _ HIV.out) ?_; rintro e w2 ⟨rfl, rfl⟩)
    | (go_at_call 10; refine Calls.mono (HS.out _ hb1) ?_; rintro e w3 ⟨rfl, hb3⟩))
  go_ret
  exact ⟨rfl, hb1.trans (hb3.mono hb1.size)⟩
set_option maxRecDepth 100000 in
set_option maxHeartbeats 4000000 in
theorem laws_bad (w : World) (nb no nc : Nat) (t : List Ty) (a b c : Int) (hn : Types w w.heap.size nb no nc t) (ha : I64 a) (hb : I64 b) (hc : I64 c) (hL : Laid w) (h0 : 0 < t.length) (hsm : t.length ≤ 300) (hv : validI t = false)
    (hbeyond : ∀ W x cap, IntsV W W.heap.size (.slice x t.length cap) (lensT t) → Calls Tryd.prog 8 #[.slice x t.length cap] W fun e w' => e = .returned (.bool false) ∧ W = w') :
    Calls Tryd.prog 5 #[.slice (some ⟨nb, no, none⟩) t.length nc, .int .i64 a, .int .i64 b, .int .i64 c] w fun e w' => e = .returned (.bool true) ∧ Below w.heap.size w w' := by
  have HS : Bx _ := ⟨shown_in w hL⟩
  have hb1' : ((t.length : Int) == 0) = false := by rw [beq_eq_false_iff_ne]; omega
  have hb2' : decide ((300 : Int) < t.length) = false := by simp; omega
  have HOR : Bx _ := ⟨ofRows_some w w.heap.size nb no nc t hn (by omega)⟩
  have HBY : Bx _ := ⟨hbeyond⟩
  have HAM : Bx _ := ⟨fun (W : World) => And.intro (among_any W a t.length ha h0 (by omega)) (And.intro (among_any W b t.length hb h0 (by omega)) (among_any W c t.length hc h0 (by omega)))⟩
  have HVA : Bx (∀ W, Below w.heap.size w W → Calls Tryd.prog 12 #[.slice (some ⟨nb, no, none⟩) t.length nc] W fun e w' => e = .returned (.bool false) ∧ Below W.heap.size W w') := ⟨fun W hb => by have := Valid_some W w.heap.size nb no nc t (hn.below hb) h0; rw [hv] at this; exact this⟩
  have HSN : Bx (∀ W (x y : Int), Below w.heap.size w W → Calls Tryd.prog 15 #[.slice (some ⟨nb, no, none⟩) t.length nc, .int .i64 x, .int .i64 y] W fun e w' => e = .returned (.bool false) ∧ Below W.heap.size W w') := ⟨fun W x y hb => Same_no W w.heap.size (some ⟨nb, no, none⟩) nc t x y ⟨fun _ => ⟨nb, no, rfl, hn.below hb⟩, hb.size⟩ (by rw [hv]; rfl)⟩
  generalize amongI a t.length = A at *
  generalize amongI b t.length = B at *
  generalize amongI c t.length = C at *
  have A1 : Bx True := ⟨trivial⟩
  have A2 : Bx True := ⟨trivial⟩
  clear hn hL hbeyond hv ha hb hc
  go_enter Tryd.func5, Tryd.ntmps5
  go_wp2_with (first
    | (go_at_call 9; refine Calls.mono HOR.out ?_; rintro e w1 ⟨a1, c1, rfl, ⟨hiv, hb1⟩⟩; have HIV : Bx _ := ⟨hiv⟩; clear hiv)
    | (go_at_call 8; refine Calls.mono (HBY.out _ _ _ HIV.out) ?_; rintro e w2 ⟨rfl, rfl⟩)
    | (go_at_call 10; refine Calls.mono (HS.out _ hb1) ?_; rintro e w3 ⟨rfl, hb3⟩; have hb4 := hb1.trans (hb3.mono hb1.size); clear hb3)
    | (go_at_call 17; have := A1; refine Calls.mono (HAM.out _).1 ?_; clear this A1; rintro e w5 ⟨rfl, rfl⟩)
    | (go_at_call 17; have := A2; refine Calls.mono (HAM.out _).2.1 ?_; clear this A2; rintro e w5 ⟨rfl, rfl⟩)
    | (go_at_call 17; refine Calls.mono (HAM.out _).2.2 ?_; rintro e w5 ⟨rfl, rfl⟩)
    | (go_at_call 12; refine Calls.mono (HVA.out _ hb4) ?_; rintro e w6 ⟨rfl, hb6⟩; have hb7 := hb4.trans (hb6.mono hb4.size); clear hb6)
    | (go_at_call 15; refine Calls.mono (HSN.out _ _ _ hb7) ?_; rintro e w8 ⟨rfl, hb8⟩))
  go_ret
  exact ⟨rfl, hb7.trans (hb8.mono hb7.size)⟩
theorem laws_walk (w : World) (ad : Option Addr) (cap : Nat) (t : List Ty) (hn : IsTypes w w.heap.size ad cap t) (a : Int) (ha : I64 a) (b : Int) (hb : I64 b) (c : Int) (hc : I64 c) (hL : Laid w) :
    Calls Tryd.prog 5 #[.slice ad t.length cap, .int .i64 a, .int .i64 b, .int .i64 c] w fun e w' => e = .returned (.bool true) ∧ Below w.heap.size w w' := by
  by_cases h0 : 0 < t.length
  · obtain ⟨nb, no, rfl, h⟩ := hn.at_ h0
    by_cases hbig : 300 < t.length
    · exact laws_big w _ cap t.length a b c hL hbig
    · have hll : (lensT t).length = t.length := by simp [lensT]
      have HBY : ∀ W a cap, IntsV W W.heap.size (.slice a t.length cap) (lensT t) → Calls Tryd.prog 8 #[.slice a t.length cap] W fun e w' => e = .returned (.bool (beyondI 0 (lensT t))) ∧ W = w' := fun W a cap hi => by
        have := beyond_any W W.heap.size a cap (lensT t) (by rw [hll]; exact hi) (fun m hm => by
          unfold lensT at hm
          rw [List.mem_map] at hm
          obtain ⟨r, hr, rfl⟩ := hm
          obtain ⟨i, hi, rfl⟩ := List.getElem_of_mem hr
          obtain ⟨ka, kc, hX⟩ := h.at_ i hi
          obtain ⟨_, _, _, _, h2, _⟩ := hX.kids.ex
          unfold tyN at h2
          rw [List.getD_eq_getElem?_getD, List.getElem?_eq_getElem hi] at h2
          unfold maxLen at h2
          simp at h2
          omega)
        rw [hll] at this
        exact this
      cases hby : beyondI 0 (lensT t)
      · rw [hby] at HBY
        cases hv : validI t
        · exact laws_bad w nb no cap t a b c h ha hb hc hL h0 (by omega) hv HBY
        · obtain ⟨ab, bc, ac, h3⟩ := three_of t (amongI a t.length) (amongI b t.length) (amongI c t.length)
          cases ab
          · exact laws_no bc ac w nb no cap t a b c h ha hb hc hL h0 (by omega) hby hv HBY h3
          · obtain rfl := h3.eq
            exact laws_yes ac w nb no cap t a b c h ha hb hc hL h0 (by omega) hby hv HBY h3
      · rw [hby] at HBY
        exact laws_beyond w nb no cap t a b c h hL h0 (by omega) HBY
  · have hx : t = [] := List.eq_nil_of_length_eq_zero (by omega)
    subst hx
    exact laws_none w ad cap a b c hL
end Go.Proofs.YtllgaholkminnaaDoor
