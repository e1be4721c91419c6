import Derived.Test.YtllgaholkminnaaDoorCKEx
import Derived.Test.YtllgaholkminnaaDoorCKBey
import Derived.Deep.QuietTactic
import Derived.BigQuiet
namespace Go.Proofs.YtllgaholkminnaaDoor
open Go.RowKit
set_option linter.unusedVariables false
set_option linter.unusedSimpArgs false

/-- what is shown of shown -/
def ShC (w : World) : Prop := ∀ W, Below w.heap.size w W → Calls Tryd.prog 10 #[] W fun e w' => e = .returned (.bool true) ∧ Below W.heap.size W w'
/-- Same, of rows that are valid -/
theorem Same_any (w : World) (B nb no cap : Nat) (t : List Ty) (a b : Nat) (hn : Types w B nb no cap t) (hv : validI t = true) (ha : a < t.length) (hb : b < t.length) (hM : load t id ≤ 2147483647) :
    ∃ r : Bool, (r = true ↔ Bis t a b) ∧ ∀ W, Below w.heap.size w W → Calls Tryd.prog 15 #[.slice (some ⟨nb, no, none⟩) t.length cap, .int .i64 a, .int .i64 b] W fun e w' => e = .returned (.bool r) ∧ Below W.heap.size W w' := by
  have key : ∀ r : Bool, (r = true ↔ Bis t a b) → ∀ W, Below w.heap.size w W → Calls Tryd.prog 15 #[.slice (some ⟨nb, no, none⟩) t.length cap, .int .i64 a, .int .i64 b] W fun e w' => e = .returned (.bool r) ∧ Below W.heap.size W w' := fun r hr W hb' => by
    refine Calls.mono (Same_yes W B nb no cap t a b (hn.below (hb'.mono hn.hi)) hv ha hb hM) ?_
    rintro e w' ⟨r', rfl, h1, h2⟩
    have : r' = r := by cases r <;> cases r' <;> simp_all
    subst this
    exact ⟨rfl, h2⟩
  rcases Classical.em (Bis t a b) with h | h
  · exact ⟨true, by simp [h], key true (by simp [h])⟩
  · exact ⟨false, by simp [h], key false (by simp [h])⟩

theorem kid_at' {W : World} {B nb o x k : Nat} {t : List Ty} {ka : Option Addr} {kc : Nat} (hv : validI t = true) (hx : x < t.length) (hX : TyAt W B nb o (tyN t x) ka kc) (hk : k < (tyN t x).kids.length) :
    ∃ bb oo, ka = some ⟨bb, oo, none⟩ ∧ bb < B ∧ W.cell? ⟨bb, oo + k, none⟩ = some (.int .i64 (kidN t x k : Nat)) ∧ kidN t x k < t.length := by
  obtain ⟨a, cap, he, h1, h2, h3⟩ := hX.kids.ex
  simp only [Value.slice.injEq, true_and] at he
  obtain ⟨rfl, rfl⟩ := he
  obtain ⟨b, o', rfl, hbB, hcell⟩ := h3 (by omega)
  obtain ⟨m, e1, e3, e2⟩ := valid_kid hv hx hk
  exact ⟨b, o', rfl, hbB, by rw [hcell k hk, e1, e2], by rw [e2]; exact e3⟩

set_option maxRecDepth 100000 in
set_option maxHeartbeats 40000000 in
theorem ways_some (w : World) (nb no nc : Nat) (t : List Ty) (a b : Int) (wa : Option Addr) (wc : Nat) (way : List Int) (hn : Types w w.heap.size nb no nc t) (hw : IntsV w w.heap.size (.slice wa way.length wc) way) (hwi : ∀ k ∈ way, I64 k) (ha : I64 a) (hb : I64 b) (hS : ShC w) (h0 : 0 < t.length) :
    Calls Tryd.prog 6 #[.slice (some ⟨nb, no, none⟩) t.length nc, .int .i64 a, .int .i64 b, .slice wa way.length wc] w fun e w' => e = .returned (.bool true) ∧ Below w.heap.size w w' := by
  have hmax := hn.max
  unfold maxLen at hmax
  have HS : Bx _ := ⟨hS⟩
  have hS0 := HS.out w (Below.refl _ _)
  have HS0 : Bx _ := ⟨hS0⟩
  clear hS hS0
  by_cases hbig : 300 < t.length
  · have hb1 : ((t.length : Int) == 0) = false := by rw [beq_eq_false_iff_ne]; omega
    have hb2 : decide ((300 : Int) < t.length) = true := by simp; omega
    clear hn hw hwi ha hb HS
    go_enter Tryd.func6, Tryd.ntmps6
    go_wp2_with (first | (go_at_call 10; refine Calls.mono HS0.out ?_; rintro e w1 ⟨rfl, hb1⟩))
    go_ret
    exact ⟨rfl, hb1⟩
  · have hb1 : ((t.length : Int) == 0) = false := by rw [beq_eq_false_iff_ne]; omega
    have hb2 : decide ((300 : Int) < t.length) = false := by simp; omega
    have HOR : Bx _ := ⟨ofRows_some w w.heap.size nb no nc t hn (by omega)⟩
    have hll : (lensT t).length = t.length := by simp [lensT]
    have HBY : Bx (∀ W a cap, IntsV W W.heap.size (.slice a t.length cap) (lensT t) → Calls Tryd.prog 8 #[.slice a t.length cap] W fun e w' => e = .returned (.bool (beyondI 0 (lensT t))) ∧ W = w') := ⟨fun W a cap hi => by
      have := beyond_any W W.heap.size a cap (lensT t) (by rw [hll]; exact hi) (fun m hm => by
        unfold lensT at hm
        rw [List.mem_map] at hm
        obtain ⟨r, hr, rfl⟩ := hm
        obtain ⟨i, hi, rfl⟩ := List.getElem_of_mem hr
        obtain ⟨ka, kc, hX⟩ := hn.at_ i hi
        obtain ⟨_, _, _, _, h2, _⟩ := hX.kids.ex
        unfold tyN at h2
        rw [List.getD_eq_getElem?_getD, List.getElem?_eq_getElem hi] at h2
        unfold maxLen at h2
        simp at h2
        omega)
      rw [hll] at this
      exact this⟩
    by_cases hby : beyondI 0 (lensT t) = true
    · rw [hby] at HBY
      clear hn hw hwi ha hb hby hll
      go_enter Tryd.func6, Tryd.ntmps6
      go_wp2_with (first
        | (go_at_call 9; refine Calls.mono HOR.out ?_; rintro e w1 ⟨a1, c1, rfl, ⟨hiv, hb1⟩⟩; have HIV : Bx _ := ⟨hiv⟩; clear hiv)
        | (go_at_call 8; refine Calls.mono (HBY.out _ _ _ HIV.out) ?_; rintro e w2 ⟨rfl, rfl⟩)
        | (go_at_call 10; refine Calls.mono (HS.out _ hb1) ?_; rintro e w3 ⟨rfl, hb3⟩))
      go_ret
      exact ⟨rfl, hb1.trans (hb3.mono hb1.size)⟩
    · have hby' : beyondI 0 (lensT t) = false := by simpa using hby
      have hld := load_of_not_beyond hby'
      rw [hby'] at HBY
      have HAM : Bx _ := ⟨fun W c hc => among_any W c t.length hc h0 (by omega)⟩
      have hA := among_lt a h0
      have hBB := among_lt b h0
      have HVA : Bx (∀ W, Below w.heap.size w W → Calls Tryd.prog 12 #[.slice (some ⟨nb, no, none⟩) t.length nc] W fun e w' => e = .returned (.bool (validI t)) ∧ Below W.heap.size W w') := ⟨fun W hb => Valid_some W w.heap.size nb no nc t (hn.below hb) h0⟩
      have HAB : Bx (I64 a ∧ I64 b) := ⟨ha, hb⟩
      clear ha hb hby hby' hll
      cases hv : validI t
      · rw [hv] at HVA
        clear hn hw hwi hld hv
        go_enter Tryd.func6, Tryd.ntmps6
        go_wp2_with (first
          | (go_at_call 9; refine Calls.mono HOR.out ?_; rintro e w1 ⟨a1, c1, rfl, ⟨hiv, hb1⟩⟩; have HIV : Bx _ := ⟨hiv⟩; clear hiv)
          | (go_at_call 8; refine Calls.mono (HBY.out _ _ _ HIV.out) ?_; rintro e w2 ⟨rfl, rfl⟩)
          | (go_at_call 10; refine Calls.mono (HS.out _ hb1) ?_; rintro e w3 ⟨rfl, hb3⟩; have hb4 := hb1.trans (hb3.mono hb1.size); clear hb3)
          | (go_at_call 17; refine Calls.mono (HAM.out _ _ (by first | exact HAB.out.1 | exact HAB.out.2)) ?_; rintro e w5 ⟨rfl, rfl⟩)
          | (go_at_call 12; refine Calls.mono (HVA.out _ hb4) ?_; rintro e w6 ⟨rfl, hb6⟩))
        go_ret
        exact ⟨rfl, hb4.trans (hb6.mono hb4.size)⟩
      · rw [hv] at HVA
        obtain ⟨r, hr, hsm⟩ := Same_any w w.heap.size nb no nc t _ _ hn hv hA hBB hld
        have HSM : Bx _ := ⟨hsm⟩
        have HR : Bx _ := ⟨hr.1⟩
        have HV : Bx _ := ⟨hv⟩
        have HN : Bx _ := ⟨hn⟩
        obtain ⟨wa', wc', he, hw1, hw2, hw3⟩ := hw.ex
        simp only [Value.slice.injEq, true_and] at he
        obtain ⟨rfl, rfl⟩ := he
        unfold maxLen at hw2
        have HW3 : Bx _ := ⟨hw3⟩
        have HWI : Bx _ := ⟨hwi⟩
        have hnb := hn.lo
        clear hn hw hwi hld hv hr hsm hw3
        generalize hga : amongI a t.length = A at *
        generalize hgb : amongI b t.length = BV at *
        have HGA : Bx (amongI a t.length = A ∧ amongI b t.length = BV) := ⟨hga, hgb⟩
        have HAM2 : Bx ((∀ W, Calls Tryd.prog 17 #[.int .i64 a, .int .i64 t.length] W fun e w' => e = .returned (.int .i64 (A : Nat)) ∧ W = w') ∧ ∀ W, Calls Tryd.prog 17 #[.int .i64 b, .int .i64 t.length] W fun e w' => e = .returned (.int .i64 (BV : Nat)) ∧ W = w') := ⟨fun W => by have := HAM.out W a HAB.out.1; rw [hga] at this; exact this, fun W => by have := HAM.out W b HAB.out.2; rw [hgb] at this; exact this⟩
        have A1 : Bx True := ⟨trivial⟩
        clear hga hgb HAM HGA HAB
        go_enter Tryd.func6, Tryd.ntmps6
        go_wp2_with (first
          | (go_at_call 9; refine Calls.mono HOR.out ?_; rintro e w1 ⟨a1, c1, rfl, ⟨hiv, hb1⟩⟩; have HIV : Bx _ := ⟨hiv⟩; clear hiv)
          | (go_at_call 8; refine Calls.mono (HBY.out _ _ _ HIV.out) ?_; rintro e w2 ⟨rfl, rfl⟩)
          | (go_at_call 10; refine Calls.mono (HS.out _ hb1) ?_; rintro e w3 ⟨rfl, hb3⟩; have hb4 := hb1.trans (hb3.mono hb1.size); clear hb3)
          | (go_at_call 17; have := A1; refine Calls.mono (HAM2.out.1 _) ?_; clear this A1; rintro e w5 ⟨rfl, rfl⟩)
          | (go_at_call 17; refine Calls.mono (HAM2.out.2 _) ?_; rintro e w5 ⟨rfl, rfl⟩)
          | (go_at_call 12; refine Calls.mono (HVA.out _ hb4) ?_; rintro e w6 ⟨rfl, hb6⟩; have hb7 := hb4.trans (hb6.mono hb4.size); clear hb6)
          | (go_at_call 15; refine Calls.mono (HSM.out _ hb7) ?_; rintro e w8 ⟨rfl, hb8⟩; have hb9 := hb7.trans (hb8.mono hb7.size); clear hb8))
        have HB9 : Bx _ := ⟨hb9⟩
        clear hb1 hb4 hb7 hb9 HIV HOR HBY HS HS0 HVA HSM HAM2
        go_loopw [1, 2, 12] (fun x y z wr => ∃ a b i : Nat, a < t.length ∧ b < t.length ∧ i ≤ way.length ∧ x = .int .i64 a ∧ y = .int .i64 b ∧ z = .int .i64 i ∧ Bx (Below w.heap.size w wr ∧ (r = true → Bis t a b))) (fun _ _ z _ => way.length + 1 - (intOf z).toNat)
        case atStart => exact ⟨A, BV, 0, hA, hBB, Nat.zero_le _, rfl, rfl, rfl, ⟨HB9.out, HR.out⟩⟩
        case round =>
          obtain ⟨a, b, i, ha, hb, hi, rfl, rfl, rfl, HQ⟩ := hrel
          clear HB9 HR hA hBB
          have hNW := HN.out.below HQ.out.1
          obtain ⟨kx, kxc, hX⟩ := hNW.at_ a ha
          obtain ⟨ky, kyc, hY⟩ := hNW.at_ b hb
          have x0 := hX.c0
          have x1 := hX.c1
          have x2 := hX.c2
          have y0 := hY.c0
          have y1 := hY.c1
          have y2 := hY.c2
          have hxl : (tyN t a).kids.length ≤ maxLen := by
            obtain ⟨_, _, _, _, h2, _⟩ := hX.kids.ex
            exact h2
          have hyl : (tyN t b).kids.length ≤ maxLen := by
            obtain ⟨_, _, _, _, h2, _⟩ := hY.kids.ex
            exact h2
          unfold maxLen at hxl hyl
          have HD : Bx (¬ ((tyN t a).kind = (tyN t b).kind ∧ (tyN t a).kids.length = (tyN t b).kids.length ∧ (tyN t a).res = (tyN t b).res) → r = false) := ⟨fun h => by
            cases r with
            | false => rfl
            | true =>
              have := (bis_is t a b (HQ.out.2 rfl)).1
              exact absurd ⟨this.kind, this.len, this.res⟩ h⟩
          have HKX : Bx (∀ k, k < (tyN t a).kids.length → ∃ bb oo, kx = some ⟨bb, oo, none⟩ ∧ bb < wr.heap.size ∧ wr.cell? ⟨bb, oo + k, none⟩ = some (.int .i64 (kidN t a k : Nat)) ∧ kidN t a k < t.length) := ⟨fun k hk => by
            obtain ⟨q1, q2, q3, q4, q5⟩ := kid_at' HV.out ha hX hk
            exact ⟨q1, q2, q3, Nat.lt_of_lt_of_le q4 HQ.out.1.size, q5⟩⟩
          have HKY : Bx (∀ k, k < (tyN t b).kids.length → ∃ bb oo, ky = some ⟨bb, oo, none⟩ ∧ bb < wr.heap.size ∧ wr.cell? ⟨bb, oo + k, none⟩ = some (.int .i64 (kidN t b k : Nat)) ∧ kidN t b k < t.length) := ⟨fun k hk => by
            obtain ⟨q1, q2, q3, q4, q5⟩ := kid_at' HV.out hb hY hk
            exact ⟨q1, q2, q3, Nat.lt_of_lt_of_le q4 HQ.out.1.size, q5⟩⟩
          have HBK : Bx (∀ k, k < (tyN t a).kids.length → r = true → Bis t (kidN t a k) (kidN t b k)) := ⟨fun k hk hr => (bis_is t a b (HQ.out.2 hr)).2 k hk⟩
          have hcx : (tyN t a).kids.length ≤ kxc := by
            obtain ⟨_, _, he, h1, _, _⟩ := hX.kids.ex
            simp only [Value.slice.injEq, true_and] at he
            omega
          have hcy : (tyN t b).kids.length ≤ kyc := by
            obtain ⟨_, _, he, h1, _, _⟩ := hY.kids.ex
            simp only [Value.slice.injEq, true_and] at he
            omega
          have HB2 : Bx (∀ n, Below w.heap.size w (wr.drewN n)) := ⟨fun n => below_drewN HQ.out.1 n⟩
          have hnw : nb < wr.heap.size := Nat.lt_of_lt_of_le hnb HQ.out.1.size
          have HWC : Bx (∀ (h : i < way.length), ∃ b o, wa = some ⟨b, o, none⟩ ∧ b < wr.heap.size ∧ wr.cell? ⟨b, o + i, none⟩ = some (.int .i64 way[i]) ∧ I64 way[i]) := ⟨fun h => by
            obtain ⟨b, o, e, hbB, hcell⟩ := HW3.out (by omega)
            exact ⟨b, o, e, Nat.lt_of_lt_of_le hbB HQ.out.1.size, by rw [HQ.out.1.cell (p := ⟨b, o + i, none⟩) hbB]; exact hcell i h, HWI.out _ (List.getElem_mem h)⟩⟩
          clear hX hY hNW HQ
          generalize (tyN t a).kids.length = lx at *
          generalize (tyN t b).kids.length = ly at *
          generalize (tyN t a).kind = kdx at *
          generalize (tyN t b).kind = kdy at *
          generalize (tyN t a).res = rx at *
          generalize (tyN t b).res = ry at *
          have hile : decide ((i : Int) ≤ way.length) = true := by simp; omega
          by_cases e1 : kdx = kdy
          · by_cases e2 : rx = ry
            · by_cases e3 : lx = ly
              · subst e1
                subst e2
                subst e3
                go_wp2_with fail
                go_quiet (fail)
                all_goals
                  by_cases hend : i = way.length
                  · subst hend
                    go_wp2
                    go_ret
                    exact ⟨rfl, HB2.out nq⟩
                  · have hend' : ((i : Int) == (way.length : Int)) = false := by rw [beq_eq_false_iff_ne]; omega
                    by_cases hz : lx = 0
                    · subst hz
                      go_wp2
                      go_ret
                      exact ⟨rfl, HB2.out nq⟩
                    · have hz' : ((lx : Int) == 0) = false := by rw [beq_eq_false_iff_ne]; omega
                      obtain ⟨bw, ow, rfl, hbw, wcell, wi64⟩ := HWC.out (by omega)
                      generalize way[i] = wv at *
                      have HAM3 : Bx _ := ⟨fun W => among_any W wv lx wi64 (by omega) (by omega)⟩
                      have hkl := among_lt wv (n := lx) (by omega)
                      generalize amongI wv lx = k at *
                      obtain ⟨b1, o1, rfl, hb1, g1, l1⟩ := HKX.out k hkl
                      obtain ⟨b2, o2, rfl, hb2, g2, l2⟩ := HKY.out k hkl
                      have HN2 : Bx _ := ⟨HBK.out k hkl⟩
                      generalize kidN t a k = ka at *
                      generalize kidN t b k = kb at *
                      have HB3 : Bx (Below w.heap.size w (wr.drewN nq).drew) := ⟨(HB2.out nq).drew⟩
                      have HKP : Bx ((wr.drewN nq).drew.cell? ⟨bw, ow + i, none⟩ = some (.int .i64 wv) ∧ (wr.drewN nq).drew.cell? ⟨nb, no + a * 3 + 1, none⟩ = some (.slice (some ⟨b1, o1, none⟩) lx kxc)) := ⟨wcell, x1⟩
                      have hilt : i < way.length := by omega
                      clear HD HKX HKY HBK HWC wi64 hend hz x0 x2 y0 y2
                      go_wp2_with fail
                      go_region_held (fun w' => w'.cell? ⟨bw, ow + i, none⟩ = some (.int .i64 wv) ∧ w'.cell? ⟨nb, no + a * 3 + 1, none⟩ = some (.slice (some ⟨b1, o1, none⟩) lx kxc)) (exact HKP.out) (first | (go_at_call 17; refine Calls.mono (HAM3.out _) ?_; rintro e w5 ⟨rfl, rfl⟩))
                      all_goals
                        go_wp2
                        go_roundw
                        case rel => exact ⟨ka, kb, i + 1, l1, l2, by omega, rfl, rfl, by go_num, ⟨HB3.out, HN2.out⟩⟩
                        case measure => simp [intOf]; omega
              · have HE : Bx (r = false) := ⟨HD.out fun h => e3 h.2.1⟩
                have e3' : ((lx : Int) != (ly : Int)) = true := by rw [bne_iff_ne]; omega
                subst e1
                subst e2
                obtain rfl := HE.out
                go_wp2_with fail
                go_quiet (fail)
                all_goals
                  go_wp2
                  go_ret
                  exact ⟨rfl, HB2.out nq⟩
            · have HE : Bx (r = false) := ⟨HD.out fun h => e2 h.2.2⟩
              subst e1
              obtain rfl := HE.out
              clear HKX HKY HBK HWC HD HN HV HW3 HWI
              have e2' : (rx != ry) = true := by rw [bne_iff_ne]; exact e2
              go_wp2_with fail
              go_quiet (fail)
              go_wp2
              go_ret
              exact ⟨rfl, HB2.out nq⟩
          · have HE : Bx (r = false) := ⟨HD.out fun h => e1 h.1⟩
            obtain rfl := HE.out
            have e1' : (kdx != kdy) = true := by rw [bne_iff_ne]; exact e1
            clear HKX HKY HBK HWC HD HN HV HW3 HWI
            go_wp2_with fail
            go_quiet (fail)
            all_goals
              go_wp2
              go_ret
              exact ⟨rfl, HB2.out nq⟩
end Go.Proofs.YtllgaholkminnaaDoor
