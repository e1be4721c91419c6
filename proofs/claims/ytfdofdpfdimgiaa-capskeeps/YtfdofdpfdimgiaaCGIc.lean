import Derived.Test.YtfdofdpfdimgiaaCGIq
namespace Go.Proofs.Ytfdofdpfdimgiaa
open Go.RowKit
set_option linter.unusedVariables false
set_option linter.unusedSimpArgs false

set_option maxRecDepth 100000 in
theorem keeps_no (w : World) (p : Option Addr) (c : Nat) (s : List Ag) (n : Int) (h : AgsR w p c s) (hok : stOk s = false) :
    Calls Try.prog 5 #[.slice p s.length c, .int .i64 n] w fun e w' => e = .returned (.bool true) ∧ Below w.heap.size w w' := by
  have HS : Bx (AgsR w p c s) := ⟨h⟩
  have hck : chkI s = 140 := by simp [chkI, hok]
  have HBY : Bx (Calls Try.prog 9 #[.slice p s.length c] w fun e w' => BeyG s e ∧ w' = w) := ⟨beyond_any w p c s HS.out⟩
  have HC : Bx (totA s ≤ 2147483647 → ∀ W, Below w.heap.size w W → Calls Try.prog 12 #[.slice p s.length c] W fun e w' => e = .returned (.int .i64 140) ∧ Below W.heap.size W w') := ⟨fun ht W hW => by
    have := Check_any W p c s (h.later hW) (few_of ht)
    rw [hck] at this
    exact this⟩
  have HLN : Bx (totA s ≤ 2147483647 → ∀ W, Below w.heap.size w W → Calls Try.prog 14 #[.slice p s.length c] W fun e w' => e = .returned (.slice none 0 0) ∧ Below W.heap.size W w') := ⟨fun ht W hW => Links_no W p c s (h.later hW) ht hok⟩
  clear h hok hck HS
  go_enter Try.func5, Try.ntmps5
  go_wp2_with (first
    | (go_at_call 9; refine Calls.mono HBY.out ?_; clear HBY; rintro e w1 ⟨⟨b1, rfl, hb1⟩, rfl⟩; have HT : Bx (b1 = false → totA s ≤ 2147483647) := ⟨hb1⟩; clear hb1; cases b1)
    | (go_at_call 10; refine Calls.mono (shown_any _) ?_; rintro e w2 ⟨rfl, hb2⟩; have B2 : Bx (Below w1.heap.size w1 w2) := ⟨hb2⟩; clear hb2)
    | (go_at_call 14; refine Calls.mono (HLN.out (HT.out (by trivial)) w2 B2.out) ?_; rintro e w3 ⟨rfl, hb3⟩; have B3 : Bx (Below w1.heap.size w1 w3) := ⟨B2.out.trans (hb3.mono B2.out.size)⟩; clear hb3)
    | (go_at_call 12; refine Calls.mono (HC.out (HT.out (by trivial)) w3 B3.out) ?_; rintro e w4 ⟨rfl, hb4⟩; have B4 : Bx (Below w1.heap.size w1 w4) := ⟨B3.out.trans (hb4.mono B3.out.size)⟩; clear hb4))
  · go_ret
    exact ⟨rfl, B4.out⟩
  · go_ret
    exact ⟨rfl, Below.refl _ _⟩
theorem keeps_bel {w1 w4 Y w5 w6 w7 : World} {p : Option Addr} {c : Nat} {s : List Ag} {L : List Lk} {x : Lk} (k : KpP w1 w4 Y p c s L x) (h5 : Below Y.heap.size Y w5) (h6 : Below w5.heap.size w5 w6) (h7 : Below w6.heap.size w6 w7) : Bx (Below w5.heap.size w5 w7 ∧ Below Y.heap.size Y w7 ∧ Below w1.heap.size w1 w7) := by
  have a := h6.trans (h7.mono h6.size)
  have b := h5.trans (a.mono h5.size)
  exact ⟨a, b, k.bel1.trans (b.mono k.bel1.size)⟩
/-- the n-th, round and round -/
def midN (n : Int) : Int := if n < 0 then -(n + 1) else n
theorem mid_r {n : Int} (h : I64 n) : 0 ≤ midN n ∧ midN n ≤ 9223372036854775807 := by
  obtain ⟨h1, h2⟩ := h
  unfold midN
  split <;> omega
theorem mid_rem {n : Int} (h : I64 n) {L : Nat} (hL : 0 < L) : ∃ j, j < L ∧ (midN n).tmod ↑L = ↑j := by
  have h0 := (mid_r h).1
  refine ⟨((midN n) % L).toNat, ?_, ?_⟩
  · have := Int.emod_lt_of_pos (midN n) (show (0 : Int) < L by omega)
    have := Int.emod_nonneg (midN n) (show (L : Int) ≠ 0 by omega)
    omega
  · rw [Int.tmod_eq_emod_of_nonneg h0]
    have := Int.emod_nonneg (midN n) (show (L : Int) ≠ 0 by omega)
    omega
set_option maxRecDepth 100000 in
set_option maxHeartbeats 4000000 in
theorem keeps_yes (w : World) (p : Option Addr) (c : Nat) (s : List Ag) (n : Int) (h : AgsR w p c s) (hn : I64 n) (hok : stOk s = true) :
    Calls Try.prog 5 #[.slice p s.length c, .int .i64 n] w fun e w' => e = .returned (.bool true) ∧ Below w.heap.size w w' := by
  have HS : Bx (AgsR w p c s) := ⟨h⟩
  have hlc := h.len
  have hcm := h.max
  unfold maxLen at hcm
  have hck : chkI s = 0 := by simp [chkI, hok]
  have hs4 := st_len hok
  have HOK : Bx (stOk s = true) := ⟨hok⟩
  have HBY : Bx (Calls Try.prog 9 #[.slice p s.length c] w fun e w' => BeyG s e ∧ w' = w) := ⟨beyond_any w p c s HS.out⟩
  have HC : Bx (totA s ≤ 2147483647 → ∀ W, Below w.heap.size w W → Calls Try.prog 12 #[.slice p s.length c] W fun e w' => e = .returned (.int .i64 0) ∧ Below W.heap.size W w') := ⟨fun ht W hW => by
    have := Check_any W p c s (h.later hW) (few_of ht)
    rw [hck] at this
    exact this⟩
  have HLN : Bx (totA s ≤ 2147483647 → ∀ W, Below w.heap.size w W → Calls Try.prog 14 #[.slice p s.length c] W fun e w' => ∃ lp lc, e = .returned (.slice lp (linksI s).length lc) ∧ LksR w' lp lc (linksI s) ∧ Below W.heap.size W w') := ⟨fun ht W hW => Links_r W p c s (h.later hW) ht hok⟩
  have HLB : Bx (totA s ≤ 2147483647 → (linksI s).length ≤ 5000000000000) := ⟨fun ht => links_len hok ht⟩
  clear h hck hok
  have HLS : Bx (∀ l ∈ linksI s, l ∈ linksI s) := ⟨fun _ h => h⟩
  obtain ⟨L, hL⟩ : ∃ L, linksI s = L := ⟨_, rfl⟩
  have HLE : Bx (linksI s = L) := ⟨hL⟩
  rw [hL] at HLN HLB HLS
  clear hL HLS
  go_enter Try.func5, Try.ntmps5
  by_cases hL0 : L.length = 0
  · rw [hL0] at HLN
    go_wp2_with (first
      | (go_at_call 9; refine Calls.mono HBY.out ?_; clear HBY; rintro e w1 ⟨⟨b1, rfl, hb1⟩, rfl⟩; have HT : Bx (b1 = false → totA s ≤ 2147483647) := ⟨hb1⟩; clear hb1; cases b1)
      | (go_at_call 10; refine Calls.mono (shown_any _) ?_; rintro e w2 ⟨rfl, hb2⟩; have B2 : Bx (Below w1.heap.size w1 w2) := ⟨hb2⟩; clear hb2)
      | (go_at_call 14; refine Calls.mono (HLN.out (HT.out (by trivial)) w2 B2.out) ?_; rintro e w3 ⟨lp, lc, rfl, _, hb3⟩; have B3 : Bx (Below w1.heap.size w1 w3) := ⟨B2.out.trans (hb3.mono B2.out.size)⟩; clear hb3)
      | (go_at_call 12; refine Calls.mono (HC.out (HT.out (by trivial)) w3 B3.out) ?_; rintro e w4 ⟨rfl, hb4⟩; have B4 : Bx (Below w1.heap.size w1 w4) := ⟨B3.out.trans (hb4.mono B3.out.size)⟩; clear hb4))
    · go_ret
      exact ⟨rfl, B4.out⟩
    · go_ret
      exact ⟨rfl, Below.refl _ _⟩
  · have gL : ((L.length : Int) == 0) = false := by rw [beq_eq_false_iff_ne]; omega
    obtain ⟨j, hj, hjm⟩ := mid_rem hn (show 0 < L.length by omega)
    have hmr := mid_r hn
    have hn1 := hn.1
    have hn2 := hn.2
    have HX0 : Bx (L[j] ∈ L) := ⟨List.getElem_mem hj⟩
    have hjI : (↑j : Int) < ↑L.length := by omega
    have hj0 : (0 : Int) ≤ ↑j := by omega
    by_cases hneg : n < 0
    · have e : midN n = -(n + 1) := if_pos hneg
      rw [e] at hjm hmr
      have hjn : -((n + 1).tmod ↑L.length) = ↑j := by rw [← Int.neg_tmod]; exact hjm
      clear e hn
      go_wp2_with (first
        | (go_at_call 9; refine Calls.mono HBY.out ?_; clear HBY; rintro e w1 ⟨⟨b1, rfl, hb1⟩, rfl⟩; have HT : Bx (b1 = false → totA s ≤ 2147483647) := ⟨hb1⟩; clear hb1; cases b1)
        | (go_at_call 10; refine Calls.mono (shown_any _) ?_; rintro e w2 ⟨rfl, hb2⟩; have B2 : Bx (Below w1.heap.size w1 w2) := ⟨hb2⟩; clear hb2)
        | (go_at_call 14; refine Calls.mono (HLN.out (HT.out (by trivial)) w2 B2.out) ?_; rintro e w3 ⟨lp, lc, rfl, hl3, hb3⟩; have B3 : Bx (Below w1.heap.size w1 w3) := ⟨B2.out.trans (hb3.mono B2.out.size)⟩; have L3 : Bx (LksR w3 lp lc L) := ⟨hl3⟩; have hl1 := hl3.len; have hl2 := hl3.max; unfold maxLen at hl2; clear hb3 hl3)
        | (go_at_call 12; refine Calls.mono (HC.out (HT.out (by trivial)) w3 B3.out) ?_; clear HC; rintro e w4 ⟨rfl, hb4⟩; have L4 : Bx (LksR w4 lp lc L) := ⟨L3.out.later hb4⟩; have B4 : Bx (Below w1.heap.size w1 w4) := ⟨B3.out.trans (hb4.mono B3.out.size)⟩; obtain ⟨lb, lo, hlp, _, hlx⟩ := L4.out.at_ j hj; subst hlp; obtain ⟨l0, l1, l2⟩ := hlx w4 (Below.refl _ _); have HXL := HX0; obtain ⟨Y, hY⟩ : ∃ Y, w4.alloc (.cells #[.int .i64 L[j].waker, .int .i64 L[j].woken, .int .i64 L[j].chan] 24) = Y := ⟨_, rfl⟩; have KP : Bx (KpP w1 w4 Y p c s L L[j]) := ⟨keeps_prep HS.out HOK.out (HT.out (by trivial)) HLE.out B4.out HX0.out hY⟩; have HYE : Bx (_ = Y) := ⟨hY⟩; obtain ⟨x, hx⟩ : ∃ x, L[j] = x := ⟨_, rfl⟩; rw [hx] at l0 l1 l2 KP HYE; obtain ⟨e0, e1, e2⟩ := KP.out.cel Y (Below.refl _ _); rw [← HYE.out] at e0 e1 e2; clear hlx hx hY HXL hb4 L3)
        | (go_at_call 21; rw [HYE.out]; refine Calls.mono KP.out.tak ?_; rintro e w5 ⟨tp, tc, rfl, ht5, hb5⟩; have T5 : Bx (AgsR w5 tp tc (s.map (tkA x))) := ⟨ht5⟩; have B5 : Bx (Below Y.heap.size Y w5) := ⟨hb5⟩; obtain ⟨e0, e1, e2⟩ := KP.out.cel w5 hb5; have TL := ht5.len; have TM := ht5.max; rw [List.length_map] at TL; unfold maxLen at TM; clear hb5 ht5)
        | (go_at_call 12; refine Calls.mono (KP.out.chk w5 tp tc T5.out) ?_; rintro e w6 ⟨rfl, hb6⟩; have B6 : Bx (Below w5.heap.size w5 w6) := ⟨hb6⟩; obtain ⟨e0, e1, e2⟩ := KP.out.cel w6 (B5.out.trans (hb6.mono B5.out.size)); clear hb6)
        | (go_at_call 13; refine Calls.mono (KP.out.fit w6 (KP.out.bel1.trans ((B5.out.trans (B6.out.mono B5.out.size)).mono KP.out.bel1.size))) ?_; rintro e w7 ⟨rfl, hb7⟩; have B7 : Bx (Below w5.heap.size w5 w7 ∧ Below Y.heap.size Y w7 ∧ Below w1.heap.size w1 w7) := keeps_bel KP.out B5.out B6.out hb7; clear hb7 e0 e1 e2))
      · clear HLN HLE HLB HX0
        go_loopg [9] (s.length + 1) (fun g v9 wr => ∃ i : Nat, g = s.length + 1 - i ∧ i ≤ s.length ∧ v9 = .int .i64 i ∧ Bx (Below w7.heap.size w7 wr))
        case atStart => exact ⟨0, by simp, by omega, rfl, ⟨Below.refl _ _⟩⟩
        case round =>
          obtain ⟨i, hgi, hil, rfl, BW⟩ := hrel
          by_cases hlt : i < s.length
          · obtain ⟨b, o, ap, ac, hp, hc, rfl, hA, hcl⟩ := HS.out.at_ i hlt
            obtain ⟨tb, to, tap, tac, thp, thc, rfl, hTA, htcl⟩ := T5.out.at_ i (by simpa using hlt)
            have z1 : Below w1.heap.size w1 wr := B7.out.2.2.trans (BW.out.mono B7.out.2.2.size)
            have z5 : Below w5.heap.size w5 wr := B7.out.1.trans (BW.out.mono B7.out.1.size)
            have zY : Below Y.heap.size Y wr := B7.out.2.1.trans (BW.out.mono B7.out.2.1.size)
            obtain ⟨c0, c1, c2, c3⟩ := hcl wr z1
            obtain ⟨t0, t1, t2, t3⟩ := htcl wr z5
            obtain ⟨e0, e1, e2⟩ := KP.out.cel wr zY
            have h1 := (hA.later z1)
            have h2 := (hTA.later z5)
            simp only [List.getElem_map] at t0 t1 t2 t3 h2
            have h3 := h2.held
            rw [tkA_id] at t0
            rw [tkA_held] at t3 h3
            obtain ⟨q1, q2⟩ := took_one x s[i]
            rw [q1] at t1
            have HSI : Bx (∀ X, Below wr.heap.size wr X → Calls Try.prog 25 #[.slice thp s[i].held.length thc, .slice hp s[i].held.length hc] X fun e w' => e = .returned (.bool true) ∧ ∃ m, w' = X.drewN m) := ⟨fun X hX => sameInts_yes _ _ _ _ _ _ (h3.later hX) (h1.held.later hX)⟩
            have HSH : Bx ((s[i].id == x.woken || s[i].id == x.waker) = false → (tkA x s[i]).arms.length = s[i].arms.length ∧ ∀ X, Below wr.heap.size wr X → Calls Try.prog 26 #[.slice tap s[i].arms.length tac, .slice ap s[i].arms.length ac] X fun e w' => e = .returned (.bool true) ∧ ∃ m, w' = X.drewN m) := ⟨fun hf => by
              have e := q2 hf
              have h4 := h2.arms
              rw [e] at h4
              exact ⟨by rw [e], fun X hX => sameHands_yes _ _ _ _ _ _ (h4.later hX) (h1.arms.later hX)⟩⟩
            have HFX : Bx (∀ X, Below wr.heap.size wr X → (X.cell? ⟨b, o + i * 4, none⟩ = some (.int .i64 s[i].id) ∧ X.cell? ⟨b, o + i * 4 + 1, none⟩ = some (.bool s[i].awake) ∧ X.cell? ⟨b, o + i * 4 + 2, none⟩ = some (.slice ap s[i].arms.length ac) ∧ X.cell? ⟨b, o + i * 4 + 3, none⟩ = some (.slice hp s[i].held.length hc)) ∧ (X.cell? ⟨tb, to + i * 4, none⟩ = some (.int .i64 s[i].id) ∧ X.cell? ⟨tb, to + i * 4 + 1, none⟩ = some (.bool (s[i].awake || (s[i].id == x.woken || s[i].id == x.waker))) ∧ X.cell? ⟨tb, to + i * 4 + 2, none⟩ = some (.slice tap (tkA x s[i]).arms.length tac) ∧ X.cell? ⟨tb, to + i * 4 + 3, none⟩ = some (.slice thp s[i].held.length thc)) ∧ X.cell? ⟨w4.heap.size, 0, none⟩ = some (.int .i64 x.waker) ∧ X.cell? ⟨w4.heap.size, 1, none⟩ = some (.int .i64 x.woken) ∧ X.cell? ⟨w4.heap.size, 2, none⟩ = some (.int .i64 x.chan)) := ⟨fun X hX => by
              have y5 := htcl X (z5.trans (hX.mono z5.size))
              simp only [List.getElem_map] at y5
              rw [tkA_id, tkA_held, q1] at y5
              exact ⟨hcl X (z1.trans (hX.mono z1.size)), y5, KP.out.cel X (zY.trans (hX.mono zY.size))⟩⟩
            clear hcl htcl hA hTA h1 h2 h3 q1 q2 z1 z5 zY KP T5 B5 B6 B7 L4 B4 HYE
            generalize (tkA x s[i]).arms.length = tal at *
            generalize s[i] = a at *
            obtain ⟨aid, aaw, aar, ahe⟩ := a
            obtain ⟨xr, xn, xc⟩ := x
            simp only at c0 c1 c2 c3 t0 t1 t2 t3 e0 e1 e2 HSI HSH HFX
            by_cases g1 : aid = xn
            · subst g1
              rw [show (aaw || (aid == aid || aid == xr)) = true by simp] at t1 HFX
              have QW : Bx True := ⟨trivial⟩
              clear HSH
              cases aaw
              all_goals (
                go_wp2
                go_quiet (fail)
                go_wp2
                obtain ⟨X2, hX2⟩ : ∃ X2, X2 = wr.drewN nq := ⟨_, rfl⟩
                rw [← hX2]
                have z2 : Below wr.heap.size wr X2 := (by rw [hX2]; exact below_drewN (Below.refl _ _) _)
                clear c0 c1 c2 c3 t0 t1 t2 t3 e0 e1 e2 hX2
                obtain ⟨⟨c0, c1, c2, c3⟩, ⟨t0, t1, t2, t3⟩, e0, e1, e2⟩ := HFX.out X2 z2
                go_quiet (first | (go_at_call 25; exact Calls.quiet_of (HSI.out _ (below_drewN z2 _))))
                go_wp2
                go_roundg (s.length + 1 - (i + 1))
                case measure => omega
                case rel => exact ⟨i + 1, rfl, by omega, by simp, ⟨BW.out.trans ((below_drewN z2 _).mono BW.out.size)⟩⟩)
            · have g1' : (aid == xn) = false := by simpa using g1
              by_cases g2 : aid = xr
              · subst g2
                rw [show (aaw || (aid == xn || aid == aid)) = true by simp] at t1 HFX
                clear g1
                have QW : Bx True := ⟨trivial⟩
                clear HSH
                cases aaw
                all_goals (
                  go_wp2
                  go_quiet (fail)
                  go_wp2
                  obtain ⟨X2, hX2⟩ : ∃ X2, X2 = wr.drewN nq := ⟨_, rfl⟩
                  rw [← hX2]
                  have z2 : Below wr.heap.size wr X2 := (by rw [hX2]; exact below_drewN (Below.refl _ _) _)
                  clear c0 c1 c2 c3 t0 t1 t2 t3 e0 e1 e2 hX2
                  obtain ⟨⟨c0, c1, c2, c3⟩, ⟨t0, t1, t2, t3⟩, e0, e1, e2⟩ := HFX.out X2 z2
                  go_quiet (first | (go_at_call 25; exact Calls.quiet_of (HSI.out _ (below_drewN z2 _))))
                  go_wp2
                  go_roundg (s.length + 1 - (i + 1))
                  case measure => omega
                  case rel => exact ⟨i + 1, rfl, by omega, by simp, ⟨BW.out.trans ((below_drewN z2 _).mono BW.out.size)⟩⟩)
              · have g2' : (aid == xr) = false := by simpa using g2
                obtain ⟨hal, hsh⟩ := HSH.out (by rw [g1', g2']; rfl)
                subst hal
                rw [g1', g2'] at t1 HFX
                simp only [Bool.or_false] at t1 HFX
                replace HSH : Bx _ := ⟨hsh⟩
                clear g1 g2 hsh
                cases aaw
                all_goals (
                  go_wp2
                  go_quiet (fail)
                  go_wp2
                  obtain ⟨X2, hX2⟩ : ∃ X2, X2 = wr.drewN nq := ⟨_, rfl⟩
                  rw [← hX2]
                  have z2 : Below wr.heap.size wr X2 := (by rw [hX2]; exact below_drewN (Below.refl _ _) _)
                  clear c0 c1 c2 c3 t0 t1 t2 t3 e0 e1 e2 hX2
                  obtain ⟨⟨c0, c1, c2, c3⟩, ⟨t0, t1, t2, t3⟩, e0, e1, e2⟩ := HFX.out X2 z2
                  go_quiet (first | (go_at_call 25; exact Calls.quiet_of (HSI.out _ (below_drewN z2 _))) | (go_at_call 26; exact Calls.quiet_of (HSH.out _ (below_drewN z2 _))))
                  go_wp2
                  go_roundg (s.length + 1 - (i + 1))
                  case measure => omega
                  case rel => exact ⟨i + 1, rfl, by omega, by simp, ⟨BW.out.trans ((below_drewN z2 _).mono BW.out.size)⟩⟩)
          · have hie : i = s.length := by omega
            subst hie
            obtain ⟨w8, hw8⟩ : ∃ X, X = wr := ⟨_, rfl⟩
            have B8 : Bx (Below w5.heap.size w5 wr ∧ Below Y.heap.size Y wr ∧ Below w1.heap.size w1 wr) := ⟨B7.out.1.trans (BW.out.mono B7.out.1.size), B7.out.2.1.trans (BW.out.mono B7.out.2.1.size), B7.out.2.2.trans (BW.out.mono B7.out.2.2.size)⟩
            rw [← hw8] at B8 ⊢
            clear hw8 BW B7 wr
            go_wp2
            go_loopg [11] (L.length + 1) (fun g v11 wr => ∃ q : Nat, g = L.length + 1 - q ∧ q ≤ L.length ∧ v11 = .int .i64 q ∧ Bx (Below w8.heap.size w8 wr))
            case atStart => exact ⟨0, by simp, by omega, rfl, ⟨Below.refl _ _⟩⟩
            case round =>
              obtain ⟨q, hgq, hql, rfl, BW⟩ := hrel
              have BE : Bx (Below w1.heap.size w1 wr) := ⟨B8.out.2.2.trans (BW.out.mono B8.out.2.2.size)⟩
              by_cases hltq : q < L.length
              · by_cases hq2 : q < 2000
                · have g2 : decide ((q : Int) < 2000) = true := by simp; omega
                  obtain ⟨i, hi, hwk, hat, hft⟩ := KP.out.one q hltq
                  obtain ⟨lb, lo, e, _, hcl⟩ := L4.out.at_ q hltq
                  have z4 : Below w4.heap.size w4 wr := KP.out.bel4.trans ((B8.out.2.1.trans (BW.out.mono B8.out.2.1.size)).mono KP.out.bel4.size)
                  have z5 : Below w5.heap.size w5 wr := B8.out.1.trans (BW.out.mono B8.out.1.size)
                  obtain ⟨l0, l1, l2⟩ := hcl wr z4
                  have hT := T5.out.later z5
                  obtain ⟨tb, to, tap, tac, thp, thc, e', hTA, htcl⟩ := hT.at_ i (by simpa using hi)
                  obtain ⟨_, t1, _, _⟩ := htcl wr (Below.refl _ _)
                  simp only [List.getElem_map] at t1
                  have HAT : Bx _ := ⟨hat wr tp tc hT⟩
                  have HFT : Bx ((tkA x s[i]).awake = false → Calls Try.prog 13 #[.slice tp s.length tc, .agg #[.int .i64 L[q].waker, .int .i64 L[q].woken, .int .i64 L[q].chan]] wr fun e w' => e = .returned (.bool true) ∧ Below wr.heap.size wr w') := ⟨fun h => hft h wr tp tc hT⟩
                  cases e
                  cases e'
                  clear hat hft hcl htcl hTA hT z4 z5 hwk KP T5 B4 B5 B6 L4 HYE
                  have gj : decide ((i : Int) < 0) = false := by simp
                  generalize L[q] = y at *
                  generalize (tkA x s[i]).awake = taw at *
                  cases taw with
                  | true =>
                    clear HFT
                    go_wp2_with (first | (go_at_call 27; refine Calls.mono HAT.out ?_; rintro e wA ⟨rfl, rfl⟩))
                    go_roundg (L.length + 1 - (q + 1))
                    case measure => omega
                    case rel => exact ⟨q + 1, rfl, by omega, by simp, BW⟩
                  | false =>
                    replace HFT : Bx _ := ⟨HFT.out rfl⟩
                    go_wp2_with (first | (go_at_call 27; refine Calls.mono HAT.out ?_; rintro e wA ⟨rfl, rfl⟩) | (go_at_call 13; refine Calls.mono HFT.out ?_; rintro e wB ⟨rfl, hbB⟩; have BB : Bx (Below w8.heap.size w8 wB) := ⟨BW.out.trans (hbB.mono BW.out.size)⟩; clear hbB))
                    go_roundg (L.length + 1 - (q + 1))
                    case measure => omega
                    case rel => exact ⟨q + 1, rfl, by omega, by simp, BB⟩
                · have g2 : decide ((q : Int) < 2000) = false := by simp; omega
                  clear KP T5 B4 B5 B6 L4 HYE
                  go_wp2
                  go_ret
                  exact ⟨rfl, BE.out⟩
              · have hqe : q = L.length := by omega
                subst hqe
                clear KP T5 B4 B5 B6 L4 HYE
                go_wp2
                go_ret
                exact ⟨rfl, BE.out⟩
      · go_ret
        exact ⟨rfl, Below.refl _ _⟩
    · have e : midN n = n := if_neg hneg
      rw [e] at hjm hmr
      clear e hn
      go_wp2_with (first
        | (go_at_call 9; refine Calls.mono HBY.out ?_; clear HBY; rintro e w1 ⟨⟨b1, rfl, hb1⟩, rfl⟩; have HT : Bx (b1 = false → totA s ≤ 2147483647) := ⟨hb1⟩; clear hb1; cases b1)
        | (go_at_call 10; refine Calls.mono (shown_any _) ?_; rintro e w2 ⟨rfl, hb2⟩; have B2 : Bx (Below w1.heap.size w1 w2) := ⟨hb2⟩; clear hb2)
        | (go_at_call 14; refine Calls.mono (HLN.out (HT.out (by trivial)) w2 B2.out) ?_; rintro e w3 ⟨lp, lc, rfl, hl3, hb3⟩; have B3 : Bx (Below w1.heap.size w1 w3) := ⟨B2.out.trans (hb3.mono B2.out.size)⟩; have L3 : Bx (LksR w3 lp lc L) := ⟨hl3⟩; have hl1 := hl3.len; have hl2 := hl3.max; unfold maxLen at hl2; clear hb3 hl3)
        | (go_at_call 12; refine Calls.mono (HC.out (HT.out (by trivial)) w3 B3.out) ?_; clear HC; rintro e w4 ⟨rfl, hb4⟩; have L4 : Bx (LksR w4 lp lc L) := ⟨L3.out.later hb4⟩; have B4 : Bx (Below w1.heap.size w1 w4) := ⟨B3.out.trans (hb4.mono B3.out.size)⟩; obtain ⟨lb, lo, hlp, _, hlx⟩ := L4.out.at_ j hj; subst hlp; obtain ⟨l0, l1, l2⟩ := hlx w4 (Below.refl _ _); have HXL := HX0; obtain ⟨Y, hY⟩ : ∃ Y, w4.alloc (.cells #[.int .i64 L[j].waker, .int .i64 L[j].woken, .int .i64 L[j].chan] 24) = Y := ⟨_, rfl⟩; have KP : Bx (KpP w1 w4 Y p c s L L[j]) := ⟨keeps_prep HS.out HOK.out (HT.out (by trivial)) HLE.out B4.out HX0.out hY⟩; have HYE : Bx (_ = Y) := ⟨hY⟩; obtain ⟨x, hx⟩ : ∃ x, L[j] = x := ⟨_, rfl⟩; rw [hx] at l0 l1 l2 KP HYE; obtain ⟨e0, e1, e2⟩ := KP.out.cel Y (Below.refl _ _); rw [← HYE.out] at e0 e1 e2; clear hlx hx hY HXL hb4 L3)
        | (go_at_call 21; rw [HYE.out]; refine Calls.mono KP.out.tak ?_; rintro e w5 ⟨tp, tc, rfl, ht5, hb5⟩; have T5 : Bx (AgsR w5 tp tc (s.map (tkA x))) := ⟨ht5⟩; have B5 : Bx (Below Y.heap.size Y w5) := ⟨hb5⟩; obtain ⟨e0, e1, e2⟩ := KP.out.cel w5 hb5; have TL := ht5.len; have TM := ht5.max; rw [List.length_map] at TL; unfold maxLen at TM; clear hb5 ht5)
        | (go_at_call 12; refine Calls.mono (KP.out.chk w5 tp tc T5.out) ?_; rintro e w6 ⟨rfl, hb6⟩; have B6 : Bx (Below w5.heap.size w5 w6) := ⟨hb6⟩; obtain ⟨e0, e1, e2⟩ := KP.out.cel w6 (B5.out.trans (hb6.mono B5.out.size)); clear hb6)
        | (go_at_call 13; refine Calls.mono (KP.out.fit w6 (KP.out.bel1.trans ((B5.out.trans (B6.out.mono B5.out.size)).mono KP.out.bel1.size))) ?_; rintro e w7 ⟨rfl, hb7⟩; have B7 : Bx (Below w5.heap.size w5 w7 ∧ Below Y.heap.size Y w7 ∧ Below w1.heap.size w1 w7) := keeps_bel KP.out B5.out B6.out hb7; clear hb7 e0 e1 e2))
      · clear HLN HLE HLB HX0
        go_loopg [9] (s.length + 1) (fun g v9 wr => ∃ i : Nat, g = s.length + 1 - i ∧ i ≤ s.length ∧ v9 = .int .i64 i ∧ Bx (Below w7.heap.size w7 wr))
        case atStart => exact ⟨0, by simp, by omega, rfl, ⟨Below.refl _ _⟩⟩
        case round =>
          obtain ⟨i, hgi, hil, rfl, BW⟩ := hrel
          by_cases hlt : i < s.length
          · obtain ⟨b, o, ap, ac, hp, hc, rfl, hA, hcl⟩ := HS.out.at_ i hlt
            obtain ⟨tb, to, tap, tac, thp, thc, rfl, hTA, htcl⟩ := T5.out.at_ i (by simpa using hlt)
            have z1 : Below w1.heap.size w1 wr := B7.out.2.2.trans (BW.out.mono B7.out.2.2.size)
            have z5 : Below w5.heap.size w5 wr := B7.out.1.trans (BW.out.mono B7.out.1.size)
            have zY : Below Y.heap.size Y wr := B7.out.2.1.trans (BW.out.mono B7.out.2.1.size)
            obtain ⟨c0, c1, c2, c3⟩ := hcl wr z1
            obtain ⟨t0, t1, t2, t3⟩ := htcl wr z5
            obtain ⟨e0, e1, e2⟩ := KP.out.cel wr zY
            have h1 := (hA.later z1)
            have h2 := (hTA.later z5)
            simp only [List.getElem_map] at t0 t1 t2 t3 h2
            have h3 := h2.held
            rw [tkA_id] at t0
            rw [tkA_held] at t3 h3
            obtain ⟨q1, q2⟩ := took_one x s[i]
            rw [q1] at t1
            have HSI : Bx (∀ X, Below wr.heap.size wr X → Calls Try.prog 25 #[.slice thp s[i].held.length thc, .slice hp s[i].held.length hc] X fun e w' => e = .returned (.bool true) ∧ ∃ m, w' = X.drewN m) := ⟨fun X hX => sameInts_yes _ _ _ _ _ _ (h3.later hX) (h1.held.later hX)⟩
            have HSH : Bx ((s[i].id == x.woken || s[i].id == x.waker) = false → (tkA x s[i]).arms.length = s[i].arms.length ∧ ∀ X, Below wr.heap.size wr X → Calls Try.prog 26 #[.slice tap s[i].arms.length tac, .slice ap s[i].arms.length ac] X fun e w' => e = .returned (.bool true) ∧ ∃ m, w' = X.drewN m) := ⟨fun hf => by
              have e := q2 hf
              have h4 := h2.arms
              rw [e] at h4
              exact ⟨by rw [e], fun X hX => sameHands_yes _ _ _ _ _ _ (h4.later hX) (h1.arms.later hX)⟩⟩
            have HFX : Bx (∀ X, Below wr.heap.size wr X → (X.cell? ⟨b, o + i * 4, none⟩ = some (.int .i64 s[i].id) ∧ X.cell? ⟨b, o + i * 4 + 1, none⟩ = some (.bool s[i].awake) ∧ X.cell? ⟨b, o + i * 4 + 2, none⟩ = some (.slice ap s[i].arms.length ac) ∧ X.cell? ⟨b, o + i * 4 + 3, none⟩ = some (.slice hp s[i].held.length hc)) ∧ (X.cell? ⟨tb, to + i * 4, none⟩ = some (.int .i64 s[i].id) ∧ X.cell? ⟨tb, to + i * 4 + 1, none⟩ = some (.bool (s[i].awake || (s[i].id == x.woken || s[i].id == x.waker))) ∧ X.cell? ⟨tb, to + i * 4 + 2, none⟩ = some (.slice tap (tkA x s[i]).arms.length tac) ∧ X.cell? ⟨tb, to + i * 4 + 3, none⟩ = some (.slice thp s[i].held.length thc)) ∧ X.cell? ⟨w4.heap.size, 0, none⟩ = some (.int .i64 x.waker) ∧ X.cell? ⟨w4.heap.size, 1, none⟩ = some (.int .i64 x.woken) ∧ X.cell? ⟨w4.heap.size, 2, none⟩ = some (.int .i64 x.chan)) := ⟨fun X hX => by
              have y5 := htcl X (z5.trans (hX.mono z5.size))
              simp only [List.getElem_map] at y5
              rw [tkA_id, tkA_held, q1] at y5
              exact ⟨hcl X (z1.trans (hX.mono z1.size)), y5, KP.out.cel X (zY.trans (hX.mono zY.size))⟩⟩
            clear hcl htcl hA hTA h1 h2 h3 q1 q2 z1 z5 zY KP T5 B5 B6 B7 L4 B4 HYE
            generalize (tkA x s[i]).arms.length = tal at *
            generalize s[i] = a at *
            obtain ⟨aid, aaw, aar, ahe⟩ := a
            obtain ⟨xr, xn, xc⟩ := x
            simp only at c0 c1 c2 c3 t0 t1 t2 t3 e0 e1 e2 HSI HSH HFX
            by_cases g1 : aid = xn
            · subst g1
              rw [show (aaw || (aid == aid || aid == xr)) = true by simp] at t1 HFX
              have QW : Bx True := ⟨trivial⟩
              clear HSH
              cases aaw
              all_goals (
                go_wp2
                go_quiet (fail)
                go_wp2
                obtain ⟨X2, hX2⟩ : ∃ X2, X2 = wr.drewN nq := ⟨_, rfl⟩
                rw [← hX2]
                have z2 : Below wr.heap.size wr X2 := (by rw [hX2]; exact below_drewN (Below.refl _ _) _)
                clear c0 c1 c2 c3 t0 t1 t2 t3 e0 e1 e2 hX2
                obtain ⟨⟨c0, c1, c2, c3⟩, ⟨t0, t1, t2, t3⟩, e0, e1, e2⟩ := HFX.out X2 z2
                go_quiet (first | (go_at_call 25; exact Calls.quiet_of (HSI.out _ (below_drewN z2 _))))
                go_wp2
                go_roundg (s.length + 1 - (i + 1))
                case measure => omega
                case rel => exact ⟨i + 1, rfl, by omega, by simp, ⟨BW.out.trans ((below_drewN z2 _).mono BW.out.size)⟩⟩)
            · have g1' : (aid == xn) = false := by simpa using g1
              by_cases g2 : aid = xr
              · subst g2
                rw [show (aaw || (aid == xn || aid == aid)) = true by simp] at t1 HFX
                clear g1
                have QW : Bx True := ⟨trivial⟩
                clear HSH
                cases aaw
                all_goals (
                  go_wp2
                  go_quiet (fail)
                  go_wp2
                  obtain ⟨X2, hX2⟩ : ∃ X2, X2 = wr.drewN nq := ⟨_, rfl⟩
                  rw [← hX2]
                  have z2 : Below wr.heap.size wr X2 := (by rw [hX2]; exact below_drewN (Below.refl _ _) _)
                  clear c0 c1 c2 c3 t0 t1 t2 t3 e0 e1 e2 hX2
                  obtain ⟨⟨c0, c1, c2, c3⟩, ⟨t0, t1, t2, t3⟩, e0, e1, e2⟩ := HFX.out X2 z2
                  go_quiet (first | (go_at_call 25; exact Calls.quiet_of (HSI.out _ (below_drewN z2 _))))
                  go_wp2
                  go_roundg (s.length + 1 - (i + 1))
                  case measure => omega
                  case rel => exact ⟨i + 1, rfl, by omega, by simp, ⟨BW.out.trans ((below_drewN z2 _).mono BW.out.size)⟩⟩)
              · have g2' : (aid == xr) = false := by simpa using g2
                obtain ⟨hal, hsh⟩ := HSH.out (by rw [g1', g2']; rfl)
                subst hal
                rw [g1', g2'] at t1 HFX
                simp only [Bool.or_false] at t1 HFX
                replace HSH : Bx _ := ⟨hsh⟩
                clear g1 g2 hsh
                cases aaw
                all_goals (
                  go_wp2
                  go_quiet (fail)
                  go_wp2
                  obtain ⟨X2, hX2⟩ : ∃ X2, X2 = wr.drewN nq := ⟨_, rfl⟩
                  rw [← hX2]
                  have z2 : Below wr.heap.size wr X2 := (by rw [hX2]; exact below_drewN (Below.refl _ _) _)
                  clear c0 c1 c2 c3 t0 t1 t2 t3 e0 e1 e2 hX2
                  obtain ⟨⟨c0, c1, c2, c3⟩, ⟨t0, t1, t2, t3⟩, e0, e1, e2⟩ := HFX.out X2 z2
                  go_quiet (first | (go_at_call 25; exact Calls.quiet_of (HSI.out _ (below_drewN z2 _))) | (go_at_call 26; exact Calls.quiet_of (HSH.out _ (below_drewN z2 _))))
                  go_wp2
                  go_roundg (s.length + 1 - (i + 1))
                  case measure => omega
                  case rel => exact ⟨i + 1, rfl, by omega, by simp, ⟨BW.out.trans ((below_drewN z2 _).mono BW.out.size)⟩⟩)
          · have hie : i = s.length := by omega
            subst hie
            obtain ⟨w8, hw8⟩ : ∃ X, X = wr := ⟨_, rfl⟩
            have B8 : Bx (Below w5.heap.size w5 wr ∧ Below Y.heap.size Y wr ∧ Below w1.heap.size w1 wr) := ⟨B7.out.1.trans (BW.out.mono B7.out.1.size), B7.out.2.1.trans (BW.out.mono B7.out.2.1.size), B7.out.2.2.trans (BW.out.mono B7.out.2.2.size)⟩
            rw [← hw8] at B8 ⊢
            clear hw8 BW B7 wr
            go_wp2
            go_loopg [11] (L.length + 1) (fun g v11 wr => ∃ q : Nat, g = L.length + 1 - q ∧ q ≤ L.length ∧ v11 = .int .i64 q ∧ Bx (Below w8.heap.size w8 wr))
            case atStart => exact ⟨0, by simp, by omega, rfl, ⟨Below.refl _ _⟩⟩
            case round =>
              obtain ⟨q, hgq, hql, rfl, BW⟩ := hrel
              have BE : Bx (Below w1.heap.size w1 wr) := ⟨B8.out.2.2.trans (BW.out.mono B8.out.2.2.size)⟩
              by_cases hltq : q < L.length
              · by_cases hq2 : q < 2000
                · have g2 : decide ((q : Int) < 2000) = true := by simp; omega
                  obtain ⟨i, hi, hwk, hat, hft⟩ := KP.out.one q hltq
                  obtain ⟨lb, lo, e, _, hcl⟩ := L4.out.at_ q hltq
                  have z4 : Below w4.heap.size w4 wr := KP.out.bel4.trans ((B8.out.2.1.trans (BW.out.mono B8.out.2.1.size)).mono KP.out.bel4.size)
                  have z5 : Below w5.heap.size w5 wr := B8.out.1.trans (BW.out.mono B8.out.1.size)
                  obtain ⟨l0, l1, l2⟩ := hcl wr z4
                  have hT := T5.out.later z5
                  obtain ⟨tb, to, tap, tac, thp, thc, e', hTA, htcl⟩ := hT.at_ i (by simpa using hi)
                  obtain ⟨_, t1, _, _⟩ := htcl wr (Below.refl _ _)
                  simp only [List.getElem_map] at t1
                  have HAT : Bx _ := ⟨hat wr tp tc hT⟩
                  have HFT : Bx ((tkA x s[i]).awake = false → Calls Try.prog 13 #[.slice tp s.length tc, .agg #[.int .i64 L[q].waker, .int .i64 L[q].woken, .int .i64 L[q].chan]] wr fun e w' => e = .returned (.bool true) ∧ Below wr.heap.size wr w') := ⟨fun h => hft h wr tp tc hT⟩
                  cases e
                  cases e'
                  clear hat hft hcl htcl hTA hT z4 z5 hwk KP T5 B4 B5 B6 L4 HYE
                  have gj : decide ((i : Int) < 0) = false := by simp
                  generalize L[q] = y at *
                  generalize (tkA x s[i]).awake = taw at *
                  cases taw with
                  | true =>
                    clear HFT
                    go_wp2_with (first | (go_at_call 27; refine Calls.mono HAT.out ?_; rintro e wA ⟨rfl, rfl⟩))
                    go_roundg (L.length + 1 - (q + 1))
                    case measure => omega
                    case rel => exact ⟨q + 1, rfl, by omega, by simp, BW⟩
                  | false =>
                    replace HFT : Bx _ := ⟨HFT.out rfl⟩
                    go_wp2_with (first | (go_at_call 27; refine Calls.mono HAT.out ?_; rintro e wA ⟨rfl, rfl⟩) | (go_at_call 13; refine Calls.mono HFT.out ?_; rintro e wB ⟨rfl, hbB⟩; have BB : Bx (Below w8.heap.size w8 wB) := ⟨BW.out.trans (hbB.mono BW.out.size)⟩; clear hbB))
                    go_roundg (L.length + 1 - (q + 1))
                    case measure => omega
                    case rel => exact ⟨q + 1, rfl, by omega, by simp, BB⟩
                · have g2 : decide ((q : Int) < 2000) = false := by simp; omega
                  clear KP T5 B4 B5 B6 L4 HYE
                  go_wp2
                  go_ret
                  exact ⟨rfl, BE.out⟩
              · have hqe : q = L.length := by omega
                subst hqe
                clear KP T5 B4 B5 B6 L4 HYE
                go_wp2
                go_ret
                exact ⟨rfl, BE.out⟩
      · go_ret
        exact ⟨rfl, Below.refl _ _⟩
end Go.Proofs.Ytfdofdpfdimgiaa
