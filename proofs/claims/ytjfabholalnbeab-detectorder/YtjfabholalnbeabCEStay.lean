import Derived.Test.YtjfabholalnbeabCEXa
namespace Go.Proofs.Ytjfabholalnbeab
open Go.RowKit
set_option linter.unusedVariables false
set_option linter.unusedSimpArgs false

/-! ### SOUND: the dead stay the same -/
theorem dd_awk {s : List Ag} (hok : stOk s = true) {Y : Int → Option Wy} (hY : Full s Y) : ∀ id ∈ ddL Y s, awkI s id = false := fun id hid => by
  obtain ⟨a, ha, rfl, hw, _⟩ := (dd_mem hY id).1 hid
  cases h : awkI s a.id with
  | false => rfl
  | true =>
    obtain ⟨b, hb, e1, e2⟩ := awk_in s _ h
    exact absurd ((aw_iff _ _).2 ⟨b, hb, e2, e1⟩) (aw_not hok ha hw)
structure StI (w wr : World) (s t : List Ag) (np : Option Addr) (nc : Nat) (dq : Option Addr) (dd : Nat) (D : List Int) : Prop where
  ags : AgsR wr np nc t
  ok : stOk t = true
  tot : totA t ≤ 2147483647
  len : t.length = s.length
  dead : ∃ Z, Full t Z ∧ ddL Z t = D
  awk : ∀ id ∈ D, awkI t id = false
  bel : Below w.heap.size w wr
  dl : IntsR wr dq dd D
theorem StI.next {w wr w4 w5 w6 w7 : World} {s t : List Ag} {np dq tp : Option Addr} {nc dd tc k : Nat} {D : List Int} (h : StI w wr s t np nc dq dd D) {l : Lk} (hl : l ∈ linksI t) (h4 : Below wr.heap.size wr w4) (h5 : AgsR w5 tp tc (t.map (tkA l)) ∧ Below w4.heap.size w4 w5) {Z : Int → Option Wy} (hZ : Full (t.map (tkA l)) Z) (h6 : Below w5.heap.size w5 w6) (h7 : w7 = w6.drewN k) : ddL Z (t.map (tkA l)) = D ∧ StI w w7 s (t.map (tkA l)) tp tc dq dd D := by
  obtain ⟨Y, hY, hD⟩ := h.dead
  have e : ddL Z (t.map (tkA l)) = D := (dead_take h.ok hl hY hZ).trans hD
  have hok := took_ok l h.ok
  have b45 := h4.trans (h5.2.mono h4.size)
  have b46 := b45.trans (h6.mono b45.size)
  have b7 : Below w6.heap.size w6 w7 := by rw [h7]; exact below_drewN (Below.refl _ _) _
  have b47 := b46.trans (b7.mono b46.size)
  have b57 := h6.trans (b7.mono h6.size)
  refine ⟨e, h5.1.later b57, hok, Nat.le_trans (took_tot l) h.tot, by rw [List.length_map]; exact h.len, ⟨Z, hZ, e⟩, fun id hid => ?_, h.bel.trans (b47.mono h.bel.size), h.dl.later b47⟩
  rw [← e] at hid
  exact dd_awk hok hZ id hid
theorem StI.later {w wr w4 : World} {s t : List Ag} {np dq : Option Addr} {nc dd : Nat} {D : List Int} (h : StI w wr s t np nc dq dd D) (h4 : Below wr.heap.size wr w4) : StI w w4 s t np nc dq dd D :=
  ⟨h.ags.later h4, h.ok, h.tot, h.len, h.dead, h.awk, h.bel.trans (h4.mono h.bel.size), h.dl.later h4⟩
theorem rd_int {w : World} {q : Option Addr} {d : Nat} {l : List Int} (h : IntsR w q d l) {x : Int} (hx : x ∈ l) : I64 x := by
  obtain ⟨j, hj, rfl⟩ := List.mem_iff_getElem.1 hx
  obtain ⟨_, _, _, h1, _⟩ := h.at_ j hj
  exact h1
set_option maxRecDepth 100000 in
set_option maxHeartbeats 1500000 in
theorem stays_yes (w : World) (p : Option Addr) (c : Nat) (s : List Ag) (hs : AgsR w p c s) (hz : Lists s) (hsl : s.length ≤ 1152921504606846976) (q : Option Addr) (d : Nat) (ps : List Int) (hq : IntsR w q d ps) (ht : totA s ≤ 2147483647) (h3 : s.length ≤ 300) (hok : stOk s = true) :
    Calls Try.prog 4 #[.slice p s.length c, .slice q ps.length d] w fun e w' => e = .returned (.bool true) ∧ Below w.heap.size w w' := by
  have hlc := hs.len
  have hcm := hs.max
  have qlc := hq.len
  have qcm := hq.max
  unfold maxLen at hcm qcm
  have HH : Bx (Calls Try.prog 8 #[.slice p s.length c] w fun e w' => e = .returned (.bool false) ∧ ∃ k, w' = w.drewN k) := ⟨by
    have := heavy_any w p c s hs hz hsl
    rw [decide_eq_false (by omega)] at this
    exact this⟩
  have HS : Bx (AgsR w p c s ∧ stOk s = true ∧ totA s ≤ 2147483647) := ⟨hs, hok, ht⟩
  have HQ : Bx (IntsR w q d ps) := ⟨hq⟩
  clear hs hz hok ht hq
  go_enter Try.func4, Try.ntmps4
  go_wp2_with (first
    | (go_at_call 8; refine Calls.mono HH.out ?_; rintro e w1 ⟨rfl, k1, hk1⟩; have B1 : Bx (Below w.heap.size w w1) := ⟨by rw [hk1]; exact below_drewN (Below.refl _ _) _⟩; clear hk1)
    | (go_at_call 9; refine Calls.mono (shown15_any _) ?_; rintro e w2 ⟨rfl, hb2⟩; have B2 : Bx (Below w.heap.size w w2) := ⟨B1.out.trans (hb2.mono B1.out.size)⟩; clear hb2)
    | (go_at_call 10; refine Calls.mono (Dead_yes w2 p c s (HS.out.1.later B2.out) HS.out.2.2 HS.out.2.1) ?_; rintro e w3 ⟨Y, dq, dd, hY, rfl, hI, hb3⟩; have I3 : Bx (StI w w3 s s p c dq dd (ddL Y s)) := ⟨⟨(HS.out.1.later B2.out).later hb3, HS.out.2.1, HS.out.2.2, rfl, ⟨Y, hY, rfl⟩, dd_awk HS.out.2.1 hY, B2.out.trans (hb3.mono B2.out.size), hI⟩⟩; clear hI hb3 hY))
  have hDl : (ddL Y s).length ≤ 4096 := by have := ddL_len Y s; omega
  have hDc := I3.out.dl.len
  have hDm := I3.out.dl.max
  unfold maxLen at hDm
  generalize ddL Y s = D at *
  go_loopg [7, 40] (ps.length + 1) (fun g v7 v40 wr => ∃ (i : Nat) (np : Option Addr) (nc : Nat) (t : List Ag), g = ps.length + 1 - i ∧ i ≤ ps.length ∧ v7 = .slice np s.length nc ∧ v40 = .int .i64 (i : Nat) ∧ Bx (StI w wr s t np nc dq dd D))
  case atStart => exact ⟨0, p, c, s, by simp, by omega, rfl, rfl, I3⟩
  case round =>
    obtain ⟨i, np, nc, t, hg, hil, rfl, rfl, HR⟩ := hrel
    have hnl := HR.out.ags.len
    have hnm := HR.out.ags.max
    have htl := HR.out.len
    unfold maxLen at hnm
    rw [htl] at hnl
    by_cases hlt : i < ps.length
    · obtain ⟨qb, qo, rfl, h64, hqc⟩ := HQ.out.at_ i hlt
      have q0 := hqc wr HR.out.bel
      have HLK : Bx (Calls Try.prog 17 #[.slice np s.length nc] wr fun e w' => ∃ lp lc, e = .returned (.slice lp (linksI t).length lc) ∧ LksR w' lp lc (linksI t) ∧ Below wr.heap.size wr w') := ⟨by
        have := Links_r wr np nc t HR.out.ags HR.out.tot HR.out.ok
        rw [htl] at this
        exact this⟩
      have hll := links_len HR.out.ok HR.out.tot
      have HLM : Bx (∀ l, l ∈ linksI t ↔ l ∈ linksI t) := ⟨fun l => Iff.rfl⟩
      clear hqc
      obtain ⟨L, hL⟩ : ∃ L, linksI t = L := ⟨_, rfl⟩
      have HLE : Bx (linksI t = L) := ⟨hL⟩
      rw [hL] at HLK hll
      clear hL HLM
      by_cases hl0 : L.length = 0
      · rw [hl0] at HLK
        go_wp2_with (first | (go_at_call 17; refine Calls.mono HLK.out ?_; rintro e w4 ⟨lp, lc, rfl, hl4, hb4⟩; have I4 : Bx (StI w w4 s t np nc dq dd D) := ⟨HR.out.later hb4⟩; clear hl4 hb4))
        go_loopg [80] (D.length + 1) (fun g v80 wr => ∃ j : Nat, g = D.length + 1 - j ∧ j ≤ D.length ∧ v80 = .int .i64 (j : Nat) ∧ Bx (StI w wr s t np nc dq dd D))
        case atStart => exact ⟨0, by simp, by omega, rfl, I4⟩
        case round =>
          obtain ⟨j, hgj, hjl, rfl, HJ⟩ := hrel
          by_cases hjt : j < D.length
          · obtain ⟨zb, zo, rfl, z64, hzc⟩ := HJ.out.dl.at_ j hjt
            have z0 := hzc wr (Below.refl _ _)
            have HAW : Bx (Calls Try.prog 14 #[.slice np s.length nc, .int .i64 D[j]] wr fun e w' => e = .returned (.bool false) ∧ Below wr.heap.size wr w') := ⟨by
              have := awk_any wr np nc t D[j] HJ.out.ags z64
              rw [htl, HJ.out.awk _ (List.getElem_mem hjt)] at this
              exact this⟩
            clear hzc
            generalize D[j] = z at *
            go_wp2_with (first | (go_at_call 14; refine Calls.mono HAW.out ?_; rintro e w9 ⟨rfl, hb9⟩; have I9 : Bx _ := ⟨HJ.out.later hb9⟩; clear hb9))
            go_roundg (D.length + 1 - (j + 1))
            case measure => omega
            case rel => exact ⟨j + 1, rfl, by omega, by simp, I9⟩
          · have hje : j = D.length := by omega
            subst hje
            go_wp2
            go_ret
            exact ⟨rfl, HJ.out.bel⟩
      · have h1 : 1 ≤ L.length := by omega
        have HAM : Bx (∀ W : World, Calls Try.prog 18 #[.int .i64 ps[i], .int .i64 (L.length : Int)] W fun e w' => (∃ j : Nat, j < L.length ∧ e = .returned (.int .i64 (j : Int))) ∧ w' = W) := ⟨fun W => among_any W ps[i] L.length h64 h1 (by omega)⟩
        have HTK : Bx (∀ x, x ∈ linksI t → Lk64 x → ∀ W : World, Below wr.heap.size wr W → Calls Try.prog 16 #[.slice np s.length nc, .agg #[.int .i64 x.waker, .int .i64 x.woken, .int .i64 x.chan]] W fun e w' => ∃ tp tc, e = .returned (.tuple #[.slice tp s.length tc, .int .i64 0]) ∧ AgsR w' tp tc (t.map (tkA x)) ∧ Below W.heap.size W w') := ⟨fun x hx h64 W hW => by
          have := Take_r W np nc t x (HR.out.ags.later hW) HR.out.tot HR.out.ok h64 (link_fits HR.out.ok hx)
          rw [htl] at this
          exact this⟩
        have HDD : Bx (∀ (x : Lk) (W : World) (tp : Option Addr) (tc : Nat), AgsR W tp tc (t.map (tkA x)) → Calls Try.prog 10 #[.slice tp s.length tc] W (DdPost W (t.map (tkA x)))) := ⟨fun x W tp tc hW => by
          have := Dead_yes W tp tc (t.map (tkA x)) hW (Nat.le_trans (took_tot x) HR.out.tot) (took_ok x HR.out.ok)
          rw [List.length_map, htl] at this
          exact this⟩
        clear hll
        generalize ps[i] = z at *
        go_wp2_with (first
          | (go_at_call 17; refine Calls.mono HLK.out ?_; rintro e w4 ⟨lp, lc, rfl, hl4, hb4⟩; have I4 : Bx (LksR w4 lp lc L ∧ Below wr.heap.size wr w4) := ⟨hl4, hb4⟩; have m1 := hl4.len; have m2 := hl4.max; unfold maxLen at m2; clear hl4 hb4)
          | (go_at_call 18; refine Calls.mono (HAM.out _) ?_; rintro e w5 ⟨⟨j, hj, rfl⟩, rfl⟩; obtain ⟨lb, lo, hlp, l64, hlc5⟩ := I4.out.1.at_ j hj; subst hlp; obtain ⟨l0, l1, l2⟩ := hlc5 w5 (Below.refl _ _); have HX : Bx (L[j] ∈ linksI t ∧ Lk64 L[j]) := ⟨by rw [HLE.out]; exact List.getElem_mem hj, l64⟩; clear hlc5 l64; generalize L[j] = x at *)
          | (go_at_call 16; refine Calls.mono (HTK.out x HX.out.1 HX.out.2 w5 I4.out.2) ?_; rintro e w6 ⟨tp, tc, rfl, hT6, hb6⟩; have I6 : Bx (AgsR w6 tp tc (t.map (tkA x)) ∧ Below w5.heap.size w5 w6) := ⟨hT6, hb6⟩; have n1 := hT6.len; rw [List.length_map, htl] at n1; clear hT6 hb6)
          | (go_at_call 10; refine Calls.mono (HDD.out x w6 tp tc I6.out.1) ?_; rintro e w7 ⟨Z, q7, d7, hZ, rfl, hI7, hb7⟩; have hZD := (HR.out.next (k := 0) HX.out.1 I4.out.2 I6.out hZ hb7 rfl).1; rw [hZD] at hI7; rw [hZD]; have I7 : Bx (IntsR w7 q7 d7 D ∧ Below w6.heap.size w6 w7 ∧ Full (t.map (tkA x)) Z) := ⟨hI7, hb7, hZ⟩; have n2 := hI7.len; have n3 := hI7.max; unfold maxLen at n3; clear hI7 hb7 hZ hZD)
          | (go_at_call 19; refine Calls.mono (numbers_yes w7 q7 dq d7 dd D I7.out.1 (HR.out.dl.later (I4.out.2.trans ((I6.out.2.trans (I7.out.2.1.mono I6.out.2.size)).mono I4.out.2.size)))) ?_; rintro e w8 ⟨rfl, k8, hk8⟩; have I8 : Bx (StI w w8 s (t.map (tkA x)) tp tc dq dd D) := ⟨(HR.out.next HX.out.1 I4.out.2 I6.out I7.out.2.2 I7.out.2.1 hk8).2⟩; clear hk8))
        go_roundg (ps.length + 1 - (i + 1))
        case measure => omega
        case rel => exact ⟨i + 1, tp, tc, t.map (tkA x), rfl, by omega, rfl, by simp, I8⟩
    · have hie : i = ps.length := by omega
      subst hie
      go_wp2
      go_loopg [80] (D.length + 1) (fun g v80 wr => ∃ j : Nat, g = D.length + 1 - j ∧ j ≤ D.length ∧ v80 = .int .i64 (j : Nat) ∧ Bx (StI w wr s t np nc dq dd D))
      case atStart => exact ⟨0, by simp, by omega, rfl, HR⟩
      case round =>
        obtain ⟨j, hgj, hjl, rfl, HJ⟩ := hrel
        by_cases hjt : j < D.length
        · obtain ⟨zb, zo, rfl, z64, hzc⟩ := HJ.out.dl.at_ j hjt
          have z0 := hzc wr (Below.refl _ _)
          have HAW : Bx (Calls Try.prog 14 #[.slice np s.length nc, .int .i64 D[j]] wr fun e w' => e = .returned (.bool false) ∧ Below wr.heap.size wr w') := ⟨by
            have := awk_any wr np nc t D[j] HJ.out.ags z64
            rw [htl, HJ.out.awk _ (List.getElem_mem hjt)] at this
            exact this⟩
          clear hzc
          generalize D[j] = z at *
          go_wp2_with (first | (go_at_call 14; refine Calls.mono HAW.out ?_; rintro e w9 ⟨rfl, hb9⟩; have I9 : Bx _ := ⟨HJ.out.later hb9⟩; clear hb9))
          go_roundg (D.length + 1 - (j + 1))
          case measure => omega
          case rel => exact ⟨j + 1, rfl, by omega, by simp, I9⟩
        · have hje : j = D.length := by omega
          subst hje
          go_wp2
          go_ret
          exact ⟨rfl, HJ.out.bel⟩
end Go.Proofs.Ytjfabholalnbeab
namespace Go.Proofs.Ytjfabholalnbeab
open Go.RowKit
set_option linter.unusedVariables false
set_option linter.unusedSimpArgs false

theorem blw {a b c : World} (h1 : Below a.heap.size a b) (h2 : Below b.heap.size b c) : Below a.heap.size a c := h1.trans (h2.mono h1.size)
theorem heavy_no {w : World} {p : Option Addr} {c : Nat} {s : List Ag} (hs : AgsR w p c s) (hz : Lists s) (hsl : s.length ≤ 1152921504606846976) (ht : totA s ≤ 2147483647) : Calls Try.prog 8 #[.slice p s.length c] w fun e w' => e = .returned (.bool false) ∧ Below w.heap.size w w' := by
  refine (heavy_any w p c s hs hz hsl).mono ?_
  rintro e w' ⟨rfl, k, hk⟩
  rw [decide_eq_false (by omega)]
  exact ⟨rfl, by rw [hk]; exact below_drewN (Below.refl _ _) _⟩
theorem heavy_yes {w : World} {p : Option Addr} {c : Nat} {s : List Ag} (hs : AgsR w p c s) (hz : Lists s) (hsl : s.length ≤ 1152921504606846976) (ht : ¬ totA s ≤ 2147483647) : Calls Try.prog 8 #[.slice p s.length c] w fun e w' => e = .returned (.bool true) ∧ Below w.heap.size w w' := by
  refine (heavy_any w p c s hs hz hsl).mono ?_
  rintro e w' ⟨rfl, k, hk⟩
  rw [decide_eq_true (by omega)]
  exact ⟨rfl, by rw [hk]; exact below_drewN (Below.refl _ _) _⟩
theorem Check_no {w : World} {p : Option Addr} {c : Nat} {s : List Ag} (hs : AgsR w p c s) (ht : totA s ≤ 2147483647) (hok : stOk s = false) : Calls Try.prog 11 #[.slice p s.length c] w fun e w' => e = .returned (.int .i64 140) ∧ Below w.heap.size w w' := by
  have := Check_any w p c s hs (few_of ht)
  rw [show chkI s = 140 by simp [chkI, hok]] at this
  exact this
set_option maxRecDepth 100000 in
set_option maxHeartbeats 1500000 in
theorem stays_walk (w : World) (p : Option Addr) (c : Nat) (s : List Ag) (hs : AgsR w p c s) (hz : Lists s) (hsl : s.length ≤ 1152921504606846976) (q : Option Addr) (d : Nat) (ps : List Int) (hq : IntsR w q d ps) :
    Calls Try.prog 4 #[.slice p s.length c, .slice q ps.length d] w fun e w' => e = .returned (.bool true) ∧ Below w.heap.size w w' := by
  by_cases ht : totA s ≤ 2147483647
  · by_cases h3 : s.length ≤ 300
    · cases hok : stOk s with
      | true => exact stays_yes w p c s hs hz hsl q d ps hq ht h3 hok
      | false =>
        have HH : Bx _ := ⟨heavy_no hs hz hsl ht⟩
        have HD : Bx (∀ W, Below w.heap.size w W → Calls Try.prog 10 #[.slice p s.length c] W fun e w' => e = .returned (.tuple #[.slice none 0 0, .int .i64 140]) ∧ Below W.heap.size W w') := ⟨fun W hW => Dead_no W p c s (hs.later hW) ht hok⟩
        have HC : Bx (∀ W, Below w.heap.size w W → Calls Try.prog 11 #[.slice p s.length c] W fun e w' => e = .returned (.int .i64 140) ∧ Below W.heap.size W w') := ⟨fun W hW => Check_no (hs.later hW) ht hok⟩
        clear hs hz hok ht hq
        go_enter Try.func4, Try.ntmps4
        go_wp2_with (first
          | (go_at_call 8; refine Calls.mono HH.out ?_; rintro e w1 ⟨rfl, hb1⟩; have B1 : Bx (Below w.heap.size w w1) := ⟨hb1⟩; clear hb1)
          | (go_at_call 9; refine Calls.mono (shown15_any _) ?_; rintro e w2 ⟨rfl, hb2⟩; have B2 : Bx (Below w.heap.size w w2) := ⟨B1.out.trans (hb2.mono B1.out.size)⟩; clear hb2)
          | (go_at_call 10; refine Calls.mono (HD.out w2 B2.out) ?_; rintro e w3 ⟨rfl, hb3⟩; have B3 : Bx (Below w.heap.size w w3) := ⟨B2.out.trans (hb3.mono B2.out.size)⟩; clear hb3)
          | (go_at_call 11; refine Calls.mono (HC.out w3 B3.out) ?_; rintro e w4 ⟨rfl, hb4⟩; have B4 : Bx (Below w.heap.size w w4) := ⟨B3.out.trans (hb4.mono B3.out.size)⟩; clear hb4))
        go_ret
        exact ⟨rfl, B4.out⟩
    · have HH : Bx _ := ⟨heavy_no hs hz hsl ht⟩
      clear hs hz ht hq
      go_enter Try.func4, Try.ntmps4
      go_wp2_with (first
        | (go_at_call 8; refine Calls.mono HH.out ?_; rintro e w1 ⟨rfl, hb1⟩; have B1 : Bx (Below w.heap.size w w1) := ⟨hb1⟩; clear hb1))
      go_ret
      exact ⟨rfl, B1.out⟩
  · have HH : Bx _ := ⟨heavy_yes hs hz hsl ht⟩
    clear hs hz ht hq
    go_enter Try.func4, Try.ntmps4
    go_wp2_with (first
      | (go_at_call 8; refine Calls.mono HH.out ?_; rintro e w1 ⟨rfl, hb1⟩; have B1 : Bx (Below w.heap.size w w1) := ⟨hb1⟩; clear hb1))
    go_ret
    exact ⟨rfl, B1.out⟩
end Go.Proofs.Ytjfabholalnbeab
