import Derived.Test.YtjfabholalnbeabCEZf
import Derived.Test.YtjfabholalnbeabCEStay
namespace Go.Proofs.Ytjfabholalnbeab
open Go.RowKit
set_option linter.unusedVariables false
set_option linter.unusedSimpArgs false

/-! ### CHAINS WAKE -/
structure ChI (w5 wr : World) (s : List Ag) (Y : Int → Option Wy) (n : Nat) (l : Lk) (j : Nat) (np : Option Addr) (nc : Nat) : Prop where
  ags : AgsR wr np nc (s.map (tkS (chT Y n l j)))
  bel : Below w5.heap.size w5 wr
theorem ChI.next {w5 wr X w9 : World} {s : List Ag} {Y : Int → Option Wy} {n : Nat} {l : Lk} {j : Nat} {tp : Option Addr} {tc : Nat} (h : Below w5.heap.size w5 wr) (hX : Below wr.heap.size wr X) (h9 : Below X.heap.size X w9) (ha : AgsR w9 tp tc ((s.map (tkS (chT Y n l j))).map (tkA (lkP Y n l j)))) : ChI w5 w9 s Y n l (j + 1) tp tc := by
  rw [tkS_snoc, ← chT_succ] at ha
  have h1 := h.trans (hX.mono h.size)
  exact ⟨ha, h1.trans (h9.mono h1.size)⟩
theorem chT_len (Y : Int → Option Wy) (n : Nat) (l : Lk) (p : Nat) : (chT Y n l p).length = p := by simp [chT]
theorem chT_at (Y : Int → Option Wy) (n : Nat) (l : Lk) {p j : Nat} (h : j < (chT Y n l p).length) : (chT Y n l p)[j] = lkP Y n l j := by simp [chT]
set_option maxRecDepth 100000 in
set_option maxHeartbeats 1500000 in
theorem chn_yes (w : World) (p : Option Addr) (c : Nat) (s : List Ag) (hs : AgsR w p c s) (hz : Lists s) (hsl : s.length ≤ 1152921504606846976) (ht : totA s ≤ 2147483647) (h3 : s.length ≤ 300) (hok : stOk s = true) :
    Calls Try.prog 3 #[.slice p s.length c] w fun e w' => e = .returned (.bool true) ∧ Below w.heap.size w w' := by
  have hlc := hs.len
  have hcm := hs.max
  unfold maxLen at hcm
  have HH : Bx _ := ⟨heavy_no hs hz hsl ht⟩
  have HS : Bx (AgsR w p c s ∧ stOk s = true ∧ totA s ≤ 2147483647) := ⟨hs, hok, ht⟩
  clear hs hz hok ht
  go_enter Try.func3, Try.ntmps3
  go_wp2_with (first
    | (go_at_call 8; refine Calls.mono HH.out ?_; rintro e w1 ⟨rfl, hb1⟩; have B1 : Bx (Below w.heap.size w w1) := ⟨hb1⟩; clear hb1)
    | (go_at_call 9; refine Calls.mono (shown15_any _) ?_; rintro e w2 ⟨rfl, hb2⟩; have B2 : Bx (Below w.heap.size w w2) := ⟨blw B1.out hb2⟩; clear hb2)
    | (go_at_call 10; refine Calls.mono (Dead_yes w2 p c s (HS.out.1.later B2.out) HS.out.2.2 HS.out.2.1) ?_; rintro e w3 ⟨Z, dq, dd, hZ, rfl, hI, hb3⟩; have I3 : Bx (IntsR w3 dq dd (ddL Z s) ∧ Below w.heap.size w w3 ∧ Full s Z) := ⟨hI, blw B2.out hb3, hZ⟩; clear hI hb3 hZ))
  have hDl : (ddL Z s).length ≤ 4096 := by have := ddL_len Z s; omega
  have hDc := I3.out.1.len
  have hDm := I3.out.1.max
  unfold maxLen at hDm
  obtain ⟨D, hD⟩ : ∃ D, ddL Z s = D := ⟨_, rfl⟩
  have HDE : Bx (ddL Z s = D) := ⟨hD⟩
  rw [hD] at hDl hDc I3
  rw [hD]
  clear hD
  go_loopg [36] (s.length + 1) (fun g v36 wr => ∃ i : Nat, g = s.length + 1 - i ∧ i ≤ s.length ∧ v36 = .int .i64 (i : Nat) ∧ Bx (Below w3.heap.size w3 wr))
  case atStart => exact ⟨0, by simp, by omega, rfl, ⟨Below.refl _ _⟩⟩
  case round =>
    obtain ⟨i, hg, hil, rfl, HR⟩ := hrel
    by_cases hlt : i < s.length
    · obtain ⟨b, o, ap, ac, hp, hc, rfl, hA, hcl⟩ := HS.out.1.at_ i hlt
      have hbw := blw I3.out.2.1 HR.out
      obtain ⟨c0, c1, c2, c3⟩ := hcl wr hbw
      have HM : Bx (s[i] ∈ s ∧ I64 s[i].id) := ⟨List.getElem_mem hlt, hA.id⟩
      clear hcl hA
      generalize s[i] = a at *
      obtain ⟨X, hX⟩ : ∃ X, wr.alloc (.cells #[.int .i64 a.id, .bool a.awake, .slice ap a.arms.length ac, .slice hp a.held.length hc] 32) = X := ⟨_, rfl⟩
      have hbX : Below wr.heap.size wr X := by rw [← hX]; exact below1 _ _
      have hkX : X.heap[wr.heap.size]? = some (.cells #[.int .i64 a.id, .bool a.awake, .slice ap a.arms.length ac, .slice hp a.held.length hc] 32 (0, 0)) := by rw [← hX]; exact World.alloc_heap_new _ _
      have HCE : Bx (∀ V, Below X.heap.size X V → V.cell? ⟨wr.heap.size, 0, none⟩ = some (.int .i64 a.id) ∧ V.cell? ⟨wr.heap.size, 1, none⟩ = some (.bool a.awake)) := ⟨fun V hV => by
        have e := (hV.block _ (Array.getElem?_eq_some_iff.1 hkX).1).trans hkX
        exact ⟨cell_of e rfl, cell_of e rfl⟩⟩
      obtain ⟨d0, d1⟩ := HCE.out X (Below.refl _ _)
      have HXE : Bx (_ = X) := ⟨hX⟩
      have BX : Bx (Below w3.heap.size w3 X ∧ Below w.heap.size w X) := ⟨blw HR.out hbX, blw hbw hbX⟩
      have HCH : Bx (Calls Try.prog 12 #[.slice (some ⟨b, o, none⟩) s.length c, .int .i64 a.id] X (ChPost X s a.id)) := ⟨Chain_yes X _ c s a.id (HS.out.1.later BX.out.2) HS.out.2.2 HM.out.2 HS.out.2.1⟩
      have HHA : Bx (∀ V, Below X.heap.size X V → Calls Try.prog 13 #[.slice dq D.length dd, .int .i64 a.id] V fun e w' => e = .returned (.bool (hasL D a.id)) ∧ w' = V) := ⟨fun V hV => has_any V dq dd D a.id (I3.out.1.later (blw BX.out.1 hV)) HM.out.2⟩
      rw [← hX] at d0 d1
      clear hX hbX hkX hbw HR
      go_wp2_with (first | (go_at_call 12; rw [HXE.out]; refine Calls.mono HCH.out ?_))
      rintro e w5 ⟨Y, hF, hch, hb5⟩
      have HOK : Bx ((Y a.id).isSome = (!a.awake && !(hasL D a.id))) := ⟨by rw [← HDE.out]; exact chain_ok HS.out.2.1 HM.out.1 hF I3.out.2.2⟩
      have HWY : Bx (Ways s Y) := ⟨fdr_ways HS.out.2.1 hF⟩
      obtain ⟨e0, e1⟩ := HCE.out w5 hb5
      have B5 : Bx (Below X.heap.size X w5) := ⟨hb5⟩
      clear d0 d1 hF hb5 HCH HXE c0 c1 c2 c3
      rcases hch with ⟨hn, rfl⟩ | ⟨n, l, q, d, hY, hn1, hn2, rfl, hL⟩
      · rw [hn] at HOK
        clear HWY
        cases haw : a.awake with
        | true =>
          rw [haw] at e1
          go_wp2
          go_loopg [9, 69] 1 (fun k v9 v69 wr => k = 1 ∧ v9 = .slice (some ⟨b, o, none⟩) s.length c ∧ v69 = .int .i64 0 ∧ wr = w5)
          case atStart => exact ⟨rfl, rfl, rfl, rfl⟩
          case round =>
            obtain ⟨rfl, rfl, rfl, rfl⟩ := hrel
            go_wp2
            go_roundg (s.length + 1 - (i + 1))
            case measure => omega
            case rel => exact ⟨i + 1, rfl, by omega, by simp, ⟨blw BX.out.1 B5.out⟩⟩
        | false =>
          rw [haw] at e1 HOK
          have HHB : Bx (Calls Try.prog 13 #[.slice dq D.length dd, .int .i64 a.id] w5 fun e w' => e = .returned (.bool true) ∧ w' = w5) := ⟨by
            have h1 := HHA.out w5 B5.out
            have h2 := HOK.out
            cases hx : hasL D a.id with
            | true => rw [hx] at h1; exact h1
            | false => rw [hx] at h2; cases h2⟩
          go_wp2_with (first | (go_at_call 13; refine Calls.mono HHB.out ?_; rintro e w6 ⟨rfl, rfl⟩))
          go_loopg [9, 69] 1 (fun k v9 v69 wr => k = 1 ∧ v9 = .slice (some ⟨b, o, none⟩) s.length c ∧ v69 = .int .i64 0 ∧ wr = w6)
          case atStart => exact ⟨rfl, rfl, rfl, rfl⟩
          case round =>
            obtain ⟨rfl, rfl, rfl, rfl⟩ := hrel
            go_wp2
            go_roundg (s.length + 1 - (i + 1))
            case measure => omega
            case rel => exact ⟨i + 1, rfl, by omega, by simp, ⟨blw BX.out.1 B5.out⟩⟩
      · rw [hY] at HOK
        have haw : a.awake = false := by
          have h2 := HOK.out
          cases hx : a.awake with
          | false => rfl
          | true => rw [hx] at h2; cases h2
        have HHB : Bx (Calls Try.prog 13 #[.slice dq D.length dd, .int .i64 a.id] w5 fun e w' => e = .returned (.bool false) ∧ w' = w5) := ⟨by
          have h1 := HHA.out w5 B5.out
          have h2 := HOK.out
          cases hx : hasL D a.id with
          | false => rw [hx] at h1; exact h1
          | true => rw [hx, haw] at h2; cases h2⟩
        rw [chL_eq] at hL ⊢
        have hLl : (chT Y n l n).length = n := chT_len Y n l n
        have hLc := hL.len
        have hLm := hL.max
        unfold maxLen at hLm
        rw [hLl] at hLc
        rw [hLl]
        have HLK : Bx (LksR w5 q d (chT Y n l n)) := ⟨hL⟩
        have HSM : Bx (AgsR w5 (some ⟨b, o, none⟩) c s) := ⟨(HS.out.1.later BX.out.2).later B5.out⟩
        have HAK : Bx _ := ⟨chain_awk HS.out.2.1 HWY.out hY hn1⟩
        have HFT : Bx (∀ j, j < n → fitsF (whoI (s.map (tkS (chT Y n l j)))) (lkP Y n l j) = true) := ⟨fun j hj => chain_fits HS.out.2.1 HWY.out hY hn1 hj⟩
        rw [haw] at e1
        clear hL hLl HHA HOK HWY
        have gn : decide (0 < n) = true := by simp; omega
        go_wp2_with (first | (go_at_call 13; refine Calls.mono HHB.out ?_; rintro e w6 ⟨rfl, rfl⟩))
        go_loopg [9, 69] (n + 1) (fun g v9 v69 wr => ∃ (j : Nat) (np : Option Addr) (nc : Nat), g = n + 1 - j ∧ j ≤ n ∧ v9 = .slice np s.length nc ∧ v69 = .int .i64 (j : Nat) ∧ Bx (ChI w6 wr s Y n l j np nc))
        case atStart => exact ⟨0, _, _, by simp, by omega, rfl, rfl, ⟨by rw [show chT Y n l 0 = [] from rfl, tkS_nil]; exact HSM.out, Below.refl _ _⟩⟩
        case round =>
          obtain ⟨j, np, nc, hgj, hjn, rfl, rfl, HJ⟩ := hrel
          have hnl := HJ.out.ags.len
          have hnm := HJ.out.ags.max
          unfold maxLen at hnm
          rw [List.length_map] at hnl
          by_cases hjl : j < n
          · obtain ⟨lb, lo, hq, l64, hlc⟩ := HLK.out.at_ j (by rw [chT_len]; exact hjl)
            obtain ⟨l0, l1, l2⟩ := hlc wr HJ.out.bel
            rw [chT_at] at l0 l1 l2 l64
            subst hq
            have HAF : Bx (awkI (s.map (tkS (chT Y n l j))) a.id = false) := ⟨HAK.out.1 j hjl⟩
            have HFJ : Bx (fitsF (whoI (s.map (tkS (chT Y n l j)))) (lkP Y n l j) = true) := ⟨HFT.out j hjl⟩
            have HST : Bx (stOk (s.map (tkS (chT Y n l j))) = true ∧ totA (s.map (tkS (chT Y n l j))) ≤ 2147483647) := ⟨tkS_ok HS.out.2.1 _, Nat.le_trans (tkS_tot s _) HS.out.2.2⟩
            have HL6 : Bx (Lk64 (lkP Y n l j)) := ⟨l64⟩
            have HNX : Bx (∀ (V w9 : World) (tp : Option Addr) (tc : Nat), Below wr.heap.size wr V → Below V.heap.size V w9 → AgsR w9 tp tc ((s.map (tkS (chT Y n l j))).map (tkA (lkP Y n l j))) → ChI w6 w9 s Y n l (j + 1) tp tc) := ⟨fun V w9 tp tc h1 h2 h3 => ChI.next HJ.out.bel h1 h2 h3⟩
            obtain ⟨t, ht⟩ : ∃ t, s.map (tkS (chT Y n l j)) = t := ⟨_, rfl⟩
            have htl : t.length = s.length := by rw [← ht, List.length_map]
            have HAG : Bx (AgsR wr np nc t) := ⟨by rw [← ht]; exact HJ.out.ags⟩
            rw [ht] at HAF HFJ HST HNX
            generalize lkP Y n l j = x at *
            have HAW : Bx (∀ V, Below wr.heap.size wr V → Calls Try.prog 14 #[.slice np s.length nc, .int .i64 a.id] V fun e w' => e = .returned (.bool false) ∧ Below V.heap.size V w') := ⟨fun V hV => by
              have := awk_any V np nc t a.id (HAG.out.later hV) HM.out.2
              rw [htl, HAF.out] at this
              exact this⟩
            have HFI : Bx (∀ V, Below wr.heap.size wr V → Calls Try.prog 15 #[.slice np s.length nc, .agg #[.int .i64 x.waker, .int .i64 x.woken, .int .i64 x.chan]] V fun e w' => e = .returned (.bool true) ∧ Below V.heap.size V w') := ⟨fun V hV => by
              have := Fits_yes V np nc t x (HAG.out.later hV) (few_of HST.out.2) HL6.out HST.out.1
              rw [htl, HFJ.out] at this
              exact this⟩
            have HTK : Bx (∀ V, Below wr.heap.size wr V → Calls Try.prog 16 #[.slice np s.length nc, .agg #[.int .i64 x.waker, .int .i64 x.woken, .int .i64 x.chan]] V fun e w' => ∃ tp tc, e = .returned (.tuple #[.slice tp s.length tc, .int .i64 0]) ∧ AgsR w' tp tc (t.map (tkA x)) ∧ Below V.heap.size V w') := ⟨fun V hV => by
              have := Take_r V np nc t x (HAG.out.later hV) HST.out.2 HST.out.1 HL6.out HFJ.out
              rw [htl] at this
              exact this⟩
            obtain ⟨V, hV⟩ : ∃ V, wr.alloc (.cells #[.int .i64 x.waker, .int .i64 x.woken, .int .i64 x.chan] 38) = V := ⟨_, rfl⟩
            have hbV : Below wr.heap.size wr V := by rw [← hV]; exact below1 _ _
            have hkV : V.heap[wr.heap.size]? = some (.cells #[.int .i64 x.waker, .int .i64 x.woken, .int .i64 x.chan] 38 (0, 0)) := by rw [← hV]; exact World.alloc_heap_new _ _
            have HVC : Bx (∀ U, Below V.heap.size V U → U.cell? ⟨wr.heap.size, 0, none⟩ = some (.int .i64 x.waker) ∧ U.cell? ⟨wr.heap.size, 1, none⟩ = some (.int .i64 x.woken) ∧ U.cell? ⟨wr.heap.size, 2, none⟩ = some (.int .i64 x.chan)) := ⟨fun U hU => by
              have e := (hU.block _ (Array.getElem?_eq_some_iff.1 hkV).1).trans hkV
              exact ⟨cell_of e rfl, cell_of e rfl, cell_of e rfl⟩⟩
            have HAC := HCE.out V (blw B5.out (blw HJ.out.bel hbV))
            obtain ⟨a0, a1⟩ := HAC
            have HVE : Bx (_ = V) := ⟨hV⟩
            have BV : Bx (Below wr.heap.size wr V) := ⟨hbV⟩
            rw [← hV] at a0 a1
            clear hV hbV hkV hlc ht HAF HFJ
            go_wp2_with (first
              | (go_at_call 14; rw [HVE.out]; refine Calls.mono (HAW.out V BV.out) ?_; rintro e w7 ⟨rfl, hb7⟩; have B7 : Bx (Below V.heap.size V w7) := ⟨hb7⟩; obtain ⟨f0, f1, f2⟩ := HVC.out w7 hb7; clear hb7)
              | (go_at_call 15; refine Calls.mono (HFI.out w7 (blw BV.out B7.out)) ?_; rintro e w8 ⟨rfl, hb8⟩; have B8 : Bx (Below V.heap.size V w8) := ⟨blw B7.out hb8⟩; obtain ⟨g0, g1, g2⟩ := HVC.out w8 B8.out; clear hb8)
              | (go_at_call 16; refine Calls.mono (HTK.out w8 (blw BV.out B8.out)) ?_; rintro e w9 ⟨tp, tc, rfl, hT9, hb9⟩; have I9 : Bx (ChI w6 w9 s Y n l (j + 1) tp tc) := ⟨HNX.out w8 w9 tp tc (blw BV.out B8.out) hb9 hT9⟩; clear hT9 hb9))
            go_roundg (n + 1 - (j + 1))
            case measure => omega
            case rel => exact ⟨j + 1, tp, tc, rfl, by omega, rfl, by simp, I9⟩
          · have hje : j = n := by omega
            subst hje
            have HAW : Bx (Calls Try.prog 14 #[.slice np s.length nc, .int .i64 a.id] wr fun e w' => e = .returned (.bool true) ∧ Below wr.heap.size wr w') := ⟨by
              have := awk_any wr np nc _ a.id HJ.out.ags HM.out.2
              rw [List.length_map, HAK.out.2] at this
              exact this⟩
            obtain ⟨a0, a1⟩ := HCE.out wr (blw B5.out HJ.out.bel)
            go_wp2_with (first | (go_at_call 14; refine Calls.mono HAW.out ?_; rintro e w7 ⟨rfl, hb7⟩; have B7 : Bx (Below w6.heap.size w6 w7) := ⟨blw HJ.out.bel hb7⟩; clear hb7))
            go_roundg (s.length + 1 - (i + 1))
            case measure => omega
            case rel => exact ⟨i + 1, rfl, by omega, by simp, ⟨blw BX.out.1 (blw B5.out B7.out)⟩⟩
    · have hie : i = s.length := by omega
      subst hie
      go_wp2
      go_ret
      exact ⟨rfl, blw I3.out.2.1 HR.out⟩
end Go.Proofs.Ytjfabholalnbeab
