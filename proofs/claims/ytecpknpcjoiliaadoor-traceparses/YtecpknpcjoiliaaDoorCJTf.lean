import Derived.Test.YtecpknpcjoiliaaDoorCJTd
import Derived.Test.YtecpknpcjoiliaaDoorCJRd
import Derived.Deep.RegionHeld
import Derived.Deep.RegionHeld3
import Derived.Deep.RegionLaw
namespace Go.Proofs.YtecpknpcjoiliaaDoor
open Go.RowKit Go.Shelf
set_option linter.unusedVariables false
set_option linter.unusedSimpArgs false

theorem fold_none {cs : List UInt8} {i : Nat} (hi : i < cs.length) {c : UInt8} (hc : c = cs[i]) {e : Ev} {ws : List (List UInt8)} (h : stepC c e ws = none) : foldC (cs.drop i) e ws = none := by
  rw [foldC_drop hi, ← hc, h]
  rfl
theorem fold_some {cs : List UInt8} {i : Nat} (hi : i < cs.length) {c : UInt8} (hc : c = cs[i]) {e e2 : Ev} {ws r : List (List UInt8)} (h : stepC c e ws = some (e2, r)) : foldC (cs.drop i) e ws = foldC (cs.drop (i + 1)) e2 r := by
  rw [foldC_drop hi, ← hc, h]
  rfl
/-- where the letters stand -/
structure Lt (w W : World) (H G : Nat) (gw : Nat) (wsA : List (List UInt8)) (cs : List UInt8) (R : Option (Ev × List (List UInt8))) (i p : Nat) (e : Ev) (v : Value) (rest : List (List UInt8)) : Prop where
  rv : RvS w W H G e v gw wsA
  rs : rest = wsA.drop p
  fo : R = foldC (cs.drop i) e rest
  ll : e.list.length ≤ p
  sl : ∃ a n c, v = .slice a n c
theorem Lt.on {w W W' : World} {H G gw i p : Nat} {wsA rest : List (List UInt8)} {cs : List UInt8} {R : Option (Ev × List (List UInt8))} {e : Ev} {v : Value} (h : Lt w W H G gw wsA cs R i p e v rest) (hb : Below W.heap.size W W') : Lt w W' H G gw wsA cs R i p e v rest := ⟨h.rv.on hb, h.rs, h.fo, h.ll, h.sl⟩
def kkK (n k : Nat) : Int := if n < k then (n : Int) else 0
set_option maxRecDepth 100000 in
set_option maxHeartbeats 16000000 in
theorem revent_any (t : List UInt8) (w : World) (hl : t.length ≤ 1099511627776) : Calls Tryd.prog 37 #[strV t] w (EvP w (evOf t)) := by
  obtain ⟨Q, hQ⟩ : ∃ Q, Q = EvP w (evOf t) := ⟨_, rfl⟩
  rw [← hQ]
  obtain ⟨H, hH⟩ : ∃ H, w.heap.size = H := ⟨_, rfl⟩
  have hQ2 : ∀ e W, EvP w (evOf t) e W → Q e W := fun e W h => by rw [hQ]; exact h
  clear hQ
  obtain ⟨w0, ws, hws⟩ : ∃ w0 ws, wordsL 32 t = w0 :: ws := ⟨_, _, rfl⟩
  obtain ⟨wsA, hA⟩ : ∃ wsA, wsA = w0 :: ws := ⟨_, rfl⟩
  have hev := evOf_C hws
  have hle : ∀ x ∈ wsA, x.length ≤ 1099511627776 := fun x hx => by
    have hp := piece_le 32 t
    rw [hA, ← hws] at hx
    unfold wordsL at hx
    rcases List.mem_cons.1 hx with rfl | hx
    · have := hp.1; omega
    · have := hp.2 x hx; omega
  have hlw : wsA.length ≤ 1099511627777 := by
    have := pieces_len 32 t
    rw [hA, ← hws]
    unfold wordsL
    simp only [List.length_cons]
    omega
  have hpos : 0 < wsA.length := by rw [hA]; simp
  obtain ⟨n, hn⟩ : ∃ n, n = tkind w0 := ⟨_, rfl⟩
  have hn11 : n ≤ 11 := by rw [hn]; exact tkind_le _
  rw [← hn] at hev
  have HQN : Bx (∀ (W : World) G e v, (∃ gw, RvS w W H G e v gw wsA) → evOf t = none → Q (.returned (.tuple #[evW8 noEv (.slice none 0 0), .bool false])) (st8 W H noEv (.slice none 0 0))) := ⟨fun W G e v ⟨gw, h⟩ he => hQ2 _ _ (h.no hH he)⟩
  have HQY : Bx (∀ (W : World) G e a n c gw (b : Bool), RvS w W H G e (.slice a n c) gw wsA → evOf t = (if b then some e else none) → Q (.returned (.tuple #[evW8 e (.slice a n c), .bool b])) (st8 W H e (.slice a n c))) := ⟨fun W G e a n c gw b h he => hQ2 _ _ (h.fin hH _ b he)⟩
  have HQD : Bx (∀ (W : World) G e a n c gw (b : Bool), RvS w W H G e (.slice a n c) gw wsA → evOf t = (if b then some e else none) → Q (.returned (.tuple #[evW8 e (.slice a n c), .bool b])) (st8 W H e (.slice a n c)).drew) := ⟨fun W G e a n c gw b h he => hQ2 _ _ (h.fin hH _ b he).drew⟩
  have HKY : Bx (∀ k : Nat, 1 ≤ k → k ≤ 11 → (tsh k).1 = w0 → n = k) := ⟨fun k h1 h2 h3 => by
    have := word_tkind (k := (k : Int)) ⟨by omega, by omega⟩
    rw [h3, ← hn] at this
    omega⟩
  have HKN : Bx (∀ k : Nat, 1 ≤ k → k ≤ 11 → (tsh k).1 ≠ w0 → n ≠ k) := ⟨fun k h1 h2 h3 e => by
    refine h3 ?_
    have := tkind_word (t := w0) (by rw [← hn]; omega)
    rw [← hn, e] at this
    exact this⟩
  have HWD : Bx (∀ (k : Nat) W G e v gw, 1 ≤ k → k ≤ 11 → RvS w W H G e v gw wsA → Calls Tryd.prog 26 #[.int .i64 (k : Int)] W fun e' w' => e' = .returned (strV (tsh k).1) ∧ RvS w w' H G e v gw wsA) := ⟨fun k W G e v gw h1 h2 h => (rword_yes k W ⟨by omega, by omega⟩).mono fun e' w' hh => ⟨hh.1, h.on hh.2⟩⟩
  have HSPL : Bx (Calls Tryd.prog 50 #[strV t] (w.alloc (evB noEv (.slice none 0 0))) fun e w' => ∃ gw cw, e = .returned (.slice (some ⟨gw, 0, none⟩) wsA.length cw) ∧ Bx (RvS w (w'.alloc (evB noEv (.slice none 0 0))) H w'.heap.size noEv (.slice none 0 0) gw wsA)) := ⟨(rsplit_any t (w.alloc (evB noEv (.slice none 0 0))) hl).mono fun e w' ⟨v, h1, h2⟩ => by
    obtain ⟨hs, hb⟩ := h2.out
    rw [hws, ← hA] at hs
    obtain ⟨g, cap, rfl, h3, h4, h5⟩ := hs.at_ hpos
    refine ⟨g, cap, h1, ⟨RvS.start ?_ hH h4 h5⟩⟩
    have : (w.alloc (evB noEv (.slice none 0 0))).heap.size = H + 1 := by simp [hH]
    rw [← this]
    exact hb⟩
  have HW0 : Bx (∀ W G e v gw, RvS w W H G e v gw wsA → W.cell? ⟨gw, 0, none⟩ = some (strV w0)) := ⟨fun W G e v gw h => by
    have := h.wd 0 hpos
    simpa [hA] using this⟩
  have hposI : (0 : Int) < (wsA.length : Int) := by omega
  obtain ⟨R, hR⟩ : ∃ R, R = foldC (shS n) (evK n) ws := ⟨_, rfl⟩
  have HER : Bx (n ≠ 0 → evOf t = endC R) := ⟨fun h => by rw [hev, if_neg h, hR]⟩
  have HE0 : Bx (n = 0 → evOf t = none) := ⟨fun h => by rw [hev, if_pos h]⟩
  have HR0 : Bx (∀ W G gw, RvS w W H G (evK n) (.slice none 0 0) gw wsA → Lt w W H G gw wsA (shS n) R 0 1 (evK n) (.slice none 0 0) ws) := ⟨fun W G gw h => ⟨h, by rw [hA]; rfl, by rw [hR, List.drop_zero], by show 0 ≤ 1; omega, ⟨_, _, _, rfl⟩⟩⟩
  have HSP : Bx (n ≠ 0 → ∀ W G gw, RvS w W H G (evK n) (.slice none 0 0) gw wsA → Calls Tryd.prog 27 #[.int .i64 (n : Int)] W fun e' w' => e' = .returned (strV (shS n)) ∧ Bx (Lt w w' H G gw wsA (shS n) R 0 1 (evK n) (.slice none 0 0) ws)) := ⟨fun h0 W G gw h => (rshape_yes n W ⟨by omega, by omega⟩).mono fun e' w' hh => ⟨hh.1, ⟨HR0.out _ _ _ (h.on hh.2)⟩⟩⟩
  have hcl : (shS n).length ≤ 5 := shS_len _
  have HLE : Bx _ := ⟨hle⟩
  clear hev hA hws hn hR hQ2 hle HR0
  go_enter Tryd.func37, Tryd.ntmps37
  go_wp2_with (first
    | (go_at_call 50; refine HSPL.out.mono ?_; rintro e1 w1 ⟨gw, cw, rfl, HB1⟩; clear HSPL))
  have hGz : w1.heap.size = w1.heap.size := rfl
  obtain ⟨G, hG⟩ : ∃ G, G = w1.heap.size := ⟨_, rfl⟩
  rw [← hG] at HB1 ⊢
  clear hGz
  obtain ⟨W1, hW1⟩ : ∃ W1, W1 = w1.alloc (evB noEv (.slice none 0 0)) := ⟨_, rfl⟩
  rw [← hW1] at HB1
  have HST : Bx (RvS w W1 H G (evK (kkK n 1)) (.slice none 0 0) gw wsA) := ⟨by
    have : kkK n 1 = 0 := by unfold kkK; split <;> omega
    rw [this]
    exact HB1.out⟩
  go_loopw [6] (fun x wr => ∃ k : Nat, 1 ≤ k ∧ k ≤ 12 ∧ x = .int .i64 k ∧ Bx (RvS w wr H G (evK (kkK n k)) (.slice none 0 0) gw wsA)) (fun x _ => 12 - (intOf x).toNat)
  case atStart => exact ⟨1, by omega, by omega, rfl, by rw [hW1] at HST; exact HST⟩
  case round =>
    obtain ⟨k, hk1, hk2, rfl, HI⟩ := hrel
    clear HST HB1 hW1 hG
    by_cases hk11 : k ≤ 11
    · have hkI : (k : Int) ≤ 11 := by omega
      by_cases hw : (tsh k).1 = w0
      · have hnk := HKY.out k hk1 hk11 hw
        have HN : Bx (kkK n (k + 1) = k) := ⟨by unfold kkK; rw [if_pos (by omega), hnk]⟩
        have HC : Bx (∀ W, RvS w W H G (evK (kkK n k)) (.slice none 0 0) gw wsA → Calls Tryd.prog 26 #[.int .i64 (k : Int)] W fun e' w' => e' = .returned (strV w0) ∧ RvS w w' H G (evK (kkK n k)) (.slice none 0 0) gw wsA) := ⟨fun W h => by have := HWD.out k W G _ _ gw hk1 hk11 h; rw [hw] at this; exact this⟩
        have hbr := HI.out
        clear HKY HKN HWD HQN HQY HER HE0 HSP HLE hw hnk
        go_wp2
        go_region_held3 (fun Y => Y.cell? ⟨gw, 0, none⟩ = some (strV w0))
          (first | exact HW0.out _ _ _ _ _ hz1 | exact HW0.out _ _ _ _ _ (hbr.on (Below.refl _ _).drew))
          (first | (go_at_call 26; refine Calls.mono (HC.out _ (hbr.on (Below.refl _ _).drew)) ?_; rintro e z9 ⟨rfl, hz1⟩))
        have HZ : Bx _ := ⟨hz1.kind k⟩
        have q0 := (evB_cells hz1.ev).1
        have g0 := evB_frz hz1.ev 0
        clear hbr HI hz1 HC HW0
        go_wp2
        go_roundw
        case rel => exact ⟨k + 1, by omega, by omega, by go_num, ⟨by rw [HN.out]; exact HZ.out⟩⟩
        case measure => simp [intOf]; omega
      · have hnk := HKN.out k hk1 hk11 hw
        have HN : Bx (kkK n (k + 1) = kkK n k) := ⟨by unfold kkK; split <;> split <;> omega⟩
        have HC : Bx (∀ W, RvS w W H G (evK (kkK n k)) (.slice none 0 0) gw wsA → Calls Tryd.prog 26 #[.int .i64 (k : Int)] W fun e' w' => e' = .returned (strV (tsh k).1) ∧ RvS w w' H G (evK (kkK n k)) (.slice none 0 0) gw wsA) := ⟨fun W h => HWD.out k W G _ _ gw hk1 hk11 h⟩
        have hbr := HI.out
        have hwb : ((tsh k).1 == w0) = false := by simpa using hw
        clear HKY HKN HWD HQN HQY HER HE0 HSP HLE hnk
        generalize (tsh k).1 = wk at *
        go_wp2
        go_region_held3 (fun Y => Y.cell? ⟨gw, 0, none⟩ = some (strV w0))
          (first | exact HW0.out _ _ _ _ _ hz1 | exact HW0.out _ _ _ _ _ (hbr.on (Below.refl _ _).drew))
          (first | (go_at_call 26; refine Calls.mono (HC.out _ (hbr.on (Below.refl _ _).drew)) ?_; rintro e z9 ⟨rfl, hz1⟩))
        have HZ : Bx _ := ⟨hz1⟩
        clear hbr HI hz1 HC HW0
        go_wp2
        go_roundw
        case rel => exact ⟨k + 1, by omega, by omega, by go_num, ⟨by rw [HN.out]; exact HZ.out⟩⟩
        case measure => simp [intOf]; omega
    · obtain rfl : k = 12 := by omega
      have HI2 : Bx (RvS w wr H G (evK n) (.slice none 0 0) gw wsA) := ⟨by
        have : kkK n 12 = n := by unfold kkK; rw [if_pos (by omega)]
        rw [this] at HI
        exact HI.out⟩
      clear HI HKY HKN HWD HW0
      have q0 : wr.cell? ⟨G, 0, none⟩ = some (.int .i64 (n : Int)) := (evB_cells HI2.out.ev).1
      by_cases h0 : n = 0
      · have HNO := HE0.out h0
        subst h0
        have hre := HI2.out.re
        obtain ⟨p0, p1, p2, p3, p4, p5, p6, p7⟩ := evB_cells hre
        have f0 := evB_frz hre 0; have f1 := evB_frz hre 1; have f2 := evB_frz hre 2; have f3 := evB_frz hre 3
        have f4 := evB_frz hre 4; have f5 := evB_frz hre 5; have f6 := evB_frz hre 6; have f7 := evB_frz hre 7
        simp only [noEv] at p0 p1 p2 p3 p4 p5 p6 p7
        have hc9 := evB_cells (st8_blk hre noEv (.slice none 0 0))
        have hq9 := HQN.out _ _ _ _ ⟨_, HI2.out⟩ HNO
        obtain ⟨W9, hW9⟩ : ∃ W9, st8 wr H noEv (.slice none 0 0) = W9 := ⟨_, rfl⟩
        rw [hW9] at hc9 hq9
        have HC9 : Bx _ := ⟨hc9⟩
        have HEN : Bx _ := ⟨hq9⟩
        unfold st8 at hW9
        simp only [noEv] at hW9
        clear hre hc9 hq9
        clear HER HE0 HSP HLE HQY HNO
        go_wp2
        obtain ⟨n0, n1, n2, n3, n4, n5, n6, n7⟩ := HC9.out
        refine bodyPost_ret (v := .tuple #[evW8 noEv (.slice none 0 0), .bool false]) (by simp [results, Tryd.results37, go_sem, n0, n1, n2, n3, n4, n5, n6, n7]) rfl HEN.out
      · have h0I : ((n : Int) == 0) = false := by simp; exact h0
        have h0n : ¬ (n : Int) = 0 := by omega
        have HER2 : Bx _ := ⟨HER.out h0⟩
        have HSP2 : Bx _ := ⟨HSP.out h0 _ _ _ HI2.out⟩
        clear HER HE0 HSP
        generalize shS n = cs at *
        have HSZ : Bx ((⟨cs.toArray⟩ : ByteArray).size = cs.length) := ⟨by simp [ByteArray.size]⟩
        go_wp2_with (first
          | (go_at_call 27; refine HSP2.out.mono ?_; rintro e1 w3 ⟨rfl, HB3⟩; clear HSP2))
        clear q0
        go_loopw [9, 8] (fun x y wr => ∃ (i p : Nat) (e : Ev) (v : Value) (rest : List (List UInt8)), i ≤ cs.length ∧ p ≤ wsA.length ∧ x = .int .i64 i ∧ y = .int .i64 p ∧ Bx (Lt w wr H G gw wsA cs R i p e v rest)) (fun x _ _ => cs.length - (intOf x).toNat)
        case atStart => exact ⟨0, 1, _, _, _, Nat.zero_le _, hpos, rfl, rfl, HB3⟩
        case round =>
          obtain ⟨i, p, e, v, rest, hi, hp, rfl, rfl, HL⟩ := hrel
          clear HB3 HI2
          have hrl : rest.length = wsA.length - p := by rw [HL.out.rs, List.length_drop]
          obtain ⟨va, vn, vc, hv⟩ := HL.out.sl
          subst hv
          by_cases hlt : i < cs.length
          · have hiI : (i : Int) < (cs.length : Int) := by omega
            have hsi : i < (⟨cs.toArray⟩ : ByteArray).size := by rw [HSZ.out]; exact hlt
            obtain ⟨c, hce⟩ : ∃ c, c = cs[i] := ⟨_, rfl⟩
            have hci : ∀ hi, (⟨cs.toArray⟩ : ByteArray)[i]'hi = c := fun hi => by rw [hce]; rfl
            have HNN : Bx (stepC c e rest = none → evOf t = none) := ⟨fun h => by rw [HER2.out, HL.out.fo, fold_none hlt hce h]; rfl⟩
            have HYY : Bx (∀ e2 r, stepC c e rest = some (e2, r) → R = foldC (cs.drop (i + 1)) e2 r) := ⟨fun e2 r h => by rw [HL.out.fo, fold_some hlt hce h]⟩
            have HNM : Bx (∀ tm, tm ∈ wsA → ∀ W, Calls Tryd.prog 51 #[strV tm] W (RNumA W tm)) := ⟨fun tm h W => rnumber_any tm (HLE.out tm h) W⟩
            clear hce HER2 HLE
            by_cases h76 : c = 76
            · subst h76
              have HWC : Bx (∀ W e v m (h : p + m < wsA.length), RvS w W H G e v gw wsA → W.cell? ⟨gw, p + m, none⟩ = some (strV wsA[p + m])) := ⟨fun W e v m h hh => hh.wd (p + m) h⟩
              have HRM : Bx (∀ m (h : p + m < wsA.length) (h2 : m < rest.length), rest[m] = wsA[p + m]) := ⟨fun m h h2 => by simp only [HL.out.rs, List.getElem_drop]⟩
              have hll := HL.out.ll
              have HLN : Bx (∀ W l v, numsOf rest = some l → l.length = rest.length → (∃ a n c, v = Value.slice a n c) → RvS w W H G { e with list := e.list ++ l } v gw wsA → Lt w W H G gw wsA cs R (i + 1) (p + rest.length) { e with list := e.list ++ l } v []) := ⟨fun W l v h1 h2 h4 h3 => ⟨h3, by rw [List.drop_of_length_le (by omega)], HYY.out _ _ (by unfold stepC; rw [if_pos rfl, h1]; rfl), by show (e.list ++ l).length ≤ _; rw [List.length_append]; omega, h4⟩⟩
              have HST : Bx (RvS w wr H G { e with list := e.list ++ [] } (.slice va vn vc) gw wsA) := ⟨by rw [List.append_nil]; exact HL.out.rv⟩
              clear HL HYY
              go_wp2
              go_loopw [8] (fun y wx => ∃ (m : Nat) (l : List Int) (v : Value), m ≤ rest.length ∧ y = .int .i64 ((p + m : Nat) : Int) ∧ Bx (RvS w wx H G { e with list := e.list ++ l } v gw wsA ∧ numsOf (rest.take m) = some l ∧ l.length = m ∧ ∃ a n c, v = Value.slice a n c)) (fun y _ => wsA.length - (intOf y).toNat)
              case atStart => exact ⟨0, [], _, Nat.zero_le _, by simp, ⟨HST.out, by simp [numsOf], rfl, ⟨_, _, _, rfl⟩⟩⟩
              case round =>
                obtain ⟨m, l, v, hm, rfl, HM⟩ := hrel
                clear HST
                obtain ⟨a1, n1, c1, hv1⟩ := HM.out.2.2.2
                subst hv1
                have hml := HM.out.2.2.1
                by_cases hmr : m < rest.length
                · have hpm : p + m < wsA.length := by omega
                  have hpmI : ((p + m : Nat) : Int) < (wsA.length : Int) := by omega
                  have hpmJ : (p : Int) + (m : Int) < (wsA.length : Int) := by omega
                  have c0 := HWC.out _ _ _ m hpm HM.out.1
                  have HNW : Bx _ := ⟨HNM.out wsA[p + m] (List.getElem_mem hpm)⟩
                  have hrm := HRM.out m hpm hmr
                  obtain ⟨tm, htm⟩ : ∃ tm, tm = wsA[p + m] := ⟨_, rfl⟩
                  rw [← htm] at c0 HNW hrm
                  have HTK : Bx (rest.take (m + 1) = rest.take m ++ [tm]) := ⟨by rw [List.take_succ_eq_append_getElem hmr, hrm]⟩
                  have HSP3 : Bx (rest = rest.take m ++ tm :: rest.drop (m + 1)) := ⟨by
                    have h1 : tm :: rest.drop (m + 1) = rest.drop m := by rw [← hrm]; exact (List.drop_eq_getElem_cons hmr).symm
                    rw [h1, List.take_append_drop]⟩
                  clear htm hrm
                  cases hq : numOf tm with
                  | none =>
                    have HNO : Bx (evOf t = none) := ⟨HNN.out (by unfold stepC; rw [if_pos rfl, HSP3.out, numsOf_bad _ _ _ hq]; rfl)⟩
                    have HN1 : Bx (Calls Tryd.prog 51 #[strV tm] wr fun e1 w1 => ∃ x : Int, e1 = .returned (.tuple #[.int .i64 x, .bool false]) ∧ Bx (RvS w w1 H G { e with list := e.list ++ l } (.slice a1 n1 c1) gw wsA)) := ⟨(HNW.out wr).mono fun e1 w1 ⟨x, b, h1, h2⟩ => by
                      have hb : b = false := by have := h2.out.2.2.1; rw [hq] at this; exact this
                      subst hb
                      exact ⟨x, h1, ⟨HM.out.1.on h2.out.1⟩⟩⟩
                    clear HNN HNW HQY HLN HWC HM hq HTK HSP3 HRM HNM
                    go_wp2_with (go_at_call 51; refine HN1.out.mono ?_; rintro e1 z1 ⟨x, rfl, HZ⟩; have hre := HZ.out.re; obtain ⟨p0, p1, p2, p3, p4, p5, p6, p7⟩ := evB_cells hre; have f0 := evB_frz hre 0; have f1 := evB_frz hre 1; have f2 := evB_frz hre 2; have f3 := evB_frz hre 3; have f4 := evB_frz hre 4; have f5 := evB_frz hre 5; have f6 := evB_frz hre 6; have f7 := evB_frz hre 7; simp only [noEv] at p0 p1 p2 p3 p4 p5 p6 p7; have hc9 := evB_cells (st8_blk hre noEv (.slice none 0 0)); have hq9 := HQN.out _ _ _ _ ⟨_, HZ.out⟩ HNO.out; obtain ⟨W9, hW9⟩ : ∃ W9, st8 z1 H noEv (.slice none 0 0) = W9 := ⟨_, rfl⟩; rw [hW9] at hc9 hq9; have HC9 : Bx _ := ⟨hc9⟩; have HEN : Bx _ := ⟨hq9⟩; unfold st8 at hW9; simp only [noEv] at hW9; clear hre hc9 hq9)
                    obtain ⟨n0, n1, n2, n3, n4, n5, n6, n7⟩ := HC9.out
                    refine bodyPost_ret (v := .tuple #[evW8 noEv (.slice none 0 0), .bool false]) (by simp [results, Tryd.results37, go_sem, n0, n1, n2, n3, n4, n5, n6, n7]) rfl HEN.out
                  | some x =>
                    have HN1 : Bx (Calls Tryd.prog 51 #[strV tm] wr fun e1 w1 => e1 = .returned (.tuple #[.int .i64 x, .bool true]) ∧ Bx (RvS w w1 H G { e with list := e.list ++ l } (.slice a1 n1 c1) gw wsA)) := ⟨(HNW.out wr).mono fun e1 w1 ⟨x2, b, h1, h2⟩ => by
                      have hb : b = true := by have := h2.out.2.2.1; rw [hq] at this; exact this
                      have hx := h2.out.2.2.2 x hq
                      subst hb
                      subst hx
                      exact ⟨h1, ⟨HM.out.1.on h2.out.1⟩⟩⟩
                    have HNU : Bx (numsOf (rest.take (m + 1)) = some (l ++ [x])) := ⟨by rw [HTK.out]; exact numsOf_snoc _ _ _ _ HM.out.2.1 hq⟩
                    have hle2 : (e.list ++ l).length ≤ 8796093022200 := by rw [List.length_append]; omega
                    clear HNN HNW HQY HQN HLN HWC HM hq HTK HSP3 HRM HNM
                    go_wp2_with (first
                      | (go_at_call 51; refine HN1.out.mono ?_; rintro e1 z1 ⟨rfl, HZ⟩; have q7 := (evB_cells HZ.out.ev).2.2.2.2.2.2.2; obtain ⟨a2, n2, c2, W3, r6, k7, k8, hR3⟩ := HZ.out.app x hle2; have HR3 : Bx _ := ⟨hR3⟩; clear hR3)
                      | (at_builtin; refine wpList_appI rfl (.tmp 63) (.tmp 65) 22 rfl rfl rfl r6 ?_))
                    go_roundw
                    case rel => exact ⟨m + 1, l ++ [x], _, hmr, by push_cast; go_num, ⟨by have := HR3.out; simp only [List.append_assoc] at this; exact this, HNU.out, by rw [List.length_append]; simp; omega, ⟨_, _, _, rfl⟩⟩⟩
                    case measure => simp [intOf]; omega
                · obtain rfl : m = rest.length := by omega
                  have HE1 : Bx (Lt w wr H G gw wsA cs R (i + 1) (p + rest.length) { e with list := e.list ++ l } (.slice a1 n1 c1) []) := ⟨HLN.out _ _ _ (by have := HM.out.2.1; rw [List.take_of_length_le (Nat.le_refl _)] at this; exact this) hml ⟨_, _, _, rfl⟩ HM.out.1⟩
                  have hpmI : ¬ ((p + rest.length : Nat) : Int) < (wsA.length : Int) := by omega
                  have hpmJ : ¬ (p : Int) + (rest.length : Int) < (wsA.length : Int) := by omega
                  clear HM HNN HQY HQN HLN HWC HRM HNM
                  go_wp2
                  go_roundw
                  case rel => exact ⟨i + 1, p + rest.length, _, _, _, hlt, by omega, by go_num, by first | rfl | go_num, HE1⟩
                  case measure => simp [intOf]; omega
            · have g76 : ((c.toNat : Int) == 76) = false := u8_ne h76
              have i76 : ¬ (c.toNat : Int) = 76 := by simpa using g76
              by_cases hpe : p = wsA.length
              · have hre0 : rest = [] := List.eq_nil_of_length_eq_zero (by omega)
                have HNO := HNN.out (by unfold stepC; rw [if_neg h76, hre0])
                have HRV : Bx _ := ⟨HL.out.rv⟩
                subst hpe
                have hre := HRV.out.re
                obtain ⟨p0, p1, p2, p3, p4, p5, p6, p7⟩ := evB_cells hre
                have f0 := evB_frz hre 0; have f1 := evB_frz hre 1; have f2 := evB_frz hre 2; have f3 := evB_frz hre 3
                have f4 := evB_frz hre 4; have f5 := evB_frz hre 5; have f6 := evB_frz hre 6; have f7 := evB_frz hre 7
                simp only [noEv] at p0 p1 p2 p3 p4 p5 p6 p7
                have hc9 := evB_cells (st8_blk hre noEv (.slice none 0 0))
                have hq9 := HQN.out _ _ _ _ ⟨_, HRV.out⟩ HNO
                obtain ⟨W9, hW9⟩ : ∃ W9, st8 wr H noEv (.slice none 0 0) = W9 := ⟨_, rfl⟩
                rw [hW9] at hc9 hq9
                have HC9 : Bx _ := ⟨hc9⟩
                have HEN : Bx _ := ⟨hq9⟩
                unfold st8 at hW9
                simp only [noEv] at hW9
                clear hre hc9 hq9
                clear HQY HL HNN HYY HNM HNO
                go_wp2
                obtain ⟨n0, n1, n2, n3, n4, n5, n6, n7⟩ := HC9.out
                refine bodyPost_ret (v := .tuple #[evW8 noEv (.slice none 0 0), .bool false]) (by simp [results, Tryd.results37, go_sem, n0, n1, n2, n3, n4, n5, n6, n7]) rfl HEN.out
              · have hpl : p < wsA.length := by omega
                have hpI : (p : Int) < (wsA.length : Int) := by omega
                have hpn : ((p : Int) == (wsA.length : Int)) = false := by simp; omega
                have hpm : ¬ (p : Int) = (wsA.length : Int) := by omega
                have hrest : rest = wsA[p] :: wsA.drop (p + 1) := by rw [HL.out.rs, List.drop_eq_getElem_cons hpl]
                have hmem : wsA[p] ∈ wsA := List.getElem_mem hpl
                have HWC : Bx (∀ W e v, RvS w W H G e v gw wsA → W.cell? ⟨gw, p, none⟩ = some (strV wsA[p])) := ⟨fun W e v h => h.wd p hpl⟩
                obtain ⟨tm, htm⟩ : ∃ tm, tm = wsA[p] := ⟨_, rfl⟩
                rw [← htm] at hrest hmem HWC
                have HLT : Bx (∀ W e2, stepC c e rest = some (e2, wsA.drop (p + 1)) → e2.list = e.list → RvS w W H G e2 (.slice va vn vc) gw wsA → Lt w W H G gw wsA cs R (i + 1) (p + 1) e2 (.slice va vn vc) (wsA.drop (p + 1))) := ⟨fun W e2 h1 h2 h3 => ⟨h3, rfl, HYY.out _ _ h1, by rw [h2]; have := HL.out.ll; omega, ⟨_, _, _, rfl⟩⟩⟩
                have HNW : Bx _ := ⟨HNM.out tm hmem⟩
                have c0 := HWC.out _ _ _ HL.out.rv
                have HRV : Bx _ := ⟨HL.out.rv⟩
                clear HL HNM hmem htm HYY
                by_cases h84 : c = 84
                · subst h84
                  obtain ⟨m, hm⟩ : ∃ m, m = place tm trapW := ⟨_, rfl⟩
                  have HTR : Bx (∀ W, RvS w W H G e (.slice va vn vc) gw wsA → Calls Tryd.prog 29 #[] (W.drewN 1) fun e' w' => ∃ gt, e' = .returned (.slice (some ⟨gt, 0, none⟩) 5 5) ∧ Bx (RvS w w' H G e (.slice va vn vc) gw wsA) ∧ Bx (Calls Tryd.prog 52 #[.slice (some ⟨gt, 0, none⟩) 5 5, strV tm] w' fun e2 w2 => e2 = .returned (.int .i64 ((m : Nat) : Int)) ∧ w2 = w')) := ⟨fun W h => (rtraps_at (W.drewN 1)).mono fun e' w' ⟨a1, a2⟩ => by
                    refine ⟨_, a1, ⟨(h.on (below_drewN (Below.refl _ _) 1)).on (by rw [a2]; exact below1 _ _)⟩, ⟨?_⟩⟩
                    rw [hm]
                    refine rplace_any w' _ 5 trapW tm (by decide) (fun j hj => ?_)
                    have := nw_cell (w := W.drewN 1) hj a2
                    rw [List.getD_eq_getElem?_getD, List.getElem?_eq_getElem hj] at this
                    exact this⟩
                  have HN1 : Bx (Calls Tryd.prog 51 #[strV tm] wr fun e1 w1 => ∃ (x : Int) (b : Bool), e1 = .returned (.tuple #[.int .i64 x, .bool b]) ∧ Bx (RvS w w1 H G e (.slice va vn vc) gw wsA)) := ⟨(HNW.out wr).mono fun e1 w1 ⟨x, b, h1, h2⟩ => ⟨x, b, h1, ⟨HRV.out.on h2.out.1⟩⟩⟩
                  have hms : m ≤ 6 := by rw [hm]; exact Nat.le_trans (place_le _ _) (by decide)
                  by_cases hm0 : m = 0
                  · have HNO : Bx (evOf t = none) := ⟨HNN.out (by rw [hrest]; unfold stepC; rw [if_neg (by decide)]; simp only [if_true, ← hm, hm0])⟩
                    subst hm0
                    clear HNN HNW HQY HLT HRV hrest hm
                    go_wp2_with (go_at_call 51; refine HN1.out.mono ?_; rintro e1 z1 ⟨x, b, rfl, HZ⟩; have c1 := HWC.out _ _ _ HZ.out)
                    go_region_law (first
                      | (refine step_call rfl 29 #[] #[] rfl #[] (by simp only [execOp]; go_simp) (HTR.out _ HZ.out) ?_; rintro e1 z5 ⟨gt, rfl, HZ5, HPL⟩; have c5 := HWC.out _ _ _ HZ5.out; refine ⟨_, rfl, ?_⟩)
                      | (refine step_call rfl 52 #[.tmp 88, .tmp 92] #[52, 9] rfl #[.slice (some ⟨gt, 0, none⟩) 5 5, strV tm] (by simp only [execOp]; go_simp) HPL.out ?_; rintro e1 z6 ⟨rfl, hz6⟩; subst z6; refine ⟨_, rfl, ?_⟩))
                    all_goals
                      have hre := HZ5.out.re
                      obtain ⟨p0, p1, p2, p3, p4, p5, p6, p7⟩ := evB_cells hre
                      have f0 := evB_frz hre 0; have f1 := evB_frz hre 1; have f2 := evB_frz hre 2; have f3 := evB_frz hre 3
                      have f4 := evB_frz hre 4; have f5 := evB_frz hre 5; have f6 := evB_frz hre 6; have f7 := evB_frz hre 7
                      simp only [noEv] at p0 p1 p2 p3 p4 p5 p6 p7
                      have hc9 := evB_cells (st8_blk hre noEv (.slice none 0 0))
                      have hq9 := HQN.out _ _ _ _ ⟨_, HZ5.out⟩ HNO.out
                      obtain ⟨W9, hW9⟩ : ∃ W9, st8 z5 H noEv (.slice none 0 0) = W9 := ⟨_, rfl⟩
                      rw [hW9] at hc9 hq9
                      have HC9 : Bx _ := ⟨hc9⟩
                      have HEN : Bx _ := ⟨hq9⟩
                      unfold st8 at hW9
                      simp only [noEv] at hW9
                      clear hre hc9 hq9
                      go_wp2
                      obtain ⟨n0, n1, n2, n3, n4, n5, n6, n7⟩ := HC9.out
                      refine bodyPost_ret (v := .tuple #[evW8 noEv (.slice none 0 0), .bool false]) (by simp [results, Tryd.results37, go_sem, n0, n1, n2, n3, n4, n5, n6, n7]) rfl HEN.out
                  · have hst : stepC 84 e rest = some (setE e 84 (m : Nat), wsA.drop (p + 1)) := by rw [hrest]; unfold stepC; rw [if_neg (by decide)]; simp only [if_true, ← hm, if_neg hm0]
                    have HFD : Bx (∀ W, Calls Tryd.prog 28 #[.pointer (some ⟨G, 0, none⟩), .int .u8 84] W fun e w' => e = .returned (.pointer (some ⟨G, 6, none⟩)) ∧ w' = W) := ⟨fun W => rfield_any W G 84⟩
                    have HEND : Bx (∀ W, RvS w W H G e (.slice va vn vc) gw wsA → Lt w (W.setCell ⟨G, 6, none⟩ (.int .i64 (m : Int))) H G gw wsA cs R (i + 1) (p + 1) (setE e 84 (m : Nat)) (.slice va vn vc) (wsA.drop (p + 1))) := ⟨fun W h => HLT.out _ _ hst (setE_list e 84 _) (h.field 84 (m : Nat))⟩
                    have HCF : Bx (∀ W, RvS w W H G e (.slice va vn vc) gw wsA → W.cell? ⟨G, 6, none⟩ = some (.int .i64 (fldE e 84)) ∧ W.frozen? ⟨G, 6, none⟩ = false) := ⟨fun W h => h.fld 84⟩
                    have hmI : decide (0 < m) = true := by simp; omega
                    have hmN : 0 < m := by omega
                    have hmJ : (0 : Int) < (m : Int) := by omega
                    clear HNN HNW HQY HQN HLT HRV hrest hm hst
                    generalize fldE e 84 = old at *
                    go_wp2_with (go_at_call 51; refine HN1.out.mono ?_; rintro e1 z1 ⟨x, b, rfl, HZ⟩; have c1 := HWC.out _ _ _ HZ.out)
                    go_region_law (first
                      | (refine step_call rfl 29 #[] #[] rfl #[] (by simp only [execOp]; go_simp) (HTR.out _ HZ.out) ?_; rintro e1 z5 ⟨gt, rfl, HZ5, HPL⟩; have c5 := HWC.out _ _ _ HZ5.out; refine ⟨_, rfl, ?_⟩)
                      | (refine step_call rfl 52 #[.tmp 88, .tmp 92] #[52, 9] rfl #[.slice (some ⟨gt, 0, none⟩) 5 5, strV tm] (by simp only [execOp]; go_simp) HPL.out ?_; rintro e1 z6 ⟨rfl, hz6⟩; subst z6; refine ⟨_, rfl, ?_⟩))
                    all_goals
                      obtain ⟨u1, u2⟩ := HCF.out _ HZ5.out
                      have HE1 : Bx _ := ⟨HEND.out _ HZ5.out⟩
                      go_wp2_with (go_at_call 28; refine (HFD.out _).mono ?_; rintro e1 z2 ⟨rfl, hz2⟩; subst z2)
                      go_roundw
                      case rel => exact ⟨i + 1, p + 1, _, _, _, hlt, hpl, by go_num, by go_num, HE1⟩
                      case measure => simp [intOf]; omega
                · have g84 : ((c.toNat : Int) == 84) = false := u8_ne h84
                  have i84 : ¬ (c.toNat : Int) = 84 := by simpa using g84
                  by_cases h83 : c = 83
                  · subst h83
                    obtain ⟨m, hm⟩ : ∃ m, m = place tm spentW := ⟨_, rfl⟩
                    have HTR : Bx (∀ W, RvS w W H G e (.slice va vn vc) gw wsA → Calls Tryd.prog 30 #[] (W.drewN 1) fun e' w' => ∃ gt, e' = .returned (.slice (some ⟨gt, 0, none⟩) 6 6) ∧ Bx (RvS w w' H G e (.slice va vn vc) gw wsA) ∧ Bx (Calls Tryd.prog 52 #[.slice (some ⟨gt, 0, none⟩) 6 6, strV tm] w' fun e2 w2 => e2 = .returned (.int .i64 ((m : Nat) : Int)) ∧ w2 = w')) := ⟨fun W h => (rcounters_at (W.drewN 1)).mono fun e' w' ⟨a1, a2⟩ => by
                      refine ⟨_, a1, ⟨(h.on (below_drewN (Below.refl _ _) 1)).on (by rw [a2]; exact below1 _ _)⟩, ⟨?_⟩⟩
                      rw [hm]
                      refine rplace_any w' _ 6 spentW tm (by decide) (fun j hj => ?_)
                      have := nw_cell (w := W.drewN 1) hj a2
                      rw [List.getD_eq_getElem?_getD, List.getElem?_eq_getElem hj] at this
                      exact this⟩
                    have HN1 : Bx (Calls Tryd.prog 51 #[strV tm] wr fun e1 w1 => ∃ (x : Int) (b : Bool), e1 = .returned (.tuple #[.int .i64 x, .bool b]) ∧ Bx (RvS w w1 H G e (.slice va vn vc) gw wsA)) := ⟨(HNW.out wr).mono fun e1 w1 ⟨x, b, h1, h2⟩ => ⟨x, b, h1, ⟨HRV.out.on h2.out.1⟩⟩⟩
                    have hms : m ≤ 6 := by rw [hm]; exact Nat.le_trans (place_le _ _) (by decide)
                    by_cases hm0 : m = 0
                    · have HNO : Bx (evOf t = none) := ⟨HNN.out (by rw [hrest]; unfold stepC; rw [if_neg (by decide)]; simp only [show ¬ ((83 : UInt8) = 84) by decide, if_false, if_true, ← hm, hm0])⟩
                      subst hm0
                      clear HNN HNW HQY HLT HRV hrest hm
                      go_wp2_with (go_at_call 51; refine HN1.out.mono ?_; rintro e1 z1 ⟨x, b, rfl, HZ⟩; have c1 := HWC.out _ _ _ HZ.out)
                      go_region_law (first
                        | (refine step_call rfl 30 #[] #[] rfl #[] (by simp only [execOp]; go_simp) (HTR.out _ HZ.out) ?_; rintro e1 z5 ⟨gt, rfl, HZ5, HPL⟩; have c5 := HWC.out _ _ _ HZ5.out; refine ⟨_, rfl, ?_⟩)
                        | (refine step_call rfl 52 #[.tmp 98, .tmp 102] #[52, 9] rfl #[.slice (some ⟨gt, 0, none⟩) 6 6, strV tm] (by simp only [execOp]; go_simp) HPL.out ?_; rintro e1 z6 ⟨rfl, hz6⟩; subst z6; refine ⟨_, rfl, ?_⟩))
                      all_goals
                        have hre := HZ5.out.re
                        obtain ⟨p0, p1, p2, p3, p4, p5, p6, p7⟩ := evB_cells hre
                        have f0 := evB_frz hre 0; have f1 := evB_frz hre 1; have f2 := evB_frz hre 2; have f3 := evB_frz hre 3
                        have f4 := evB_frz hre 4; have f5 := evB_frz hre 5; have f6 := evB_frz hre 6; have f7 := evB_frz hre 7
                        simp only [noEv] at p0 p1 p2 p3 p4 p5 p6 p7
                        have hc9 := evB_cells (st8_blk hre noEv (.slice none 0 0))
                        have hq9 := HQN.out _ _ _ _ ⟨_, HZ5.out⟩ HNO.out
                        obtain ⟨W9, hW9⟩ : ∃ W9, st8 z5 H noEv (.slice none 0 0) = W9 := ⟨_, rfl⟩
                        rw [hW9] at hc9 hq9
                        have HC9 : Bx _ := ⟨hc9⟩
                        have HEN : Bx _ := ⟨hq9⟩
                        unfold st8 at hW9
                        simp only [noEv] at hW9
                        clear hre hc9 hq9
                        go_wp2
                        obtain ⟨n0, n1, n2, n3, n4, n5, n6, n7⟩ := HC9.out
                        refine bodyPost_ret (v := .tuple #[evW8 noEv (.slice none 0 0), .bool false]) (by simp [results, Tryd.results37, go_sem, n0, n1, n2, n3, n4, n5, n6, n7]) rfl HEN.out
                    · have hst : stepC 83 e rest = some (setE e 83 (m : Nat), wsA.drop (p + 1)) := by rw [hrest]; unfold stepC; rw [if_neg (by decide)]; simp only [show ¬ ((83 : UInt8) = 84) by decide, if_false, if_true, ← hm, if_neg hm0]
                      have HFD : Bx (∀ W, Calls Tryd.prog 28 #[.pointer (some ⟨G, 0, none⟩), .int .u8 83] W fun e w' => e = .returned (.pointer (some ⟨G, 6, none⟩)) ∧ w' = W) := ⟨fun W => rfield_any W G 83⟩
                      have HEND : Bx (∀ W, RvS w W H G e (.slice va vn vc) gw wsA → Lt w (W.setCell ⟨G, 6, none⟩ (.int .i64 (m : Int))) H G gw wsA cs R (i + 1) (p + 1) (setE e 83 (m : Nat)) (.slice va vn vc) (wsA.drop (p + 1))) := ⟨fun W h => HLT.out _ _ hst (setE_list e 83 _) (h.field 83 (m : Nat))⟩
                      have HCF : Bx (∀ W, RvS w W H G e (.slice va vn vc) gw wsA → W.cell? ⟨G, 6, none⟩ = some (.int .i64 (fldE e 83)) ∧ W.frozen? ⟨G, 6, none⟩ = false) := ⟨fun W h => h.fld 83⟩
                      have hmI : decide (0 < m) = true := by simp; omega
                      have hmN : 0 < m := by omega
                      have hmJ : (0 : Int) < (m : Int) := by omega
                      clear HNN HNW HQY HQN HLT HRV hrest hm hst
                      generalize fldE e 83 = old at *
                      go_wp2_with (go_at_call 51; refine HN1.out.mono ?_; rintro e1 z1 ⟨x, b, rfl, HZ⟩; have c1 := HWC.out _ _ _ HZ.out)
                      go_region_law (first
                        | (refine step_call rfl 30 #[] #[] rfl #[] (by simp only [execOp]; go_simp) (HTR.out _ HZ.out) ?_; rintro e1 z5 ⟨gt, rfl, HZ5, HPL⟩; have c5 := HWC.out _ _ _ HZ5.out; refine ⟨_, rfl, ?_⟩)
                        | (refine step_call rfl 52 #[.tmp 98, .tmp 102] #[52, 9] rfl #[.slice (some ⟨gt, 0, none⟩) 6 6, strV tm] (by simp only [execOp]; go_simp) HPL.out ?_; rintro e1 z6 ⟨rfl, hz6⟩; subst z6; refine ⟨_, rfl, ?_⟩))
                      all_goals
                        obtain ⟨u1, u2⟩ := HCF.out _ HZ5.out
                        have HE1 : Bx _ := ⟨HEND.out _ HZ5.out⟩
                        go_wp2_with (go_at_call 28; refine (HFD.out _).mono ?_; rintro e1 z2 ⟨rfl, hz2⟩; subst z2)
                        go_roundw
                        case rel => exact ⟨i + 1, p + 1, _, _, _, hlt, hpl, by go_num, by go_num, HE1⟩
                        case measure => simp [intOf]; omega
                  · have g83 : ((c.toNat : Int) == 83) = false := u8_ne h83
                    have i83 : ¬ (c.toNat : Int) = 83 := by simpa using g83
                    cases hq : numOf tm with
                    | none =>
                      have HNO : Bx (evOf t = none) := ⟨HNN.out (by rw [hrest]; unfold stepC; rw [if_neg h76]; simp only [if_neg h84, if_neg h83, hq, Option.map_none])⟩
                      have HN1 : Bx (Calls Tryd.prog 51 #[strV tm] wr fun e1 w1 => ∃ x : Int, e1 = .returned (.tuple #[.int .i64 x, .bool false]) ∧ Bx (RvS w w1 H G e (.slice va vn vc) gw wsA)) := ⟨(HNW.out wr).mono fun e1 w1 ⟨x, b, h1, h2⟩ => by
                        have hb : b = false := by have := h2.out.2.2.1; rw [hq] at this; exact this
                        subst hb
                        exact ⟨x, h1, ⟨HRV.out.on h2.out.1⟩⟩⟩
                      clear HNN HNW HQY HLT HWC HRV hrest hq
                      go_wp2_with (go_at_call 51; refine HN1.out.mono ?_; rintro e1 z1 ⟨x, rfl, HZ⟩; have hre := HZ.out.re; obtain ⟨p0, p1, p2, p3, p4, p5, p6, p7⟩ := evB_cells hre; have f0 := evB_frz hre 0; have f1 := evB_frz hre 1; have f2 := evB_frz hre 2; have f3 := evB_frz hre 3; have f4 := evB_frz hre 4; have f5 := evB_frz hre 5; have f6 := evB_frz hre 6; have f7 := evB_frz hre 7; simp only [noEv] at p0 p1 p2 p3 p4 p5 p6 p7; have hc9 := evB_cells (st8_blk hre noEv (.slice none 0 0)); have hq9 := HQN.out _ _ _ _ ⟨_, HZ.out⟩ HNO.out; obtain ⟨W9, hW9⟩ : ∃ W9, st8 z1 H noEv (.slice none 0 0) = W9 := ⟨_, rfl⟩; rw [hW9] at hc9 hq9; have HC9 : Bx _ := ⟨hc9⟩; have HEN : Bx _ := ⟨hq9⟩; unfold st8 at hW9; simp only [noEv] at hW9; clear hre hc9 hq9)
                      obtain ⟨n0, n1, n2, n3, n4, n5, n6, n7⟩ := HC9.out
                      refine bodyPost_ret (v := .tuple #[evW8 noEv (.slice none 0 0), .bool false]) (by simp [results, Tryd.results37, go_sem, n0, n1, n2, n3, n4, n5, n6, n7]) rfl HEN.out
                    | some m =>
                      have hst : stepC c e rest = some (setE e c m, wsA.drop (p + 1)) := by rw [hrest]; unfold stepC; rw [if_neg h76]; simp only [if_neg h84, if_neg h83, hq, Option.map_some]
                      have HN1 : Bx (Calls Tryd.prog 51 #[strV tm] wr fun e1 w1 => e1 = .returned (.tuple #[.int .i64 m, .bool true]) ∧ Bx (RvS w w1 H G e (.slice va vn vc) gw wsA)) := ⟨(HNW.out wr).mono fun e1 w1 ⟨x, b, h1, h2⟩ => by
                        have hb : b = true := by have := h2.out.2.2.1; rw [hq] at this; exact this
                        have hx := h2.out.2.2.2 m hq
                        subst hb
                        subst hx
                        exact ⟨h1, ⟨HRV.out.on h2.out.1⟩⟩⟩
                      have HFD : Bx (∀ W, Calls Tryd.prog 28 #[.pointer (some ⟨G, 0, none⟩), .int .u8 c.toNat] W fun e w' => e = .returned (.pointer (some ⟨G, fiL c, none⟩)) ∧ w' = W) := ⟨fun W => rfield_any W G c⟩
                      have HEND : Bx (∀ W, RvS w W H G e (.slice va vn vc) gw wsA → Lt w (W.setCell ⟨G, fiL c, none⟩ (.int .i64 m)) H G gw wsA cs R (i + 1) (p + 1) (setE e c m) (.slice va vn vc) (wsA.drop (p + 1))) := ⟨fun W h => HLT.out _ _ hst (setE_list e c m) (h.field c m)⟩
                      have HCF : Bx (∀ W, RvS w W H G e (.slice va vn vc) gw wsA → W.cell? ⟨G, fiL c, none⟩ = some (.int .i64 (fldE e c)) ∧ W.frozen? ⟨G, fiL c, none⟩ = false) := ⟨fun W h => h.fld c⟩
                      clear HNN HNW HQY HQN HLT HWC HRV hrest hq hst
                      generalize fldE e c = old at *
                      generalize fiL c = fi at *
                      go_wp2_with (first
                        | (go_at_call 51; refine HN1.out.mono ?_; rintro e1 z1 ⟨rfl, HZ⟩; obtain ⟨u1, u2⟩ := HCF.out _ HZ.out; have HE1 : Bx _ := ⟨HEND.out _ HZ.out⟩)
                        | (go_at_call 28; refine (HFD.out _).mono ?_; rintro e1 z2 ⟨rfl, hz2⟩; subst z2))
                      go_roundw
                      case rel => exact ⟨i + 1, p + 1, _, _, _, hlt, hpl, by go_num, by go_num, HE1⟩
                      case measure => simp [intOf]; omega
          · obtain rfl : i = cs.length := by omega
            have HRV : Bx _ := ⟨HL.out.rv⟩
            have HFO : Bx (evOf t = endC (some (e, rest))) := ⟨by rw [HER2.out, HL.out.fo, List.drop_of_length_le (Nat.le_refl _)]; rfl⟩
            have hnot : ¬ ((cs.length : Nat) : Int) < ((cs.length : Nat) : Int) := by omega
            clear HL HER2 HLE HQN HSZ
            by_cases hpe : p = wsA.length
            · have hre0 : rest = [] := List.eq_nil_of_length_eq_zero (by omega)
              subst hpe
              have hvn : vn = e.list.length := by
                rcases HRV.out.row.2 with ⟨q, q2⟩ | ⟨g, cap, cur, q, _⟩
                · simp only [Value.slice.injEq] at q
                  omega
                · simp only [Value.slice.injEq] at q
                  exact q.2.1
              have HCK : Bx (Calls Tryd.prog 11 #[evW8 e (.slice va vn vc)] wr.drew fun e' w' => e' = .returned (.int .i64 (chkE e)) ∧ RvS w w' H G e (.slice va vn vc) gw wsA) := ⟨by
                have hfd := HRV.out.on (Below.refl _ _).drew
                subst hvn
                exact (rCheck_any e va vc wr.drew (NRo.iv hfd.row rfl)).mono fun e' w' h => ⟨h.1, hfd.on h.2⟩⟩
              have HFR : Bx (evOf t = if (chkE e == 0) then some e else none) := ⟨by rw [HFO.out, chk_bool, hre0]; cases hev : evOk e <;> simp [endC, hev]⟩
              generalize chkE e = ck at *
              obtain ⟨q0, q1, q2, q3, q4, q5, q6, q7⟩ := evB_cells HRV.out.ev
              clear HFO hvn
              go_wp2
              refine wp_region_held_drew (S := (fun w' : World => w'.cell? ⟨G, 0, none⟩ = some (.int .i64 e.kind) ∧ w'.cell? ⟨G, 1, none⟩ = some (.int .i64 e.p) ∧ w'.cell? ⟨G, 2, none⟩ = some (.int .i64 e.i) ∧ w'.cell? ⟨G, 3, none⟩ = some (.int .i64 e.q) ∧ w'.cell? ⟨G, 4, none⟩ = some (.int .i64 e.j) ∧ w'.cell? ⟨G, 5, none⟩ = some (.int .i64 e.c) ∧ w'.cell? ⟨G, 6, none⟩ = some (.int .i64 e.num) ∧ w'.cell? ⟨G, 7, none⟩ = some (.slice va vn vc))) (by kernel_rfl) ⟨q0, q1, q2, q3, q4, q5, q6, q7⟩ (fun hHeld => ?_)
              try simp only [List.size_toArray, List.length_cons, List.length_nil]
              refine wpAnyH_take (i := 0) (oi := ⟨some 118, Op.load 24 (Operand.tmp 5), 24, _, _, _⟩) (v := ?_) rfl (by decide +kernel) (by decide +kernel) (by decide +kernel) (fun _ _ _ h => h) (Or.inl ⟨by first | rfl | simp [Region.wanted, yielded], ?_⟩) (by assumption) ?_
              case refine_2 => intro w hSw; obtain ⟨s0, s1, s2, s3, s4, s5, s6, s7⟩ := hSw; go_simp; try rfl
              try simp only [Act.put, List.setIfInBounds_toArray, List.set_cons_zero, List.set_cons_succ]
              refine wpAnyH_take (i := 1) (oi := ⟨some 119, Op.move (Operand.tmp 8), 3, _, _, _⟩) (v := ?_) rfl (by decide +kernel) (by decide +kernel) (by decide +kernel) (fun _ _ _ h => h) (Or.inl ⟨by first | rfl | simp [Region.wanted, yielded], ?_⟩) (by assumption) ?_
              case refine_2 => intro w hSw; obtain ⟨s0, s1, s2, s3, s4, s5, s6, s7⟩ := hSw; go_simp; try rfl
              try simp only [Act.put, List.setIfInBounds_toArray, List.set_cons_zero, List.set_cons_succ]
              refine wpAnyH_take (i := 2) (oi := ⟨some 120, Op.move (Operand.tmp 4), 52, _, _, _⟩) (v := ?_) rfl (by decide +kernel) (by decide +kernel) (by decide +kernel) (fun _ _ _ h => h) (Or.inl ⟨by first | rfl | simp [Region.wanted, yielded], ?_⟩) (by assumption) ?_
              case refine_2 => intro w hSw; obtain ⟨s0, s1, s2, s3, s4, s5, s6, s7⟩ := hSw; go_simp; try rfl
              try simp only [Act.put, List.setIfInBounds_toArray, List.set_cons_zero, List.set_cons_succ]
              refine wpAnyH_take (i := 3) (oi := ⟨some 121, Op.call { callee := Callee.builtin Builtin.len, args := #[Operand.tmp 120], argTypes := #[52] }, 3, _, _, _⟩) (v := ?_) rfl (by decide +kernel) (by decide +kernel) (by decide +kernel) (fun _ _ _ h => h) (Or.inl ⟨by first | rfl | simp [Region.wanted, yielded], ?_⟩) (by assumption) ?_
              case refine_2 => intro w hSw; obtain ⟨s0, s1, s2, s3, s4, s5, s6, s7⟩ := hSw; go_simp; try rfl
              try simp only [Act.put, List.setIfInBounds_toArray, List.set_cons_zero, List.set_cons_succ]
              refine wpAnyH_take (i := 4) (oi := ⟨some 122, Op.binOp BinOp.eql 3 (Operand.tmp 119) (Operand.tmp 121) 3, 4, _, _, _⟩) (v := ?_) rfl (by decide +kernel) (by decide +kernel) (by decide +kernel) (fun _ _ _ h => h) (Or.inl ⟨by first | rfl | simp [Region.wanted, yielded], ?_⟩) (by assumption) ?_
              case refine_2 => intro w hSw; obtain ⟨s0, s1, s2, s3, s4, s5, s6, s7⟩ := hSw; go_simp; try rfl
              try simp only [Act.put, List.setIfInBounds_toArray, List.set_cons_zero, List.set_cons_succ]
              refine wpAnyH_take (i := 5) (oi := ⟨some 123, Op.move (Operand.tmp 122), 4, _, _, _⟩) (v := ?_) rfl (by decide +kernel) (by decide +kernel) (by decide +kernel) (fun _ _ _ h => h) (Or.inl ⟨by first | rfl | simp [Region.wanted, yielded], ?_⟩) (by assumption) ?_
              case refine_2 => intro w hSw; obtain ⟨s0, s1, s2, s3, s4, s5, s6, s7⟩ := hSw; go_simp; try rfl
              try simp only [Act.put, List.setIfInBounds_toArray, List.set_cons_zero, List.set_cons_succ]
              refine wpAnyH_take (i := 6) (oi := ⟨some 124, Op.load 24 (Operand.tmp 5), 24, _, _, _⟩) (v := ?_) rfl (by decide +kernel) (by decide +kernel) (by decide +kernel) (fun _ _ _ h => h) (Or.inl ⟨by first | rfl | simp [Region.wanted, yielded], ?_⟩) (by assumption) ?_
              case refine_2 => intro w hSw; obtain ⟨s0, s1, s2, s3, s4, s5, s6, s7⟩ := hSw; go_simp; try rfl
              try simp only [Act.put, List.setIfInBounds_toArray, List.set_cons_zero, List.set_cons_succ]
              refine wpAnyH_ready (rs := [7]) (by decide +kernel) (by simp) ?_
              refine AllReadyH.cons rfl (fun K hK => ?_) AllReadyH.nil
              refine step_callG (by first | rfl | simp [Region.wanted, yielded]) 11 #[evW8 e (.slice va vn vc)] (by simp only [execOp]; go_simp) HCK.out ?_
              rintro e1 wC ⟨rfl, hC⟩
              refine ⟨_, rfl, ?_⟩
              have HFC : Bx _ := ⟨hC⟩
              clear hC
              refine hK.out _ _ (evB_cells HFC.out.ev) (fun hHeld => ?_)
              clear hK K
              try simp only [Act.put, List.setIfInBounds_toArray, List.set_cons_zero, List.set_cons_succ]
              clear q0 q1 q2 q3 q4 q5 q6 q7
              refine wpAnyH_take (i := 8) (oi := ⟨some 126, Op.binOp BinOp.eql 26 (Operand.tmp 125) (Operand.const (Value.int IntKind.i64 0)) 26, 4, _, _, _⟩) (v := ?_) rfl (by decide +kernel) (by decide +kernel) (by decide +kernel) (fun _ _ _ h => h) (Or.inl ⟨by first | rfl | simp [Region.wanted, yielded], ?_⟩) (by assumption) ?_
              case refine_2 => intro w hSw; obtain ⟨s0, s1, s2, s3, s4, s5, s6, s7⟩ := hSw; go_simp; try rfl
              try simp only [Act.put, List.setIfInBounds_toArray, List.set_cons_zero, List.set_cons_succ]
              refine wpAnyH_take (i := 9) (oi := ⟨some 127, Op.pick (Operand.tmp 123) (Operand.tmp 126) (Operand.const (Value.bool false)), 4, _, _, _⟩) (v := ?_) rfl (by decide +kernel) (by decide +kernel) (by decide +kernel) (fun _ _ _ h => h) (Or.inl ⟨by first | rfl | simp [Region.wanted, yielded], ?_⟩) (by assumption) ?_
              case refine_2 => intro w hSw; obtain ⟨s0, s1, s2, s3, s4, s5, s6, s7⟩ := hSw; go_simp; try rfl
              try simp only [Act.put, List.setIfInBounds_toArray, List.set_cons_zero, List.set_cons_succ]
              have hre := HFC.out.re
              obtain ⟨p0, p1, p2, p3, p4, p5, p6, p7⟩ := evB_cells hre
              have f0 := evB_frz hre 0; have f1 := evB_frz hre 1; have f2 := evB_frz hre 2; have f3 := evB_frz hre 3
              have f4 := evB_frz hre 4; have f5 := evB_frz hre 5; have f6 := evB_frz hre 6; have f7 := evB_frz hre 7
              simp only [noEv] at p0 p1 p2 p3 p4 p5 p6 p7
              have hHG := HFC.out.hg
              have hb1 := st8_far HFC.out.ev hHG e (.slice va vn vc)
              have hb2 := st8_blk hre e (.slice va vn vc)
              have hq9 := HQY.out _ _ _ _ _ _ _ (ck == 0) HFC.out HFR.out
              obtain ⟨W9, hW9⟩ : ∃ W9, st8 wC H e (.slice va vn vc) = W9 := ⟨_, rfl⟩
              rw [hW9] at hb1 hb2 hq9
              have hsa := evB_cells hb1
              have hc9 := evB_cells hb2
              clear hb1 hb2
              have HSA : Bx _ := ⟨hsa⟩
              have HC9 : Bx _ := ⟨hc9⟩
              have HEN : Bx _ := ⟨hq9⟩
              unfold st8 at hW9
              clear hre hc9 hq9 hsa
              refine wpAnyH_ready (rs := [10]) (by decide +kernel) (by simp) ?_
              refine AllReadyH.cons rfl (fun K hK => ?_) AllReadyH.nil
              go_simp
              refine hK.out _ _ HSA.out (fun hHeld => ?_)
              clear hK K
              try simp only [Act.put, List.setIfInBounds_toArray, List.set_cons_zero, List.set_cons_succ]
              refine wpAnyH_take (i := 11) (oi := ⟨some 3, Op.assign (Operand.tmp 127), 4, _, _, _⟩) (v := ?_) rfl (by decide +kernel) (by decide +kernel) (by decide +kernel) (fun _ _ _ h => h) (Or.inl ⟨by first | rfl | simp [Region.wanted, yielded], ?_⟩) (by assumption) ?_
              case refine_2 => intro w hSw; obtain ⟨s0, s1, s2, s3, s4, s5, s6, s7⟩ := hSw; go_simp; try rfl
              try simp only [Act.put, List.setIfInBounds_toArray, List.set_cons_zero, List.set_cons_succ]
              refine wpAnyH_done (by decide +kernel) ?_ _
              obtain ⟨n0, n1, n2, n3, n4, n5, n6, n7⟩ := HC9.out
              clear hW9 hHeld p0 p1 p2 p3 p4 p5 p6 p7 f0 f1 f2 f3 f4 f5 f6 f7
              go_wp2
              refine bodyPost_ret (v := .tuple #[evW8 e (.slice va vn vc), .bool (ck == 0)]) (by simp [results, Tryd.results37, go_sem, n0, n1, n2, n3, n4, n5, n6, n7]) rfl HEN.out
            · have hpn : ((p : Int) == (wsA.length : Int)) = false := by simp; omega
              have hpm : ¬ (p : Int) = (wsA.length : Int) := by omega
              have hpn2 : (p == wsA.length) = false := by simpa using hpe
              have HFR : Bx (evOf t = if false then some e else none) := ⟨by
                have hne : rest ≠ [] := fun h => by rw [h] at hrl; simp at hrl; omega
                rw [HFO.out]; simp [endC, hne]⟩
              obtain ⟨q0, q1, q2, q3, q4, q5, q6, q7⟩ := evB_cells HRV.out.ev
              clear HFO
              have hre := HRV.out.re
              obtain ⟨p0, p1, p2, p3, p4, p5, p6, p7⟩ := evB_cells hre
              have f0 := evB_frz hre 0; have f1 := evB_frz hre 1; have f2 := evB_frz hre 2; have f3 := evB_frz hre 3
              have f4 := evB_frz hre 4; have f5 := evB_frz hre 5; have f6 := evB_frz hre 6; have f7 := evB_frz hre 7
              simp only [noEv] at p0 p1 p2 p3 p4 p5 p6 p7
              have hHG := HRV.out.hg
              have hb1 := st8_far HRV.out.ev hHG e (.slice va vn vc)
              have hb2 := st8_blk hre e (.slice va vn vc)
              have hq9 := HQD.out _ _ _ _ _ _ _ false HRV.out HFR.out
              obtain ⟨W9, hW9⟩ : ∃ W9, st8 wr H e (.slice va vn vc) = W9 := ⟨_, rfl⟩
              rw [hW9] at hb1 hb2 hq9
              have hsa := drew_cells hb1
              have hc9 := drew_cells hb2
              clear hb1 hb2
              have HSA : Bx _ := ⟨hsa⟩
              have HC9 : Bx _ := ⟨hc9⟩
              have HEN : Bx _ := ⟨hq9⟩
              unfold st8 at hW9
              clear hre hc9 hq9 hsa
              go_wp2
              refine wp_region_held_drew (S := (fun w' : World => w'.cell? ⟨G, 0, none⟩ = some (.int .i64 e.kind) ∧ w'.cell? ⟨G, 1, none⟩ = some (.int .i64 e.p) ∧ w'.cell? ⟨G, 2, none⟩ = some (.int .i64 e.i) ∧ w'.cell? ⟨G, 3, none⟩ = some (.int .i64 e.q) ∧ w'.cell? ⟨G, 4, none⟩ = some (.int .i64 e.j) ∧ w'.cell? ⟨G, 5, none⟩ = some (.int .i64 e.c) ∧ w'.cell? ⟨G, 6, none⟩ = some (.int .i64 e.num) ∧ w'.cell? ⟨G, 7, none⟩ = some (.slice va vn vc))) (by kernel_rfl) ⟨q0, q1, q2, q3, q4, q5, q6, q7⟩ (fun hHeld => ?_)
              try simp only [List.size_toArray, List.length_cons, List.length_nil]
              refine wpAnyH_take (i := 0) (oi := ⟨some 118, Op.load 24 (Operand.tmp 5), 24, _, _, _⟩) (v := ?_) rfl (by decide +kernel) (by decide +kernel) (by decide +kernel) (fun _ _ _ h => h) (Or.inl ⟨by first | rfl | simp [Region.wanted, yielded], ?_⟩) (by assumption) ?_
              case refine_2 => intro w hSw; obtain ⟨s0, s1, s2, s3, s4, s5, s6, s7⟩ := hSw; go_simp; try rfl
              try simp only [Act.put, List.setIfInBounds_toArray, List.set_cons_zero, List.set_cons_succ]
              refine wpAnyH_take (i := 1) (oi := ⟨some 119, Op.move (Operand.tmp 8), 3, _, _, _⟩) (v := ?_) rfl (by decide +kernel) (by decide +kernel) (by decide +kernel) (fun _ _ _ h => h) (Or.inl ⟨by first | rfl | simp [Region.wanted, yielded], ?_⟩) (by assumption) ?_
              case refine_2 => intro w hSw; obtain ⟨s0, s1, s2, s3, s4, s5, s6, s7⟩ := hSw; go_simp; try rfl
              try simp only [Act.put, List.setIfInBounds_toArray, List.set_cons_zero, List.set_cons_succ]
              refine wpAnyH_take (i := 2) (oi := ⟨some 120, Op.move (Operand.tmp 4), 52, _, _, _⟩) (v := ?_) rfl (by decide +kernel) (by decide +kernel) (by decide +kernel) (fun _ _ _ h => h) (Or.inl ⟨by first | rfl | simp [Region.wanted, yielded], ?_⟩) (by assumption) ?_
              case refine_2 => intro w hSw; obtain ⟨s0, s1, s2, s3, s4, s5, s6, s7⟩ := hSw; go_simp; try rfl
              try simp only [Act.put, List.setIfInBounds_toArray, List.set_cons_zero, List.set_cons_succ]
              refine wpAnyH_take (i := 3) (oi := ⟨some 121, Op.call { callee := Callee.builtin Builtin.len, args := #[Operand.tmp 120], argTypes := #[52] }, 3, _, _, _⟩) (v := ?_) rfl (by decide +kernel) (by decide +kernel) (by decide +kernel) (fun _ _ _ h => h) (Or.inl ⟨by first | rfl | simp [Region.wanted, yielded], ?_⟩) (by assumption) ?_
              case refine_2 => intro w hSw; obtain ⟨s0, s1, s2, s3, s4, s5, s6, s7⟩ := hSw; go_simp; try rfl
              try simp only [Act.put, List.setIfInBounds_toArray, List.set_cons_zero, List.set_cons_succ]
              refine wpAnyH_take (i := 4) (oi := ⟨some 122, Op.binOp BinOp.eql 3 (Operand.tmp 119) (Operand.tmp 121) 3, 4, _, _, _⟩) (v := ?_) rfl (by decide +kernel) (by decide +kernel) (by decide +kernel) (fun _ _ _ h => h) (Or.inl ⟨by first | rfl | simp [Region.wanted, yielded], ?_⟩) (by assumption) ?_
              case refine_2 => intro w hSw; obtain ⟨s0, s1, s2, s3, s4, s5, s6, s7⟩ := hSw; go_simp; try rfl
              try simp only [Act.put, List.setIfInBounds_toArray, List.set_cons_zero, List.set_cons_succ]
              refine wpAnyH_take (i := 5) (oi := ⟨some 123, Op.move (Operand.tmp 122), 4, _, _, _⟩) (v := ?_) rfl (by decide +kernel) (by decide +kernel) (by decide +kernel) (fun _ _ _ h => h) (Or.inl ⟨by first | rfl | simp [Region.wanted, yielded], ?_⟩) (by assumption) ?_
              case refine_2 => intro w hSw; obtain ⟨s0, s1, s2, s3, s4, s5, s6, s7⟩ := hSw; go_simp; try rfl
              try simp only [Act.put, List.setIfInBounds_toArray, List.set_cons_zero, List.set_cons_succ]
              refine wpAnyH_take (i := 6) (oi := ⟨some 124, Op.load 24 (Operand.tmp 5), 24, _, _, _⟩) (v := undef) rfl (by decide +kernel) (by decide +kernel) (by decide +kernel) (fun _ _ _ h => h) (Or.inr ⟨by first | kernel_rfl | simp [Region.wanted, yielded, undef], rfl⟩) (by assumption) ?_
              try simp only [Act.put, List.setIfInBounds_toArray, List.set_cons_zero, List.set_cons_succ]
              refine wpAnyH_take (i := 7) (oi := ⟨some 125, Op.call { callee := Callee.value (Operand.func 11), args := #[Operand.tmp 124], argTypes := #[24] }, 26, _, _, _⟩) (v := undef) rfl (by decide +kernel) (by decide +kernel) (by decide +kernel) (fun _ _ _ h => h) (Or.inr ⟨by first | kernel_rfl | simp [Region.wanted, yielded, undef], rfl⟩) (by assumption) ?_
              try simp only [Act.put, List.setIfInBounds_toArray, List.set_cons_zero, List.set_cons_succ]
              refine wpAnyH_take (i := 8) (oi := ⟨some 126, Op.binOp BinOp.eql 26 (Operand.tmp 125) (Operand.const (Value.int IntKind.i64 0)) 26, 4, _, _, _⟩) (v := undef) rfl (by decide +kernel) (by decide +kernel) (by decide +kernel) (fun _ _ _ h => h) (Or.inr ⟨by first | kernel_rfl | simp [Region.wanted, yielded, undef], rfl⟩) (by assumption) ?_
              try simp only [Act.put, List.setIfInBounds_toArray, List.set_cons_zero, List.set_cons_succ]
              refine wpAnyH_take (i := 9) (oi := ⟨some 127, Op.pick (Operand.tmp 123) (Operand.tmp 126) (Operand.const (Value.bool false)), 4, _, _, _⟩) (v := ?_) rfl (by decide +kernel) (by decide +kernel) (by decide +kernel) (fun _ _ _ h => h) (Or.inl ⟨by first | rfl | simp [Region.wanted, yielded], ?_⟩) (by assumption) ?_
              case refine_2 => intro w hSw; obtain ⟨s0, s1, s2, s3, s4, s5, s6, s7⟩ := hSw; go_simp; try rfl
              try simp only [Act.put, List.setIfInBounds_toArray, List.set_cons_zero, List.set_cons_succ]
              refine wpAnyH_ready (rs := [10]) (by decide +kernel) (by simp) ?_
              refine AllReadyH.cons rfl (fun K hK => ?_) AllReadyH.nil
              go_simp
              refine hK.out _ _ HSA.out (fun hHeld => ?_)
              clear hK K
              try simp only [Act.put, List.setIfInBounds_toArray, List.set_cons_zero, List.set_cons_succ]
              refine wpAnyH_take (i := 11) (oi := ⟨some 3, Op.assign (Operand.tmp 127), 4, _, _, _⟩) (v := ?_) rfl (by decide +kernel) (by decide +kernel) (by decide +kernel) (fun _ _ _ h => h) (Or.inl ⟨by first | rfl | simp [Region.wanted, yielded], ?_⟩) (by assumption) ?_
              case refine_2 => intro w hSw; obtain ⟨s0, s1, s2, s3, s4, s5, s6, s7⟩ := hSw; go_simp; try rfl
              try simp only [Act.put, List.setIfInBounds_toArray, List.set_cons_zero, List.set_cons_succ]
              refine wpAnyH_done (by decide +kernel) ?_ _
              obtain ⟨n0, n1, n2, n3, n4, n5, n6, n7⟩ := HC9.out
              clear hW9 hHeld p0 p1 p2 p3 p4 p5 p6 p7 f0 f1 f2 f3 f4 f5 f6 f7
              go_wp2
              refine bodyPost_ret (v := .tuple #[evW8 e (.slice va vn vc), .bool false]) (by simp [results, Tryd.results37, go_sem, n0, n1, n2, n3, n4, n5, n6, n7]) rfl HEN.out
end Go.Proofs.YtecpknpcjoiliaaDoor
