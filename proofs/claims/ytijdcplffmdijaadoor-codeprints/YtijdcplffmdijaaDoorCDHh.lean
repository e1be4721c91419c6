import Derived.Test.YtijdcplffmdijaaDoorCDHg
import Derived.Test.YtijdcplffmdijaaDoorCDGd
namespace Go.Proofs.YtijdcplffmdijaaDoor
open Go.RowKit
set_option linter.unusedVariables false
set_option linter.unusedSimpArgs false

set_option maxRecDepth 100000 in
set_option maxHeartbeats 8000000 in
theorem prints_walk (w : World) (hL : LW w) (u1 : CUn) (pa1 ta1 : Option Addr) (pc1 tc1 : Nat) (hu1 : UnIn w w.heap.size pa1 pc1 ta1 tc1 u1) (hwf1 : u1.Wf) (u2 : CUn) (pa2 ta2 : Option Addr) (pc2 tc2 : Nat) (hu2 : UnIn w w.heap.size pa2 pc2 ta2 tc2 u2) (hwf2 : u2.Wf) :
    Calls Tryd.prog 5 #[unV u1 pa1 pc1 ta1 tc1, unV u2 pa2 pc2 ta2 tc2] w fun e w' => e = .returned (.bool true) ∧ Below w.heap.size w w' := by
  obtain ⟨H, hH⟩ : ∃ H, w.heap.size = H := ⟨_, rfl⟩
  obtain ⟨np1, hnp1⟩ : ∃ n, u1.progs.length = n := ⟨_, rfl⟩
  obtain ⟨nt1, hnt1⟩ : ∃ n, u1.types.length = n := ⟨_, rfl⟩
  obtain ⟨RS1, hRS1⟩ : ∃ s, s = (if fitU u1 then unitT u1 else []) := ⟨_, rfl⟩
  obtain ⟨RE1, hRE1⟩ : ∃ s : Int, s = (if fitU u1 then 0 else 80) := ⟨_, rfl⟩
  obtain ⟨np2, hnp2⟩ : ∃ n, u2.progs.length = n := ⟨_, rfl⟩
  obtain ⟨nt2, hnt2⟩ : ∃ n, u2.types.length = n := ⟨_, rfl⟩
  obtain ⟨RS2, hRS2⟩ : ∃ s, s = (if fitU u2 then unitT u2 else []) := ⟨_, rfl⟩
  obtain ⟨RE2, hRE2⟩ : ∃ s : Int, s = (if fitU u2 then 0 else 80) := ⟨_, rfl⟩
  have HC1 : Bx (unS u1 ≤ 2147483647 → ∀ Y, Below H w Y →
      (Calls Tryd.prog 21 #[.agg #[.slice pa1 np1 pc1, .slice ta1 nt1 tc1]] Y fun e w3 => ∃ pg tg pcap tcap ac mc cc2 ai mi ci, e = .returned (.agg #[.slice (some ⟨pg, 0, none⟩) np1 pcap, .slice (some ⟨tg, 0, none⟩) nt1 tcap, .slice (some ⟨pg, 0, none⟩) (np1 + 1) pcap, .slice (some ⟨tg, 0, none⟩) (nt1 + 1) tcap, .slice ac mc cc2, .slice ai mi ci]) ∧ Bx (Lent Y w3 u1 pg tg pcap tcap (.slice ac mc cc2) (.slice ai mi ci))) ∧
      ∀ Z pg tg pcap tcap cv iv, Lent Y Z u1 pg tg pcap tcap cv iv →
        (Calls Tryd.prog 22 #[.agg #[.slice (some ⟨pg, 0, none⟩) np1 pcap, .slice (some ⟨tg, 0, none⟩) nt1 tcap]] Z fun e w' => e = .returned (.tuple #[strV RS1, .int .i64 RE1]) ∧ Bx (Below Z.heap.size Z w')) ∧
        (Calls Tryd.prog 23 #[.agg #[.slice pa1 np1 pc1, .slice ta1 nt1 tc1]] Z fun e w' => e = .returned (.tuple #[strV RS1, .int .i64 RE1]) ∧ Bx (Below Z.heap.size Z w')) ∧
        (Calls Tryd.prog 24 #[.agg #[.slice (some ⟨pg, 0, none⟩) np1 pcap, .slice (some ⟨tg, 0, none⟩) nt1 tcap, .slice (some ⟨pg, 0, none⟩) (np1 + 1) pcap, .slice (some ⟨tg, 0, none⟩) (nt1 + 1) tcap, cv, iv], .agg #[.slice pa1 np1 pc1, .slice ta1 nt1 tc1]] Z fun e w' => e = .returned (.bool true) ∧ Bx (Below Z.heap.size Z w')) ∧
        (Calls Tryd.prog 25 #[.agg #[.slice (some ⟨pg, 0, none⟩) np1 pcap, .slice (some ⟨tg, 0, none⟩) nt1 tcap, .slice (some ⟨pg, 0, none⟩) (np1 + 1) pcap, .slice (some ⟨tg, 0, none⟩) (nt1 + 1) tcap, cv, iv]] Z fun e w' => e = .returned (.tuple #[]) ∧ Bx (Below Y.heap.size Z w'))) := ⟨fun hs Y hY => by
    have hY' : Below w.heap.size w Y := by rw [hH]; exact hY
    have huY := hu1.below hY' hY.size
    have hc := unC_unS u1
    rw [← hnp1, ← hnt1]
    refine ⟨(lend_any Y u1 pa1 ta1 pc1 tc1 huY hs).mono ?_, fun Z pg tg pcap tcap cv iv hl => ?_⟩
    · rintro e w3 ⟨pg, tg, pcap, tcap, cv, iv, rfl, h⟩
      obtain ⟨_, h1⟩ := h.out.cds
      obtain ⟨ac, mc, cc2, rfl⟩ := own_sl h1
      obtain ⟨ai, mi, ci, rfl⟩ := own_sl h.out.its
      exact ⟨pg, tg, pcap, tcap, ac, mc, cc2, ai, mi, ci, rfl, h⟩
    · have hZ : Below w.heap.size w Z := hY'.trans (hl.bel.mono (by have := hY.size; omega))
      have hLZ := hL.below hZ
      have huZ := hu1.below hZ hZ.size
      refine ⟨(Print_any Z u1 _ _ _ _ hl.un hwf1 hLZ.shp hLZ.pow (by omega)).mono fun e w' h => ⟨by rw [h.1, hRS1, hRE1], ⟨h.2⟩⟩, (rPrint_any Z u1 pa1 pc1 ta1 tc1 huZ hwf1 (by omega)).mono fun e w' h => ⟨by rw [h.1, hRS1, hRE1], ⟨h.2⟩⟩, (still_any Y Z u1 pg tg pcap tcap cv iv hl pa1 ta1 pc1 tc1 huZ hs).mono fun e w' h => ⟨h.1, ⟨h.2⟩⟩, (wipe_any Y Z u1 pg tg pcap tcap cv iv hl hs).mono fun e w' h => ⟨h.1, ⟨h.2⟩⟩⟩⟩
  have HC2 : Bx (unS u2 ≤ 2147483647 → ∀ Y, Below H w Y →
      (Calls Tryd.prog 21 #[.agg #[.slice pa2 np2 pc2, .slice ta2 nt2 tc2]] Y fun e w3 => ∃ pg tg pcap tcap ac mc cc2 ai mi ci, e = .returned (.agg #[.slice (some ⟨pg, 0, none⟩) np2 pcap, .slice (some ⟨tg, 0, none⟩) nt2 tcap, .slice (some ⟨pg, 0, none⟩) (np2 + 1) pcap, .slice (some ⟨tg, 0, none⟩) (nt2 + 1) tcap, .slice ac mc cc2, .slice ai mi ci]) ∧ Bx (Lent Y w3 u2 pg tg pcap tcap (.slice ac mc cc2) (.slice ai mi ci))) ∧
      ∀ Z pg tg pcap tcap cv iv, Lent Y Z u2 pg tg pcap tcap cv iv →
        (Calls Tryd.prog 22 #[.agg #[.slice (some ⟨pg, 0, none⟩) np2 pcap, .slice (some ⟨tg, 0, none⟩) nt2 tcap]] Z fun e w' => e = .returned (.tuple #[strV RS2, .int .i64 RE2]) ∧ Bx (Below Z.heap.size Z w')) ∧
        (Calls Tryd.prog 23 #[.agg #[.slice pa2 np2 pc2, .slice ta2 nt2 tc2]] Z fun e w' => e = .returned (.tuple #[strV RS2, .int .i64 RE2]) ∧ Bx (Below Z.heap.size Z w')) ∧
        (Calls Tryd.prog 24 #[.agg #[.slice (some ⟨pg, 0, none⟩) np2 pcap, .slice (some ⟨tg, 0, none⟩) nt2 tcap, .slice (some ⟨pg, 0, none⟩) (np2 + 1) pcap, .slice (some ⟨tg, 0, none⟩) (nt2 + 1) tcap, cv, iv], .agg #[.slice pa2 np2 pc2, .slice ta2 nt2 tc2]] Z fun e w' => e = .returned (.bool true) ∧ Bx (Below Z.heap.size Z w')) ∧
        (Calls Tryd.prog 25 #[.agg #[.slice (some ⟨pg, 0, none⟩) np2 pcap, .slice (some ⟨tg, 0, none⟩) nt2 tcap, .slice (some ⟨pg, 0, none⟩) (np2 + 1) pcap, .slice (some ⟨tg, 0, none⟩) (nt2 + 1) tcap, cv, iv]] Z fun e w' => e = .returned (.tuple #[]) ∧ Bx (Below Y.heap.size Z w'))) := ⟨fun hs Y hY => by
    have hY' : Below w.heap.size w Y := by rw [hH]; exact hY
    have huY := hu2.below hY' hY.size
    have hc := unC_unS u2
    rw [← hnp2, ← hnt2]
    refine ⟨(lend_any Y u2 pa2 ta2 pc2 tc2 huY hs).mono ?_, fun Z pg tg pcap tcap cv iv hl => ?_⟩
    · rintro e w3 ⟨pg, tg, pcap, tcap, cv, iv, rfl, h⟩
      obtain ⟨_, h1⟩ := h.out.cds
      obtain ⟨ac, mc, cc2, rfl⟩ := own_sl h1
      obtain ⟨ai, mi, ci, rfl⟩ := own_sl h.out.its
      exact ⟨pg, tg, pcap, tcap, ac, mc, cc2, ai, mi, ci, rfl, h⟩
    · have hZ : Below w.heap.size w Z := hY'.trans (hl.bel.mono (by have := hY.size; omega))
      have hLZ := hL.below hZ
      have huZ := hu2.below hZ hZ.size
      refine ⟨(Print_any Z u2 _ _ _ _ hl.un hwf2 hLZ.shp hLZ.pow (by omega)).mono fun e w' h => ⟨by rw [h.1, hRS2, hRE2], ⟨h.2⟩⟩, (rPrint_any Z u2 pa2 pc2 ta2 tc2 huZ hwf2 (by omega)).mono fun e w' h => ⟨by rw [h.1, hRS2, hRE2], ⟨h.2⟩⟩, (still_any Y Z u2 pg tg pcap tcap cv iv hl pa2 ta2 pc2 tc2 huZ hs).mono fun e w' h => ⟨h.1, ⟨h.2⟩⟩, (wipe_any Y Z u2 pg tg pcap tcap cv iv hl hs).mono fun e w' h => ⟨h.1, ⟨h.2⟩⟩⟩⟩
  obtain ⟨X1, hX1⟩ : ∃ X, w.alloc (.cells #[.slice pa1 np1 pc1, .slice ta1 nt1 tc1] 36) = X := ⟨_, rfl⟩
  have b1 : Below H w X1 := by rw [← hX1, ← hH]; exact below1 w _
  have s1 : X1.heap.size = H + 1 := by rw [← hX1, ← hH]; simp
  have i1 : X1.heap[H]? = some (.cells #[.slice pa1 np1 pc1, .slice ta1 nt1 tc1] 36 (0, 0)) := by rw [← hX1]; exact heap_newH w _ H hH
  obtain ⟨X2, hX2⟩ : ∃ X, X1.alloc (.cells #[.slice pa2 np2 pc2, .slice ta2 nt2 tc2] 36) = X := ⟨_, rfl⟩
  have b2 : Below (H + 1) X1 X2 := by rw [← hX2, ← s1]; exact below1 X1 _
  have s2 : X2.heap.size = H + 2 := by rw [← hX2]; simp; omega
  have i2 : X2.heap[H + 1]? = some (.cells #[.slice pa2 np2 pc2, .slice ta2 nt2 tc2] 36 (0, 0)) := by rw [← hX2]; exact heap_newH X1 _ _ s1
  have HF : Bx (∀ Y, Below (H + 2) X2 Y → (Y.cell? ⟨H, 0, none⟩ = some (.slice pa1 np1 pc1) ∧ Y.cell? ⟨H, 1, none⟩ = some (.slice ta1 nt1 tc1) ∧ Y.cell? ⟨H + 1, 0, none⟩ = some (.slice pa2 np2 pc2) ∧ Y.cell? ⟨H + 1, 1, none⟩ = some (.slice ta2 nt2 tc2)) ∧ H + 1 < Y.heap.size ∧ Below H w Y ∧ H + 2 ≤ Y.heap.size) := ⟨fun Y hY => by
    have e1 : Y.heap[H]? = some (.cells #[.slice pa1 np1 pc1, .slice ta1 nt1 tc1] 36 (0, 0)) := by rw [hY.block H (by omega), b2.block H (by omega)]; exact i1
    have e2 : Y.heap[H + 1]? = some (.cells #[.slice pa2 np2 pc2, .slice ta2 nt2 tc2] 36 (0, 0)) := by rw [hY.block (H + 1) (by omega)]; exact i2
    exact ⟨⟨cell_blk e1 rfl, cell_blk e1 rfl, cell_blk e2 rfl, cell_blk e2 rfl⟩, (Array.getElem?_eq_some_iff.1 e2).1, (b1.trans (b2.mono (by omega))).trans (hY.mono (by omega)), by have := hY.size; omega⟩⟩
  have HB1 : Bx (∀ Y, Below (H + 2) X2 Y → Calls Tryd.prog 20 #[.agg #[.slice pa1 np1 pc1, .slice ta1 nt1 tc1]] Y fun e w' => BeyA Y u1 e w') := ⟨fun Y hY => by
    obtain ⟨_, _, h3, _⟩ := HF.out Y hY
    rw [← hnp1, ← hnt1]
    exact beyond_any Y u1 pa1 ta1 pc1 tc1 (hu1.below (by rw [hH]; exact h3) h3.size)⟩
  have HB2 : Bx (∀ Y, Below (H + 2) X2 Y → Calls Tryd.prog 20 #[.agg #[.slice pa2 np2 pc2, .slice ta2 nt2 tc2]] Y fun e w' => BeyA Y u2 e w') := ⟨fun Y hY => by
    obtain ⟨_, _, h3, _⟩ := HF.out Y hY
    rw [← hnp2, ← hnt2]
    exact beyond_any Y u2 pa2 ta2 pc2 tc2 (hu2.below (by rw [hH]; exact h3) h3.size)⟩
  have HSH : Bx (∀ Y, Below (H + 2) X2 Y → Calls Tryd.prog 9 #[] Y fun e w' => e = .returned (.bool true) ∧ Bx (Below (H + 2) X2 w')) := ⟨fun Y hY => by
    obtain ⟨_, _, h3, h4⟩ := HF.out Y hY
    exact (shown_any Y (hL.below (by rw [hH]; exact h3))).mono fun e w' h => ⟨h.1, ⟨hY.trans (h.2.mono h4)⟩⟩⟩
  obtain ⟨⟨c0, c1, c2, c3⟩, lX, _, _⟩ := HF.out X2 (Below.refl _ _)
  show Calls Tryd.prog 5 #[.agg #[.slice pa1 u1.progs.length pc1, .slice ta1 u1.types.length tc1], .agg #[.slice pa2 u2.progs.length pc2, .slice ta2 u2.types.length tc2]] w _
  rw [hnp1, hnt1, hnp2, hnt2, hH]
  clear hL hu1 hwf1 hu2 hwf2 b1 b2 i1 i2 hnp1 hnp2 hnt1 hnt2 hRS1 hRS2 hRE1 hRE2
  go_enter Tryd.func5, Tryd.ntmps5
  go_wp2_with (first
    | (go_at_call 20; refine (HB1.out _ (Below.refl _ _)).mono ?_; clear HB1; rintro e w3 ⟨b1, rfl, HX1⟩
       have B3 : Bx (Below (H + 2) X2 w3) := ⟨HX1.out.2.mono (by omega)⟩
       obtain ⟨⟨d0, d1, d2, d3⟩, l3, _, _⟩ := HF.out w3 B3.out
       cases b1)
    | (go_at_call 20; refine (HB2.out _ B3.out).mono ?_; clear HB2; rintro e w4 ⟨b2, rfl, HX2⟩
       have B4 : Bx (Below (H + 2) X2 w4) := ⟨B3.out.trans (HX2.out.2.mono (by omega))⟩
       obtain ⟨⟨f0, f1, f2, f3⟩, l4, _, _⟩ := HF.out w4 B4.out
       cases b2)
    | (go_at_call 9; refine (HSH.out _ B4.out).mono ?_; clear HSH; rintro e w5 ⟨rfl, H5⟩))
  · have HU1 : Bx (unS u1 ≤ 2147483647) := ⟨HX1.out.1 (by first | rfl | trivial)⟩
    have HU2 : Bx (unS u2 ≤ 2147483647) := ⟨HX2.out.1 (by first | rfl | trivial)⟩
    clear hX1 hX2 c0 c1 c2 c3 d0 d1 d2 d3 f0 f1 f2 f3 HX1 HX2 B3 B4 l3 l4 lX
    go_loopw [5] (fun x wr => ∃ k : Nat, k ≤ 3 ∧ x = .int .i64 k ∧ Bx (Below (H + 2) X2 wr)) (fun x _ => 3 - (intOf x).toNat)
    case atStart => exact ⟨0, Nat.zero_le _, rfl, H5⟩
    case round =>
      obtain ⟨k, hk, rfl, HR⟩ := hrel
      clear H5
      obtain ⟨⟨c0, c1, c2, c3⟩, lX, _, _⟩ := HF.out wr HR.out
      by_cases hlt : k < 3
      · have q1 : (k : Int) < 3 := by omega
        by_cases hk1 : k = 1
        · subst hk1
          obtain ⟨⟨_, _, a2, a3⟩, la, _, _⟩ := HF.out (wr.alloc (.cells #[.slice pa1 np1 pc1, .slice ta1 nt1 tc1] 36)) (HR.out.trans ((below1 wr _).mono (by have := (HF.out wr HR.out).2.2.2; omega)))
          obtain ⟨Y, hY⟩ : ∃ X, wr.alloc (.cells #[.slice pa2 np2 pc2, .slice ta2 nt2 tc2] 36) = X := ⟨_, rfl⟩
          obtain ⟨Hw, hHw⟩ : ∃ h, wr.heap.size = h := ⟨_, rfl⟩
          have bY : Below wr.heap.size wr Y := by rw [← hY]; exact below1 wr _
          have iY : Y.heap[Hw]? = some (.cells #[.slice pa2 np2 pc2, .slice ta2 nt2 tc2] 36 (0, 0)) := by rw [← hY]; exact heap_newH wr _ Hw hHw
          have sY : Y.heap.size = Hw + 1 := by rw [← hY]; simp; omega
          have bwY : Below H w Y := (HF.out wr HR.out).2.2.1.trans (bY.mono (by have := (HF.out wr HR.out).2.2.2; omega))
          have hwH : H + 2 ≤ Hw := by have := (HF.out wr HR.out).2.2.2; omega
          obtain ⟨HLE, HAF⟩ := HC2.out HU2.out Y bwY
          have HLEB : Bx _ := ⟨HLE⟩
          have HAFB : Bx _ := ⟨HAF⟩
          have e0 : Y.cell? ⟨Hw, 0, none⟩ = some (.slice pa2 np2 pc2) := cell_blk iY rfl
          have e1 : Y.cell? ⟨Hw, 1, none⟩ = some (.slice ta2 nt2 tc2) := cell_blk iY rfl
          have lY : Hw < Y.heap.size := by omega
          have HIY : Bx _ := ⟨iY⟩
          have HBY : Bx (Below (H + 2) X2 Y) := ⟨HR.out.trans (bY.mono (by omega))⟩
          have HYE : Bx _ := ⟨hY⟩
          clear HLE HAF bY iY bwY HR hY
          go_wp2_with (first
            | (go_at_call 21; rw [HYE.out]; refine HLEB.out.mono ?_; clear HLEB; rintro e w3 ⟨pg, tg, pcap, tcap, ac, mc, cc2, ai, mi, ci, rfl, HL3⟩
               obtain ⟨Z, hZ⟩ : ∃ X, w3.alloc (.cells #[.slice (some ⟨pg, 0, none⟩) np2 pcap, .slice (some ⟨tg, 0, none⟩) nt2 tcap, .slice (some ⟨pg, 0, none⟩) (np2 + 1) pcap, .slice (some ⟨tg, 0, none⟩) (nt2 + 1) tcap, .slice ac mc cc2, .slice ai mi ci] 41) = X := ⟨_, rfl⟩
               obtain ⟨Hx, hHx⟩ : ∃ h, w3.heap.size = h := ⟨_, rfl⟩
               have bZ : Below w3.heap.size w3 Z := (by rw [← hZ]; exact below1 w3 _)
               have iZ : Z.heap[Hx]? = some (.cells #[.slice (some ⟨pg, 0, none⟩) np2 pcap, .slice (some ⟨tg, 0, none⟩) nt2 tcap, .slice (some ⟨pg, 0, none⟩) (np2 + 1) pcap, .slice (some ⟨tg, 0, none⟩) (nt2 + 1) tcap, .slice ac mc cc2, .slice ai mi ci] 41 (0, 0)) := (by rw [← hZ]; exact heap_newH w3 _ Hx hHx)
               have LZ : Bx _ := ⟨HL3.out.below bZ⟩
               have iYZ := below_heap bZ ((HL3.out.bel.block Hw lY).trans HIY.out)
               have HIZ : Bx _ := ⟨iZ⟩
               have HIYZ : Bx _ := ⟨iYZ⟩
               have g0 : Z.cell? ⟨Hx, 0, none⟩ = some (.slice (some ⟨pg, 0, none⟩) np2 pcap) := cell_blk iZ rfl
               have g1 : Z.cell? ⟨Hx, 1, none⟩ = some (.slice (some ⟨tg, 0, none⟩) nt2 tcap) := cell_blk iZ rfl
               have lZ : Hx < Z.heap.size := (Array.getElem?_eq_some_iff.1 iZ).1
               clear bZ iZ iYZ HL3)
            | (go_at_call 22; refine (HAFB.out _ _ _ _ _ _ _ LZ.out).1.mono ?_; rintro e w4 ⟨rfl, H4⟩
               have L4 : Bx _ := ⟨LZ.out.below H4.out⟩
               have i4 := below_heap H4.out HIYZ.out
               have j4 := below_heap H4.out HIZ.out
               have HI4 : Bx _ := ⟨i4⟩
               have HJ4 : Bx _ := ⟨j4⟩
               have k0 : w4.cell? ⟨Hw, 0, none⟩ = some (.slice pa2 np2 pc2) := cell_blk i4 rfl
               have k1 : w4.cell? ⟨Hw, 1, none⟩ = some (.slice ta2 nt2 tc2) := cell_blk i4 rfl
               have l4 : Hw < w4.heap.size := (Array.getElem?_eq_some_iff.1 i4).1
               clear i4 j4 g0 g1 lZ)
            | (go_at_call 23; refine (HAFB.out _ _ _ _ _ _ _ L4.out).2.1.mono ?_; rintro e w5 ⟨rfl, H5⟩
               have L5 : Bx _ := ⟨L4.out.below H5.out⟩
               have i5 := below_heap H5.out HI4.out
               have j5 := below_heap H5.out HJ4.out
               have HJ5 : Bx _ := ⟨j5⟩
               have k2 : w5.cell? ⟨Hw, 0, none⟩ = some (.slice pa2 np2 pc2) := cell_blk i5 rfl
               have k3 : w5.cell? ⟨Hw, 1, none⟩ = some (.slice ta2 nt2 tc2) := cell_blk i5 rfl
               have l5 : Hw < w5.heap.size := (Array.getElem?_eq_some_iff.1 i5).1
               have m0 : w5.cell? ⟨Hx, 0, none⟩ = some (.slice (some ⟨pg, 0, none⟩) np2 pcap) := cell_blk j5 rfl
               have m1 : w5.cell? ⟨Hx, 1, none⟩ = some (.slice (some ⟨tg, 0, none⟩) nt2 tcap) := cell_blk j5 rfl
               have m2 : w5.cell? ⟨Hx, 2, none⟩ = some (.slice (some ⟨pg, 0, none⟩) (np2 + 1) pcap) := cell_blk j5 rfl
               have m3 : w5.cell? ⟨Hx, 3, none⟩ = some (.slice (some ⟨tg, 0, none⟩) (nt2 + 1) tcap) := cell_blk j5 rfl
               have m4 : w5.cell? ⟨Hx, 4, none⟩ = some (.slice ac mc cc2) := cell_blk j5 rfl
               have m5 : w5.cell? ⟨Hx, 5, none⟩ = some (.slice ai mi ci) := cell_blk j5 rfl
               have l5' : Hx < w5.heap.size := (Array.getElem?_eq_some_iff.1 j5).1
               clear i5 j5 k0 k1 l4)
            | (go_at_call 24; refine (HAFB.out _ _ _ _ _ _ _ L5.out).2.2.1.mono ?_; rintro e w6 ⟨rfl, H6⟩
               have L6 : Bx _ := ⟨L5.out.below H6.out⟩
               have j6 := below_heap H6.out HJ5.out
               have n0 : w6.cell? ⟨Hx, 0, none⟩ = some (.slice (some ⟨pg, 0, none⟩) np2 pcap) := cell_blk j6 rfl
               have n1 : w6.cell? ⟨Hx, 1, none⟩ = some (.slice (some ⟨tg, 0, none⟩) nt2 tcap) := cell_blk j6 rfl
               have n2 : w6.cell? ⟨Hx, 2, none⟩ = some (.slice (some ⟨pg, 0, none⟩) (np2 + 1) pcap) := cell_blk j6 rfl
               have n3 : w6.cell? ⟨Hx, 3, none⟩ = some (.slice (some ⟨tg, 0, none⟩) (nt2 + 1) tcap) := cell_blk j6 rfl
               have n4 : w6.cell? ⟨Hx, 4, none⟩ = some (.slice ac mc cc2) := cell_blk j6 rfl
               have n5 : w6.cell? ⟨Hx, 5, none⟩ = some (.slice ai mi ci) := cell_blk j6 rfl
               have l6 : Hx < w6.heap.size := (Array.getElem?_eq_some_iff.1 j6).1
               clear j6 k2 k3 l5 m0 m1 m2 m3 m4 m5 l5')
            | (go_at_call 25; refine (HAFB.out _ _ _ _ _ _ _ L6.out).2.2.2.mono ?_; rintro e w7 ⟨rfl, H7⟩
               have HR7 : Bx (Below (H + 2) X2 w7) := ⟨(HBY.out.trans (L6.out.bel.mono (by omega))).trans (H7.out.mono (by omega))⟩))
          go_roundw
          case rel => exact ⟨2, by omega, by first | rfl | go_num, HR7⟩
          case measure => simp [intOf]
        · have q2 : ¬ (k : Int) = 1 := by omega
          have q3 : ((k : Int) == 1) = false := by simpa using q2
          clear hk1
          obtain ⟨Y, hY⟩ : ∃ X, wr.alloc (.cells #[.slice pa1 np1 pc1, .slice ta1 nt1 tc1] 36) = X := ⟨_, rfl⟩
          obtain ⟨Hw, hHw⟩ : ∃ h, wr.heap.size = h := ⟨_, rfl⟩
          have bY : Below wr.heap.size wr Y := by rw [← hY]; exact below1 wr _
          have iY : Y.heap[Hw]? = some (.cells #[.slice pa1 np1 pc1, .slice ta1 nt1 tc1] 36 (0, 0)) := by rw [← hY]; exact heap_newH wr _ Hw hHw
          have sY : Y.heap.size = Hw + 1 := by rw [← hY]; simp; omega
          have bwY : Below H w Y := (HF.out wr HR.out).2.2.1.trans (bY.mono (by have := (HF.out wr HR.out).2.2.2; omega))
          have hwH : H + 2 ≤ Hw := by have := (HF.out wr HR.out).2.2.2; omega
          obtain ⟨HLE, HAF⟩ := HC1.out HU1.out Y bwY
          have HLEB : Bx _ := ⟨HLE⟩
          have HAFB : Bx _ := ⟨HAF⟩
          have e0 : Y.cell? ⟨Hw, 0, none⟩ = some (.slice pa1 np1 pc1) := cell_blk iY rfl
          have e1 : Y.cell? ⟨Hw, 1, none⟩ = some (.slice ta1 nt1 tc1) := cell_blk iY rfl
          have lY : Hw < Y.heap.size := by omega
          have HIY : Bx _ := ⟨iY⟩
          have HBY : Bx (Below (H + 2) X2 Y) := ⟨HR.out.trans (bY.mono (by omega))⟩
          have HYE : Bx _ := ⟨hY⟩
          clear HLE HAF bY iY bwY HR hY
          go_wp2_with (first
            | (go_at_call 21; rw [HYE.out]; refine HLEB.out.mono ?_; clear HLEB; rintro e w3 ⟨pg, tg, pcap, tcap, ac, mc, cc2, ai, mi, ci, rfl, HL3⟩
               obtain ⟨Z, hZ⟩ : ∃ X, w3.alloc (.cells #[.slice (some ⟨pg, 0, none⟩) np1 pcap, .slice (some ⟨tg, 0, none⟩) nt1 tcap, .slice (some ⟨pg, 0, none⟩) (np1 + 1) pcap, .slice (some ⟨tg, 0, none⟩) (nt1 + 1) tcap, .slice ac mc cc2, .slice ai mi ci] 41) = X := ⟨_, rfl⟩
               obtain ⟨Hx, hHx⟩ : ∃ h, w3.heap.size = h := ⟨_, rfl⟩
               have bZ : Below w3.heap.size w3 Z := (by rw [← hZ]; exact below1 w3 _)
               have iZ : Z.heap[Hx]? = some (.cells #[.slice (some ⟨pg, 0, none⟩) np1 pcap, .slice (some ⟨tg, 0, none⟩) nt1 tcap, .slice (some ⟨pg, 0, none⟩) (np1 + 1) pcap, .slice (some ⟨tg, 0, none⟩) (nt1 + 1) tcap, .slice ac mc cc2, .slice ai mi ci] 41 (0, 0)) := (by rw [← hZ]; exact heap_newH w3 _ Hx hHx)
               have LZ : Bx _ := ⟨HL3.out.below bZ⟩
               have iYZ := below_heap bZ ((HL3.out.bel.block Hw lY).trans HIY.out)
               have HIZ : Bx _ := ⟨iZ⟩
               have HIYZ : Bx _ := ⟨iYZ⟩
               have g0 : Z.cell? ⟨Hx, 0, none⟩ = some (.slice (some ⟨pg, 0, none⟩) np1 pcap) := cell_blk iZ rfl
               have g1 : Z.cell? ⟨Hx, 1, none⟩ = some (.slice (some ⟨tg, 0, none⟩) nt1 tcap) := cell_blk iZ rfl
               have lZ : Hx < Z.heap.size := (Array.getElem?_eq_some_iff.1 iZ).1
               clear bZ iZ iYZ HL3)
            | (go_at_call 22; refine (HAFB.out _ _ _ _ _ _ _ LZ.out).1.mono ?_; rintro e w4 ⟨rfl, H4⟩
               have L4 : Bx _ := ⟨LZ.out.below H4.out⟩
               have i4 := below_heap H4.out HIYZ.out
               have j4 := below_heap H4.out HIZ.out
               have HI4 : Bx _ := ⟨i4⟩
               have HJ4 : Bx _ := ⟨j4⟩
               have k0 : w4.cell? ⟨Hw, 0, none⟩ = some (.slice pa1 np1 pc1) := cell_blk i4 rfl
               have k1 : w4.cell? ⟨Hw, 1, none⟩ = some (.slice ta1 nt1 tc1) := cell_blk i4 rfl
               have l4 : Hw < w4.heap.size := (Array.getElem?_eq_some_iff.1 i4).1
               clear i4 j4 g0 g1 lZ)
            | (go_at_call 23; refine (HAFB.out _ _ _ _ _ _ _ L4.out).2.1.mono ?_; rintro e w5 ⟨rfl, H5⟩
               have L5 : Bx _ := ⟨L4.out.below H5.out⟩
               have i5 := below_heap H5.out HI4.out
               have j5 := below_heap H5.out HJ4.out
               have HJ5 : Bx _ := ⟨j5⟩
               have k2 : w5.cell? ⟨Hw, 0, none⟩ = some (.slice pa1 np1 pc1) := cell_blk i5 rfl
               have k3 : w5.cell? ⟨Hw, 1, none⟩ = some (.slice ta1 nt1 tc1) := cell_blk i5 rfl
               have l5 : Hw < w5.heap.size := (Array.getElem?_eq_some_iff.1 i5).1
               have m0 : w5.cell? ⟨Hx, 0, none⟩ = some (.slice (some ⟨pg, 0, none⟩) np1 pcap) := cell_blk j5 rfl
               have m1 : w5.cell? ⟨Hx, 1, none⟩ = some (.slice (some ⟨tg, 0, none⟩) nt1 tcap) := cell_blk j5 rfl
               have m2 : w5.cell? ⟨Hx, 2, none⟩ = some (.slice (some ⟨pg, 0, none⟩) (np1 + 1) pcap) := cell_blk j5 rfl
               have m3 : w5.cell? ⟨Hx, 3, none⟩ = some (.slice (some ⟨tg, 0, none⟩) (nt1 + 1) tcap) := cell_blk j5 rfl
               have m4 : w5.cell? ⟨Hx, 4, none⟩ = some (.slice ac mc cc2) := cell_blk j5 rfl
               have m5 : w5.cell? ⟨Hx, 5, none⟩ = some (.slice ai mi ci) := cell_blk j5 rfl
               have l5' : Hx < w5.heap.size := (Array.getElem?_eq_some_iff.1 j5).1
               clear i5 j5 k0 k1 l4)
            | (go_at_call 24; refine (HAFB.out _ _ _ _ _ _ _ L5.out).2.2.1.mono ?_; rintro e w6 ⟨rfl, H6⟩
               have L6 : Bx _ := ⟨L5.out.below H6.out⟩
               have j6 := below_heap H6.out HJ5.out
               have n0 : w6.cell? ⟨Hx, 0, none⟩ = some (.slice (some ⟨pg, 0, none⟩) np1 pcap) := cell_blk j6 rfl
               have n1 : w6.cell? ⟨Hx, 1, none⟩ = some (.slice (some ⟨tg, 0, none⟩) nt1 tcap) := cell_blk j6 rfl
               have n2 : w6.cell? ⟨Hx, 2, none⟩ = some (.slice (some ⟨pg, 0, none⟩) (np1 + 1) pcap) := cell_blk j6 rfl
               have n3 : w6.cell? ⟨Hx, 3, none⟩ = some (.slice (some ⟨tg, 0, none⟩) (nt1 + 1) tcap) := cell_blk j6 rfl
               have n4 : w6.cell? ⟨Hx, 4, none⟩ = some (.slice ac mc cc2) := cell_blk j6 rfl
               have n5 : w6.cell? ⟨Hx, 5, none⟩ = some (.slice ai mi ci) := cell_blk j6 rfl
               have l6 : Hx < w6.heap.size := (Array.getElem?_eq_some_iff.1 j6).1
               clear j6 k2 k3 l5 m0 m1 m2 m3 m4 m5 l5')
            | (go_at_call 25; refine (HAFB.out _ _ _ _ _ _ _ L6.out).2.2.2.mono ?_; rintro e w7 ⟨rfl, H7⟩
               have HR7 : Bx (Below (H + 2) X2 w7) := ⟨(HBY.out.trans (L6.out.bel.mono (by omega))).trans (H7.out.mono (by omega))⟩))
          go_roundw
          case rel => exact ⟨k + 1, by omega, by go_num, HR7⟩
          case measure => simp [intOf]; omega
      · have q1 : ¬ (k : Int) < 3 := by omega
        have HE : Bx _ := ⟨(HF.out wr HR.out).2.2.1⟩
        go_wp2
        go_ret
        exact ⟨rfl, HE.out⟩
  · go_ret
    exact ⟨rfl, (HF.out _ B4.out).2.2.1⟩
  · go_ret
    exact ⟨rfl, (HF.out _ B3.out).2.2.1⟩
end Go.Proofs.YtijdcplffmdijaaDoor
