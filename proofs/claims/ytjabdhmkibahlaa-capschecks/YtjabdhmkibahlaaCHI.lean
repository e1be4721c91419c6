import Derived.Test.YtjabdhmkibahlaaCHH
import Derived.Test.YtjabdhmkibahlaaCHG
namespace Go.Proofs.Ytjabdhmkibahlaa
open Go.RowKit
set_option linter.unusedVariables false
set_option linter.unusedSimpArgs false

set_option maxRecDepth 100000 in
set_option maxHeartbeats 16000000 in
theorem checks_walk (w : World) (p : Option Addr) (c : Nat) (s : List Ag) (hs : AgsR w p c s) (q : Option Addr) (d : Nat) (t : List Ag) (ht : AgsR w q d t) (l : Lk) (h64 : Lk64 l) :
    Calls Try.prog 3 #[.slice p s.length c, .slice q t.length d, lkV l] w fun e w' => e = .returned (.bool true) ∧ Below w.heap.size w w' := by
  obtain ⟨lr, ln, lc⟩ := l
  simp only [lkV]
  obtain ⟨w1, hw1⟩ : ∃ w1, w.alloc (lkB ⟨lr, ln, lc⟩) = w1 := ⟨_, rfl⟩
  obtain ⟨B, hB⟩ : ∃ B, w1.heap.size = B := ⟨_, rfl⟩
  have hb1 : Below w.heap.size w w1 := by rw [← hw1]; exact below1 _ _
  have HB1 : Bx (Below w.heap.size w w1) := ⟨hb1⟩
  have hBs : B = w.heap.size + 1 := by rw [← hB, ← hw1]; simp
  have hblk : w1.heap[w.heap.size]? = some (lkB ⟨lr, ln, lc⟩) := by rw [← hw1]; exact heap_newH _ _ _ rfl
  have HLC : Bx (∀ Y, Below w1.heap.size w1 Y → Y.cell? ⟨w.heap.size, 0, none⟩ = some (.int .i64 lr) ∧ Y.cell? ⟨w.heap.size, 1, none⟩ = some (.int .i64 ln) ∧ Y.cell? ⟨w.heap.size, 2, none⟩ = some (.int .i64 lc)) := ⟨fun Y hY => by
    have e := (hY.block _ (heap_lt hblk)).trans hblk
    exact ⟨cell_blk e rfl, cell_blk e rfl, cell_blk e rfl⟩⟩
  have HS : Bx (AgsR w1 p c s) := ⟨hs.later hb1⟩
  have HT : Bx (AgsR w1 q d t) := ⟨ht.later hb1⟩
  have H64 : Bx (Lk64 ⟨lr, ln, lc⟩) := ⟨h64⟩
  have HBE : Bx (w1.heap.size = B) := ⟨hB⟩
  have HW : Bx (_ = w1) := ⟨hw1⟩
  have HYs : Bx (Calls Try.prog 6 #[.slice p s.length c] w1 fun e w' => BeyG s e ∧ w' = w1) := ⟨beyond_any w1 p c s HS.out⟩
  have HYt : Bx (Calls Try.prog 6 #[.slice q t.length d] w1 fun e w' => BeyG t e ∧ w' = w1) := ⟨beyond_any w1 q d t HT.out⟩
  have hsm := hs.max
  have hsl := hs.len
  have htm := ht.max
  have htl := ht.len
  unfold maxLen at hsm htm
  clear hs ht h64 hb1 hblk hw1 hB
  go_enter Try.func3, Try.ntmps3
  have hwE := HW.out
  go_wp2_with (first
    | (go_at_call 6; refine Calls.mono HYs.out ?_; clear HYs; rintro e w2 ⟨⟨b1, rfl, hb1⟩, hw2⟩; rw [hw2]; clear hw2 w2; have T1 : Bx (b1 = false → totA s ≤ 2147483647) := ⟨hb1⟩; clear hb1; cases b1)
    | (go_at_call 6; refine Calls.mono HYt.out ?_; clear HYt; rintro e w2 ⟨⟨b2, rfl, hb2⟩, hw2⟩; rw [hw2]; clear hw2 w2; have T2 : Bx (b2 = false → totA t ≤ 2147483647) := ⟨hb2⟩; clear hb2; cases b2)
    | (go_at_call 7; refine Calls.mono (shown_any _) ?_; rintro e w3 ⟨rfl, hb3⟩; have B3 : Bx (Below w1.heap.size w1 w3) := ⟨hb3⟩; obtain ⟨H3, hH3⟩ : ∃ H3, w3.heap.size = H3 := ⟨_, rfl⟩; have BK0 : Bx _ := ⟨Bk.start w3 H3 hH3⟩; clear hb3))
  · clear hwE
    have TS : Bx (totA s ≤ 2147483647) := ⟨T1.out (by trivial)⟩
    have TT : Bx (totA t ≤ 2147483647) := ⟨T2.out (by trivial)⟩
    clear T1 T2
    have BKS : Bx (Bk ((w3.alloc (.cells #[] 36)).alloc (.cells #[] 36)) B H3 0 (H3 + 1) 0 [] [] [] [] ∧ Below B w1 ((w3.alloc (.cells #[] 36)).alloc (.cells #[] 36))) := (by
      have hz := B3.out.size
      rw [HBE.out, hH3] at hz
      have k := BK0.out
      exact ⟨⟨k.lo, k.lw, own_low k.outs hz, own_low k.wants hz, k.gne, fun i h => by simp at h, fun i h => by simp at h, k.ap, k.aq⟩, by rw [← HBE.out]; exact blz B3.out (two_new _ _ _)⟩)
    go_loopg [7, 8, 9] 4 (fun g v7 v8 v9 wr => ∃ k : Nat, g = 4 - k ∧ k ≤ 3 ∧ v9 = .int .i64 k ∧ ∃ go co gw cw, v7 = .slice (some ⟨go, 0, none⟩) k co ∧ v8 = .slice (some ⟨gw, 0, none⟩) k cw ∧ Bx (∃ cs os ws, cs.length = k ∧ Bk wr B go co gw cw cs cs os ws ∧ Below B w1 wr ∧ B ≤ wr.heap.size ∧ ∀ y ∈ cs, y.length ≤ 5000000000000 ∧ ∀ z ∈ y, Lk64 z))
    case atStart => exact ⟨0, rfl, by omega, rfl, H3, 0, H3 + 1, 0, rfl, rfl, ⟨[], [], [], rfl, BKS.out.1, BKS.out.2, by have := BKS.out.2.size; rw [HBE.out] at this; exact this, fun y hy => by cases hy⟩⟩
    case round =>
      obtain ⟨k, hg, hk3, rfl, go, co, gw, cw, rfl, rfl, HQ⟩ := hrel
      clear BK0 BKS
      obtain ⟨cs, os, ws, hcs, hbk, hbel, hBw, hcl⟩ := HQ.out
      clear HQ
      have HK : Bx (cs.length = k ∧ Bk wr B go co gw cw cs cs os ws ∧ Below w1.heap.size w1 wr ∧ B ≤ wr.heap.size ∧ ∀ y ∈ cs, y.length ≤ 5000000000000 ∧ ∀ z ∈ y, Lk64 z) := ⟨hcs, hbk, by rw [HBE.out]; exact hbel, hBw, hcl⟩
      clear hcs hbk hbel hBw hcl
      by_cases hlt : k < 3
      · have hltI : (k : Int) < 3 := by omega
        by_cases hk1 : k = 1
        · subst hk1
          have HLD : Bx (Calls Try.prog 8 #[.slice q t.length d] wr fun e w' => ∃ va vm vh gs, e = .returned (.agg #[va, vm, vh]) ∧ Bx (Below wr.heap.size wr w' ∧ Lent w' (wr.heap.size + 2) t va vm vh gs)) := ⟨lend_any wr q d t (HT.out.later HK.out.2.2.1) TT.out⟩
          have hlz := HT.out.len
          have hlx := len_totA t
          have hly := TT.out
          obtain ⟨x, hx⟩ : ∃ x, x = linksI t := ⟨_, rfl⟩
          have HX : Bx (x.length ≤ 5000000000000 ∧ ∀ y ∈ x, Lk64 y) := ⟨by rw [hx]; exact links_all_len t TT.out, by rw [hx]; exact links_all_64 HT.out⟩
          obtain ⟨ck, hck⟩ : ∃ ck, ck = chkI t := ⟨_, rfl⟩
          obtain ⟨f, hf⟩ : ∃ f, f = (stOk t && fitsF (whoI t) ⟨lr, ln, lc⟩) := ⟨_, rfl⟩
          have hcke : (ck != ck) = false := by simp
          have hfe : (f != f) = false := by simp
          have HFX : Bx (f = (stOk t && fitsF (whoI t) ⟨lr, ln, lc⟩) ∧ ck = chkI t ∧ x = linksI t) := ⟨hf, hck, hx⟩
          clear hf hck hx
          go_wp2_with (first
            | (go_at_call 8; refine Calls.mono HLD.out ?_; clear HLD; rintro e wa ⟨va, vm, vh, gs, rfl, HL⟩; obtain ⟨hba, hLt⟩ := HL.out; clear HL; obtain ⟨WX, hWX⟩ : ∃ WX, wa.alloc (lnX va vm vh) = WX := ⟨_, rfl⟩; have hlt2 := hLt.lt; obtain ⟨ga, ca, hva, hDn⟩ := dn_of (l := ⟨lr, ln, lc⟩) HT.out TT.out H64.out HK.out.2.2.1 hba hLt hlt2 hWX; rw [← HFX.out.1] at hDn; obtain ⟨am, nm, cm, hvm⟩ := owns_sl hLt.arms; obtain ⟨ah, nh, chh, hvh⟩ := owns_sl hLt.held; subst hva; subst hvm; subst hvh; obtain ⟨x0, x1, x2⟩ := hDn.cells WX (Below.refl _ _); obtain ⟨hc1, hc2⟩ := hDn.cap; have BA : Bx (Below wr.heap.size wr WX) := ⟨blz hba (by rw [← hWX]; exact below1 _ _)⟩; have DN : Bx _ := ⟨hDn⟩; obtain ⟨E, hE⟩ : ∃ E, wa.heap.size = E := ⟨_, rfl⟩; rw [hE] at x0 x1 x2 DN; unfold maxLen at hc2; clear hLt hDn hba hlt2)
            | (go_at_call 9; refine Calls.mono (DN.out.chk _ (Below.refl _ _)) ?_; rintro e wb ⟨rfl, hbb⟩; rw [← HFX.out.2.1]; have BB : Bx (Below WX.heap.size WX wb) := ⟨hbb⟩; clear hbb; obtain ⟨m0, m1, m2⟩ := HLC.out wb (blz HK.out.2.2.1 (blz BA.out BB.out)))
            | (go_at_call 10; refine Calls.mono (DN.out.fit _ BB.out) ?_; rintro e wc ⟨rfl, hbc⟩; have BC : Bx (Below WX.heap.size WX wc) := ⟨blz BB.out hbc⟩; clear hbc)
            | (go_at_call 11; refine Calls.mono (DN.out.lnk _ BC.out) ?_; rintro e wd ⟨vo, rfl, hro, hbd⟩; rw [← HFX.out.2.2] at hro; obtain ⟨oa, on, oc, rfl⟩ := owns_sl hro; have BD : Bx (Below WX.heap.size WX wd) := ⟨blz BC.out hbd⟩; have RO : Bx (wd.ownsRow WX.heap.size 24 3 (.slice oa on oc) x.length (lksC x)) := ⟨own_low hro BC.out.size⟩; clear hbd hro)
            | (go_at_call 12; refine Calls.mono (DN.out.rlnk _ BD.out) ?_; rintro e we ⟨vw, rfl, hrw, hbe⟩; rw [← HFX.out.2.2] at hrw; obtain ⟨wwa, wn, wwc, rfl⟩ := owns_sl hrw; have BE : Bx (Below WX.heap.size WX we) := ⟨blz BD.out hbe⟩; have ROE : Bx (we.ownsRow WX.heap.size 24 3 (.slice oa on oc) x.length (lksC x)) := ⟨own_new RO.out hbe⟩; have RWE : Bx (we.ownsRow wd.heap.size 24 3 (.slice wwa wn wwc) x.length (lksC x)) := ⟨hrw⟩; clear hbe hrw)
            | (go_at_call 13; refine Calls.mono (DN.out.rchk _ BE.out) ?_; rintro e wf ⟨rfl, hbf⟩; rw [← HFX.out.2.1]; have BF : Bx (Below WX.heap.size WX wf) := ⟨blz BE.out hbf⟩; have RF : Bx (wf.ownsRow WX.heap.size 24 3 (.slice oa on oc) x.length (lksC x) ∧ wf.ownsRow wd.heap.size 24 3 (.slice wwa wn wwc) x.length (lksC x)) := ⟨own_new ROE.out hbf, own_new RWE.out hbf⟩; clear hbf m0 m1 m2; obtain ⟨m0, m1, m2⟩ := HLC.out wf (blz HK.out.2.2.1 (blz BA.out BF.out)))
            | (go_at_call 14; refine Calls.mono (DN.out.rfit _ BF.out) ?_; rintro e wg ⟨rfl, hbg⟩; have BG : Bx (Below WX.heap.size WX wg) := ⟨blz BF.out hbg⟩; have RG : Bx (wg.ownsRow WX.heap.size 24 3 (.slice oa on oc) x.length (lksC x) ∧ wg.ownsRow wd.heap.size 24 3 (.slice wwa wn wwc) x.length (lksC x)) := ⟨own_new RF.out.1 hbg, own_new RF.out.2 hbg⟩; clear hbg)
            | (go_at_call 15; refine Calls.mono (DN.out.same wg (.slice oa on oc) (.slice wwa wn wwc) (by rw [← HFX.out.2.2]; exact RG.out.1) (by rw [← HFX.out.2.2]; exact own_low RG.out.2 BD.out.size)) ?_; rintro e wh ⟨rfl, hbh⟩; have BH : Bx (Below WX.heap.size WX wh) := ⟨blz BG.out hbh⟩; have RH : Bx (wh.ownsRow WX.heap.size 24 3 (.slice oa on oc) x.length (lksC x) ∧ wh.ownsRow wd.heap.size 24 3 (.slice wwa wn wwc) x.length (lksC x)) := ⟨own_new RG.out.1 hbh, own_new RG.out.2 hbh⟩; clear hbh x0 x1 x2; obtain ⟨x0, x1, x2⟩ := DN.out.cells wh BH.out)
            | (go_at_call 16; refine Calls.mono (DN.out.still _ BH.out) ?_; rintro e wi ⟨rfl, hbi⟩; have BI : Bx (Below WX.heap.size WX wi) := ⟨blz BH.out hbi⟩; have RI : Bx (wi.ownsRow WX.heap.size 24 3 (.slice oa on oc) x.length (lksC x) ∧ wi.ownsRow wd.heap.size 24 3 (.slice wwa wn wwc) x.length (lksC x)) := ⟨own_new RH.out.1 hbi, own_new RH.out.2 hbi⟩; clear hbi x0 x1 x2; obtain ⟨x0, x1, x2⟩ := DN.out.cells wi BI.out)
            | (go_at_call 17; refine Calls.mono (DN.out.wipe _ BI.out) ?_; rintro e wj ⟨rfl, hj1, hj2⟩; obtain ⟨W1, W2, go', co', gw', cw', hAdd⟩ := rnd3 HK.out.2.1 (by have := HK.out.1; omega) HK.out.2.2.2.1 BA.out (M := wd.heap.size) BD.out.size RI.out.1 (fun g hg => (owns_block RO.out hg).2) RI.out.2 BI.out hj1 hj2; have r1 := hAdd.r1; have r2 := hAdd.r2; have HN : Bx (Bk W2 B go' co' gw' cw' (cs ++ [x]) (cs ++ [x]) (os ++ [.slice oa on oc]) (ws ++ [.slice wwa wn wwc]) ∧ Below B w1 W2 ∧ B ≤ W2.heap.size) := (by have hB2 := HK.out.2.2.1.size; have hbj : Below B wr wj := (BA.out.mono HK.out.2.2.2.1).trans ((BI.out.mono (by have := BA.out.size; have := HK.out.2.2.2.1; omega)).trans (hj1.mono (by have := HK.out.2.2.2.1; omega))); have hb2 : Below B w1 W2 := (by have := HK.out.2.2.1; rw [HBE.out] at this; exact this.trans (hbj.trans hAdd.bel)); exact ⟨⟨hAdd.bk, hb2, by have := hb2.size; rw [HBE.out] at this; exact this⟩⟩); rw [HK.out.1] at r1 r2; clear hj1 hj2 hAdd)
            | (at_builtin; refine wpList_appI rfl (.tmp 82) (.tmp 84) 27 rfl rfl rfl r1 ?_)
            | (at_builtin; refine wpList_appI rfl (.tmp 86) (.tmp 88) 27 rfl rfl rfl r2 ?_))
          go_roundg (4 - (1 + 1))
          case measure => omega
          case rel => exact ⟨1 + 1, rfl, by omega, by simp, go', co', gw', cw', by simp, by simp, ⟨cs ++ [x], os ++ [.slice oa on oc], ws ++ [.slice wwa wn wwc], by simp [HK.out.1], HN.out.1, HN.out.2.1, HN.out.2.2, all_snoc HK.out.2.2.2.2 HX.out⟩⟩
        · have hkI : ((k : Int) == 1) = false := beq_eq_false_iff_ne.2 (by omega)
          have HLD : Bx (Calls Try.prog 8 #[.slice p s.length c] wr fun e w' => ∃ va vm vh gs, e = .returned (.agg #[va, vm, vh]) ∧ Bx (Below wr.heap.size wr w' ∧ Lent w' (wr.heap.size + 2) s va vm vh gs)) := ⟨lend_any wr p c s (HS.out.later HK.out.2.2.1) TS.out⟩
          have hlz := HS.out.len
          have hlx := len_totA s
          have hly := TS.out
          obtain ⟨x, hx⟩ : ∃ x, x = linksI s := ⟨_, rfl⟩
          have HX : Bx (x.length ≤ 5000000000000 ∧ ∀ y ∈ x, Lk64 y) := ⟨by rw [hx]; exact links_all_len s TS.out, by rw [hx]; exact links_all_64 HS.out⟩
          obtain ⟨ck, hck⟩ : ∃ ck, ck = chkI s := ⟨_, rfl⟩
          obtain ⟨f, hf⟩ : ∃ f, f = (stOk s && fitsF (whoI s) ⟨lr, ln, lc⟩) := ⟨_, rfl⟩
          have hcke : (ck != ck) = false := by simp
          have hfe : (f != f) = false := by simp
          have HFX : Bx (f = (stOk s && fitsF (whoI s) ⟨lr, ln, lc⟩) ∧ ck = chkI s ∧ x = linksI s) := ⟨hf, hck, hx⟩
          clear hf hck hx
          go_wp2_with (first
            | (go_at_call 8; refine Calls.mono HLD.out ?_; clear HLD; rintro e wa ⟨va, vm, vh, gs, rfl, HL⟩; obtain ⟨hba, hLt⟩ := HL.out; clear HL; obtain ⟨WX, hWX⟩ : ∃ WX, wa.alloc (lnX va vm vh) = WX := ⟨_, rfl⟩; have hlt2 := hLt.lt; obtain ⟨ga, ca, hva, hDn⟩ := dn_of (l := ⟨lr, ln, lc⟩) HS.out TS.out H64.out HK.out.2.2.1 hba hLt hlt2 hWX; rw [← HFX.out.1] at hDn; obtain ⟨am, nm, cm, hvm⟩ := owns_sl hLt.arms; obtain ⟨ah, nh, chh, hvh⟩ := owns_sl hLt.held; subst hva; subst hvm; subst hvh; obtain ⟨x0, x1, x2⟩ := hDn.cells WX (Below.refl _ _); obtain ⟨hc1, hc2⟩ := hDn.cap; have BA : Bx (Below wr.heap.size wr WX) := ⟨blz hba (by rw [← hWX]; exact below1 _ _)⟩; have DN : Bx _ := ⟨hDn⟩; obtain ⟨E, hE⟩ : ∃ E, wa.heap.size = E := ⟨_, rfl⟩; rw [hE] at x0 x1 x2 DN; unfold maxLen at hc2; clear hLt hDn hba hlt2)
            | (go_at_call 9; refine Calls.mono (DN.out.chk _ (Below.refl _ _)) ?_; rintro e wb ⟨rfl, hbb⟩; rw [← HFX.out.2.1]; have BB : Bx (Below WX.heap.size WX wb) := ⟨hbb⟩; clear hbb; obtain ⟨m0, m1, m2⟩ := HLC.out wb (blz HK.out.2.2.1 (blz BA.out BB.out)))
            | (go_at_call 10; refine Calls.mono (DN.out.fit _ BB.out) ?_; rintro e wc ⟨rfl, hbc⟩; have BC : Bx (Below WX.heap.size WX wc) := ⟨blz BB.out hbc⟩; clear hbc)
            | (go_at_call 11; refine Calls.mono (DN.out.lnk _ BC.out) ?_; rintro e wd ⟨vo, rfl, hro, hbd⟩; rw [← HFX.out.2.2] at hro; obtain ⟨oa, on, oc, rfl⟩ := owns_sl hro; have BD : Bx (Below WX.heap.size WX wd) := ⟨blz BC.out hbd⟩; have RO : Bx (wd.ownsRow WX.heap.size 24 3 (.slice oa on oc) x.length (lksC x)) := ⟨own_low hro BC.out.size⟩; clear hbd hro)
            | (go_at_call 12; refine Calls.mono (DN.out.rlnk _ BD.out) ?_; rintro e we ⟨vw, rfl, hrw, hbe⟩; rw [← HFX.out.2.2] at hrw; obtain ⟨wwa, wn, wwc, rfl⟩ := owns_sl hrw; have BE : Bx (Below WX.heap.size WX we) := ⟨blz BD.out hbe⟩; have ROE : Bx (we.ownsRow WX.heap.size 24 3 (.slice oa on oc) x.length (lksC x)) := ⟨own_new RO.out hbe⟩; have RWE : Bx (we.ownsRow wd.heap.size 24 3 (.slice wwa wn wwc) x.length (lksC x)) := ⟨hrw⟩; clear hbe hrw)
            | (go_at_call 13; refine Calls.mono (DN.out.rchk _ BE.out) ?_; rintro e wf ⟨rfl, hbf⟩; rw [← HFX.out.2.1]; have BF : Bx (Below WX.heap.size WX wf) := ⟨blz BE.out hbf⟩; have RF : Bx (wf.ownsRow WX.heap.size 24 3 (.slice oa on oc) x.length (lksC x) ∧ wf.ownsRow wd.heap.size 24 3 (.slice wwa wn wwc) x.length (lksC x)) := ⟨own_new ROE.out hbf, own_new RWE.out hbf⟩; clear hbf m0 m1 m2; obtain ⟨m0, m1, m2⟩ := HLC.out wf (blz HK.out.2.2.1 (blz BA.out BF.out)))
            | (go_at_call 14; refine Calls.mono (DN.out.rfit _ BF.out) ?_; rintro e wg ⟨rfl, hbg⟩; have BG : Bx (Below WX.heap.size WX wg) := ⟨blz BF.out hbg⟩; have RG : Bx (wg.ownsRow WX.heap.size 24 3 (.slice oa on oc) x.length (lksC x) ∧ wg.ownsRow wd.heap.size 24 3 (.slice wwa wn wwc) x.length (lksC x)) := ⟨own_new RF.out.1 hbg, own_new RF.out.2 hbg⟩; clear hbg)
            | (go_at_call 15; refine Calls.mono (DN.out.same wg (.slice oa on oc) (.slice wwa wn wwc) (by rw [← HFX.out.2.2]; exact RG.out.1) (by rw [← HFX.out.2.2]; exact own_low RG.out.2 BD.out.size)) ?_; rintro e wh ⟨rfl, hbh⟩; have BH : Bx (Below WX.heap.size WX wh) := ⟨blz BG.out hbh⟩; have RH : Bx (wh.ownsRow WX.heap.size 24 3 (.slice oa on oc) x.length (lksC x) ∧ wh.ownsRow wd.heap.size 24 3 (.slice wwa wn wwc) x.length (lksC x)) := ⟨own_new RG.out.1 hbh, own_new RG.out.2 hbh⟩; clear hbh x0 x1 x2; obtain ⟨x0, x1, x2⟩ := DN.out.cells wh BH.out)
            | (go_at_call 16; refine Calls.mono (DN.out.still _ BH.out) ?_; rintro e wi ⟨rfl, hbi⟩; have BI : Bx (Below WX.heap.size WX wi) := ⟨blz BH.out hbi⟩; have RI : Bx (wi.ownsRow WX.heap.size 24 3 (.slice oa on oc) x.length (lksC x) ∧ wi.ownsRow wd.heap.size 24 3 (.slice wwa wn wwc) x.length (lksC x)) := ⟨own_new RH.out.1 hbi, own_new RH.out.2 hbi⟩; clear hbi x0 x1 x2; obtain ⟨x0, x1, x2⟩ := DN.out.cells wi BI.out)
            | (go_at_call 17; refine Calls.mono (DN.out.wipe _ BI.out) ?_; rintro e wj ⟨rfl, hj1, hj2⟩; obtain ⟨W1, W2, go', co', gw', cw', hAdd⟩ := rnd3 HK.out.2.1 (by have := HK.out.1; omega) HK.out.2.2.2.1 BA.out (M := wd.heap.size) BD.out.size RI.out.1 (fun g hg => (owns_block RO.out hg).2) RI.out.2 BI.out hj1 hj2; have r1 := hAdd.r1; have r2 := hAdd.r2; have HN : Bx (Bk W2 B go' co' gw' cw' (cs ++ [x]) (cs ++ [x]) (os ++ [.slice oa on oc]) (ws ++ [.slice wwa wn wwc]) ∧ Below B w1 W2 ∧ B ≤ W2.heap.size) := (by have hB2 := HK.out.2.2.1.size; have hbj : Below B wr wj := (BA.out.mono HK.out.2.2.2.1).trans ((BI.out.mono (by have := BA.out.size; have := HK.out.2.2.2.1; omega)).trans (hj1.mono (by have := HK.out.2.2.2.1; omega))); have hb2 : Below B w1 W2 := (by have := HK.out.2.2.1; rw [HBE.out] at this; exact this.trans (hbj.trans hAdd.bel)); exact ⟨⟨hAdd.bk, hb2, by have := hb2.size; rw [HBE.out] at this; exact this⟩⟩); rw [HK.out.1] at r1 r2; clear hj1 hj2 hAdd)
            | (at_builtin; refine wpList_appI rfl (.tmp 82) (.tmp 84) 27 rfl rfl rfl r1 ?_)
            | (at_builtin; refine wpList_appI rfl (.tmp 86) (.tmp 88) 27 rfl rfl rfl r2 ?_))
          go_roundg (4 - (k + 1))
          case measure => omega
          case rel => exact ⟨k + 1, rfl, by omega, by simp, go', co', gw', cw', by simp, by simp, ⟨cs ++ [x], os ++ [.slice oa on oc], ws ++ [.slice wwa wn wwc], by simp [HK.out.1], HN.out.1, HN.out.2.1, HN.out.2.2, all_snoc HK.out.2.2.2.2 HX.out⟩⟩
      · have hke : k = 3 := by omega
        subst hke
        have HLS : Bx (cs.length = 3 ∧ ∀ y ∈ cs, y.length ≤ 5000000000000 ∧ ∀ z ∈ y, Lk64 z) := ⟨HK.out.1, HK.out.2.2.2.2⟩
        have HP0 : Bx (P2 w1 wr B go co gw cw cs cs os ws) := ⟨⟨HK.out.2.1, HK.out.2.2.1, HK.out.2.2.2.1, HBE.out⟩⟩
        have HEND : Bx (∀ Y, Below w1.heap.size w1 Y → Below w.heap.size w Y) := ⟨fun Y hY => blz HB1.out hY⟩
        clear HK HS HT TS TT HLC H64 HBE HW HB1 B3
        generalize cs = ls at *
        clear cs
        go_wp2
        go_loopg [17] 4 (fun g v17 wr => ∃ i : Nat, g = 4 - i ∧ i ≤ 3 ∧ v17 = .int .i64 i ∧ Bx (∃ cs os, P2 w1 wr B go co gw cw cs ls os ws ∧ ∀ j, cs[j]? = (ls[j]?).map fun y => if j < i then fin9 j y.length else y))
        case atStart => exact ⟨0, rfl, by omega, rfl, ⟨ls, os, HP0.out, fun j => by cases ls[j]? <;> simp⟩⟩
        case round =>
          obtain ⟨i, hg1, hi3, rfl, HQ⟩ := hrel
          clear HP0
          obtain ⟨cs, os, hP, hcs⟩ := HQ.out
          clear HQ
          by_cases hil : i < 3
          · have hilI : (i : Int) < 3 := by omega
            have hi0 : (0 : Int) ≤ (i : Int) := by omega
            have hls : i < ls.length := by rw [HLS.out.1]; exact hil
            have hyl : ls[i]? = some ls[i] := List.getElem?_eq_getElem hls
            have hyb := HLS.out.2 _ (List.getElem_mem hls)
            generalize ls[i] = y at *
            have hyc : cs[i]? = some y := by rw [hcs i, hyl]; simp
            obtain ⟨oa, oc, eo, co0, ro, hoc⟩ := hP.out hyc
            obtain ⟨wa, wc, cw0, rw0⟩ := hP.want hyl
            obtain ⟨pp1, cc1, e1, l1⟩ := lks_read ro hyb.2
            obtain ⟨pp2, cc2, e2, l2⟩ := lks_read rw0 hyb.2
            simp only [Value.slice.injEq] at e1 e2
            obtain ⟨rfl, _, rfl⟩ := e1
            obtain ⟨rfl, _, rfl⟩ := e2
            have HSM : Bx (∀ Y, Below wr.heap.size wr Y → Calls Try.prog 15 #[.slice oa y.length oc, .slice wa y.length wc] Y fun e w' => e = .returned (.bool true) ∧ ∃ k, w' = Y.drewN k) := ⟨fun Y hY => sameLinks_yes Y oa wa oc wc y (l1.later hY) (l2.later hY)⟩
            have gol : go < wr.heap.size := (owns_block hP.bk.outs rfl).2
            have gwl : gw < wr.heap.size := (owns_block hP.bk.wants rfl).2
            have HCO : Bx (∀ Y, Below wr.heap.size wr Y → Y.cell? ⟨go, i, none⟩ = some (.slice oa y.length oc) ∧ Y.cell? ⟨gw, i, none⟩ = some (.slice wa y.length wc)) := ⟨fun Y hY => ⟨by rw [hY.cell (p := ⟨go, i, none⟩) gol]; exact co0, by rw [hY.cell (p := ⟨gw, i, none⟩) gwl]; exact cw0⟩⟩
            obtain ⟨n, hn⟩ : ∃ n, n = y.length := ⟨_, rfl⟩
            have HY : Bx (n = y.length ∧ y.length ≤ 5000000000000) := ⟨hn, hyb.1⟩
            have hnl : n ≤ 5000000000000 := by omega
            rw [← hn] at HCO HSM hoc
            have HLY : Bx (ls[i]? = some y) := ⟨hyl⟩
            have HPW : Bx (P2 w1 wr B go co gw cw cs ls os ws ∧ (∀ j, cs[j]? = (ls[j]?).map fun y => if j < i then fin9 j y.length else y) ∧ cs[i]? = some y ∧ ls[i]? = some y ∧ os[i]? = some (.slice oa n oc)) := ⟨hP, hcs, hyc, hyl, by rw [hn]; exact eo⟩
            clear hP hcs hyc hyl eo ro rw0 l1 l2 co0 cw0 hyb hn gol gwl
            go_wp2
            refine region_flowL [?hr1x0, ?hr1x1, ?hr1x2, ?hr1x3, ?hr1x4, ?hr1x5, ?hr1x6, ?hr1x7, .bool true, ?hr1x9] (fun Y => Below wr.heap.size wr Y) (by kernel_rfl) (by decide +kernel) (((Below.refl _ _).drew)) (flowF 96 10 (by decide +kernel) (by rfl) (by exact Nat.le_of_ble_eq_true rfl) (by exact Nat.le_of_ble_eq_true rfl) (by simp only [List.drop_succ_cons, List.drop_zero, List.drop_nil, List.take_succ_cons, List.take_zero, List.cons_append, List.nil_append, flowEnd, Act.put, List.setIfInBounds_toArray, List.set_cons_zero, List.set_cons_succ]; rfl)) ?hr1st ?hr1en
            case hr1st =>
              refine flow_cons (flow_pure (by rfl) (fun Y hY => ?_)) ?_
              · go_simp; try rfl
              refine flow_cons (flow_pure (by rfl) (fun Y hY => ?_)) ?_
              · go_simp; try rfl
              refine flow_cons (flow_pure (by rfl) (fun Y hY => ?_)) ?_
              · go_simp; try rfl
              refine flow_cons (flow_pure (by rfl) (fun Y hY => ?_)) ?_
              · obtain ⟨co1, cw1⟩ := HCO.out Y hY; go_simp; try rfl
              refine flow_cons (flow_pure (by rfl) (fun Y hY => ?_)) ?_
              · go_simp; try rfl
              refine flow_cons (flow_pure (by rfl) (fun Y hY => ?_)) ?_
              · go_simp; try rfl
              refine flow_cons (flow_pure (by rfl) (fun Y hY => ?_)) ?_
              · go_simp; try rfl
              refine flow_cons (flow_pure (by rfl) (fun Y hY => ?_)) ?_
              · obtain ⟨co1, cw1⟩ := HCO.out Y hY; go_simp; try rfl
              refine flow_cons (flow_call 15 #[.slice oa n oc, .slice wa n wc] (by rfl) (fun Y hY => ?_) (fun Y hY => ?_)) ?_
              · simp only [execOp]; go_simp
              · refine Calls.mono (HSM.out Y hY) ?_; rintro e z ⟨rfl, k, rfl⟩; exact ⟨rfl, below_drewN hY k⟩
              refine flow_cons (flow_pure (by rfl) (fun Y hY => ?_)) ?_
              · go_simp; try rfl
              exact flow_nil
            intro w5 hz5
            have B5 : Bx (P2 w1 w5 B go co gw cw cs ls os ws) := ⟨HPW.out.1.later hz5⟩
            clear hz5 HCO HSM
            go_wp2
            go_loopg [18] (n + 1) (fun g v18 wr => ∃ k : Nat, g = n + 1 - k ∧ k ≤ n ∧ v18 = .int .i64 k ∧ Bx (∃ cs, P2 w1 wr B go co gw cw cs ls os ws ∧ cs[i]? = some (List.replicate k (mk20 i) ++ y.drop k) ∧ ∀ j, j ≠ i → cs[j]? = (ls[j]?).map fun y => if j < i then fin9 j y.length else y))
            case atStart => exact ⟨0, by simp, by omega, rfl, ⟨cs, B5.out, by simpa using HPW.out.2.2.1, fun j _ => HPW.out.2.1 j⟩⟩
            case round =>
              obtain ⟨k, hg2, hkn, rfl, HQ⟩ := hrel
              clear B5
              obtain ⟨cs, hP, hci, hcj⟩ := HQ.out
              clear HQ
              have hnk : (List.replicate k (mk20 i) ++ y.drop k).length = n := by
                rw [List.length_append, List.length_replicate, List.length_drop]; have := HY.out.1; omega
              obtain ⟨oa', oc', eo', co0, ro, _⟩ := hP.out hci
              have e3 := HPW.out.2.2.2.2
              rw [eo', hnk] at e3
              simp only [Option.some.injEq, Value.slice.injEq, true_and] at e3
              obtain ⟨rfl, rfl⟩ := e3
              rw [hnk] at co0 ro
              by_cases hkl : k < n
              · have hb : ∃ g, oa' = some ⟨g, 0, none⟩ := by
                  rcases ro.2 with ⟨_, q⟩ | ⟨g, cap, cur, q, _⟩
                  · omega
                  · simp only [Value.slice.injEq] at q; exact ⟨g, q.1⟩
                obtain ⟨g, rfl⟩ := hb
                have hth : wr.there g (k * 3) 3 := (Czb.of ro).1.there3 (by omega)
                obtain ⟨W8, hW8⟩ : ∃ W8, wr.setCells g (k * 3) [.int .i64 (-20 - (i : Int)), .int .i64 0, .int .i64 0] = W8 := ⟨_, rfl⟩
                obtain ⟨cs', hP', hi', hj'⟩ := hP.mark hci (by rw [eo', hnk]) (by rw [hnk]; exact hkl) (mk20 i) hW8
                rw [set_mark _ (by have := HY.out.1; omega)] at hi'
                have HN : Bx (∃ cs, P2 w1 W8 B go co gw cw cs ls os ws ∧ cs[i]? = some (List.replicate (k + 1) (mk20 i) ++ y.drop (k + 1)) ∧ ∀ j, j ≠ i → cs[j]? = (ls[j]?).map fun y => if j < i then fin9 j y.length else y) := ⟨cs', hP', hi', fun j hj => by rw [hj' j hj]; exact hcj j hj⟩
                have hkI : (k : Int) < (n : Int) := by omega
                have hk0 : (0 : Int) ≤ (k : Int) := by omega
                clear hP hci hcj hnk eo' ro hP' hi' hj'
                go_wp2_with (refine wpList_put3 rfl (.tmp 123) (.tmp 122) rfl g (k * 3) (-20 - (i : Int)) rfl rfl hth hW8 ?_)
                go_roundg (n + 1 - (k + 1))
                case measure => omega
                case rel => exact ⟨k + 1, rfl, by omega, by simp, HN⟩
              · have hke : k = n := by omega
                subst hke
                have HP9 : Bx (∃ cs os, P2 w1 wr B go co gw cw cs ls os ws ∧ cs[i]? = some (List.replicate k (mk20 i) ++ List.replicate 0 (mk30 i)) ∧ ∀ j, j ≠ i → cs[j]? = (ls[j]?).map fun y => if j < i then fin9 j y.length else y) := ⟨cs, os, hP, by rw [hci, List.drop_of_length_le (by have := HY.out.1; omega)]; rfl, hcj⟩
                clear hP hci hcj hnk eo' ro
                go_wp2
                clear co0 HPW
                go_loopg [19] 10 (fun g v19 wr => ∃ m : Nat, g = 10 - m ∧ m ≤ 9 ∧ v19 = .int .i64 m ∧ Bx (∃ cs os, P2 w1 wr B go co gw cw cs ls os ws ∧ cs[i]? = some (List.replicate k (mk20 i) ++ List.replicate m (mk30 i)) ∧ ∀ j, j ≠ i → cs[j]? = (ls[j]?).map fun y => if j < i then fin9 j y.length else y))
                case atStart => exact ⟨0, rfl, by omega, rfl, HP9⟩
                case round =>
                  obtain ⟨m, hg3, hm9, rfl, HQ⟩ := hrel
                  clear HP9
                  obtain ⟨cs, os, hP, hci, hcj⟩ := HQ.out
                  clear HQ
                  by_cases hml : m < 9
                  · have hmI : (m : Int) < 9 := by omega
                    obtain ⟨a, c', eo', co0, _, _⟩ := hP.out hci
                    have hlen : (List.replicate k (mk20 i) ++ List.replicate m (mk30 i)).length = k + m := by simp
                    rw [hlen] at eo' co0
                    obtain ⟨n', hn'⟩ : ∃ n', n' = k + m := ⟨_, rfl⟩
                    rw [← hn'] at eo' co0
                    obtain ⟨W1, W2, g', c2, cs', os', r1, k1, f1, w2, hP', hi', hj'⟩ := hP.grow hci eo' (by rw [hlen]; exact hn') (by omega) (mk30 i)
                    have r1' : ∀ ty, (Builtin.append_ #[36, 36] ty #[.slice a n' c', .slice (some ⟨wr.heap.size, 0, none⟩) 1 1]).run Try.prog (wr.alloc (.cells #[.int .i64 (-30 - (i : Int)), .int .i64 0, .int .i64 0] 24)) = .ok (.slice (some ⟨g', 0, none⟩) (n' + 1) c2) W1 := r1
                    have HN : Bx (∃ cs os, P2 w1 W2 B go co gw cw cs ls os ws ∧ cs[i]? = some (List.replicate k (mk20 i) ++ List.replicate (m + 1) (mk30 i)) ∧ ∀ j, j ≠ i → cs[j]? = (ls[j]?).map fun y => if j < i then fin9 j y.length else y) := ⟨cs', os', hP', by rw [hi', List.append_assoc, ← List.replicate_succ'], fun j hj => by rw [hj' j hj]; exact hcj j hj⟩
                    clear hP hci hcj eo' hlen hP' hi' hj' r1 hn'
                    go_wp2_with (at_builtin; refine wpList_appI rfl (.tmp 133) (.tmp 137) 36 rfl rfl rfl r1' ?_)
                    go_roundg (10 - (m + 1))
                    case measure => omega
                    case rel => exact ⟨m + 1, rfl, by omega, by simp, HN⟩
                  · have hme : m = 9 := by omega
                    subst hme
                    have HN : Bx (∃ cs os, P2 w1 wr B go co gw cw cs ls os ws ∧ ∀ j, cs[j]? = (ls[j]?).map fun y => if j < i + 1 then fin9 j y.length else y) := ⟨cs, os, hP, fun j => by
                      by_cases hj : j = i
                      · subst hj
                        rw [hci, HLY.out, HY.out.1]
                        simp [fin9]
                      · rw [hcj j hj]
                        congr 1
                        funext y
                        by_cases h1 : j < i
                        · rw [if_pos h1, if_pos (by omega)]
                        · rw [if_neg h1, if_neg (by omega)]⟩
                    clear hP hci hcj
                    go_wp2
                    go_roundg (4 - (i + 1))
                    case measure => omega
                    case rel => exact ⟨i + 1, rfl, by omega, by simp, HN⟩
          · have hie : i = 3 := by omega
            subst hie
            have HPF : Bx (P2 w1 wr B go co gw cw cs ls os ws ∧ ∀ j y, ls[j]? = some y → cs[j]? = some (fin9 j y.length)) := ⟨hP, fun j y hj => by
              rw [hcs j, hj]
              have : j < 3 := by rw [← HLS.out.1]; exact (List.getElem?_eq_some_iff.1 hj).1
              simp [this]⟩
            clear hP hcs
            go_wp2
            obtain ⟨WF, hWF⟩ : ∃ WF, WF = wr := ⟨_, rfl⟩
            go_loopg [20] 4 (fun g v20 wz => ∃ i : Nat, g = 4 - i ∧ i ≤ 3 ∧ v20 = .int .i64 i ∧ Bx (wz = WF))
            case atStart => exact ⟨0, rfl, by omega, rfl, ⟨hWF.symm⟩⟩
            case round =>
              obtain ⟨i, hg1, hi3, rfl, HQ⟩ := hrel
              rw [← hWF] at HPF
              clear hWF
              by_cases hil : i < 3
              · have hilI : (i : Int) < 3 := by omega
                have hi0 : (0 : Int) ≤ (i : Int) := by omega
                have hls : i < ls.length := by rw [HLS.out.1]; exact hil
                have hyl : ls[i]? = some ls[i] := List.getElem?_eq_getElem hls
                generalize ls[i] = y at *
                have hyb := HLS.out.2 y (List.mem_of_getElem? hyl)
                obtain ⟨oa, oc, _, co0, ro, hoc⟩ := HPF.out.1.out (HPF.out.2 i y hyl)
                obtain ⟨wa, wc, cw0, _⟩ := HPF.out.1.want hyl
                rw [fin9_len] at co0 ro hoc
                have hb : ∃ g, oa = some ⟨g, 0, none⟩ := by
                  rcases ro.2 with ⟨_, q⟩ | ⟨g, cap, cur, q, _⟩
                  · omega
                  · simp only [Value.slice.injEq] at q; exact ⟨g, q.1⟩
                obtain ⟨g, rfl⟩ := hb
                obtain ⟨n, hn⟩ : ∃ n, n = y.length := ⟨_, rfl⟩
                rw [← hn] at co0 cw0 hoc
                have hnl : n ≤ 5000000000000 := by omega
                have HEL : Bx (∀ k x, (fin9 i n)[k]? = some x → WF.cell? ⟨g, k * 3, none⟩ = some (.int .i64 x.waker) ∧ WF.cell? ⟨g, k * 3 + 1, none⟩ = some (.int .i64 x.woken) ∧ WF.cell? ⟨g, k * 3 + 2, none⟩ = some (.int .i64 x.chan)) := ⟨fun k x hx => by
                  rw [← hn] at ro
                  obtain ⟨z1, z2, z3⟩ := lksC_get _ k x hx
                  exact ⟨owns_cellj ro z1, owns_cellj ro z2, owns_cellj ro z3⟩⟩
                have HCC : Bx (WF.cell? ⟨go, i, none⟩ = some (.slice (some ⟨g, 0, none⟩) (n + 9) oc) ∧ WF.cell? ⟨gw, i, none⟩ = some (.slice wa n wc)) := ⟨co0, cw0⟩
                rw [← HQ.out] at HCC HEL
                clear hyb hyl hn ro co0 cw0
                obtain ⟨co0, cw0⟩ := HCC.out
                go_wp2
                obtain ⟨WG, hWG⟩ : ∃ WG, WG = wr := ⟨_, rfl⟩
                go_loopg [21] (n + 10) (fun g v21 wz => ∃ k : Nat, g = n + 10 - k ∧ k ≤ n + 9 ∧ v21 = .int .i64 k ∧ Bx (wz = WG))
                case atStart => exact ⟨0, by simp, by omega, rfl, ⟨hWG.symm⟩⟩
                case round =>
                  obtain ⟨k, hg2, hkn, rfl, HV⟩ := hrel
                  have HWW : Bx (wr = WF) := ⟨by rw [HV.out, hWG]; exact HQ.out⟩
                  rw [← hWG, ← HV.out] at HCC HEL
                  clear co0 cw0 hWG
                  obtain ⟨co0, cw0⟩ := HCC.out
                  by_cases hkl : k < n + 9
                  · have hkI : (k : Int) < (n : Int) + 9 := by omega
                    have hk0 : (0 : Int) ≤ (k : Int) := by omega
                    by_cases hk2 : k < n
                    · obtain ⟨z0, z1, z2⟩ := HEL.out k (mk20 i) (fin9_lo hk2)
                      simp only [mk20] at z0 z1 z2
                      have hkJ : ¬ ((n : Int) ≤ (k : Int)) := by omega
                      clear HEL
                      go_wp2
                      go_roundg (n + 10 - (k + 1))
                      case measure => omega
                      case rel => exact ⟨k + 1, rfl, by omega, by simp, HV⟩
                    · obtain ⟨z0, z1, z2⟩ := HEL.out k (mk30 i) (fin9_hi (by omega) hkl)
                      simp only [mk30] at z0 z1 z2
                      have hkJ : (n : Int) ≤ (k : Int) := by omega
                      clear HEL
                      go_wp2
                      go_roundg (n + 10 - (k + 1))
                      case measure => omega
                      case rel => exact ⟨k + 1, rfl, by omega, by simp, HV⟩
                  · have hke : k = n + 9 := by omega
                    subst hke
                    have hkI : ¬ (((n + 9 : Nat)) : Int) < (n : Int) + 9 := by omega
                    go_wp2
                    go_roundg (4 - (i + 1))
                    case measure => omega
                    case rel => exact ⟨i + 1, rfl, by omega, by simp, HWW⟩
              · have HB9 : Bx (Below w.heap.size w wr) := ⟨by rw [HQ.out]; exact HEND.out _ HPF.out.1.bel⟩
                have hie : i = 3 := by omega
                subst hie
                go_wp2
                go_ret
                exact ⟨rfl, HB9.out⟩
  · go_ret
    exact ⟨rfl, HB1.out⟩
  · go_ret
    exact ⟨rfl, HB1.out⟩
end Go.Proofs.Ytjabdhmkibahlaa
