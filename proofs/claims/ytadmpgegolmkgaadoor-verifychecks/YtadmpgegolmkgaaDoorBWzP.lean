import Derived.Test.YtadmpgegolmkgaaDoorBWxH
import Derived.Test.YtadmpgegolmkgaaDoorBWxJ
set_option linter.unusedVariables false
set_option linter.unusedSimpArgs false
set_option maxHeartbeats 4000000
set_option maxRecDepth 100000
namespace Go.Proofs.YtadmpgegolmkgaaDoor
open Go.RowKit
theorem yN {u : CUn} (hK : K2 u) (k : Int) : (fP u k).length <= 2147483647 := by
 unfold fP
 split
 ·rename_i h
  obtain ⟨h0, h1, _⟩ := h
  have hk : k.toNat < u.ae.length := by omega
  rw [jJ, List.getD_eq_getElem?_getD, List.getElem?_eq_getElem hk]
  have := kw (List.getElem_mem hk)
  unfold K2 at hK
  simp only [Option.getD_some]
  omega
 ·simp
theorem jy {wA wB : World} {v : Value} {l : List Int} (h : HiO wA wB v l) (hl : l.length <= 2147483647) : ∃ b d, v = .slice b l.length d := aN (ku h (by unfold maxLen; omega)).1
theorem ky {wA wB wS wT X : World} {l : List Int} {a b : Option Addr} {c d : Nat} (h : HiO wA wB (.slice b l.length d) l) (hr : rf wS wT a c l) (hl : l.length <= 2147483647) (hX : Below wB.heap.size wB X) (hs : wT.heap.size <= X.heap.size) (hk : ∀ y, wS.heap.size <= y -> y < wT.heap.size -> X.heap[y]? = wT.heap[y]?) : Calls Tryd.prog 13 #[.slice b l.length d, .slice a l.length c] X fun e w' => e = .returned (.bool true) /\ Bx (Below X.heap.size X w') := by
 have ho := aZ (ku h (by unfold maxLen; omega)).1 hX
 refine (lF X X.heap.size b a d c l l (mG ho) (hr X hs hk)).mono ?_
 rintro e w' ⟨rfl, k, rfl⟩
 exact ⟨by simp, ⟨⟨rfl, rfl, rfl, Nat.le_refl _, fun _ _ => rfl⟩⟩⟩
abbrev Al (l : List Int) (b a : Option Addr) (d c : Nat) (X : World) : Prop := Calls Tryd.prog 13 #[.slice b l.length d, .slice a l.length c] X fun e w' => e = .returned (.bool true) /\ Bx (Below X.heap.size X w')
theorem vD {w8 w9 w10 w11 : World} {hv gv : Value} {l : List Int} {a : Option Addr} {c : Nat} (h9 : HiO w8 w9 hv l) (h10 : HiO w9 w10 gv l) (hr : rf w10 w11 a c l) (hb : Below w10.heap.size w10 w11) (hl : l.length <= 2147483647) : ∃ ha hc ga gc, hv = .slice ha l.length hc /\ gv = .slice ga l.length gc /\ Bx (HG w8 w10.heap.size w11 w11 (.slice ha l.length hc) (.slice ga l.length gc) l.length l.length (bn l) (bn l)) /\ Bx (∀ X, Below w11.heap.size w11 X -> Al l ha a hc c X) /\ Bx (∀ X, Below w11.heap.size w11 X -> Al l ga a gc c X) := by
 obtain ⟨ha, hc, rfl⟩ := jy h9 hl
 obtain ⟨ga, gc, rfl⟩ := jy h10 hl
 have s10 := h10.bel.size
 have s11 := hb.size
 refine ⟨ha, hc, ga, gc, rfl, rfl, ⟨HG.start h9 h10 hb (by unfold maxLen; omega)⟩, ⟨fun X hX => ?_⟩, ⟨fun X hX => ?_⟩⟩
 ·exact ky h9 hr hl (h10.bel.trans ((hb.trans (hX.mono s11)).mono s10)) hX.size fun y _ hy => hX.block y hy
 ·exact ky h10 hr hl (hb.trans (hX.mono s11)) hX.size fun y _ hy => hX.block y hy
theorem vE {w8 w10 w11 X Y : World} {hv gv v : Value} {nh ng : Nat} {hl gl : List Value} {l : List Int} {a : Option Addr} {c : Nat} (hg : HG w8 w10.heap.size w11 X hv gv nh ng hl gl) (hr : rf w10 w11 a c l) (h : HiO X Y v l) (hl : l.length <= 2147483647) : ∃ b d, v = .slice b l.length d /\ Bx (Al l b a d c Y) := by
 obtain ⟨b, d, rfl⟩ := jy h hl
 have hz := (hg.under h.bel)
 exact ⟨b, d, rfl, ⟨ky h hr hl (Below.refl _ _) hz.siz hz.rest⟩⟩
theorem yO {X Y Z : World} {v : Value} {l : List Int} {a : Option Addr} {c : Nat} (h : HiO X Y v l) (hr : rf Y Z a c l) (hb : Below Y.heap.size Y Z) (hl : l.length <= 2147483647) : ∃ b d, v = .slice b l.length d /\ Bx (Al l b a d c Z) := by
 obtain ⟨b, d, rfl⟩ := jy h hl
 exact ⟨b, d, rfl, ⟨ky h hr hl hb (Nat.le_refl _) fun _ _ _ => rfl⟩⟩
theorem pV (w : World) (hV : VW w) (u : CUn) (pa ta : Option Addr) (pc tc : Nat) (hu : dL w w.heap.size pa pc ta tc u) (hwf : u.Wf) (hl : UnL u) (n : Int) (hn64 : I64 n) :
  Calls Tryd.prog 3 #[unV u pa pc ta tc, .int .i64 n] w fun e w' => e = .returned (.bool true) /\ Bx (Below w.heap.size w w') := by
 obtain ⟨H, hH⟩ : ∃ H, w.heap.size = H := ⟨_, rfl⟩
 obtain ⟨w1, hw1⟩ : ∃ w1, w.alloc (.cells #[.slice pa u.ae.length pc, .slice ta u.types.length tc] 25) = w1 := ⟨_, rfl⟩
 have b1 : Below w.heap.size w w1 := by rw [← hw1]; exact ak w _
 have q1 : w1.heap[H]? = some (.cells #[.slice pa u.ae.length pc, .slice ta u.types.length tc] 25 (0, 0)) := by rw [← hw1]; exact aj _ _ _ hH
 have s1 : w1.heap.size = H + 1 := by rw [← hw1]; simp [hH]
 have HU : Bx (∀ X, Below (H + 1) w1 X -> X.cell? ⟨H, 0, none⟩ = some (.slice pa u.ae.length pc) /\ X.cell? ⟨H, 1, none⟩ = some (.slice ta u.types.length tc)) := ⟨fun X hX => ⟨aa ((hX.block H (by omega)).trans q1) rfl, aa ((hX.block H (by omega)).trans q1) rfl⟩⟩
 have hXb : ∀ X, Below (H + 1) w1 X -> Below w.heap.size w X := fun X hX => b1.trans (hX.mono (by omega))
 have HXB : Bx (∀ X, Below (H + 1) w1 X -> Below w.heap.size w X) := ⟨hXb⟩
 have HHV : Bx (Calls Tryd.prog 6 #[.agg #[.slice pa u.ae.length pc, .slice ta u.types.length tc]] w1 fun e w' => ∃ b : Bool, e = .returned (.bool b) /\ Bx ((b = false -> UnK u /\ K2 u) /\ Below (H + 1) w1 w')) := ⟨(q9 w1 u pa ta pc tc (dE hu b1) hl).mono fun e w' ⟨b, he, q⟩ => ⟨b, he, ⟨q.out.1, by rw [← s1]; exact q.out.2⟩⟩⟩
 have HSH : Bx (∀ X, Below (H + 1) w1 X -> Calls Tryd.prog 7 #[] X fun e w' => e = .returned (.bool true) /\ Bx (Below (H + 1) w1 w')) := ⟨fun X hX => (vC X (hV.below (hXb X hX))).mono fun e w' q => ⟨q.1, ⟨hX.trans (q.2.mono (by have := hX.size; omega))⟩⟩⟩
 have HLN : Bx (UnK u /\ K2 u -> ∀ X, Below (H + 1) w1 X -> Calls Tryd.prog 8 #[.agg #[.slice pa u.ae.length pc, .slice ta u.types.length tc]] X (yA X u)) := ⟨fun hk X hX => by
  refine yB X u pa ta pc tc (dE hu (hXb X hX)) hk.1 ?_ fun p hp => ?_
  ·have := hk.2; unfold K2 at this; omega
  ·have := hk.2
   unfold K2 at this
   have h2 : p.code.length <= bL u.ae := by
    exact kw hp
   omega⟩
 have HRC : Bx (UnK u /\ K2 u -> ∀ X, Below (H + 1) w1 X -> Calls Tryd.prog 10 #[.agg #[.slice pa u.ae.length pc, .slice ta u.types.length tc]] X fun e w' => e = .returned (.tuple #[.int .i64 ((aB u).1 : Int), .int .i64 ((aB u).2.1 : Int), .int .i64 (aB u).2.2]) /\ Bx (Below X.heap.size X w')) := ⟨fun hk X hX => lD X u pa ta pc tc (dE hu (hXb X hX)) (hk.1.w hwf) hk.2⟩
 have HRH : Bx (UnK u /\ K2 u -> ∀ X (k : Int), Below (H + 1) w1 X -> Calls Tryd.prog 12 #[.agg #[.slice pa u.ae.length pc, .slice ta u.types.length tc], .int .i64 k] X fun e w' => ∃ a c, e = .returned (.slice a (fP u k).length c) /\ Bx (rf X w' a c (fP u k) /\ Below X.heap.size X w')) := ⟨fun hk X k hX => nP X u pa ta pc tc (dE hu (hXb X hX)) (hk.1.w hwf) hk.2 k⟩
 have HOW : Bx (UnK u /\ K2 u -> ∀ X pa' ta' pc' tc' B G C, Below (H + 1) w1 X -> LtU X B pa' ta' pc' tc' u G C ->
   (Calls Tryd.prog 9 #[.agg #[.slice pa' u.ae.length pc', .slice ta' u.types.length tc']] X fun e w' => e = .returned (.tuple #[.int .i64 ((aB u).1 : Int), .int .i64 ((aB u).2.1 : Int), .int .i64 (aB u).2.2]) /\ Bx (Below X.heap.size X w')) /\
   (∀ k : Int, Calls Tryd.prog 11 #[.agg #[.slice pa' u.ae.length pc', .slice ta' u.types.length tc'], .int .i64 k] X fun e w' => ∃ v, e = .returned v /\ Bx (HiO X w' v (fP u k))) /\
   (Calls Tryd.prog 14 #[.agg #[.slice pa' u.ae.length pc', .slice ta' u.types.length tc'], .agg #[.slice pa u.ae.length pc, .slice ta u.types.length tc]] X fun e w' => e = .returned (.bool true) /\ Bx (Below X.heap.size X w'))) := ⟨fun hk X pa' ta' pc' tc' B G C hX hL => by
  have hXw := hXb X hX
  have hVX := hV.below hXw
  have hw := hk.1.w hwf
  have hK := hk.2
  unfold K2 at hK
  exact ⟨mD X hVX u pa' ta' pc' tc' hL.read hw, fun k => pE X hVX u pa' ta' pc' tc' hL.read hw k, uZ X u pa' ta' pa ta pc' tc' pc tc B G C hL (dE hu hXw) ⟨by omega, by omega⟩ hl.kids fun p hp => by have := kw hp; omega⟩⟩
 have HAM : Bx (∀ X : World, Calls Tryd.prog 15 #[.int .i64 n, .int .i64 (u.ae.length : Int)] X fun e w' => ∃ r : Nat, e = .returned (.int .i64 (r : Int)) /\ X = w') := ⟨fun X => by
  by_cases h0 : 0 < u.ae.length
  ·exact (ve X n u.ae.length h0 (by have := hl.np; omega)).mono fun e w' ⟨r, h1, _, h2⟩ => ⟨r, h1, h2⟩
  ·have e0 : u.ae.length = 0 := by omega
   rw [e0]
   exact (rq X n).mono fun e w' ⟨h1, h2⟩ => ⟨0, h1, h2⟩⟩
 have HLE : Bx (K2 u -> ∀ k, (fP u k).length <= 2147483647) := ⟨fun hK k => yN hK k⟩
 obtain ⟨hu0, hu1⟩ := HU.out w1 (Below.refl _ _)
 have hpcap := hu.ae.cap
 have hnp := hl.np
 unfold unV
 clear hV hu hwf hl b1 q1 hXb
 go_enter Tryd.func3, Tryd.ntmps3
 go_wp2_with (first
  | (go_at_call 6; refine HHV.out.mono ?_; rintro e w2 ⟨b, rfl, HX2⟩; obtain ⟨k0, k1⟩ := HU.out _ HX2.out.2; cases b))
 ·have HK : Bx (UnK u /\ K2 u) := ⟨HX2.out.1 (by first | trivial | rfl)⟩
  have HB2 : Bx _ := ⟨HX2.out.2⟩
  have HLN2 : Bx _ := ⟨HLN.out HK.out⟩
  have HRC2 : Bx _ := ⟨HRC.out HK.out⟩
  have HRH2 : Bx _ := ⟨HRH.out HK.out⟩
  have HOW2 : Bx _ := ⟨HOW.out HK.out⟩
  have HLE2 : Bx _ := ⟨HLE.out HK.out.2⟩
  clear HX2 HHV HLN HRC HRH HOW HLE
  generalize (aB u).1 = p1 at *
  generalize (aB u).2.1 = p2 at *
  generalize (aB u).2.2 = p3 at *
  go_wp2_with (first
   | (go_at_call 7; refine (HSH.out _ HB2.out).mono ?_; rintro e w3 ⟨rfl, HB3⟩; obtain ⟨k2, k3⟩ := HU.out _ HB3.out)
   | (go_at_call 8; refine (HLN2.out _ HB3.out).mono ?_; rintro e w5 ⟨pa', ta', pc', tc', rfl, HL5⟩; unfold unV)
   | fail)
  obtain ⟨hb45, B, G, C, hBs, hL⟩ := HL5.out
  obtain ⟨D, hD⟩ : ∃ D, w5.heap.size = D := ⟨_, rfl⟩
  obtain ⟨w6, hw6⟩ : ∃ w6, w5.alloc (.cells #[.slice pa' u.ae.length pc', .slice ta' u.types.length tc'] 25) = w6 := ⟨_, rfl⟩
  have q6 : w6.heap[D]? = some (.cells #[.slice pa' u.ae.length pc', .slice ta' u.types.length tc'] 25 (0, 0)) := by rw [← hw6]; exact aj _ _ _ hD
  have b6 : Below w5.heap.size w5 w6 := by rw [← hw6]; exact ak _ _
  have h3s := HB3.out.size
  have hB6 : Below (H + 1) w1 w6 := (HB3.out.trans (hb45.mono (by omega))).trans (b6.mono (by have := hb45.size; omega))
  have hL6 : LtU w6 B pa' ta' pc' tc' u G C := hL.later fun y _ hy => b6.block y hy
  have HUD : Bx (∀ X, Below w6.heap.size w6 X -> (X.cell? ⟨H, 0, none⟩ = some (.slice pa u.ae.length pc) /\ X.cell? ⟨H, 1, none⟩ = some (.slice ta u.types.length tc)) /\ (X.cell? ⟨D, 0, none⟩ = some (.slice pa' u.ae.length pc') /\ X.cell? ⟨D, 1, none⟩ = some (.slice ta' u.types.length tc')) /\ H < X.heap.size /\ D < X.heap.size) := ⟨fun X hX => by
   have h1 := hB6.trans (hX.mono hB6.size |>.mono (by omega))
   have hd := (hX.block D (ah q6)).trans q6
   exact ⟨HU.out X h1, ⟨aa hd rfl, aa hd rfl⟩, by have := h1.size; omega, ah hd⟩⟩
  have HUP : Bx (∀ X, Below w6.heap.size w6 X -> Below (H + 1) w1 X) := ⟨fun X hX => hB6.trans (hX.mono (by have := hB6.size; omega))⟩
  have HBX : Bx (∀ X Y, Below w6.heap.size w6 X -> Below X.heap.size X Y -> Below w6.heap.size w6 Y) := ⟨fun X Y h1 h2 => h1.trans (h2.mono h1.size)⟩
  have HO : Bx (∀ X, Below w6.heap.size w6 X -> _) := ⟨fun X hX => HOW2.out X pa' ta' pc' tc' B G C (HUP.out X hX) (hL6.later fun y _ hy => hX.block y hy)⟩
  have HR : Bx (∀ X, Below w6.heap.size w6 X -> _ /\ ∀ k : Int, _) := ⟨fun X hX => ⟨HRC2.out X (HUP.out X hX), fun k => HRH2.out X k (HUP.out X hX)⟩⟩
  have HB6 : Bx (Below w6.heap.size w6 w6) := ⟨Below.refl _ _⟩
  obtain ⟨⟨k4, k5⟩, ⟨k6, k7⟩, k8, k9⟩ := HUD.out w6 (Below.refl _ _)
  clear hb45 hL b6 hB6 HL5 q6 hL6 HOW2 HRC2 HRH2 HLN2 hw1 s1 HB2 HB3 k0 k1 k2 k3 h3s hBs
  rw [hD, hw6]
  clear hD hw6
  have HOn : Bx (∀ X, Below w6.heap.size w6 X -> _) := ⟨fun X hX => (HO.out X hX).2.1 n⟩
  have HRn : Bx (∀ X, Below w6.heap.size w6 X -> _) := ⟨fun X hX => (HR.out X hX).2 n⟩
  have hLE := HLE2.out n
  generalize fP u n = HL at *
  have HLB : Bx (HL.length <= 2147483647) := ⟨hLE⟩
  go_wp2_with (first
   | (go_at_call 9; refine (HO.out w6 HB6.out).1.mono ?_; rintro e w7 ⟨rfl, HX7⟩; have HB7 : Bx _ := ⟨HBX.out w6 w7 HB6.out HX7.out⟩; clear HX7; clear k4 k5 k6 k7 k8 k9; obtain ⟨⟨k4, k5⟩, ⟨k6, k7⟩, k8, k9⟩ := HUD.out w7 HB7.out)
   | (go_at_call 10; refine (HR.out w7 HB7.out).1.mono ?_; rintro e w8 ⟨rfl, HX8⟩; have HB8 : Bx _ := ⟨HBX.out w7 w8 HB7.out HX8.out⟩; clear HX8; clear k4 k5 k6 k7 k8 k9; obtain ⟨⟨k4, k5⟩, ⟨k6, k7⟩, k8, k9⟩ := HUD.out w8 HB8.out)
   | (go_at_call 11; refine (HOn.out w9 HB9.out).mono ?_; rintro e w10 ⟨gv, rfl, HI10⟩; have HB10 : Bx _ := ⟨HBX.out w9 w10 HB9.out HI10.out.bel⟩; clear k4 k5 k6 k7 k8 k9; obtain ⟨⟨k4, k5⟩, ⟨k6, k7⟩, k8, k9⟩ := HUD.out w10 HB10.out)
   | (go_at_call 11; refine (HOn.out w8 HB8.out).mono ?_; rintro e w9 ⟨hv, rfl, HI9⟩; have HB9 : Bx _ := ⟨HBX.out w8 w9 HB8.out HI9.out.bel⟩; clear k4 k5 k6 k7 k8 k9; obtain ⟨⟨k4, k5⟩, ⟨k6, k7⟩, k8, k9⟩ := HUD.out w9 HB9.out)
   | (go_at_call 12; refine (HRn.out w10 HB10.out).mono ?_; rintro e w11 ⟨ra, rc, rfl, HX11⟩; have HB11 : Bx _ := ⟨HBX.out w10 w11 HB10.out HX11.out.2⟩; obtain ⟨ha, hc, ga, gc, rfl, rfl, HG0, HNH, HNG⟩ := vD HI9.out HI10.out HX11.out.1 HX11.out.2 HLB.out; have HRF : Bx _ := ⟨HX11.out.1⟩; clear HX11 HI9 HI10; clear k4 k5 k6 k7 k8 k9; obtain ⟨⟨k4, k5⟩, ⟨k6, k7⟩, k8, k9⟩ := HUD.out w11 HB11.out)
   | (go_at_call 13; refine (HNG.out z1 HZ1.out).mono ?_; rintro e z2 ⟨rfl, HY2⟩; have HZ2 : Bx (Below w11.heap.size w11 z2) := ⟨HZ1.out.trans (HY2.out.mono HZ1.out.size)⟩; have HZB2 : Bx _ := ⟨HBX.out z1 z2 HZB1.out HY2.out⟩; clear HY2; clear k4 k5 k6 k7 k8 k9; obtain ⟨⟨k4, k5⟩, ⟨k6, k7⟩, k8, k9⟩ := HUD.out z2 HZB2.out)
   | (go_at_call 13; refine (HNH.out w11 (Below.refl _ _)).mono ?_; rintro e z1 ⟨rfl, HZ1⟩; have HZB1 : Bx _ := ⟨HBX.out w11 z1 HB11.out HZ1.out⟩; clear k4 k5 k6 k7 k8 k9; obtain ⟨⟨k4, k5⟩, ⟨k6, k7⟩, k8, k9⟩ := HUD.out z1 HZB1.out)
   | (go_at_call 14; refine (HO.out z2 HZB2.out).2.2.mono ?_; rintro e z3 ⟨rfl, HY3⟩; have HZ3 : Bx (Below w11.heap.size w11 z3) := ⟨HZ2.out.trans (HY3.out.mono HZ2.out.size)⟩; clear HY3 k4 k5 k6 k7 k8 k9)
   | fail)
  have HG1 : Bx (HG w8 w10.heap.size w11 z3 (.slice ha HL.length hc) (.slice ga HL.length gc) HL.length HL.length (List.replicate 0 (.int .i64 (-9)) ++ (bn HL).drop 0) (bn HL)) := ⟨by simpa using HG0.out.under HZ3.out⟩
  clear HG0 HNH HNG HZ1 HZ2 HZ3 HZB1 HZB2 HB6 HB7 HB9 HB10 HB11
  go_loopg [80] (HL.length + 1) (fun f v80 wr => ∃ k : Nat, f = HL.length + 1 - k /\ k <= HL.length /\ v80 = .int .i64 k /\ Bx (HG w8 w10.heap.size w11 wr (.slice ha HL.length hc) (.slice ga HL.length gc) HL.length HL.length (List.replicate k (.int .i64 (-9)) ++ (bn HL).drop k) (bn HL)))
  case atStart => exact ⟨0, by simp, Nat.zero_le _, rfl, HG1⟩
  case round =>
   clear HG1
   obtain ⟨k, hf, hk, rfl, HR1⟩ := hrel
   by_cases hlt : k < HL.length
   ·obtain ⟨b, rfl, hbl, _, hcc, hfz, hce, hkl⟩ := iI HR1.out.hrow hlt
    rw [List.getElem?_eq_getElem hkl] at hce
    generalize (List.replicate k (Value.int .i64 (-9)) ++ (bn HL).drop k)[k]'hkl = cv at *
    have hkI : (k : Int) < (HL.length : Int) := by omega
    have HN : Bx (HG w8 w10.heap.size w11 (wr.setCell ⟨b, k, none⟩ (.int .i64 (-9))) (.slice (some ⟨b, 0, none⟩) HL.length hc) (.slice ga HL.length gc) HL.length HL.length (List.replicate (k + 1) (.int .i64 (-9)) ++ (bn HL).drop (k + 1)) (bn HL)) := ⟨HR1.out.setH hlt (by simp [bn])⟩
    clear HR1 hkl
    go_wp2
    go_roundg (HL.length + 1 - (k + 1))
    case measure => omega
    case rel => exact ⟨k + 1, rfl, by omega, by go_num, HN⟩
   ·obtain rfl : k = HL.length := by omega
    have HG2 : Bx (HG w8 w10.heap.size w11 wr (.slice ha HL.length hc) (.slice ga HL.length gc) HL.length HL.length (List.replicate HL.length (.int .i64 (-9))) (List.replicate 0 (.int .i64 (-8)) ++ (bn HL).drop 0)) := ⟨by
     have h := HR1.out
     rw [List.drop_of_length_le (by simp [bn]), List.append_nil] at h
     simpa using h⟩
    clear HR1
    go_wp2
    go_loopg [89] (HL.length + 1) (fun f v89 wr => ∃ k : Nat, f = HL.length + 1 - k /\ k <= HL.length /\ v89 = .int .i64 k /\ Bx (HG w8 w10.heap.size w11 wr (.slice ha HL.length hc) (.slice ga HL.length gc) HL.length HL.length (List.replicate HL.length (.int .i64 (-9))) (List.replicate k (.int .i64 (-8)) ++ (bn HL).drop k)))
    case atStart => exact ⟨0, by simp, Nat.zero_le _, rfl, HG2⟩
    case round =>
     clear HG2
     obtain ⟨k, hf, hk, rfl, HR1⟩ := hrel
     by_cases hlt : k < HL.length
     ·obtain ⟨b, rfl, hbl, _, hcc, hfz, hce, hkl⟩ := iI HR1.out.grow hlt
      rw [List.getElem?_eq_getElem hkl] at hce
      generalize (List.replicate k (Value.int .i64 (-8)) ++ (bn HL).drop k)[k]'hkl = cv at *
      have hkI : (k : Int) < (HL.length : Int) := by omega
      have HN : Bx (HG w8 w10.heap.size w11 (wr.setCell ⟨b, k, none⟩ (.int .i64 (-8))) (.slice ha HL.length hc) (.slice (some ⟨b, 0, none⟩) HL.length gc) HL.length HL.length (List.replicate HL.length (.int .i64 (-9))) (List.replicate (k + 1) (.int .i64 (-8)) ++ (bn HL).drop (k + 1))) := ⟨HR1.out.BV hlt (by simp [bn])⟩
      clear HR1 hkl
      go_wp2
      go_roundg (HL.length + 1 - (k + 1))
      case measure => omega
      case rel => exact ⟨k + 1, rfl, by omega, by go_num, HN⟩
     ·obtain rfl : k = HL.length := by omega
      have HG3 : Bx (HG w8 w10.heap.size w11 wr (.slice ha HL.length hc) (.slice ga HL.length gc) (HL.length + 0) (HL.length + 0) (List.replicate (HL.length + 0) (.int .i64 (-9))) (List.replicate (HL.length + 0) (.int .i64 (-8)))) := ⟨by
       have h := HR1.out
       rw [List.drop_of_length_le (by simp [bn]), List.append_nil] at h
       exact h⟩
      clear HR1
      go_wp2
      go_loopg [12, 13, 96] 10 (fun f v12 v13 v96 wr => ∃ (k : Nat) (hv gv : Value), f = 10 - k /\ k <= 9 /\ v96 = .int .i64 k /\ hv = v12 /\ gv = v13 /\ Bx (HG w8 w10.heap.size w11 wr hv gv (HL.length + k) (HL.length + k) (List.replicate (HL.length + k) (.int .i64 (-9))) (List.replicate (HL.length + k) (.int .i64 (-8)))))
      case atStart => exact ⟨0, _, _, by simp, Nat.zero_le _, rfl, rfl, rfl, HG3⟩
      case round =>
       clear HG3
       obtain ⟨k, hv, gv, hf, hk, rfl, rfl, rfl, HR1⟩ := hrel
       by_cases hlt : k < 9
       ·have hlt9 : (k : Int) < 9 := by omega
        obtain ⟨b1, c1, W3, r3, g3⟩ := HR1.out.BO (-9) (by omega)
        obtain ⟨b2, c2, W5, r5, g5⟩ := g3.BX (-8) (by omega)
        have HN : Bx (HG w8 w10.heap.size w11 W5 (.slice (some ⟨b1, 0, none⟩) (HL.length + k + 1) c1) (.slice (some ⟨b2, 0, none⟩) (HL.length + k + 1) c2) (HL.length + (k + 1)) (HL.length + (k + 1)) (List.replicate (HL.length + (k + 1)) (.int .i64 (-9))) (List.replicate (HL.length + (k + 1)) (.int .i64 (-8)))) := ⟨by
         rw [← Nat.add_assoc, List.replicate_succ', List.replicate_succ']
         exact g5⟩
        clear HR1 g3 g5
        go_wp2_with (first
         | (at_builtin; refine aJ rfl (.tmp 98) (.tmp 99) 32 rfl rfl rfl r3 ?_)
         | (at_builtin; refine aJ rfl (.tmp 101) (.tmp 102) 32 rfl rfl rfl r5 ?_)
         | fail)
        go_roundg (10 - (k + 1))
        case measure => omega
        case rel => exact ⟨k + 1, _, _, rfl, by omega, by go_num, rfl, rfl, HN⟩
       ·obtain rfl : k = 9 := by omega
        obtain ⟨M, hM⟩ : ∃ M, HL.length + 9 = M := ⟨_, rfl⟩
        have hML : M <= 2147483656 := by omega
        rw [hM] at HR1
        clear hM
        obtain ⟨ha, hc, rfl⟩ := aN HR1.out.hrow
        obtain ⟨ga, gc, rfl⟩ := aN HR1.out.grow
        go_wp2
        go_loopg [107] (M + 1) (fun f v107 wr => ∃ k : Nat, f = M + 1 - k /\ k <= M /\ v107 = .int .i64 k /\ Bx (HG w8 w10.heap.size w11 wr (.slice ha M hc) (.slice ga M gc) M M (List.replicate M (.int .i64 (-9))) (List.replicate M (.int .i64 (-8)))))
        case atStart => exact ⟨0, by simp, Nat.zero_le _, rfl, HR1⟩
        case round =>
         clear HR1
         obtain ⟨k, hf, hk, rfl, HR1⟩ := hrel
         by_cases hlt : k < M
         ·obtain ⟨b, rfl, hbl, _, hcc, hfz, hce, hkl⟩ := iI HR1.out.hrow hlt
          obtain ⟨b2, rfl, hbl2, _, hcc2, hfz2, hce2, hkl2⟩ := iI HR1.out.grow hlt
          rw [List.getElem?_replicate, if_pos hlt] at hce hce2
          have hkI : (k : Int) < (M : Int) := by omega
          clear hkl hkl2
          go_wp2
          go_roundg (M + 1 - (k + 1))
          case measure => omega
          case rel => exact ⟨k + 1, rfl, by omega, by go_num, ⟨HR1.out.under ⟨rfl, rfl, rfl, Nat.le_refl _, fun _ _ => rfl⟩⟩⟩
         ·obtain rfl : k = M := by omega
          have HBR : Bx _ := ⟨HBX.out w8 wr HB8.out HR1.out.bel⟩
          obtain ⟨⟨k4, k5⟩, ⟨k6, k7⟩, k8, k9⟩ := HUD.out wr HBR.out
          go_wp2_with (first
           | (go_at_call 9; refine (HO.out y2 HBb.out).1.mono ?_; rintro e y4 ⟨rfl, HX4⟩; have HBd : Bx _ := ⟨HBX.out y2 y4 HBb.out HX4.out⟩; clear HX4; clear k4 k5 k6 k7 k8 k9; obtain ⟨⟨k4, k5⟩, ⟨k6, k7⟩, k8, k9⟩ := HUD.out y4 HBd.out)
           | (go_at_call 15; refine (HAM.out y2).mono ?_; rintro e y3 ⟨r, rfl, rfl⟩)
           | (go_at_call 13; refine HNa.out.mono ?_; rintro e y2 ⟨rfl, HY2⟩; have HBb : Bx _ := ⟨HBX.out y1 y2 HBa.out HY2.out⟩; clear HY2 HNa; clear k4 k5 k6 k7 k8 k9; obtain ⟨⟨k4, k5⟩, ⟨k6, k7⟩, k8, k9⟩ := HUD.out y2 HBb.out)
           | (go_at_call 11; refine (HOn.out wr HBR.out).mono ?_; rintro e y1 ⟨v1, rfl, HIa⟩; have HBa : Bx _ := ⟨HBX.out wr y1 HBR.out HIa.out.bel⟩; obtain ⟨va, vc, rfl, HNa⟩ := vE HR1.out HRF.out HIa.out HLB.out; clear HIa; clear k4 k5 k6 k7 k8 k9; obtain ⟨⟨k4, k5⟩, ⟨k6, k7⟩, k8, k9⟩ := HUD.out y1 HBa.out)
           | fail)
          have HUE : Bx (∀ X, Below w6.heap.size w6 X -> X.cell? ⟨H, 0, none⟩ = some (.slice pa u.ae.length pc) /\ X.cell? ⟨H, 1, none⟩ = some (.slice ta u.types.length tc) /\ X.cell? ⟨D, 0, none⟩ = some (.slice pa' u.ae.length pc') /\ X.cell? ⟨D, 1, none⟩ = some (.slice ta' u.types.length tc')) := ⟨fun X hX => by
           obtain ⟨⟨h1, h2⟩, ⟨h3, h4⟩, _⟩ := HUD.out X hX
           exact ⟨h1, h2, h3, h4⟩⟩
          go_region_held3 (fun Y => Y.cell? ⟨H, 0, none⟩ = some (.slice pa u.ae.length pc) /\ Y.cell? ⟨H, 1, none⟩ = some (.slice ta u.types.length tc) /\ Y.cell? ⟨D, 0, none⟩ = some (.slice pa' u.ae.length pc') /\ Y.cell? ⟨D, 1, none⟩ = some (.slice ta' u.types.length tc'))
           (first | exact ⟨k4, k5, k6, k7⟩ | exact SC.out | exact SB.out | exact SA.out | go_keep)
           (first
            | (go_at_call 13; refine HNf.out.mono ?_; rintro e y7 ⟨rfl, HY7⟩; have HBg : Bx _ := ⟨HBX.out y6 y7 HBf.out HY7.out⟩; have SC : Bx _ := ⟨HUE.out y7 HBg.out⟩)
            | (go_at_call 12; refine ((HR.out y5 HBe.out).2 (r : Int)).mono ?_; rintro e y6 ⟨ra2, rc2, rfl, HX6⟩; have HBf : Bx _ := ⟨HBX.out y5 y6 HBe.out HX6.out.2⟩; obtain ⟨va2, vc2, rfl, HNf⟩ := yO HI5.out HX6.out.1 HX6.out.2 (HLE2.out (r : Int)); have SB : Bx _ := ⟨HUE.out y6 HBf.out⟩)
            | (go_at_call 11; refine ((HO.out _ HBd.out.drew).2.1 (r : Int)).mono ?_; rintro e y5 ⟨v5, rfl, HI5⟩; have HBe : Bx _ := ⟨HBX.out _ y5 HBd.out.drew HI5.out.bel⟩; have SA : Bx _ := ⟨HUE.out y5 HBe.out⟩))
          go_wp2
          go_ret
          have hz := HUP.out y7 HBg.out
          exact ⟨rfl, ⟨by first | exact HXB.out _ hz | (rw [← hH]; exact HXB.out _ hz)⟩⟩
 ·have HB2 : Bx _ := ⟨HX2.out.2⟩
  go_wp2
  go_ret
  exact ⟨rfl, ⟨by first | exact HXB.out _ HB2.out | (rw [← hH]; exact HXB.out _ HB2.out)⟩⟩
end Go.Proofs.YtadmpgegolmkgaaDoor
