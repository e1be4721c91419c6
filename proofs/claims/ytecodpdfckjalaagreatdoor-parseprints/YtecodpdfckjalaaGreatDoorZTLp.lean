import Derived.Test.YtecodpdfckjalaaGreatDoorZTChkW
import Derived.Test.YtecodpdfckjalaaGreatDoorZTNd
import Derived.Test.YtecodpdfckjalaaGreatDoorZTPh
import Derived.Test.YtecodpdfckjalaaGreatDoorZTTks
import Derived.Test.YtecodpdfckjalaaGreatDoorZQB
import Derived.Test.YtecodpdfckjalaaGreatDoorRows
import Derived.ProofKit
import Derived.LaidMore
import Derived.OpenShut
import Derived.Stop.Joined
import Derived.Stop.LaidErr
import Derived.Lib.LaidTab
import Derived.Test.YtecodpdfckjalaaGreatDoorZTName
import Derived.Below
import Derived.Lib.SmallJoins
import Derived.Deep.Slices
import Derived.Test.YtecodpdfckjalaaGreatDoorCards
import Derived.Test.YtecodpdfckjalaaGreatDoorTie
import Derived.SevenTiedAt
set_option linter.unusedVariables false
set_option linter.unusedSimpArgs false
set_option maxHeartbeats 4000000
set_option maxRecDepth 100000
namespace Go.Proofs.YtecodpdfckjalaaGreatDoor
open Go.RowKit
structure o6 (w : World) : Prop where
 laid : Laid w
 pow : Lib.TabIs Tryz.prog w "internal/strconv.uint64pow10" .u64 Lib.pow10Tab
 size : 7 <= w.heap.size
theorem o6.below {w w' : World} (h : o6 w) (hb : Below w.heap.size w w') : o6 w' :=
 ⟨h.laid.below hb, var?_below hb yx (by have := h.size; omega) h.pow, Nat.le_trans h.size hb.size⟩
theorem JC (w : World) (lv : Value) : PB (w.alloc (.cells #[lv, .pointer none, .slice none 0 0] 53)) w.heap.size w.heap.size lv [] :=
 ⟨⟨.pointer none, .slice none 0 0, .inl rfl, heap_alloc_new w _, World.ownsRow_nil _ _ _ _, fun _ => rfl⟩, Nat.le_refl _, by simp⟩
theorem aQ.mono {w : World} {B C : Nat} {v : Value} {ks : List Int} (h : aQ w B v ks) (hB : B <= C) : aQ w C v ks := by
 obtain ⟨a, cap, h1, h2, h3, h4⟩ := h.ex
 refine ⟨a, cap, h1, h2, h3, fun h0 => ?_⟩
 obtain ⟨b, o, e, hb, hc⟩ := h4 h0
 exact ⟨b, o, e, by omega, hc⟩
theorem gD.mono {w : World} {B C nb no nc : Nat} {l : List Nd} (h : gD w B nb no nc l) (hB : B <= C) (hC : C <= w.heap.size) : gD w C nb no nc l := by
 refine ⟨fun j hj => ?_, h.wf, by have := h.lo; omega, hC, h.max, h.cap⟩
 obtain ⟨ka, kc, hn⟩ := h.at_ j hj
 exact ⟨ka, kc, hn.c0, hn.c1, hn.c2, hn.c3, hn.c4, hn.kids.mono hB⟩
theorem A7 (B b : Nat) (lv : Value) (l : List UInt8) (w : World) (h : PB w B b lv l) :
  Calls Tryz.prog 18 #[.pointer (some ⟨b, 1, none⟩)] w fun e w' => e = .returned (.string ⟨l.toArray⟩) /\ Below B w w' := by
 by_cases h0 : l = []
 ·subst h0
  exact wz B b lv w h
 ·exact wy B b lv l w h h0
def rV (l : List Nd) : List UInt8 := if (bO l).2 = 0 then fG [] (gG l (l.length - 1)) else []
theorem FW (w : World) (B nb no nc : Nat) (l : List Nd) (hn : gD w B nb no nc l) (hL : o6 w) (hl31 : l.length <= 2147483647) (hok : (bO l).2 = 0) :
  Calls Tryz.prog 9 #[.slice (some ⟨nb, no, none⟩) l.length nc] w fun e w' => e = .returned (.tuple #[.string ⟨(fG [] (gG l (l.length - 1))).toArray⟩, .int .i64 0]) /\ Below w.heap.size w w' := by
 obtain ⟨_, h0, _⟩ := mi hok
 have HC : Bx _ := ⟨qK w B nb no nc l hn hL.laid hl31 h0⟩
 rw [hok] at HC
 have hcost := sW hok (fun j hj => (hn.wf j hj).num) (l.length - 1) (by omega)
 have HN : Bx (∀ w1, Below w.heap.size w w1 -> Calls Tryz.prog 17 #[.pointer (some ⟨w1.heap.size, 0, none⟩), .int .i64 ((l.length - 1 : Nat) : Int)] (w1.alloc (.cells #[.slice (some ⟨nb, no, none⟩) l.length nc, .pointer none, .slice none 0 0] 53)) fun e W' => e = .returned (.tuple #[]) /\ PB W' w1.heap.size w1.heap.size (.slice (some ⟨nb, no, none⟩) l.length nc) (fG [] (gG l (l.length - 1))) /\ Below w.heap.size w W') := ⟨fun w1 hb1 => by
  have hz := hb1.size
  have hb2 : Below w1.heap.size w1 (w1.alloc (.cells #[.slice (some ⟨nb, no, none⟩) l.length nc, .pointer none, .slice none 0 0] 53)) := ah w1 _
  have hL2 := (hL.below hb1).below hb2
  have hhi := hn.hi
  have hN2 : gD _ w1.heap.size nb no nc l := (((hn.below (hb1.mono hhi)).below (hb2.mono (by omega)))).mono (by omega) (by simp)
  have hnd := JB hok _ w1.heap.size w1.heap.size nb no nc 140737488355328 (Nat.le_refl _) hN2 ⟨hL2.laid, hL2.pow, by have := hL.size; omega⟩ (l.length - 1) (by omega)
  refine (hnd _ [] ⟨JC w1 _, Below.refl _ _⟩ (by simp; omega)).mono ?_
  rintro e W' ⟨rfl, q1, q2, q3⟩
  exact ⟨rfl, q1.pb, (hb1.trans (hb2.mono hz)).trans (q1.bel.mono hz)⟩⟩
 generalize fG [] (gG l (l.length - 1)) = T at *
 generalize (bO l).1 = c1 at *
 rw [show ((l.length - 1 : Nat) : Int) = (l.length : Int) - 1 by omega] at HN
 clear hn hL hok hcost
 generalize l.length = L at *
 go_enter Tryz.func9, Tryz.ntmps9
 go_wp2_with (first
  | (go_at_call 8; refine Calls.mono HC.out ?_; rintro e w1 ⟨rfl, hb1⟩; have hz1 := hb1.size)
  | (go_at_call 17; refine Calls.mono (HN.out _ hb1) ?_; rintro e w2 ⟨rfl, hp2, hb2⟩; have hl2 := hp2.lt)
  | (go_at_call 18; refine Calls.mono (A7 _ _ _ _ _ hp2) ?_; rintro e w3 ⟨rfl, hb3⟩))
 go_ret2
 exact ⟨rfl, hb2.trans (hb3.mono hz1)⟩
theorem DU (w : World) (B : Nat) (a : Option Addr) (cap : Nat) (l : List Nd) (hn : dh w B a cap l) (hL : o6 w) (hl31 : l.length <= 2147483647) (hok : ¬ (bO l).2 = 0) :
  Calls Tryz.prog 9 #[.slice a l.length cap] w fun e w' => e = .returned (.tuple #[.string ⟨#[]⟩, .int .i64 ((bO l).2 : Nat)]) /\ Below w.heap.size w w' := by
 have HC : Bx _ := ⟨Cx w B a cap l hn hL.laid hl31⟩
 have hne : ((((bO l).2 : Nat) : Int) != 0) = true := by simp; omega
 generalize (bO l).1 = c1 at *
 generalize (bO l).2 = c2 at *
 clear hn hL hok
 generalize l.length = L at *
 go_enter Tryz.func9, Tryz.ntmps9
 go_wp2_with (first
  | (go_at_call 8; refine Calls.mono HC.out ?_; rintro e w1 ⟨rfl, hb1⟩; have hz1 := hb1.size))
 go_ret2
 exact ⟨rfl, hb1⟩
theorem DV (w : World) (B : Nat) (a : Option Addr) (cap : Nat) (l : List Nd) (hn : dh w B a cap l) (hL : o6 w) (hl31 : l.length <= 2147483647) :
  Calls Tryz.prog 9 #[.slice a l.length cap] w fun e w' => e = .returned (.tuple #[.string ⟨(rV l).toArray⟩, .int .i64 ((bO l).2 : Nat)]) /\ Below w.heap.size w w' := by
 by_cases hok : (bO l).2 = 0
 ·obtain ⟨nb, no, rfl, h⟩ := hn.at_ (mi hok).2.1
  have := FW w B nb no cap l h hL hl31 hok
  unfold rV
  rw [if_pos hok, hok]
  exact this
 ·have := DU w B a cap l hn hL hl31 hok
  unfold rV
  rw [if_neg hok]
  exact this
theorem SO.FX {w : World} {B : Nat} {v : Value} {ws : List (List UInt8)} (h : SO w B v ws) : ∃ a c, v = .slice a ws.length c /\ ws.length <= c := by
 have h' : w.ownsRow B 9 1 v ws.length (ws.map uo) := h
 rcases h'.2 with ⟨rfl, hn⟩ | ⟨g, cap, cur, rfl, hB, hg, q1, q2, q3, q4⟩
 ·exact ⟨_, _, by rw [hn], by omega⟩
 ·exact ⟨_, _, rfl, q1⟩
theorem A8 (w : World) (a : Option Addr) (n cap : Nat) (fa fc : Int) (hf : (fc != 0) = true)
  (HSh : Bx (Calls Tryz.prog 7 #[] w fun e w' => e = .returned (.bool true) /\ Below w.heap.size w w'))
  (HP1 : Bx (∀ W, Below w.heap.size w W -> Calls Tryz.prog 10 #[.slice a n cap, .int .i64 65536] W (H7 W [] fa fc))) :
  Calls Tryz.prog 6 #[.slice a n cap] w fun e w' => e = .returned (.bool true) /\ Below w.heap.size w w' := by
 go_enter Tryz.func6, Tryz.ntmps6
 go_wp2_with (first
  | (go_at_call 7; refine Calls.mono HSh.out ?_; rintro e W1 ⟨rfl, hb1⟩; clear HSh)
  | (go_at_call 10; refine Calls.mono (HP1.out _ hb1) ?_; clear HP1; rintro e W2 ⟨na, nc, rfl, hb2, hn2⟩; have HB2 : Bx _ := ⟨hb1.trans (hb2.mono hb1.size)⟩; clear hb1 hb2 hn2))
 go_ret
 exact ⟨rfl, HB2.out.trans ((ah _ _).mono HB2.out.size)⟩
theorem yz (w : World) (a : Option Addr) (n cap : Nat) (l : List Nd) (s : ByteArray) (hs : 65536 < s.size) (hs2 : s.size <= 140737488355328) (ws : List (List UInt8))
  (HSh : Bx (Calls Tryz.prog 7 #[] w fun e w' => e = .returned (.bool true) /\ Below w.heap.size w w'))
  (HP1 : Bx (∀ W, Below w.heap.size w W -> Calls Tryz.prog 10 #[.slice a n cap, .int .i64 65536] W (H7 W l 0 0)))
  (HPr : Bx (∀ W na nc, Below w.heap.size w W -> dh W W.heap.size na nc l -> Calls Tryz.prog 9 #[.slice na l.length nc] W fun e w' => e = .returned (.tuple #[.string s, .int .i64 0]) /\ Below W.heap.size W w'))
  (HT : Bx (∀ W, Below w.heap.size w W -> Calls Tryz.prog 12 #[.slice a n cap] W fun e w' => ∃ v, e = .returned (.tuple #[v, .bool true]) /\ SO w' W.heap.size v ws /\ Below W.heap.size W w')) :
  Calls Tryz.prog 6 #[.slice a n cap] w fun e w' => e = .returned (.bool true) /\ Below w.heap.size w w' := by
 go_enter Tryz.func6, Tryz.ntmps6
 go_wp2_with (first
  | (go_at_call 7; refine Calls.mono HSh.out ?_; rintro e W1 ⟨rfl, hb1⟩; clear HSh)
  | (go_at_call 10; refine Calls.mono (HP1.out _ hb1) ?_; clear HP1; rintro e W2 ⟨na, nc, rfl, hb2, hn2⟩; obtain ⟨W3, hW3⟩ : ∃ W3, W2.alloc (.cells #[.int .i64 0, .int .i64 0] 30) = W3 := ⟨_, rfl⟩; have HW3 : Bx _ := ⟨hW3⟩; have HB3 : Bx _ := ⟨pJ (hb1.trans (hb2.mono hb1.size)) hW3⟩; have HN3 : Bx _ := ⟨hn2.later (show Below W2.heap.size W2 W3 by rw [← hW3]; exact ah _ _)⟩; clear hb1 hb2 hn2 hW3)
  | (go_at_call 9; rw [HW3.out]; refine Calls.mono (HPr.out _ _ _ HB3.out HN3.out) ?_; clear HPr; rintro e W4 ⟨rfl, hb4⟩; have HB4 : Bx _ := ⟨HB3.out.trans (hb4.mono HB3.out.size)⟩; clear hb4)
  | (go_at_call 12; refine Calls.mono (HT.out _ HB4.out) ?_; clear HT; rintro e W5 ⟨v, rfl, hv, hb5⟩; have HB5 : Bx _ := ⟨HB4.out.trans (hb5.mono HB4.out.size)⟩; clear hv hb5))
 go_ret
 exact ⟨rfl, HB5.out⟩
theorem yA (w : World) (a : Option Addr) (n cap : Nat) (l : List Nd) (s : ByteArray) (hs : ¬ 65536 < s.size) (ws : List (List UInt8)) (hws : ws.length <= 65536)
  (HSh : Bx (Calls Tryz.prog 7 #[] w fun e w' => e = .returned (.bool true) /\ Below w.heap.size w w'))
  (HP1 : Bx (∀ W, Below w.heap.size w W -> Calls Tryz.prog 10 #[.slice a n cap, .int .i64 65536] W (H7 W l 0 0)))
  (HPr : Bx (∀ W na nc, Below w.heap.size w W -> dh W W.heap.size na nc l -> Calls Tryz.prog 9 #[.slice na l.length nc] W fun e w' => e = .returned (.tuple #[.string s, .int .i64 0]) /\ Below W.heap.size W w'))
  (HT : Bx (∀ W, Below w.heap.size w W -> Calls Tryz.prog 12 #[.slice a n cap] W fun e w' => ∃ v, e = .returned (.tuple #[v, .bool true]) /\ SO w' W.heap.size v ws /\ Below W.heap.size W w'))
  (HT2 : Bx (∀ W, Below w.heap.size w W -> Calls Tryz.prog 12 #[.slice (some ⟨W.heap.size, 0, none⟩) s.size (grownCap W s.size 0 5)] (Lib.bytesWorld W 5 s) fun e w' => ∃ v B, e = .returned (.tuple #[v, .bool true]) /\ SO w' B v ws /\ Below W.heap.size W w')) :
  Calls Tryz.prog 6 #[.slice a n cap] w fun e w' => e = .returned (.bool true) /\ Below w.heap.size w w' := by
 have kc := lY s
 go_enter Tryz.func6, Tryz.ntmps6
 go_wp2_with (first
  | (go_at_call 7; refine Calls.mono HSh.out ?_; rintro e W1 ⟨rfl, hb1⟩; clear HSh)
  | (go_at_call 10; refine Calls.mono (HP1.out _ hb1) ?_; clear HP1; rintro e W2 ⟨na, nc, rfl, hb2, hn2⟩; obtain ⟨W3, hW3⟩ : ∃ W3, W2.alloc (.cells #[.int .i64 0, .int .i64 0] 30) = W3 := ⟨_, rfl⟩; have HW3 : Bx _ := ⟨hW3⟩; have HB3 : Bx _ := ⟨pJ (hb1.trans (hb2.mono hb1.size)) hW3⟩; have HN3 : Bx _ := ⟨hn2.later (show Below W2.heap.size W2 W3 by rw [← hW3]; exact ah _ _)⟩; clear hb1 hb2 hn2 hW3)
  | (go_at_call 9; rw [HW3.out]; refine Calls.mono (HPr.out _ _ _ HB3.out HN3.out) ?_; clear HPr; rintro e W4 ⟨rfl, hb4⟩; have HB4 : Bx _ := ⟨HB3.out.trans (hb4.mono HB3.out.size)⟩; clear hb4)
  | (go_at_call 12; refine Calls.mono (HT.out _ HB4.out) ?_; clear HT; rintro e W5 ⟨v, rfl, hv, hb5⟩; obtain ⟨va, vc, rfl, hvc⟩ := hv.FX; have HB5 : Bx _ := ⟨HB4.out.trans (hb5.mono HB4.out.size)⟩; have HV5 : Bx _ := ⟨hv⟩; clear hv hb5)
  | (go_at_call 12; refine Calls.mono (HT2.out _ HB5.out) ?_; clear HT2 kc; rintro e W6 ⟨v2, B2, rfl, hv2, hb6⟩; obtain ⟨ua, uc, rfl, huc⟩ := hv2.FX; have HB6 : Bx _ := ⟨HB5.out.trans (hb6.mono HB5.out.size)⟩; have HV6 : Bx (SO W6 W4.heap.size (.slice va ws.length vc) ws) := ⟨jQ HV5.out hb6⟩; have HU6 : Bx _ := ⟨hv2⟩; clear hv2 hb6))
 go_loopw [61] (fun x wr => ∃ (j k : Nat), j <= ws.length /\ x = .int .i64 (j : Int) /\ wr = W6.drewN k) (fun x _ => ws.length - (intOf x).toNat)
 case atStart => exact ⟨0, 0, by omega, rfl, rfl⟩
 case round =>
  obtain ⟨j, k, hj, rfl, rfl⟩ := hrel
  by_cases hlt : j < ws.length
  ·obtain ⟨g, cpw, ev, hgB, hgl, hgc, hcell⟩ := HV6.out.at_ (by omega)
   obtain ⟨g2, cpw2, ev2, hgB2, hgl2, hgc2, hcell2⟩ := HU6.out.at_ (by omega)
   simp only [Value.slice.injEq, true_and] at ev ev2
   obtain ⟨rfl, rfl⟩ := ev
   obtain ⟨rfl, rfl⟩ := ev2
   have hc := hcell j hlt
   have hc2 := hcell2 j hlt
   clear hcell hcell2
   unfold uo at hc hc2
   generalize ws[j] = wd at *
   go_wp2
   go_quiet (fail)
   go_wp2
   go_roundw
   case rel => exact ⟨j + 1, k + nq, by omega, by go_num, by first | rfl | rw [World.drewN_drewN]⟩
   case measure => simp [intOf]; omega
  ·obtain rfl : j = ws.length := by omega
   go_wp2
   go_ret
   exact ⟨rfl, below_drewN HB6.out _⟩
theorem yB (w : World) (a : Option Addr) (cap : Nat) (xs : List UInt8) (hs : iG w a cap xs) (hL : o6 w) :
  Calls Tryz.prog 6 #[.slice a xs.length cap] w fun e w' => e = .returned (.bool true) /\ Below w.heap.size w w' := by
 have HSh : Bx _ := ⟨DN w hL.laid hL.size⟩
 have HP : ∀ W, Below w.heap.size w W -> Calls Tryz.prog 10 #[.slice a xs.length cap, .int .i64 65536] W (H7 W (fE xs 65536).1 (fE xs 65536).2.1 (fE xs 65536).2.2) := fun W hb => Ht W (hL.below hb).laid (hL.below hb).size a cap xs (hs.below hb) 65536
 by_cases h : (fE xs 65536).2.2 = 0
 ·obtain ⟨h0, t, s', hp, hR, hh⟩ := rT xs 65536 h
  obtain ⟨hc, ht⟩ := vH xs h0 _ _ _ hp
  obtain ⟨g1, g2, g3⟩ := pI xs h0 _ _ _ hp
  rw [hR] at HP
  simp only at HP
  have HT := fun W (hb : Below w.heap.size w W) => yt W a cap xs (hs.below hb) (hL.below hb).laid h0
  have hws : (fq xs (aA xs).1).length <= 65536 := by
   unfold fq
   rw [List.length_map]
   exact (lF xs h0).2.2
  generalize ag [t] 0 = l at *
  have hok : (bO l).2 = 0 := by rw [hc]
  have hl0 := (mi hok).2.1
  have hw : ∀ j, j < l.length -> I64 (ndN l j).num := fun j hj => by
   have e : ndN l j = l[j] := by unfold ndN; rw [List.getD_eq_getElem?_getD, List.getElem?_eq_getElem hj, Option.getD_some]
   rw [e]
   exact (g1 _ (List.getElem_mem hj)).num
  have hall := ED hok hw (l.length - 1) (by omega)
  have hcost := sW hok hw (l.length - 1) (by omega)
  have hpt : rV l = fG [] (gG l (l.length - 1)) := by unfold rV; rw [if_pos hok]
  have HPr := fun W na nc (hb : Below w.heap.size w W) (hn : dh W W.heap.size na nc l) => DV W W.heap.size na nc l hn (hL.below hb) (by omega)
  rw [hok, hpt] at HPr
  rw [ht] at hall hcost HPr
  generalize fq xs (aA xs).1 = ws at *
  have hlay := mY ws []
  have hwl := DT ws hall
  obtain ⟨s, hse⟩ : ∃ s : ByteArray, s = ⟨(fG [] ws).toArray⟩ := ⟨_, rfl⟩
  have hsl : s.data.toList = fG [] ws := by rw [hse]
  have hsz : s.size = (fG [] ws).length := by rw [← bl s, hsl]
  rw [← hse] at HPr
  by_cases h65 : 65536 < s.size
  ·exact yz w a xs.length cap l s h65 (by rw [hsz]; simp at hlay; omega) ws HSh ⟨HP⟩ ⟨HPr⟩ ⟨HT⟩
  ·refine yA w a xs.length cap l s h65 ws hws HSh ⟨HP⟩ ⟨HPr⟩ ⟨HT⟩ ⟨fun W hb => ?_⟩
   obtain ⟨q1, q2⟩ := hwl (by omega)
   have hb2 : Below W.heap.size W (Lib.bytesWorld W 5 s) := fO W s
   have hb3 := hb.trans (hb2.mono hb.size)
   have := yt (Lib.bytesWorld W 5 s) (some ⟨W.heap.size, 0, none⟩) (grownCap W s.size 0 5) s.data.toList ⟨fun _ => ⟨_, _, rfl, by rw [Lib.bytesWorld_size]; omega, sP W s⟩, by rw [bl]; exact grownCap_ge W s.size 0 5, by rw [bl]; unfold maxLen; omega⟩ (hL.below hb3).laid (by rw [hsl]; exact q1)
   rw [bl s, hsl, q2] at this
   refine this.mono ?_
   rintro e w' ⟨v, rfl, hv, hb4⟩
   exact ⟨v, _, rfl, hv, hb2.trans (hb4.mono hb2.size)⟩
 ·have he := lh xs 65536 h
  rw [he] at HP
  exact A8 w a xs.length cap _ _ (by simpa using h) HSh ⟨HP⟩
end Go.Proofs.YtecodpdfckjalaaGreatDoor
namespace Go.Proofs.YtecodpdfckjalaaGreatDoor
open Go.ChangeShapes Go.WideShapes Go.ChangeAt Go.RowKit
theorem own : ownKnob Tryz.prog.godebug = none := by kernel_rfl
def ul : List (String × DataW Unit) := [("math/bits.deBruijn32tab", Rows.laid_math_bits_deBruijn32tab), ("math/bits.deBruijn64tab", Rows.laid_math_bits_deBruijn64tab), ("internal/strconv.uint64pow10", Rows.laid_internal_strconv_uint64pow10), ("strconv.ErrRange", Rows.laid_strconv_ErrRange), ("strconv.ErrSyntax", Rows.laid_strconv_ErrSyntax), ("squint/scan.words", Rows.laid_squint_scan_words), ("squint/scan.signs", Rows.laid_squint_scan_signs)]
theorem FY (os : Os) (args : Array Value) : laidMetH Tryz.prog ul ((World.doorLaid Tryz.prog 400 os).forCall (fun _ _ => 0) ⟨#[], args, []⟩).memory :=
 laidMetH_of_parts3 (fuel := 8) (laidMet_of_run' 8 (by kernel_rfl) (by kernel_rfl)) (by kernel_rfl) (by kernel_rfl)
theorem JD : Tryz.prog.globalNamed "squint/scan.words" = some 1 := by kernel_rfl
theorem JE : Tryz.prog.globalNamed "squint/scan.signs" = some 0 := by kernel_rfl
theorem JF : Tryz.prog.globalNamed "strconv.ErrRange" = some 4 := by kernel_rfl
theorem JG : (Tryz.prog.globals[1]?).map (·.type) = some 108 := by kernel_rfl
theorem JH : (Tryz.prog.globals[0]?).map (·.type) = some 104 := by kernel_rfl
theorem JI : (Tryz.prog.globals[4]?).map (·.type) = some 99 := by kernel_rfl
theorem JJ : Tryz.prog.cellsOf 9 = 1 := by kernel_rfl
theorem lX {name : String} {T : List (List UInt8)} {rest : List (String × DataW Unit)} {W : World} {g n : Nat} {t : TypeId} (hg : Tryz.prog.globalNamed name = some g) (hty : (Tryz.prog.globals[g]?).map (·.type) = some t)
  (ht : Tryz.prog.underlying t = some (.array n 9)) (h : laidMet Tryz.prog ((name, .agg (T.map fun l => .lit (.string l))) :: rest) W) : TabAt W g T := by
 obtain ⟨ps, ⟨g0, t0, cs0, f0, p0, q0, hg0, ht0, hv0, hd0, _, e0⟩, _, _⟩ := h
 obtain rfl := Option.some.inj (hg.symm.trans hg0)
 obtain rfl := Option.some.inj (hty.symm.trans ht0)
 obtain ⟨xs, m, _, hx, _, hn, hel⟩ := DataW.trod_array ht hd0
 have hx1 : (T.map fun l => (DataW.lit (.string l) : DataW Unit)) = xs.map (·.1) := by
  have := congrArg Prod.fst hx
  simpa using this
 have hlen : T.length = n := by
  have := congrArg List.length hx1
  simp at this
  omega
 intro i hi
 have hc := World.var?_cell hg0 hv0 i
 rw [hc]
 have he := hel i (by omega)
 have hxi : i < xs.length := by omega
 rw [List.getElem?_eq_getElem hxi] at he
 obtain ⟨s, e1, e2, _⟩ := DataW.trod_string Tryz.underlying9 he
 rw [JJ, Nat.mul_one] at e1
 have h2 : (T.map fun l => (DataW.lit (.string l) : DataW Unit))[i]? = some (xs[i]).1 := by rw [hx1]; simp [hxi]
 rw [e2] at h2
 have hs : T.getD i [] = s.data.toList := by
  simp [List.getElem?_map, hi] at h2
  simp [List.getD, hi, h2]
 have h3 : cs0.toList[i]? = some (.string s) := by
  have := congrArg (·[0]?) e1
  simpa [List.getElem?_take, List.getElem?_drop] using this
 rw [hs]
 simpa using h3
theorem Ik (W : World) (h : laidMetH Tryz.prog ul W) : Laid W := by
 rw [MakeChecks.laidMetH_plain _ _ _ (by kernel_rfl)] at h
 have h3 : laidMet Tryz.prog (("strconv.ErrRange", Rows.laid_strconv_ErrRange) :: ("strconv.ErrSyntax", Rows.laid_strconv_ErrSyntax) :: ("squint/scan.words", Rows.laid_squint_scan_words) :: ("squint/scan.signs", Rows.laid_squint_scan_signs) :: []) W := h.tail.tail.tail
 have hw := h3.tail.tail
 have hs := hw.tail
 have hr : ∃ te pe, W.cell? ⟨4, 0, none⟩ = some (.iface te pe) := by
  obtain ⟨ps, ⟨g0, t0, cs0, f0, p0, q0, hg0, ht0, hv0, hd0, _, e0⟩, _, _⟩ := h3
  obtain rfl := Option.some.inj (JF.symm.trans hg0)
  obtain rfl := Option.some.inj (JI.symm.trans ht0)
  have hc := World.var?_cell hg0 hv0 0
  obtain ⟨f1, u, v, hcs, _, _⟩ := iface_of_trod Tryz.underlying99 hd0
  have : cs0[0]? = some (.iface u v) := by
   have := congrArg (·[0]?) hcs
   simpa using this
  exact ⟨u, v, by rw [hc]; exact this⟩
 refine ⟨lX JD JG Tryz.underlying108 hw, lX JE JH Tryz.underlying104 hs, hr, ?_⟩
 obtain ⟨te, pe, hc⟩ := hr
 exact World.block_lt_of_cell? W _ hc
end Go.Proofs.YtecodpdfckjalaaGreatDoor
namespace Go.Proofs.YtecodpdfckjalaaGreatDoor
open Go.ChangeShapes Go.WideShapes Go.ChangeAt Go.RowKit
section
variable {H : Type} {enc : TypeId × Value -> H} {W : World} {base : Nat} {sp : Nat -> Bool} {held : Bool}
end
end Go.Proofs.YtecodpdfckjalaaGreatDoor
namespace Go.Proofs.YtecodpdfckjalaaGreatDoor
open Go.ChangeShapes Go.WideShapes Go.ChangeAt Go.RowKit
theorem cells5 : Tryz.prog.cellsOf 5 = 1 := by kernel_rfl
theorem JK {H : Type} {enc : TypeId × Value -> H} {W : World} {base : Nat} {a : Option Addr} {len cap : Nat} {d : DataW H} {p : List MemPlace} {sp : Nat -> Bool} {held : Bool}
  (h : ∃ fuel, DataW.trod enc Tryz.prog W base sp held fuel 33 (Value.slice a len cap).cells.toList = some (d, p)) : ∃ xs : List UInt8, xs.length = len /\ iG W a cap xs := by
 obtain ⟨fuel, hf⟩ := h
 rcases open_ints Tryz.underlying33 Tryz.underlying5 cells5 hf with ⟨hcs, _⟩ | ⟨x, l, c, zs, hcs, _, hl, hm, hz, _, hcell, hwz⟩
 ·simp [Value.cells] at hcs
  obtain ⟨rfl, rfl, rfl⟩ := hcs
  exact ⟨[], rfl, fun h => absurd h (by simp), Nat.le_refl _, Nat.zero_le _⟩
 ·simp [Value.cells] at hcs
  obtain ⟨rfl, rfl, rfl⟩ := hcs
  have hz' : len <= zs.length := by rw [hz]; split <;> omega
  refine ⟨(zs.take len).map fun z => UInt8.ofNat z.toNat, by simp; omega, ?_, by simp; omega, by simp; omega⟩
  intro h0
  simp at h0
  obtain ⟨b, off, spot⟩ := x
  have hc0 := hcell 0 (by omega)
  have hspot : spot = none := by simpa [Addr.add] using World.cell?_spot hc0
  subst hspot
  refine ⟨b, off, rfl, ?_, ?_⟩
  ·have := World.block_lt_of_cell? W _ hc0
   simpa [Addr.add] using this
  ·intro i hi
   simp at hi
   have hi' : i < zs.length := by omega
   have hc := hcell i (by omega)
   have e : (⟨b, off, none⟩ : Addr).add i = ⟨b, off + i, none⟩ := by
    unfold Addr.add; split <;> simp_all
   rw [e] at hc
   rw [hc]
   have hw := hwz zs[i] (List.getElem_mem hi')
   obtain ⟨w0, w1⟩ := bounds_u8 hw
   simp [List.getD, hi']
   omega
theorem g64 : Tryz.prog.globalNamed "math/bits.deBruijn64tab" = some 6 := by kernel_rfl
theorem KY : Tryz.prog.globalNamed "internal/strconv.uint64pow10" = some 2 := by kernel_rfl
theorem FZ (W : World) (h : laidMetH Tryz.prog ul W) : o6 W := by
 refine ⟨Ik W h, ?_, ?_⟩
 ·rw [MakeChecks.laidMetH_plain _ _ _ (by kernel_rfl)] at h
  have h2 : laidMet Tryz.prog (("internal/strconv.uint64pow10", Rows.laid_internal_strconv_uint64pow10) :: ("strconv.ErrRange", Rows.laid_strconv_ErrRange) :: ("strconv.ErrSyntax", Rows.laid_strconv_ErrSyntax) :: ("squint/scan.words", Rows.laid_squint_scan_words) :: ("squint/scan.signs", Rows.laid_squint_scan_signs) :: []) W := h.tail.tail
  exact Lib.tabIs_of_head (t := 130) (e := 115) (n := 20) KY (by kernel_rfl) (by kernel_rfl) (by kernel_rfl) (by kernel_rfl) (by kernel_rfl) h2
 ·rw [MakeChecks.laidMetH_plain _ _ _ (by kernel_rfl)] at h
  obtain ⟨ps, ⟨g0, t0, cs0, f0, p0, q0, hg0, ht0, hv0, hd0, _, e0⟩, _, _⟩ := h.tail
  obtain rfl := Option.some.inj (g64.symm.trans hg0)
  unfold World.var? at hv0
  simp only [hg0, Option.bind_some] at hv0
  rcases Nat.lt_or_ge 6 W.heap.size with h' | h'
  ·omega
  ·rw [Array.getElem?_eq_none h'] at hv0
   simp at hv0
theorem A9 : laidOutB Tryz.prog = true := by kernel_rfl
theorem sF (os : Os) (started : os.Started) (H : Type) (enc : TypeId × Value -> H) :
  ReturnsInHanded {} Tryz.checked os 6 .any (fun w args => (Rows.parsePrintsSpec.pre enc Tryz.prog Tryz.f6 [] false w args /\ laidMetH Tryz.prog ul w) /\ sizedMet enc Tryz.prog Tryz.f6 (OpenSpec.ofChange Rows.parsePrintsSpec) false w args)
   (Rows.parsePrintsSpec.post enc Tryz.prog Tryz.f6 false true false false) := by
 refine returnsInHanded_of_change_and (C := Tryz.checked) (X := fun w _ => laidMetH Tryz.prog ul w) (fun _ _ _ hh h => h.of_heap hh) own started (by kernel_rfl) Tryz.func6
  (ChangeSpec.witness_shaped (enc := enc) (C := Tryz.checked) (os := os) (X := fun w _ => laidMetH Tryz.prog ul w) false (World.doorLaid Tryz.prog 400 os) #[.slice none 0 0] 8 rfl (World.shaped_of_RefB (by kernel_rfl) (by kernel_rfl)) (by kernel_rfl) (by kernel_rfl) (by kernel_rfl) (FY os _)) ?_
 intro W base args ds gs before hval0 hW _ hwt hL hsz
 have hval : ∀ (j : Nat) t v, Tryz.f6.params[j]? = some t -> args[j]? = some v -> Value.okWide Tryz.prog W .any base t v := hval0
 have hW' := hW
 obtain ⟨p, q, hA0, hV, rfl, hfz, hnd⟩ := hW
 have hA : DataW.TrodAll enc Tryz.prog W 0 (fun _ => true) true Tryz.f6.params.toList args.toList ds p := hA0
 rw [Tryz.params6] at hA hval
 obtain ⟨v0, vs0, d0, ds0, p0, q0, hargs, rfl, rfl, h0, r0⟩ := trodAll_cons hA
 obtain ⟨rfl, rfl, rfl⟩ := trodAll_nil r0
 obtain rfl : args = #[v0] := by cases args; simp_all
 obtain ⟨rfl, rfl⟩ := trodVars_none hV
 have k0 := h0
 have lt0 : ∀ x ∈ p0, x.block < W.heap.size := by obtain ⟨m, hm⟩ := k0; exact DataW.trod_lt m _ _ _ hm
 obtain ⟨a0, len0, cap0, rfl⟩ := okWide_slice Tryz.underlying33 (hval 0 33 v0 rfl rfl)
 obtain ⟨l0, hlen0, hn0⟩ := JK (show ∃ fuel, DataW.trod enc Tryz.prog W 0 (fun _ => true) true fuel 33 (Value.slice a0 len0 cap0).cells.toList = some (d0, p0) from k0)
 subst hlen0
 clear hA0 hval0 hwt
 refine (yB W a0 cap0 l0 hn0 (FZ W hL)).mono fun e W' ⟨he, bel⟩ => ?_
 subst he
 exact ⟨_, rfl, _, _, _, [], _, [], hW', trodAll_mk1 (shut_bool Tryz.underlying4 _), (trodAll_cons_mk (Below.trod A9 (by kernel_rfl) (of_decide_eq_true (by kernel_rfl)) k0 bel lt0) trodAll_mk0), rfl, bel.frame _, fun h => by cases h⟩
theorem yC : Rows.ParsePrintsSaid :=
 OpenClaim.holds_of_wide 6 Tryz.f6 rfl rfl rfl rfl rfl rfl rfl ⟨rfl, rfl, rfl, rfl, rfl⟩ rfl rfl rfl rfl rfl (by kernel_rfl) Tryz.func6 (by kernel_rfl)
  (of_decide_eq_true (by kernel_rfl)) (by unfold Func.isWrapper; first | (rw [if_pos (by decide +kernel)]; kernel_rfl) | (rw [if_neg (by decide +kernel)]; exact ⟨rfl, rfl⟩))
  (fun os started H enc _ => sF os started H enc)
theorem vJ (f : FuncId) (fn : Func) (hf : Tryz.pinned.checked.prog.funcNamed "squint/squintlaw03.ParsePrints" = some f) (hfn : Tryz.pinned.checked.prog.funcs[f]? = some fn) :
  true = Tryz.pinned.checked.prog.looks [] /\ ∀ (j : Nat) t, fn.params[j]? = some t -> Tryz.pinned.checked.prog.wantsStandIn t = false := by
 obtain rfl : f = 6 := Option.some.inj ((show Tryz.prog.funcNamed "squint/squintlaw03.ParsePrints" = some 6 by kernel_rfl).symm.trans hf) |>.symm
 obtain rfl : fn = Tryz.f6 := (Option.some.inj (Tryz.func6.symm.trans hfn)).symm
 refine ⟨by kernel_rfl, fun j t ht => ?_⟩
 rw [Tryz.params6] at ht
 have hm : t ∈ [33] := by simpa using Array.mem_of_getElem? ht
 have hall : ([33].all fun u => !Tryz.prog.wantsStandIn u) = true := by kernel_rfl
 exact (show Tryz.prog.wantsStandIn t = false by simpa using List.all_eq_true.1 hall t hm)
theorem parsePrints_holds : Rows.ParsePrintsCardSaid :=
 Claim7.holds_tied_plain_at .later [] _ _ _ _ yC (fun _ h => by cases h) (by kernel_rfl) (fun _ h => by cases h) parsePrints_row_tie rfl ⟨rfl, rfl⟩ (by kernel_rfl) rfl vJ (by kernel_rfl)
#print axioms parsePrints_holds
end Go.Proofs.YtecodpdfckjalaaGreatDoor
