import Derived.Test.YtecodpdfckjalaaGreatDoorBRPw
import Derived.Deep.RegionHeld
import Derived.Deep.QuietTactic
import Derived.BigQuiet
import Derived.Lib.SlBytesConst
import Derived.Deep.RegionHeld3
import Derived.Test.YtecodpdfckjalaaGreatDoorBCovQ
set_option linter.unusedVariables false
set_option linter.unusedSimpArgs false
set_option maxHeartbeats 4000000
set_option maxRecDepth 100000
namespace Go.Proofs.YtecodpdfckjalaaGreatDoor
open Go.RowKit
structure kD (w : World) (B : Nat) (a : Option Addr) (cap : Nat) (ks : List Int) : Prop where
 cap : ks.length <= cap
 max : ks.length <= maxLen
 at_ : 0 < ks.length -> ∃ b o, a = some ⟨b, o, none⟩ /\ b < B /\ ∀ i (h : i < ks.length), w.cell? ⟨b, o + i, none⟩ = some (.int .i64 ks[i])
theorem aO.w {w : World} {B : Nat} {a : Option Addr} {n cap : Nat} {ks : List Int} (h : aO w B (.slice a n cap) ks) : n = ks.length /\ kD w B a cap ks := by
 obtain ⟨a', c', e, h1, h2, h3⟩ := h.ex
 simp only [Value.slice.injEq] at e
 obtain ⟨rfl, rfl, rfl⟩ := e
 exact ⟨rfl, h1, h2, h3⟩
theorem Ey {α : Type} {xs ys : List α} {p : Nat} (h : xs.take p = ys.take p) (h1 : p < xs.length) (h2 : p < ys.length) (he : xs[p] = ys[p]) : xs.take (p + 1) = ys.take (p + 1) := by
 rw [List.take_succ_eq_append_getElem h1, List.take_succ_eq_append_getElem h2, h, he]
theorem oV (w : World) (B : Nat) (a1 a2 : Option Addr) (c1 c2 : Nat) (xs ys : List Int) (h1 : kD w B a1 c1 xs) (h2 : kD w B a2 c2 ys) :
  Calls Tryz.prog 15 #[.slice a1 xs.length c1, .slice a2 ys.length c2] w fun e w' => e = .returned (.bool (decide (xs = ys))) /\ ∃ k, w' = w.drewN k := by
 have hl1 := h1.max
 have hl2 := h2.max
 unfold maxLen at hl1 hl2
 by_cases hlen : xs.length = ys.length
 ·have HX : Bx _ := ⟨h1⟩
  have HY : Bx _ := ⟨h2⟩
  clear h1 h2
  generalize hn : xs.length = n at *
  have HN : Bx (xs.length = n /\ ys.length = n) := ⟨hn, hlen.symm⟩
  rw [← hlen] at hl2
  rw [← hlen]
  clear hn hlen
  go_enter Tryz.func15, Tryz.ntmps15
  go_wp2
  go_loopw [13] (fun x wr => ∃ p k : Nat, p <= n /\ x = .int .i64 p /\ wr = w.drewN k /\ Bx (xs.take p = ys.take p)) (fun x _ => n - (intOf x).toNat)
  case atStart => exact ⟨0, 0, Nat.zero_le _, rfl, rfl, ⟨rfl⟩⟩
  case round =>
   obtain ⟨p, k, hp, rfl, rfl, HR⟩ := hrel
   by_cases hlt : p < n
   ·have hp1 : p < xs.length := by rw [HN.out.1]; exact hlt
    have hp2 : p < ys.length := by rw [HN.out.2]; exact hlt
    obtain ⟨b1, o1, rfl, hb1, hcell1⟩ := HX.out.at_ (by omega)
    have hc1 := HX.out.cap
    rw [HN.out.1] at hc1
    obtain ⟨b2, o2, rfl, hb2, hcell2⟩ := HY.out.at_ (by omega)
    have hc2 := HY.out.cap
    rw [HN.out.2] at hc2
    have k1 := hcell1 p hp1
    have k2 := hcell2 p hp2
    by_cases he : xs[p] = ys[p]
    ·have HT : Bx _ := ⟨Ey HR.out hp1 hp2 he⟩
     rw [← he] at k2
     generalize xs[p] = z at *
     clear hcell1 hcell2 HR HX HY
     go_wp2
     go_quiet (fail)
     go_wp2
     go_roundw
     case rel => exact ⟨p + 1, k + nq, by omega, by go_num, by first | rfl | rw [World.drewN_drewN], HT⟩
     case measure => simp [intOf]; omega
    ·have hf : Bx (decide (xs = ys) = false) := ⟨decide_eq_false (fun e => he (by subst e; rfl))⟩
     have hz : (xs[p] != ys[p]) = true := by simpa using he
     generalize xs[p] = z at *
     generalize ys[p] = z2 at *
     clear hcell1 hcell2 HR HX HY
     go_wp2
     go_quiet (fail)
     go_wp2
     go_ret
     exact ⟨ek hf.out.symm, k + nq, by first | rfl | rw [World.drewN_drewN]⟩
   ·have hf : Bx (decide (xs = ys) = true) := ⟨decide_eq_true (by
     have := HR.out
     rw [List.take_of_length_le (by rw [HN.out.1]; omega), List.take_of_length_le (by rw [HN.out.2]; omega)] at this
     exact this)⟩
    clear HR HX HY HN
    go_wp2
    go_ret
    exact ⟨ek hf.out.symm, k, rfl⟩
 ·have hne : decide (xs = ys) = false := decide_eq_false (fun e => hlen (by rw [e]))
  rw [hne]
  have hne2 : ((xs.length : Int) != (ys.length : Int)) = true := by simp; omega
  clear h1 h2 hlen hne
  generalize xs.length = n1 at *
  generalize ys.length = n2 at *
  go_enter Tryz.func15, Tryz.ntmps15
  go_wp2
  go_ret
  exact ⟨rfl, 0, rfl⟩
structure ShC (W : World) (g cap : Nat) : Prop where
 k2 : W.cell? ⟨g, 10, none⟩ = some (.int .i64 22)
 k4 : W.cell? ⟨g, 20, none⟩ = some (.int .i64 22)
 s5 : W.cell? ⟨g, 28, none⟩ = some (.string ⟨#[120]⟩)
 hc : 7 <= cap
 lt : g < W.heap.size
theorem LD {W : World} {rb : Nat} {nv : Value} (h : eO (fun _ => False) W rb nv shN) : ∃ g cap a4 c4 a6 c6, nv = .slice (some ⟨g, 0, none⟩) 7 cap /\ ShC W g cap /\ W.cell? ⟨g, 22, none⟩ = some (.slice a4 2 c4) /\ kD W W.heap.size a4 c4 [2, 3] /\ W.cell? ⟨g, 32, none⟩ = some (.slice a6 1 c6) /\ kD W W.heap.size a6 c6 [5] := by
 have hwf : ∀ n ∈ shN, tu n := by
  intro n hn
  simp only [shN, List.mem_cons, List.not_mem_nil, or_false] at hn
  rcases hn with rfl | rfl | rfl | rfl | rfl | rfl | rfl <;> exact ⟨by unfold I64; decide, by unfold I64; decide, by unfold I64; decide, by unfold maxLen; decide, by unfold I64; decide⟩
 obtain ⟨a, cap, e, hn⟩ := qX h hwf (by decide) (by
  intro n hn
  simp only [shN, List.mem_cons, List.not_mem_nil, or_false] at hn
  rcases hn with rfl | rfl | rfl | rfl | rfl | rfl | rfl <;> decide)
 obtain ⟨g, o, rfl, hN⟩ := hn.at_ (by decide)
 have ho : o = 0 := by
  obtain ⟨ks, _, h2, _⟩ := h.ex
  rcases h2.2 with ⟨e', _⟩ | ⟨g', cap', cur', e', _⟩
  ·rw [e] at e'; simp at e'
  ·rw [e] at e'; simp at e'; exact e'.1.2
 subst ho
 obtain ⟨ka2, kc2, h2⟩ := hN.at_ 2 (by decide)
 obtain ⟨ka4, kc4, h4⟩ := hN.at_ 4 (by decide)
 obtain ⟨ka5, kc5, h5⟩ := hN.at_ 5 (by decide)
 obtain ⟨ka6, kc6, h6⟩ := hN.at_ 6 (by decide)
 exact ⟨g, cap, ka4, kc4, ka6, kc6, e, ⟨h2.c0, h4.c0, h5.c3, hN.cap, hN.lo⟩, h4.c2, (aO.w h4.kids).2, h6.c2, (aO.w h6.kids).2⟩
theorem xB (w W1 : World) (hL : Laid w) (h7 : 7 <= w.heap.size) (hW1 : w.alloc (.cells #[.int .u8 118, .int .u8 97, .int .u8 108, .int .u8 32, .int .u8 120, .int .u8 32, .int .u8 61, .int .u8 32, .int .u8 49, .int .u8 32, .int .u8 45, .int .u8 32, .int .u8 50, .int .u8 32, .int .u8 45, .int .u8 32, .int .u8 51, .int .u8 59] 5 (18, 19)) = W1) :
  Calls Tryz.prog 10 #[.slice (some ⟨w.heap.size, 0, none⟩) 18 18, .int .i64 9] W1 (CW W1 (shN, 0, 0)) /\ Below w.heap.size w W1 /\ W1.heap.size = w.heap.size + 1 := by
 have hh1 : W1.heap[w.heap.size]? = some (.cells #[.int .u8 118, .int .u8 97, .int .u8 108, .int .u8 32, .int .u8 120, .int .u8 32, .int .u8 61, .int .u8 32, .int .u8 49, .int .u8 32, .int .u8 45, .int .u8 32, .int .u8 50, .int .u8 32, .int .u8 45, .int .u8 32, .int .u8 51, .int .u8 59] 5 (18, 19)) := by rw [← hW1]; exact heap_alloc_new _ _
 have b1 : Below w.heap.size w W1 := by rw [← hW1]; exact ah _ _
 have hz1 : W1.heap.size = w.heap.size + 1 := by rw [← hW1]; simp
 have hsrc : jH W1 (some ⟨w.heap.size, 0, none⟩) 18 shX := ⟨fun _ => ⟨w.heap.size, 0, rfl, by omega, fun i hi => by
  have hi : i < 18 := hi
  match i, hi with
  | 0, _ | 1, _ | 2, _ | 3, _ | 4, _ | 5, _ | 6, _ | 7, _ | 8, _ | 9, _ | 10, _ | 11, _ | 12, _ | 13, _ | 14, _ | 15, _ | 16, _ | 17, _ => simp [World.cell?, hh1, shX]
  | n + 18, h => omega⟩, by decide, by unfold maxLen; decide⟩
 have HC := uy W1 (hL.below b1) (by omega) (some ⟨w.heap.size, 0, none⟩) 18 shX hsrc 9
 rw [shR] at HC
 exact ⟨HC, b1, hz1⟩
theorem kD.later {W X : World} {B : Nat} {a : Option Addr} {c : Nat} {xs : List Int} (h : kD W B a c xs) (hb : Below B W X) (hB : B <= X.heap.size) : kD X X.heap.size a c xs := by
 refine ⟨h.cap, h.max, fun h0 => ?_⟩
 obtain ⟨b, o, e, hlt, hc⟩ := h.at_ h0
 exact ⟨b, o, e, by omega, fun i hi => by rw [hb.cell (p := ⟨b, o + i, none⟩) hlt]; exact hc i hi⟩
theorem xC {W X : World} {a : Option Addr} {c g2 : Nat} {xs : List Int} (n : Nat) (hn : xs.length = n) (hm : n <= maxLen) (hI : kD W W.heap.size a c xs) (hb : Below W.heap.size W X) (hX : X.heap[g2]? = some (.cells (bM xs).toArray 3 (0, 0))) :
  Calls Tryz.prog 15 #[.slice a n c, .slice (some ⟨g2, 0, none⟩) n n] X fun e w' => e = .returned (.bool true) /\ Below X.heap.size X w' := by
 subst hn
 have h2 : kD X X.heap.size (some ⟨g2, 0, none⟩) xs.length xs := ⟨Nat.le_refl _, hm, fun _ => ⟨g2, 0, rfl, aY hX, fun i hi => by simp [World.cell?, hX, bM, hi]⟩⟩
 refine Calls.mono (oV X X.heap.size a (some ⟨g2, 0, none⟩) c xs.length xs xs (hI.later hb hb.size) h2) ?_
 rintro e w' ⟨rfl, k, rfl⟩
 exact ⟨by simp, below_drewN (Below.refl _ _) _⟩
theorem JW {w W1 W2 : World} {g : Nat} {a4 a6 : Option Addr} {c4 c6 : Nat} (b1 : Below w.heap.size w W1) (z1 : W1.heap.size = w.heap.size + 1) (b2 : Below W1.heap.size W1 W2) (hg : g < W2.heap.size) (s3 : W2.cell? ⟨g, 28, none⟩ = some (.string ⟨#[120]⟩)) (i4 : kD W2 W2.heap.size a4 c4 [2, 3]) (k6 : W2.cell? ⟨g, 32, none⟩ = some (.slice a6 1 c6)) (i6 : kD W2 W2.heap.size a6 c6 [5]) :
  ∀ X1, (W2.alloc (.cells #[.int .i64 0, .int .i64 0] 30)).alloc (.cells #[.int .i64 2, .int .i64 3] 3) = X1 ->
   Calls Tryz.prog 15 #[.slice a4 2 c4, .slice (some ⟨W2.heap.size + 1, 0, none⟩) 2 2] X1 (fun e w' => e = .returned (.bool true) /\ Below X1.heap.size X1 w') /\
   ∀ X2, Below X1.heap.size X1 X2 -> X2.cell? ⟨g, 28, none⟩ = some (.string ⟨#[120]⟩) /\ X2.cell? ⟨g, 32, none⟩ = some (.slice a6 1 c6) /\ g < X2.heap.size /\ W2.heap.size + 2 <= X2.heap.size /\
    ∀ X3, X2.alloc (.cells #[.int .i64 5] 3) = X3 -> Calls Tryz.prog 15 #[.slice a6 1 c6, .slice (some ⟨X2.heap.size, 0, none⟩) 1 1] X3 (fun e w' => e = .returned (.bool true) /\ Below w.heap.size w w') := by
 intro X1 hX1
 have bx : Below W2.heap.size W2 X1 := by rw [← hX1]; exact (ah W2 _).trans ((ah _ _).mono (by simp))
 have zx : X1.heap.size = W2.heap.size + 2 := by rw [← hX1]; simp
 have hx : X1.heap[W2.heap.size + 1]? = some (.cells (bM [2, 3]).toArray 3 (0, 0)) := by
  rw [← hX1]
  have := heap_alloc_new (W2.alloc (.cells #[.int .i64 0, .int .i64 0] 30)) (.cells #[.int .i64 2, .int .i64 3] 3)
  rw [show (W2.alloc (.cells #[.int .i64 0, .int .i64 0] 30)).heap.size = W2.heap.size + 1 by simp] at this
  exact this
 refine ⟨xC 2 rfl (by unfold maxLen; decide) i4 bx hx, fun X2 b3 => ?_⟩
 have hz3 := b3.size
 have b23 : Below W2.heap.size W2 X2 := bx.trans (b3.mono (by omega))
 refine ⟨by rw [b23.cell (p := ⟨g, 28, none⟩) hg]; exact s3, by rw [b23.cell (p := ⟨g, 32, none⟩) hg]; exact k6, by omega, by omega, fun X3 hX3 => ?_⟩
 have b4 : Below X2.heap.size X2 X3 := by rw [← hX3]; exact ah _ _
 have hy : X3.heap[X2.heap.size]? = some (.cells (bM [5]).toArray 3 (0, 0)) := by rw [← hX3]; exact heap_alloc_new _ _
 have hzz := b2.size
 have b24 : Below W2.heap.size W2 X3 := b23.trans (b4.mono (by omega))
 have hz4 := b24.size
 refine Calls.mono (xC 1 rfl (by unfold maxLen; decide) i6 b24 hy) ?_
 rintro e w' ⟨rfl, hb⟩
 exact ⟨rfl, b1.trans ((b2.mono (by omega)).trans ((b24.mono (by omega)).trans (hb.mono (by omega))))⟩
theorem CY (w : World) (hL : Laid w) (h7 : 7 <= w.heap.size) :
  Calls Tryz.prog 7 #[] w fun e w' => e = .returned (.bool true) /\ Below w.heap.size w w' := by
 have hcv := fun (w : World) (C : Array Value) (n c : Nat) => Lib.run_convert_bytes_const (P := Tryz.prog) w 33 5 C n c Tryz.underlying33 Tryz.underlying5
 have HP : Bx _ := ⟨fun W1 => xB w W1 hL h7⟩
 clear hL
 go_enter Tryz.func7, Tryz.ntmps7
 go_wp2_with (first
  | (go_at_call 10; obtain ⟨W1, hW1⟩ : ∃ W1, w.alloc (.cells #[.int .u8 118, .int .u8 97, .int .u8 108, .int .u8 32, .int .u8 120, .int .u8 32, .int .u8 61, .int .u8 32, .int .u8 49, .int .u8 32, .int .u8 45, .int .u8 32, .int .u8 50, .int .u8 32, .int .u8 45, .int .u8 32, .int .u8 51, .int .u8 59] 5 (18, 19)) = W1 := ⟨_, rfl⟩; have hp := HP.out W1 hW1; rw [hW1]; refine Calls.mono hp.1 ?_; clear hcv; rintro e W2 ⟨nv, rfl, hb, _, hx⟩; obtain ⟨rb, hrb, hno⟩ := hx rfl; obtain ⟨g, cap, a4, c4, a6, c6, rfl, hS, k4, i4, k6, i6⟩ := LD hno; obtain ⟨s1, s2, s3, s4, s5⟩ := hS; have HS : Bx _ := ⟨JW hp.2.1 hp.2.2 hb s5 s3 i4 k6 i6⟩; clear hb hx hno i4 i6 hrb hp hW1)
  | (go_at_call 15; obtain ⟨X1, hX1⟩ : ∃ X1, (W2.alloc (.cells #[.int .i64 0, .int .i64 0] 30)).alloc (.cells #[.int .i64 2, .int .i64 3] 3) = X1 := ⟨_, rfl⟩; rw [hX1]; have hq := HS.out X1 hX1; clear hX1; refine Calls.mono hq.1 ?_; rintro e X2 ⟨rfl, hb2⟩; obtain ⟨t1, t2, t3, t4, hc6⟩ := hq.2 X2 hb2; have HS6 : Bx _ := ⟨hc6⟩; clear s1 s2 s3 s5 k4 k6 HS hq hb2 hc6)
  | (go_at_call 15; obtain ⟨X3, hX3⟩ : ∃ X3, X2.alloc (.cells #[.int .i64 5] 3) = X3 := ⟨_, rfl⟩; rw [hX3]; have hq := HS6.out X3 hX3; clear hX3; refine Calls.mono hq ?_; rintro e X4 ⟨rfl, hb4⟩))
 go_ret
 exact ⟨rfl, hb4⟩
def mK (but : Bool) (x y : Nd) : Prop := x.kind = y.kind /\ x.kids = y.kids /\ x.name = y.name /\ x.num = y.num /\ (but = false -> x.pos = y.pos)
theorem mK.refl (but : Bool) (x : Nd) : mK but x x := ⟨rfl, rfl, rfl, rfl, fun _ => rfl⟩
theorem JX (wr : World) (a0 a1 a2 a3 a4 b0 b1 b2 b3 b4 : Value) (X : World) (h : ((wr.alloc (.cells #[a0, a1, a2, a3, a4] 44)).alloc (.cells #[b0, b1, b2, b3, b4] 44)).drew = X) :
  (X.cell? ⟨wr.heap.size, 0, none⟩ = some a0 /\ X.cell? ⟨wr.heap.size, 1, none⟩ = some a1 /\ X.cell? ⟨wr.heap.size, 2, none⟩ = some a2 /\ X.cell? ⟨wr.heap.size, 3, none⟩ = some a3 /\ X.cell? ⟨wr.heap.size, 4, none⟩ = some a4) /\
  (X.cell? ⟨wr.heap.size + 1, 0, none⟩ = some b0 /\ X.cell? ⟨wr.heap.size + 1, 1, none⟩ = some b1 /\ X.cell? ⟨wr.heap.size + 1, 2, none⟩ = some b2 /\ X.cell? ⟨wr.heap.size + 1, 3, none⟩ = some b3 /\ X.cell? ⟨wr.heap.size + 1, 4, none⟩ = some b4) /\ Below wr.heap.size wr X := by
 have z : (wr.alloc (.cells #[a0, a1, a2, a3, a4] 44)).heap.size = wr.heap.size + 1 := by simp
 have h1 : (wr.alloc (.cells #[a0, a1, a2, a3, a4] 44)).heap[wr.heap.size]? = some (.cells #[a0, a1, a2, a3, a4] 44 (0, 0)) := heap_alloc_new _ _
 have h2 : X.heap[wr.heap.size + 1]? = some (.cells #[b0, b1, b2, b3, b4] 44 (0, 0)) := by
  rw [← h, ← z]
  exact heap_alloc_new (wr.alloc (.cells #[a0, a1, a2, a3, a4] 44)) _
 have b : Below wr.heap.size wr X := by
  rw [← h]
  exact ((ah wr _).trans ((ah _ _).mono (by simp))).drew
 have h3 : X.heap[wr.heap.size]? = some (.cells #[a0, a1, a2, a3, a4] 44 (0, 0)) := by
  rw [← h]
  exact ((ah (wr.alloc (.cells #[a0, a1, a2, a3, a4] 44)) (.cells #[b0, b1, b2, b3, b4] 44)).block wr.heap.size (by simp)).trans h1
 refine ⟨⟨?_, ?_, ?_, ?_, ?_⟩, ⟨?_, ?_, ?_, ?_, ?_⟩, b⟩ <;> simp [World.cell?, h2, h3]
theorem Ah (w : World) (B nb no nc mb mo mc : Nat) (l m : List Nd) (hl : gG w B nb no nc l) (hm : gG w B mb mo mc m) (but : Bool) (hlen : l.length = m.length) (hs : ∀ p, p < l.length -> mK but (ndN l p) (ndN m p)) :
  Calls Tryz.prog 11 #[.slice (some ⟨nb, no, none⟩) l.length nc, .slice (some ⟨mb, mo, none⟩) m.length mc, .bool but] w fun e w' => e = .returned (.bool true) /\ Below w.heap.size w w' := by
 have hl1 := hl.max
 have hc1 := hl.cap
 have hc2 := hm.cap
 unfold maxLen at hl1
 rw [← hlen] at hc2 ⊢
 have HX : Bx _ := ⟨hl⟩
 have HY : Bx _ := ⟨hm⟩
 have HS0 : Bx _ := ⟨hs⟩
 have HN : Bx (l.length = m.length) := ⟨hlen⟩
 have hB := hl.hi
 have hnb := hl.lo
 have hmb := hm.lo
 clear hl hm hs hlen
 generalize hn : l.length = n at *
 have HNN : Bx (l.length = n) := ⟨hn⟩
 clear hn
 go_enter Tryz.func11, Tryz.ntmps11
 go_wp2
 go_loopw [17] (fun x wr => ∃ p : Nat, p <= n /\ x = .int .i64 p /\ Bx (Below w.heap.size w wr)) (fun x _ => n - (intOf x).toNat)
 case atStart => exact ⟨0, Nat.zero_le _, rfl, ⟨Below.refl _ _⟩⟩
 case round =>
  obtain ⟨p, hp, rfl, HS⟩ := hrel
  by_cases hlt : p < n
  ·have hp1 : p < l.length := by rw [HNN.out]; exact hlt
   have hp2 : p < m.length := by rw [← HN.out]; exact hlt
   have hsz := HS.out.size
   obtain ⟨ka, kc, hA⟩ := (HX.out.below (HS.out.mono hB)).at_ p hp1
   obtain ⟨ka2, kc2, hA2⟩ := (HY.out.below (HS.out.mono hB)).at_ p hp2
   have hsm := HS0.out p hlt
   generalize ndN l p = u at *
   generalize ndN m p = v at *
   obtain ⟨ukd, ups, uks, unm, unum⟩ := u
   obtain ⟨vkd, vps, vks, vnm, vnum⟩ := v
   obtain ⟨e1, e2, e3, e4, e5⟩ := hsm
   simp only at e1 e2 e3 e4 e5
   subst e1 e2 e3 e4
   have HC : Bx (∀ W, Below wr.heap.size wr W -> Calls Tryz.prog 15 #[.slice ka uks.length kc, .slice ka2 uks.length kc2] W fun e w' => e = .returned (.bool true) /\ Below W.heap.size W w') := ⟨fun W hb => by
    have i1 : aO W B (.slice ka uks.length kc) uks := hA.kids.below (hb.mono (by omega))
    have i2 : aO W B (.slice ka2 uks.length kc2) uks := hA2.kids.below (hb.mono (by omega))
    refine Calls.mono (oV W B ka ka2 kc kc2 uks uks (aO.w i1).2 (aO.w i2).2) ?_
    rintro e w' ⟨rfl, k, rfl⟩
    exact ⟨by simp, below_drewN (Below.refl _ _) _⟩⟩
   have HB9 : Bx (∀ W, Below wr.heap.size wr W -> Below w.heap.size w W) := ⟨fun W hb => HS.out.trans (hb.mono hsz)⟩
   have x0 := hA.c0
   have x1 := hA.c1
   have x2 := hA.c2
   have x3 := hA.c3
   have x4 := hA.c4
   have y0 := hA2.c0
   have y1 := hA2.c1
   have y2 := hA2.c2
   have y3 := hA2.c3
   have y4 := hA2.c4
   simp only at x0 x1 x2 x3 x4 y0 y1 y2 y3 y4
   have HA : Bx _ := ⟨hA⟩
   clear hA hA2 HX HY HS HS0 HN HNN hp1 hp2
   generalize uks.length = lx at *
   have n1 := World.new_ne wr _ x0
   have n2 := World.new_ne wr _ y0
   go_wp2_with fail
   go_region_held3 (fun w' => (w'.cell? ⟨nb, no + p * 5, none⟩ = some (.int .i64 ukd) /\ w'.cell? ⟨nb, no + p * 5 + 1, none⟩ = some (.int .i64 ups) /\ w'.cell? ⟨nb, no + p * 5 + 2, none⟩ = some (.slice ka lx kc) /\ w'.cell? ⟨nb, no + p * 5 + 3, none⟩ = some (.string unm) /\ w'.cell? ⟨nb, no + p * 5 + 4, none⟩ = some (.int .i64 unum)) /\ (w'.cell? ⟨mb, mo + p * 5, none⟩ = some (.int .i64 ukd) /\ w'.cell? ⟨mb, mo + p * 5 + 1, none⟩ = some (.int .i64 vps) /\ w'.cell? ⟨mb, mo + p * 5 + 2, none⟩ = some (.slice ka2 lx kc2) /\ w'.cell? ⟨mb, mo + p * 5 + 3, none⟩ = some (.string unm) /\ w'.cell? ⟨mb, mo + p * 5 + 4, none⟩ = some (.int .i64 unum)))
    (go_keep)
    (fail)
   all_goals
    generalize hX : ((wr.alloc _).alloc _).drew = X
    obtain ⟨⟨c0, c1, c2, c3, c4⟩, ⟨d0, d1, d2, d3, d4⟩, bX⟩ := JX wr _ _ _ _ _ _ _ _ _ _ X hX
    have HBX : Bx _ := ⟨bX⟩
    clear hX bX x0 x1 x2 x3 x4 y0 y1 y2 y3 y4
    by_cases hpos : ups = vps
    ·subst hpos
     go_wp2_with (first | (go_at_call 15; refine Calls.mono (HC.out _ HBX.out) ?_; rintro e w5 ⟨rfl, hb5⟩; have HB5 : Bx _ := ⟨HB9.out _ (HBX.out.trans (hb5.mono HBX.out.size))⟩; clear hb5))
     go_roundw
     case rel => exact ⟨p + 1, by omega, by go_num, HB5⟩
     case measure => simp [intOf]; omega
    ·obtain rfl : but = true := by
      cases but with
      | true => rfl
      | false => exact absurd (e5 rfl) hpos
     have hne : (ups != vps) = true := by simpa using hpos
     go_wp2_with (first | (go_at_call 15; refine Calls.mono (HC.out _ HBX.out) ?_; rintro e w5 ⟨rfl, hb5⟩; have HB5 : Bx _ := ⟨HB9.out _ (HBX.out.trans (hb5.mono HBX.out.size))⟩; clear hb5))
     go_roundw
     case rel => exact ⟨p + 1, by omega, by go_num, HB5⟩
     case measure => simp [intOf]; omega
  ·go_wp2
   go_ret
   exact ⟨rfl, HS.out⟩
mutual
def Tr.ht : Tr -> Nat
 | .mk _ _ _ _ ks => hts ks + 1
def hts : List Tr -> Nat
 | [] => 0
 | t :: r => max t.ht (hts r)
end
mutual
def hl : Tr -> List Nat
 | .mk _ _ _ _ ks => hls ks ++ [hts ks + 1]
def hls : List Tr -> List Nat
 | [] => []
 | t :: r => hl t ++ hls r
end
mutual
theorem Ai : ∀ (t : Tr), (hl t).length = t.size
 | .mk k p n nm ks => by
  rw [hl, Tr.size, List.length_append, vQ ks]
  rfl
theorem vQ : ∀ (ts : List Tr), (hls ts).length = sizes ts
 | [] => rfl
 | t :: r => by
  rw [hls, sizes, List.length_append, Ai t, vQ r]
end
mutual
theorem LF : ∀ (t : Tr), ∀ h ∈ hl t, h <= t.ht
 | .mk k p n nm ks, h, hh => by
  rw [hl] at hh
  rw [Tr.ht]
  rcases List.mem_append.1 hh with hh | hh
  ·have := Aj ks h hh
   omega
  ·have := List.mem_singleton.1 hh
   omega
theorem Aj : ∀ (ts : List Tr), ∀ h ∈ hls ts, h <= hts ts
 | [], h, hh => by simp [hls] at hh
 | t :: r, h, hh => by
  rw [hls] at hh
  rw [hts]
  rcases List.mem_append.1 hh with hh | hh
  ·have := LF t h hh
   omega
  ·have := Aj r h hh
   omega
end
theorem GA (t : Tr) : ∃ r, hl t = r ++ [t.ht] := by
 cases t with
 | mk k p n nm ks => exact ⟨hls ks, by rw [hl, Tr.ht]⟩
theorem xD : ∀ (ks : List Tr) (A : List Nat) (t : Nat), iC (A ++ hls ks) (ends ks A.length) t = max t (hts ks)
 | [], A, t => by simp [ends, iC, hts]
 | x :: r, A, t => by
  obtain ⟨q, hq⟩ := GA x
  have hz := Ai x
  have hp := mY x
  have ih := xD r (A ++ hl x) (max t x.ht)
  rw [List.length_append, hz] at ih
  rw [ends, iC, hls, hts, ← List.append_assoc]
  have e1 : ((A ++ hl x) ++ hls r).getD (((A.length + x.size - 1 : Nat) : Int)).toNat 0 = x.ht := by
   have hql : q.length + 1 = x.size := by rw [← hz, hq]; simp
   rw [Int.toNat_natCast, show A.length + x.size - 1 = A.length + q.length by omega, hq, List.getD_eq_getElem?_getD, List.append_assoc, List.getElem?_append_right (by omega), show A.length + q.length - A.length = q.length by omega, List.append_assoc, List.getElem?_append_right (by omega)]
   simp
  rw [if_pos ⟨by omega, by simp only [List.length_append, hz]; omega⟩, e1, ih]
  omega
mutual
theorem GD : ∀ (t : Tr) (A B : List Nd) (hs : List Nat) (n : Nat), hs.length = A.length -> fB (A ++ flat t A.length ++ B) (t.size + n) hs = fB (A ++ flat t A.length ++ B) n (hs ++ hl t)
 | .mk k p m nm ks, A, B, hs, n, hh => by
  have ih := rf ks A ([⟨k, p, ends ks A.length, ⟨nm.toArray⟩, m⟩] ++ B) hs (n + 1) hh
  simp only [flat, Tr.size, hl] at ih ⊢
  have e : ∀ (X Y Z : List Nd), A ++ (X ++ Y) ++ Z = A ++ X ++ (Y ++ Z) := fun X Y Z => by simp [List.append_assoc]
  rw [e, show sizes ks + 1 + n = sizes ks + (n + 1) by omega, ih, fB]
  congr 1
  rw [List.append_assoc]
  congr 1
  have hlen : (hs ++ hls ks).length = (A ++ ag ks A.length).length := by simp [vQ, dU, hh]
  have en : ndN (A ++ ag ks A.length ++ ([⟨k, p, ends ks A.length, ⟨nm.toArray⟩, m⟩] ++ B)) (hs ++ hls ks).length = ⟨k, p, ends ks A.length, ⟨nm.toArray⟩, m⟩ := by
   rw [hlen]
   unfold ndN
   rw [List.getD_eq_getElem?_getD, List.getElem?_append_right (Nat.le_refl _)]
   simp
  rw [en]
  simp only
  rw [← hh, xD ks hs 0]
  simp
theorem rf : ∀ (ts : List Tr) (A B : List Nd) (hs : List Nat) (n : Nat), hs.length = A.length -> fB (A ++ ag ts A.length ++ B) (sizes ts + n) hs = fB (A ++ ag ts A.length ++ B) n (hs ++ hls ts)
 | [], A, B, hs, n, hh => by simp [ag, sizes, hls]
 | t :: r, A, B, hs, n, hh => by
  have i1 := GD t A (ag r (A.length + t.size) ++ B) hs (sizes r + n) hh
  have i2 := rf r (A ++ flat t A.length) B (hs ++ hl t) n (by simp [Ai, mX, hh])
  have e1 : (A ++ flat t A.length).length = A.length + t.size := by simp [mX]
  rw [e1] at i2
  have e : A ++ ag (t :: r) A.length ++ B = A ++ flat t A.length ++ (ag r (A.length + t.size) ++ B) := by rw [ag]; simp [List.append_assoc]
  have e' : A ++ flat t A.length ++ ag r (A.length + t.size) ++ B = A ++ flat t A.length ++ (ag r (A.length + t.size) ++ B) := by simp [List.append_assoc]
  rw [e'] at i2
  rw [e, sizes, hls, show t.size + sizes r + n = t.size + (sizes r + n) by omega, i1, i2, List.append_assoc hs]
end
theorem tH (ts : List Tr) : dK (ag ts 0) = hls ts := by
 have h := rf ts [] [] [] 0 rfl
 simp only [List.nil_append, List.append_nil, List.length_nil, Nat.add_zero] at h
 unfold dK
 rw [dU, h]
 rfl
theorem AY (l : List Nd) (nest : Int) : ∀ (hs : List Nat) (i : Nat), (∀ h ∈ hs, (h : Int) <= nest) -> kg l nest hs i = (0, 0)
 | [], i, _ => rfl
 | h :: r, i, hh => by
  have := hh h (List.mem_cons_self ..)
  rw [kg, if_neg (by omega)]
  exact AY l nest r (i + 1) (fun x hx => hh x (List.mem_cons_of_mem _ hx))
theorem xE {f : Nat} {s s' : List ai} {ts : List Tr} (h : pF (f + 1) .program s = .ok ts s') : ∃ t, ts = [t] := by
 simp only [pF, body] at h
 match h1 : pF f .types s with
 | .out => rw [h1] at h; simp [aC] at h
 | .err _ => rw [h1] at h; simp [aC] at h
 | .ok a s1 =>
  rw [h1] at h
  simp only [aC] at h
  match h2 : pF f .tops s1 with
  | .out => rw [h2] at h; simp at h
  | .err _ => rw [h2] at h; simp at h
  | .ok b s2 =>
   rw [h2] at h
   simp only [Res.ok.injEq] at h
   exact ⟨_, h.1.symm⟩
theorem oW (xs : List UInt8) (nest : Int) (h : (fP xs nest).2.2 ≠ 0) : (fP xs nest).1 = [] := by
 unfold fP at h ⊢
 by_cases h0 : (aB xs).2.2 = 0
 ·rw [if_neg (fun h => h h0)] at h ⊢
  match hR : pF (iL (aB xs).1.length + 1) .program (pts xs (aW (aB xs).1 xs.length) 0) with
  | .out => rfl
  | .err s' => rfl
  | .ok ts s' =>
   rw [hR] at h
   simp only at h ⊢
   split at h
   ·rename_i h1
    rw [if_pos h1]
   ·simp at h
 ·rw [if_pos h0]
theorem Ak (xs : List UInt8) (nest : Int) (h : (fP xs nest).2.2 = 0) : (aB xs).2.2 = 0 /\ ∃ t s', pF (iL (aB xs).1.length + 1) .program (pts xs (aW (aB xs).1 xs.length) 0) = .ok [t] s' /\ fP xs nest = (ag [t] 0, 0, 0) /\ kg (ag [t] 0) nest (dK (ag [t] 0)) 0 = (0, 0) := by
 unfold fP at h ⊢
 by_cases h0 : (aB xs).2.2 = 0
 ·rw [if_neg (fun h => h h0)] at h ⊢
  refine ⟨h0, ?_⟩
  have hne := nJ xs h0
  match hR : pF (iL (aB xs).1.length + 1) .program (pts xs (aW (aB xs).1 xs.length) 0) with
  | .out => exact absurd hR hne
  | .err s' => rw [hR] at h; simp at h
  | .ok ts s' =>
   obtain ⟨t, rfl⟩ := xE hR
   rw [hR] at h
   simp only at h ⊢
   split at h
   ·rename_i h1
    exact absurd h h1
   ·rename_i h1
    rw [if_neg h1]
    refine ⟨t, s', rfl, rfl, ?_⟩
    exact vP _ _ _ _ (by simpa using h1)
 ·rw [if_pos h0] at h
  exact absurd h (by simp only; omega)
theorem Ez (xs : List UInt8) (nest : Int) : (∀ n ∈ (fP xs nest).1, tu n) /\ (fP xs nest).1.length <= 200000 /\ ∀ n ∈ (fP xs nest).1, n.kids.length <= 200000 := by
 by_cases h : (fP xs nest).2.2 = 0
 ·obtain ⟨h0, t, s', hR, e, _⟩ := Ak xs nest h
  rw [e]
  exact vN xs h0 _ [t] s' hR
 ·rw [oW xs nest h]
  exact ⟨fun n hn => by simp at hn, by simp, fun n hn => by simp at hn⟩
def MS (w : World) (R : List Nd × Int × Int) (e : Ending) (w' : World) : Prop :=
 ∃ a cap, e = .returned (.tuple #[.slice a R.1.length cap, .agg #[.int .i64 R.2.1, .int .i64 R.2.2]]) /\ Below w.heap.size w w' /\ cK w' w'.heap.size a cap R.1
theorem GG (w : World) (hL : Laid w) (h7 : 7 <= w.heap.size) (a : Option Addr) (cap : Nat) (xs : List UInt8) (hs : jH w a cap xs) (nest : Int) :
  Calls Tryz.prog 10 #[.slice a xs.length cap, .int .i64 nest] w (MS w (fP xs nest)) := by
 refine Calls.mono (uy w hL h7 a cap xs hs nest) ?_
 rintro e w' ⟨nv, rfl, hb, h1, h2⟩
 by_cases h : (fP xs nest).2.2 = 0
 ·obtain ⟨rb, _, hno⟩ := h2 h
  obtain ⟨g1, g2, g3⟩ := Ez xs nest
  obtain ⟨a', c', rfl, hn⟩ := qX hno g1 g2 g3
  exact ⟨a', c', rfl, hb, hn⟩
 ·have e0 := oW xs nest h
  refine ⟨none, 0, ?_, hb, ?_⟩
  ·rw [h1 h, e0]; rfl
  ·rw [e0]; exact ⟨fun h => absurd h (by simp), Nat.le_refl _⟩
theorem CZ (w : World) (B : Nat) (a b : Option Addr) (ca cb : Nat) (l m : List Nd) (hl : cK w B a ca l) (hm : cK w B b cb m) (but : Bool) (hlen : l.length = m.length) (hs : ∀ p, p < l.length -> mK but (ndN l p) (ndN m p)) :
  Calls Tryz.prog 11 #[.slice a l.length ca, .slice b m.length cb, .bool but] w fun e w' => e = .returned (.bool true) /\ Below w.heap.size w w' := by
 by_cases h0 : 0 < l.length
 ·obtain ⟨nb, no, rfl, h1⟩ := hl.at_ h0
  obtain ⟨mb, mo, rfl, h2⟩ := hm.at_ (by omega)
  exact Ah w B nb no ca mb mo cb l m h1 h2 but hlen hs
 ·have e1 : l.length = 0 := by omega
  have e2 : m.length = 0 := by omega
  rw [e1, e2]
  clear hl hm hs e1 e2 hlen h0
  go_enter Tryz.func11, Tryz.ntmps11
  go_wp2
  refine wp_loop_rounds 1 ?_
  rw [rounds_succ]
  go_wp2
  go_ret
  exact ⟨rfl, Below.refl _ _⟩
theorem AZ (pre s z : List UInt8) : cut (pre ++ (s ++ z)) pre.length (pre.length + s.length) = s := by
 unfold cut
 rw [List.drop_left, show pre.length + s.length - pre.length = s.length by omega, List.take_left]
def ndS (n : Nd) : Nd := ⟨n.kind, 0, n.kids, n.name, n.num⟩
mutual
theorem Al : ∀ (t : Tr), (tS t).size = t.size
 | .mk k p n m ks => by simp only [tS, Tr.size, A7 ks]
theorem A7 : ∀ (ts : List Tr), sizes (tsS ts) = sizes ts
 | [] => rfl
 | t :: r => by simp only [tsS, sizes, Al t, A7 r]
end
theorem EA : ∀ (ts : List Tr) (o : Nat), ends (tsS ts) o = ends ts o
 | [], o => rfl
 | t :: r, o => by simp only [tsS, ends, Al t, EA r]
mutual
theorem JY : ∀ (t : Tr) (o : Nat), flat (tS t) o = (flat t o).map ndS
 | .mk k p n m ks, o => by
  simp only [tS, flat, pQ ks, EA, List.map_append, List.map_cons, List.map_nil]
  rfl
theorem pQ : ∀ (ts : List Tr) (o : Nat), ag (tsS ts) o = (ag ts o).map ndS
 | [], o => rfl
 | t :: r, o => by simp only [tsS, ag, JY t, pQ r, Al, List.map_append]
end
theorem JZ {a b : List Nd} (h : a.map ndS = b.map ndS) : a.length = b.length /\ ∀ p, p < a.length -> mK true (ndN a p) (ndN b p) := by
 have hl : a.length = b.length := by simpa using congrArg List.length h
 refine ⟨hl, fun p hp => ?_⟩
 have e := congrArg (·[p]?) h
 simp only [List.getElem?_map, List.getElem?_eq_getElem hp, List.getElem?_eq_getElem (hl ▸ hp), Option.map_some, Option.some.injEq] at e
 have e1 : ndN a p = a[p] := by simp [ndN, hp]
 have e2 : ndN b p = b[p]'(hl ▸ hp) := by simp [ndN, hl ▸ hp]
 rw [e1, e2]
 simp only [ndS, Nd.mk.injEq, true_and] at e
 exact ⟨e.1, e.2.1, e.2.2.1, e.2.2.2, fun h => by cases h⟩
end Go.Proofs.YtecodpdfckjalaaGreatDoor
namespace Go.Proofs.YtecodpdfckjalaaGreatDoor
theorem LG {t : ai} {rest : List ai} (ht : t.kind = 19) : P .typ (t :: rest) [.mk 1 t.place 0 [] []] rest := by
 refine cB ?_
 simp only [body]
 have hk : kd (t :: rest) = t.kind := rfl
 refine bW (by omega) ?_
 exact fA
theorem J2 {t : ai} {rest : List ai} (ht : t.kind = 12) : P .typ (t :: rest) [.mk 2 t.place 0 [] []] rest := by
 refine cB ?_
 simp only [body]
 have hk : kd (t :: rest) = t.kind := rfl
 refine aM (by omega) ?_
 refine bW (by omega) ?_
 exact fA
theorem GH {t u : ai} {s rest : List ai} {a : List Tr} (ht : t.kind = 10) (hu : u.kind = 22) (g0 : P .typ s a rest) : P .typ (t :: u :: s) [.mk 4 t.place 0 [] a] rest := by
 refine cB ?_
 simp only [body]
 have hk : kd (t :: u :: s) = t.kind := rfl
 refine aM (by omega) ?_
 refine aM (by omega) ?_
 refine bW (by omega) ?_
 refine aT (by assumption) ?_
 refine aT (by assumption) ?_
 refine bn (by assumption) ?_
 exact fA
theorem J3 {t : ai} {s rest : List ai} {a : List Tr} (ht : t.kind = 14) (g0 : P .chanT (t :: s) a rest) : P .typ (t :: s) a rest := by
 refine cB ?_
 simp only [body]
 have hk : kd (t :: s) = t.kind := rfl
 refine aM (by omega) ?_
 refine aM (by omega) ?_
 refine aM (by omega) ?_
 refine bW (by omega) ?_
 exact Q_P (by assumption)
theorem GI {t u : ai} {s rest : List ai} {a : List Tr} (ht : t.kind = 14) (hu : u.kind = 22) (g0 : P .typ s a rest) : P .chanT (t :: u :: s) [.mk 6 t.place 0 [] a] rest := by
 refine cB ?_
 simp only [body]
 have hk : kd (t :: u :: s) = t.kind := rfl
 refine aT (by assumption) ?_
 refine aT (by assumption) ?_
 refine bn (by assumption) ?_
 exact fA
theorem GJ {t u v : ai} {s s1 rest : List ai} {a b : List Tr} (ht : t.kind = 40) (hu : u.kind = 46) (hv : v.kind = 41) (g0 : P .typ s a (u :: s1)) (g1 : P (.parted .typ) s1 b (v :: rest)) : P .typ (t :: s) [.mk 5 t.place 0 [] (a ++ b)] rest := by
 refine cB ?_
 simp only [body]
 have hk : kd (t :: s) = t.kind := rfl
 refine aM (by omega) ?_
 refine aM (by omega) ?_
 refine aM (by omega) ?_
 refine aM (by omega) ?_
 refine bW (by omega) ?_
 refine aT (by assumption) ?_
 refine bn (by assumption) ?_
 refine aT (by assumption) ?_
 refine bn (by assumption) ?_
 refine aT (by assumption) ?_
 exact fA
theorem A8 {t : ai} {s s1 rest : List ai} {a b : List Tr} (ht : t.kind = 23) (g0 : P (.listed .typ) s a s1) (g1 : P .result s1 b rest) : P .typ (t :: s) [.mk 7 t.place b.length [] (a ++ b)] rest := by
 refine cB ?_
 simp only [body]
 have hk : kd (t :: s) = t.kind := rfl
 refine aM (by omega) ?_
 refine aM (by omega) ?_
 refine aM (by omega) ?_
 refine aM (by omega) ?_
 refine aM (by omega) ?_
 refine bW (by omega) ?_
 refine aT (by assumption) ?_
 refine bn (by assumption) ?_
 refine bn (by assumption) ?_
 exact fA
theorem GK {t : ai} {rest : List ai} (ht : t.kind = 1) : P .typ (t :: rest) [.mk 3 t.place 0 t.name []] rest := by
 refine cB ?_
 simp only [body]
 have hk : kd (t :: rest) = t.kind := rfl
 refine aM (by omega) ?_
 refine aM (by omega) ?_
 refine aM (by omega) ?_
 refine aM (by omega) ?_
 refine aM (by omega) ?_
 refine aM (by omega) ?_
 refine jT (by assumption) ?_
 exact fA
theorem A9  {o : One} {s rest : List ai} {a : List Tr} (g0 : P (.of o) s a rest) (g1 : kd rest ≠ 46) : P (.parted o) (s) a rest := by
 refine cB ?_
 simp only [body]
 refine bn (by assumption) ?_
 refine aM (by omega) ?_
 exact lK _ _
theorem GL {t : ai} {o : One} {s s1 rest : List ai} {a b : List Tr} (ht : t.kind = 46) (g0 : P (.of o) s a (t :: s1)) (g1 : P (.parted o) s1 b rest) : P (.parted o) (s) (a ++ b) rest := by
 refine cB ?_
 simp only [body]
 have hk2 : kd (t :: s1) = t.kind := rfl
 refine bn (by assumption) ?_
 refine bW (by omega) ?_
 refine bn (by assumption) ?_
 exact lK _ _
theorem GM {t u : ai} {o : One} {rest : List ai} (ht : t.kind = 40) (hu : u.kind = 41) : P (.listed o) (t :: u :: rest) [] rest := by
 refine cB ?_
 simp only [body]
 have hk : kd (t :: u :: rest) = t.kind := rfl
 have hk2 : kd (u :: rest) = u.kind := rfl
 refine aT (by assumption) ?_
 refine bW (by omega) ?_
 exact lK _ _
theorem GN {t u : ai} {o : One} {s rest : List ai} {a : List Tr} (ht : t.kind = 40) (hu : u.kind = 41) (g0 : kd s ≠ 41) (g1 : P (.parted o) s a (u :: rest)) : P (.listed o) (t :: s) a rest := by
 refine cB ?_
 simp only [body]
 have hk : kd (t :: s) = t.kind := rfl
 refine aT (by assumption) ?_
 refine aM (by omega) ?_
 refine bn (by assumption) ?_
 refine aT (by assumption) ?_
 exact lK _ _
theorem EB  {s : List ai} (g0 : kd s ≠ 48) : P .result (s) [] s := by
 refine cB ?_
 simp only [body]
 refine aM (by omega) ?_
 exact lK _ _
theorem EC {t : ai} {s rest : List ai} {a : List Tr} (ht : t.kind = 48) (g0 : P .typ s a rest) : P .result (t :: s) a rest := by
 refine cB ?_
 simp only [body]
 have hk : kd (t :: s) = t.kind := rfl
 refine bW (by omega) ?_
 exact Q_P (by assumption)
theorem Am  {least : Int} {s s1 rest : List ai} {a b : List Tr} (g0 : P .unary s a s1) (g1 : P (.ops least a 5) s1 b rest) : P (.operands least) (s) b rest := by
 refine cB ?_
 simp only [body]
 refine bn (by assumption) ?_
 exact Q_P (by assumption)
theorem ED  {least most : Int} {left : List Tr} {s : List ai} (g0 : aP (fe (kd s)) < least ∨ most < aP (fe (kd s))) : P (.ops least left most) (s) left s := by
 refine cB ?_
 simp only [body]
 refine bW (by omega) ?_
 exact lK _ _
theorem J4  {t : ai} {least most : Int} {left b c : List Tr} {s s2 rest : List ai} (g0 : ¬ (aP (fe t.kind) < least ∨ most < aP (fe t.kind))) (g1 : P (.operands (aP (fe t.kind) + 1)) s b s2) (g2 : P (.ops least [.mk 22 t.place (fe t.kind) [] (left ++ b)] (if aP (fe t.kind) = 3 then 2 else aP (fe t.kind))) s2 c rest) : P (.ops least left most) (t :: s) c rest := by
 refine cB ?_
 simp only [body]
 exact aM g0 (bn g1 (Q_P g2))
theorem LH {t : ai} {s rest : List ai} {a : List Tr} (ht : t.kind = 58) (g0 : P .unary s a rest) : P .unary (t :: s) [.mk 21 t.place 1 [] a] rest := by
 refine cB ?_
 simp only [body]
 have hk : kd (t :: s) = t.kind := rfl
 refine bW (by omega) ?_
 refine bn (by assumption) ?_
 exact fA
theorem LJ {t : ai} {s rest : List ai} {a : List Tr} (ht : t.kind = 64) (g0 : P .unary s a rest) : P .unary (t :: s) [.mk 21 t.place 2 [] a] rest := by
 refine cB ?_
 simp only [body]
 have hk : kd (t :: s) = t.kind := rfl
 refine aM (by omega) ?_
 refine bW (by omega) ?_
 refine bn (by assumption) ?_
 exact fA
theorem LK {t : ai} {s rest : List ai} {a : List Tr} (ht : t.kind = 65) (g0 : P .unary s a rest) : P .unary (t :: s) [.mk 21 t.place 3 [] a] rest := by
 refine cB ?_
 simp only [body]
 have hk : kd (t :: s) = t.kind := rfl
 refine aM (by omega) ?_
 refine aM (by omega) ?_
 refine bW (by omega) ?_
 refine bn (by assumption) ?_
 exact fA
theorem LM  {s rest : List ai} {a : List Tr} (g0 : kd s ≠ 58) (g1 : kd s ≠ 64) (g2 : kd s ≠ 65) (g3 : P .postfix s a rest) : P .unary (s) a rest := by
 refine cB ?_
 simp only [body]
 refine aM (by omega) ?_
 refine aM (by omega) ?_
 refine aM (by omega) ?_
 exact Q_P (by assumption)
theorem C8  {s s1 rest : List ai} {a b : List Tr} (g0 : P .primary s a s1) (g1 : P (.post a) s1 b rest) : P .postfix (s) b rest := by
 refine cB ?_
 simp only [body]
 refine bn (by assumption) ?_
 exact Q_P (by assumption)
theorem J5 {t : ai} {s s1 rest : List ai} {k b c : List Tr} (ht : t.kind = 40) (g0 : P (.listed .expr) (t :: s) b s1) (g1 : P (.post [.mk 23 t.place 0 [] (k ++ b)]) s1 c rest) : P (.post k) (t :: s) c rest := by
 refine cB ?_
 simp only [body]
 have hk : kd (t :: s) = t.kind := rfl
 refine bW (by omega) ?_
 refine bn (by assumption) ?_
 exact Q_P (by assumption)
theorem GQ {t u : ai} {s s1 rest : List ai} {k b c : List Tr} (ht : t.kind = 42) (hu : u.kind = 43) (g0 : P (.operands 1) s b (u :: s1)) (g1 : P (.post [.mk 24 t.place 0 [] (k ++ b)]) s1 c rest) : P (.post k) (t :: s) c rest := by
 refine cB ?_
 simp only [body]
 have hk : kd (t :: s) = t.kind := rfl
 refine aM (by omega) ?_
 refine bW (by omega) ?_
 refine aT (by assumption) ?_
 refine bn (by assumption) ?_
 refine aT (by assumption) ?_
 exact Q_P (by assumption)
theorem GR {t u : ai} {s rest : List ai} {k c : List Tr} (ht : t.kind = 49) (hu : u.kind = 2) (g0 : P (.post [.mk 25 t.place u.num [] k]) s c rest) : P (.post k) (t :: u :: s) c rest := by
 refine cB ?_
 simp only [body]
 have hk : kd (t :: u :: s) = t.kind := rfl
 refine aM (by omega) ?_
 refine aM (by omega) ?_
 refine bW (by omega) ?_
 refine aT (by assumption) ?_
 refine Ji (by assumption) ?_
 exact Q_P (by assumption)
theorem GU  {s : List ai} {k : List Tr} (g0 : kd s ≠ 40) (g1 : kd s ≠ 42) (g2 : kd s ≠ 49) : P (.post k) (s) k s := by
 refine cB ?_
 simp only [body]
 refine aM (by omega) ?_
 refine aM (by omega) ?_
 refine aM (by omega) ?_
 exact lK _ _
theorem J6 {t : ai} {rest : List ai} (ht : t.kind = 26) : P .primary (t :: rest) [.mk 12 t.place 1 [] []] rest := by
 refine cB ?_
 simp only [body]
 have hk : kd (t :: rest) = t.kind := rfl
 refine bW (by omega) ?_
 exact fA
theorem GV {t : ai} {rest : List ai} (ht : t.kind = 16) : P .primary (t :: rest) [.mk 12 t.place 0 [] []] rest := by
 refine cB ?_
 simp only [body]
 have hk : kd (t :: rest) = t.kind := rfl
 refine aM (by omega) ?_
 refine bW (by omega) ?_
 exact fA
theorem Ba {t u : ai} {s rest : List ai} {a : List Tr} (ht : t.kind = 40) (hu : u.kind = 41) (g0 : P (.parted .expr) s a (u :: rest)) : P .primary (t :: s) [.mk (if a.length = 1 then 14 else 15) t.place 0 [] a] rest := by
 refine cB ?_
 simp only [body]
 have hk : kd (t :: s) = t.kind := rfl
 refine aM (by omega) ?_
 refine aM (by omega) ?_
 refine bW (by omega) ?_
 refine aT (by assumption) ?_
 refine bn (by assumption) ?_
 refine aT (by assumption) ?_
 exact fA
theorem LP {t u : ai} {s rest : List ai} {a : List Tr} (ht : t.kind = 42) (hu : u.kind = 43) (g0 : P (.parted .expr) s a (u :: rest)) : P .primary (t :: s) [.mk 16 t.place 0 [] a] rest := by
 refine cB ?_
 simp only [body]
 have hk : kd (t :: s) = t.kind := rfl
 refine aM (by omega) ?_
 refine aM (by omega) ?_
 refine aM (by omega) ?_
 refine bW (by omega) ?_
 refine aT (by assumption) ?_
 refine bn (by assumption) ?_
 refine aT (by assumption) ?_
 exact fA
theorem J7 {t u v x : ai} {s s1 rest : List ai} {a b : List Tr} (ht : t.kind = 17) (hu : u.kind = 40) (hv : v.kind = 46) (hx : x.kind = 41) (g0 : P (.operands 1) s a (v :: s1)) (g1 : P (.operands 1) s1 b (x :: rest)) : P .primary (t :: u :: s) [.mk 17 t.place 0 [] (a ++ b)] rest := by
 refine cB ?_
 simp only [body]
 have hk : kd (t :: u :: s) = t.kind := rfl
 refine aM (by omega) ?_
 refine aM (by omega) ?_
 refine aM (by omega) ?_
 refine aM (by omega) ?_
 refine bW (by omega) ?_
 refine aT (by assumption) ?_
 refine aT (by assumption) ?_
 refine bn (by assumption) ?_
 refine aT (by assumption) ?_
 refine bn (by assumption) ?_
 refine aT (by assumption) ?_
 exact fA
theorem LQ {t u v : ai} {s rest : List ai} {a : List Tr} (ht : t.kind = 20) (hu : u.kind = 40) (hv : v.kind = 41) (g0 : P (.operands 1) s a (v :: rest)) : P .primary (t :: u :: s) [.mk 18 t.place 0 [] a] rest := by
 refine cB ?_
 simp only [body]
 have hk : kd (t :: u :: s) = t.kind := rfl
 refine aM (by omega) ?_
 refine aM (by omega) ?_
 refine aM (by omega) ?_
 refine aM (by omega) ?_
 refine aM (by omega) ?_
 refine bW (by omega) ?_
 refine aT (by assumption) ?_
 refine aT (by assumption) ?_
 refine bn (by assumption) ?_
 refine aT (by assumption) ?_
 exact fA
theorem J8 {t : ai} {s rest : List ai} {a : List Tr} (ht : t.kind = 21) (g0 : P .chanT s a rest) : P .primary (t :: s) [.mk 19 t.place 0 [] a] rest := by
 refine cB ?_
 simp only [body]
 have hk : kd (t :: s) = t.kind := rfl
 refine aM (by omega) ?_
 refine aM (by omega) ?_
 refine aM (by omega) ?_
 refine aM (by omega) ?_
 refine aM (by omega) ?_
 refine aM (by omega) ?_
 refine bW (by omega) ?_
 refine aT (by assumption) ?_
 refine bn (by assumption) ?_
 exact fA
theorem Bb {t : ai} {s rest : List ai} {a : List Tr} (ht : t.kind = 23) (g0 : P .prog (t :: s) a rest) : P .primary (t :: s) a rest := by
 refine cB ?_
 simp only [body]
 have hk : kd (t :: s) = t.kind := rfl
 refine aM (by omega) ?_
 refine aM (by omega) ?_
 refine aM (by omega) ?_
 refine aM (by omega) ?_
 refine aM (by omega) ?_
 refine aM (by omega) ?_
 refine aM (by omega) ?_
 refine bW (by omega) ?_
 exact Q_P (by assumption)
theorem J9 {t : ai} {rest : List ai} (ht : t.kind = 2) : P .primary (t :: rest) [.mk 11 t.place t.num [] []] rest := by
 refine cB ?_
 simp only [body]
 have hk : kd (t :: rest) = t.kind := rfl
 refine aM (by omega) ?_
 refine aM (by omega) ?_
 refine aM (by omega) ?_
 refine aM (by omega) ?_
 refine aM (by omega) ?_
 refine aM (by omega) ?_
 refine aM (by omega) ?_
 refine aM (by omega) ?_
 refine bW (by omega) ?_
 refine Ji (by assumption) ?_
 exact fA
theorem GX {t : ai} {rest : List ai} (ht : t.kind = 1) : P .primary (t :: rest) [.mk 13 t.place 0 t.name []] rest := by
 refine cB ?_
 simp only [body]
 have hk : kd (t :: rest) = t.kind := rfl
 refine aM (by omega) ?_
 refine aM (by omega) ?_
 refine aM (by omega) ?_
 refine aM (by omega) ?_
 refine aM (by omega) ?_
 refine aM (by omega) ?_
 refine aM (by omega) ?_
 refine aM (by omega) ?_
 refine aM (by omega) ?_
 refine jT (by assumption) ?_
 exact fA
theorem GY {t u : ai} {s s1 s2 rest : List ai} {a b c : List Tr} (ht : t.kind = 23) (hu : u.kind = 1) (g0 : P (.listed .param) s a s1) (g1 : P .result s1 b s2) (g2 : P .block s2 c rest) : P .prog (t :: u :: s) [.mk 20 t.place b.length u.name (a ++ (b ++ c))] rest := by
 refine cB ?_
 simp only [body]
 have hk : kd (t :: u :: s) = t.kind := rfl
 have hk2 : kd (u :: s) = u.kind := rfl
 refine aT (by assumption) ?_
 refine bW (by omega) ?_
 refine jT (by assumption) ?_
 refine bn (by assumption) ?_
 refine bn (by assumption) ?_
 refine bn (by assumption) ?_
 exact fA
theorem GZ {t : ai} {s s1 s2 rest : List ai} {a b c : List Tr} (ht : t.kind = 23) (g0 : kd s ≠ 1) (g1 : P (.listed .param) s a s1) (g2 : P .result s1 b s2) (g3 : P .block s2 c rest) : P .prog (t :: s) [.mk 20 t.place b.length [] (a ++ (b ++ c))] rest := by
 refine cB ?_
 simp only [body]
 have hk : kd (t :: s) = t.kind := rfl
 refine aT (by assumption) ?_
 refine aM (by omega) ?_
 refine bn (by assumption) ?_
 refine bn (by assumption) ?_
 refine bn (by assumption) ?_
 exact fA
theorem G7 {t u : ai} {s rest : List ai} {a : List Tr} (ht : t.kind = 1) (hu : u.kind = 48) (g0 : P .typ s a rest) : P .param (t :: u :: s) [.mk 42 t.place 0 t.name a] rest := by
 refine cB ?_
 simp only [body]
 have hk : kd (t :: u :: s) = t.kind := rfl
 refine jT (by assumption) ?_
 refine aT (by assumption) ?_
 refine bn (by assumption) ?_
 exact fA
theorem G8 {t : ai} {s rest : List ai} {a : List Tr} (ht : t.kind = 44) (g0 : P .stmts s a rest) : P .block (t :: s) [.mk 41 t.place 0 [] a] rest := by
 refine cB ?_
 simp only [body]
 have hk : kd (t :: s) = t.kind := rfl
 refine aT (by assumption) ?_
 refine bn (by assumption) ?_
 exact fA
theorem EE {t : ai} {rest : List ai} (ht : t.kind = 45) : P .stmts (t :: rest) [] rest := by
 refine cB ?_
 simp only [body]
 have hk : kd (t :: rest) = t.kind := rfl
 refine bW (by omega) ?_
 exact lK _ _
theorem EF  {s s1 rest : List ai} {a b : List Tr} (g0 : kd s ≠ 45) (g1 : P .stmt s a s1) (g2 : P .stmts s1 b rest) : P .stmts (s) (a ++ b) rest := by
 refine cB ?_
 simp only [body]
 refine aM (by omega) ?_
 refine bn (by assumption) ?_
 refine bn (by assumption) ?_
 exact lK _ _
theorem LU {t u v x : ai} {s rest : List ai} {a : List Tr} (ht : t.kind = 28) (hu : u.kind = 1) (hv : v.kind = 50) (hx : x.kind = 47) (g0 : P (.operands 1) s a (x :: rest)) : P .stmt (t :: u :: v :: s) [.mk 31 t.place 0 u.name a] rest := by
 refine cB ?_
 simp only [body]
 have hk : kd (t :: u :: v :: s) = t.kind := rfl
 refine bW (by omega) ?_
 refine aT (by assumption) ?_
 refine jT (by assumption) ?_
 refine aT (by assumption) ?_
 refine bn (by assumption) ?_
 refine aT (by assumption) ?_
 exact fA
theorem Ka {t u v x : ai} {s rest : List ai} {a : List Tr} (ht : t.kind = 29) (hu : u.kind = 1) (hv : v.kind = 48) (hx : x.kind = 47) (g0 : P .typ s a (x :: rest)) : P .stmt (t :: u :: v :: s) [.mk 32 t.place 0 u.name a] rest := by
 refine cB ?_
 simp only [body]
 have hk : kd (t :: u :: v :: s) = t.kind := rfl
 have hk2 : kd (x :: rest) = x.kind := rfl
 refine aM (by omega) ?_
 refine bW (by omega) ?_
 refine aT (by assumption) ?_
 refine jT (by assumption) ?_
 refine aT (by assumption) ?_
 refine bn (by assumption) ?_
 refine aM (by omega) ?_
 refine aT (by assumption) ?_
 exact fA
theorem Kb {t u v y x : ai} {s s1 rest : List ai} {a b : List Tr} (ht : t.kind = 29) (hu : u.kind = 1) (hv : v.kind = 48) (hy : y.kind = 50) (hx : x.kind = 47) (g0 : P .typ s a (y :: s1)) (g1 : P (.operands 1) s1 b (x :: rest)) : P .stmt (t :: u :: v :: s) [.mk 32 t.place 0 u.name (a ++ b)] rest := by
 refine cB ?_
 simp only [body]
 have hk : kd (t :: u :: v :: s) = t.kind := rfl
 have hk2 : kd (y :: s1) = y.kind := rfl
 refine aM (by omega) ?_
 refine bW (by omega) ?_
 refine aT (by assumption) ?_
 refine jT (by assumption) ?_
 refine aT (by assumption) ?_
 refine bn (by assumption) ?_
 refine bW (by omega) ?_
 refine aT (by assumption) ?_
 refine bn (by assumption) ?_
 refine aT (by assumption) ?_
 exact fA
theorem LW {t : ai} {s rest : List ai} {a : List Tr} (ht : t.kind = 18) (g0 : P .branch (t :: s) a rest) : P .stmt (t :: s) a rest := by
 refine cB ?_
 simp only [body]
 have hk : kd (t :: s) = t.kind := rfl
 refine aM (by omega) ?_
 refine aM (by omega) ?_
 refine bW (by omega) ?_
 exact Q_P (by assumption)
theorem Ha {t : ai} {s s1 rest : List ai} {a b : List Tr} (ht : t.kind = 30) (g0 : P (.operands 1) s a s1) (g1 : P .block s1 b rest) : P .stmt (t :: s) [.mk 37 t.place 0 [] (a ++ b)] rest := by
 refine cB ?_
 simp only [body]
 have hk : kd (t :: s) = t.kind := rfl
 refine aM (by omega) ?_
 refine aM (by omega) ?_
 refine aM (by omega) ?_
 refine bW (by omega) ?_
 refine aT (by assumption) ?_
 refine bn (by assumption) ?_
 refine bn (by assumption) ?_
 exact fA
theorem Kc {t u : ai} {rest : List ai} (ht : t.kind = 24) (hu : u.kind = 47) : P .stmt (t :: u :: rest) [.mk 38 t.place 0 [] []] rest := by
 refine cB ?_
 simp only [body]
 have hk : kd (t :: u :: rest) = t.kind := rfl
 have hk2 : kd (u :: rest) = u.kind := rfl
 refine aM (by omega) ?_
 refine aM (by omega) ?_
 refine aM (by omega) ?_
 refine aM (by omega) ?_
 refine bW (by omega) ?_
 refine aT (by assumption) ?_
 refine bW (by omega) ?_
 refine aT (by assumption) ?_
 exact fA
theorem Ke {t u : ai} {s rest : List ai} {a : List Tr} (ht : t.kind = 24) (hu : u.kind = 47) (g0 : kd s ≠ 47) (g1 : P (.operands 1) s a (u :: rest)) : P .stmt (t :: s) [.mk 38 t.place 0 [] a] rest := by
 refine cB ?_
 simp only [body]
 have hk : kd (t :: s) = t.kind := rfl
 refine aM (by omega) ?_
 refine aM (by omega) ?_
 refine aM (by omega) ?_
 refine aM (by omega) ?_
 refine bW (by omega) ?_
 refine aT (by assumption) ?_
 refine aM (by omega) ?_
 refine bn (by assumption) ?_
 refine aT (by assumption) ?_
 exact fA
theorem Hd {t u : ai} {s rest : List ai} {a : List Tr} (ht : t.kind = 11) (hu : u.kind = 47) (g0 : P (.operands 1) s a (u :: rest)) : P .stmt (t :: s) [.mk 39 t.place 0 [] a] rest := by
 refine cB ?_
 simp only [body]
 have hk : kd (t :: s) = t.kind := rfl
 refine aM (by omega) ?_
 refine aM (by omega) ?_
 refine aM (by omega) ?_
 refine aM (by omega) ?_
 refine aM (by omega) ?_
 refine bW (by omega) ?_
 refine aT (by assumption) ?_
 refine bn (by assumption) ?_
 refine aT (by assumption) ?_
 exact fA
theorem EG {t u : ai} {s rest : List ai} {a : List Tr} (ht : t.kind = 25) (hu : u.kind = 44) (g0 : P .arms s a rest) : P .stmt (t :: u :: s) [.mk 40 t.place 0 [] a] rest := by
 refine cB ?_
 simp only [body]
 have hk : kd (t :: u :: s) = t.kind := rfl
 refine aM (by omega) ?_
 refine aM (by omega) ?_
 refine aM (by omega) ?_
 refine aM (by omega) ?_
 refine aM (by omega) ?_
 refine aM (by omega) ?_
 refine bW (by omega) ?_
 refine aT (by assumption) ?_
 refine aT (by assumption) ?_
 refine bn (by assumption) ?_
 exact fA
theorem EH {t : ai} {s rest : List ai} {a : List Tr} (ht : t.kind = 44) (g0 : P .block (t :: s) a rest) : P .stmt (t :: s) a rest := by
 refine cB ?_
 simp only [body]
 have hk : kd (t :: s) = t.kind := rfl
 refine aM (by omega) ?_
 refine aM (by omega) ?_
 refine aM (by omega) ?_
 refine aM (by omega) ?_
 refine aM (by omega) ?_
 refine aM (by omega) ?_
 refine aM (by omega) ?_
 refine bW (by omega) ?_
 exact Q_P (by assumption)
theorem LX {t u : ai} {s s1 rest : List ai} {a b : List Tr} (ht : t.kind = 50) (hu : u.kind = 47) (g0 : kd s ≠ 28) (g1 : kd s ≠ 29) (g2 : kd s ≠ 18) (g3 : kd s ≠ 30) (g4 : kd s ≠ 24) (g5 : kd s ≠ 11) (g6 : kd s ≠ 25) (g7 : kd s ≠ 44) (g8 : P (.operands 1) s a (t :: s1)) (g9 : P (.operands 1) s1 b (u :: rest)) : P .stmt (s) [.mk 33 t.place 0 [] (a ++ b)] rest := by
 refine cB ?_
 simp only [body]
 have hk2 : kd (t :: s1) = t.kind := rfl
 refine aM (by omega) ?_
 refine aM (by omega) ?_
 refine aM (by omega) ?_
 refine aM (by omega) ?_
 refine aM (by omega) ?_
 refine aM (by omega) ?_
 refine aM (by omega) ?_
 refine aM (by omega) ?_
 refine bn (by assumption) ?_
 refine bW (by omega) ?_
 refine aT (by assumption) ?_
 refine bn (by assumption) ?_
 refine aT (by assumption) ?_
 exact fA
theorem Kg {t u : ai} {s s1 rest : List ai} {a b : List Tr} (ht : t.kind = 66) (hu : u.kind = 47) (g0 : kd s ≠ 28) (g1 : kd s ≠ 29) (g2 : kd s ≠ 18) (g3 : kd s ≠ 30) (g4 : kd s ≠ 24) (g5 : kd s ≠ 11) (g6 : kd s ≠ 25) (g7 : kd s ≠ 44) (g8 : P (.operands 1) s a (t :: s1)) (g9 : P (.operands 1) s1 b (u :: rest)) : P .stmt (s) [.mk 34 t.place 0 [] (a ++ b)] rest := by
 refine cB ?_
 simp only [body]
 have hk2 : kd (t :: s1) = t.kind := rfl
 refine aM (by omega) ?_
 refine aM (by omega) ?_
 refine aM (by omega) ?_
 refine aM (by omega) ?_
 refine aM (by omega) ?_
 refine aM (by omega) ?_
 refine aM (by omega) ?_
 refine aM (by omega) ?_
 refine bn (by assumption) ?_
 refine aM (by omega) ?_
 refine bW (by omega) ?_
 refine aT (by assumption) ?_
 refine bn (by assumption) ?_
 refine aT (by assumption) ?_
 exact fA
theorem MU {u : ai} {s rest : List ai} {a : List Tr} (hu : u.kind = 47) (g0 : kd s ≠ 28) (g1 : kd s ≠ 29) (g2 : kd s ≠ 18) (g3 : kd s ≠ 30) (g4 : kd s ≠ 24) (g5 : kd s ≠ 11) (g6 : kd s ≠ 25) (g7 : kd s ≠ 44) (g8 : P (.operands 1) s a (u :: rest)) : P .stmt (s) [.mk 35 (hd s).place 0 [] a] rest := by
 refine cB ?_
 simp only [body]
 have hk2 : kd (u :: rest) = u.kind := rfl
 refine aM (by omega) ?_
 refine aM (by omega) ?_
 refine aM (by omega) ?_
 refine aM (by omega) ?_
 refine aM (by omega) ?_
 refine aM (by omega) ?_
 refine aM (by omega) ?_
 refine aM (by omega) ?_
 refine bn (by assumption) ?_
 refine aM (by omega) ?_
 refine aM (by omega) ?_
 refine aT (by assumption) ?_
 exact fA
theorem LY {t : ai} {s s1 rest : List ai} {a b : List Tr} (ht : t.kind = 18) (g0 : P (.operands 1) s a s1) (g1 : P .block s1 b rest) (g2 : kd rest ≠ 15) : P .branch (t :: s) [.mk 36 t.place 0 [] (a ++ b)] rest := by
 refine cB ?_
 simp only [body]
 have hk : kd (t :: s) = t.kind := rfl
 refine aT (by assumption) ?_
 refine bn (by assumption) ?_
 refine bn (by assumption) ?_
 refine aM (by omega) ?_
 exact fA
theorem Kh {t u : ai} {s s1 s2 rest : List ai} {a b c : List Tr} (ht : t.kind = 18) (hu : u.kind = 15) (g0 : P (.operands 1) s a s1) (g1 : P .block s1 b (u :: s2)) (g2 : kd s2 = 18) (g3 : P .branch s2 c rest) : P .branch (t :: s) [.mk 36 t.place 0 [] (a ++ (b ++ c))] rest := by
 refine cB ?_
 simp only [body]
 have hk : kd (t :: s) = t.kind := rfl
 have hk2 : kd (u :: s2) = u.kind := rfl
 refine aT (by assumption) ?_
 refine bn (by assumption) ?_
 refine bn (by assumption) ?_
 refine bW (by omega) ?_
 refine aT (by assumption) ?_
 refine bW (by omega) ?_
 refine bn (by assumption) ?_
 exact fA
theorem Ki {t u : ai} {s s1 s2 rest : List ai} {a b c : List Tr} (ht : t.kind = 18) (hu : u.kind = 15) (g0 : P (.operands 1) s a s1) (g1 : P .block s1 b (u :: s2)) (g2 : kd s2 ≠ 18) (g3 : P .block s2 c rest) : P .branch (t :: s) [.mk 36 t.place 0 [] (a ++ (b ++ c))] rest := by
 refine cB ?_
 simp only [body]
 have hk : kd (t :: s) = t.kind := rfl
 have hk2 : kd (u :: s2) = u.kind := rfl
 refine aT (by assumption) ?_
 refine bn (by assumption) ?_
 refine bn (by assumption) ?_
 refine bW (by omega) ?_
 refine aT (by assumption) ?_
 refine aM (by omega) ?_
 refine bn (by assumption) ?_
 exact fA
theorem He {t : ai} {rest : List ai} (ht : t.kind = 45) : P .arms (t :: rest) [] rest := by
 refine cB ?_
 simp only [body]
 have hk : kd (t :: rest) = t.kind := rfl
 refine bW (by omega) ?_
 exact lK _ _
theorem Hf  {s s1 rest : List ai} {a b : List Tr} (g0 : kd s ≠ 45) (g1 : P .arm s a s1) (g2 : P .arms s1 b rest) : P .arms (s) (a ++ b) rest := by
 refine cB ?_
 simp only [body]
 refine aM (by omega) ?_
 refine bn (by assumption) ?_
 refine bn (by assumption) ?_
 exact lK _ _
theorem Hg {t u : ai} {s s1 rest : List ai} {a b : List Tr} (ht : t.kind = 13) (hu : u.kind = 65) (g0 : P .unary s a s1) (g1 : P .block s1 b rest) : P .arm (t :: u :: s) [.mk 43 t.place 0 [] (a ++ b)] rest := by
 refine cB ?_
 simp only [body]
 have hk : kd (t :: u :: s) = t.kind := rfl
 have hk2 : kd (u :: s) = u.kind := rfl
 refine aT (by assumption) ?_
 refine bW (by omega) ?_
 refine aT (by assumption) ?_
 refine bn (by assumption) ?_
 refine bn (by assumption) ?_
 exact fA
theorem Hl {t u v x : ai} {s s1 rest : List ai} {a b : List Tr} (ht : t.kind = 13) (hu : u.kind = 1) (hv : v.kind = 50) (hx : x.kind = 65) (g0 : P .unary s a s1) (g1 : P .block s1 b rest) : P .arm (t :: u :: v :: x :: s) [.mk 43 t.place 0 u.name (a ++ b)] rest := by
 refine cB ?_
 simp only [body]
 have hk : kd (t :: u :: v :: x :: s) = t.kind := rfl
 have hk2 : kd (u :: v :: x :: s) = u.kind := rfl
 have hk3 : kd (tl (u :: v :: x :: s)) = v.kind := rfl
 refine aT (by assumption) ?_
 refine aM (by omega) ?_
 refine bW (by omega) ?_
 refine jT (by assumption) ?_
 refine aT (by assumption) ?_
 refine aT (by assumption) ?_
 refine bn (by assumption) ?_
 refine bn (by assumption) ?_
 exact fA
theorem Hm {t u : ai} {s s1 s2 rest : List ai} {a b c : List Tr} (ht : t.kind = 13) (hu : u.kind = 66) (g0 : kd s ≠ 65) (g1 : ¬ (kd s = 1 /\ kd (tl s) = 50)) (g2 : P (.operands 1) s a (u :: s1)) (g3 : P (.operands 1) s1 b s2) (g4 : P .block s2 c rest) : P .arm (t :: s) [.mk 44 t.place 0 [] (a ++ (b ++ c))] rest := by
 refine cB ?_
 simp only [body]
 have hk : kd (t :: s) = t.kind := rfl
 refine aT (by assumption) ?_
 refine aM (by omega) ?_
 refine aM (by omega) ?_
 refine bn (by assumption) ?_
 refine aT (by assumption) ?_
 refine bn (by assumption) ?_
 refine bn (by assumption) ?_
 exact fA
theorem LZ {t u v x : ai} {s rest : List ai} {a : List Tr} (ht : t.kind = 27) (hu : u.kind = 1) (hv : v.kind = 50) (hx : x.kind = 47) (g0 : P .typ s a (x :: rest)) : P .tyn (t :: u :: v :: s) [.mk 45 t.place 0 u.name a] rest := by
 refine cB ?_
 simp only [body]
 have hk : kd (t :: u :: v :: s) = t.kind := rfl
 refine aT (by assumption) ?_
 refine jT (by assumption) ?_
 refine aT (by assumption) ?_
 refine bn (by assumption) ?_
 refine aT (by assumption) ?_
 exact fA
theorem EI  {s : List ai} (g0 : kd s ≠ 27) : P .types (s) [] s := by
 refine cB ?_
 simp only [body]
 refine aM (by omega) ?_
 exact lK _ _
theorem EJ  {s s1 rest : List ai} {a b : List Tr} (g0 : kd s = 27) (g1 : P .tyn s a s1) (g2 : P .types s1 b rest) : P .types (s) (a ++ b) rest := by
 refine cB ?_
 simp only [body]
 refine bW (by omega) ?_
 refine bn (by assumption) ?_
 refine bn (by assumption) ?_
 exact lK _ _
theorem Ho  {s : List ai} (g0 : s.length <= 1) : P .tops (s) [] s := by
 refine cB ?_
 simp only [body]
 refine bW (by omega) ?_
 exact lK _ _
theorem Hq  {s s1 rest : List ai} {a b : List Tr} (g0 : 1 < s.length) (g1 : P .stmt s a s1) (g2 : P .tops s1 b rest) : P .tops (s) (a ++ b) rest := by
 refine cB ?_
 simp only [body]
 refine aM (by omega) ?_
 refine bn (by assumption) ?_
 refine bn (by assumption) ?_
 exact lK _ _
theorem C9  {s s1 rest : List ai} {a b : List Tr} (g0 : P .types s a s1) (g1 : P .tops s1 b rest) : P .program (s) [.mk 46 0 a.length [] (a ++ b)] rest := by
 refine cB ?_
 simp only [body]
 refine bn (by assumption) ?_
 refine bn (by assumption) ?_
 exact lK _ _
end Go.Proofs.YtecodpdfckjalaaGreatDoor
