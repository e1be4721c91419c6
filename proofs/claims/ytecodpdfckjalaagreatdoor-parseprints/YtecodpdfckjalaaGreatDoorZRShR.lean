import Derived.Test.YtecodpdfckjalaaGreatDoorZRHgh
import Derived.Deep.RegionHeld
import Derived.Deep.QuietTactic
import Derived.BigQuiet
import Derived.Lib.SlBytesConst
import Derived.Deep.RegionHeld3
set_option linter.unusedVariables false
set_option linter.unusedSimpArgs false
set_option maxHeartbeats 4000000
set_option maxRecDepth 100000
namespace Go.Proofs.YtecodpdfckjalaaGreatDoor
open Go.RowKit
def shX : List UInt8 := [118, 97, 108, 32, 120, 32, 61, 32, 49, 32, 45, 32, 50, 32, 45, 32, 51, 59]
def shN : List Nd := [⟨11, 8, [], ⟨#[]⟩, 1⟩, ⟨11, 12, [], ⟨#[]⟩, 2⟩, ⟨22, 10, [0, 1], ⟨#[]⟩, 32⟩, ⟨11, 16, [], ⟨#[]⟩, 3⟩, ⟨22, 14, [2, 3], ⟨#[]⟩, 32⟩, ⟨31, 0, [4], ⟨#[120]⟩, 0⟩, ⟨46, 0, [5], ⟨#[]⟩, 0⟩]
theorem shR : fE shX 9 = (shN, 0, 0) := by kernel_rfl
structure kC (w : World) (B : Nat) (a : Option Addr) (cap : Nat) (ks : List Int) : Prop where
 cap : ks.length <= cap
 max : ks.length <= maxLen
 at_ : 0 < ks.length -> ∃ b o, a = some ⟨b, o, none⟩ /\ b < B /\ ∀ i (h : i < ks.length), w.cell? ⟨b, o + i, none⟩ = some (.int .i64 ks[i])
theorem aQ.w {w : World} {B : Nat} {a : Option Addr} {n cap : Nat} {ks : List Int} (h : aQ w B (.slice a n cap) ks) : n = ks.length /\ kC w B a cap ks := by
 obtain ⟨a', c', e, h1, h2, h3⟩ := h.ex
 simp only [Value.slice.injEq] at e
 obtain ⟨rfl, rfl, rfl⟩ := e
 exact ⟨rfl, h1, h2, h3⟩
theorem FI {α : Type} {xs ys : List α} {p : Nat} (h : xs.take p = ys.take p) (h1 : p < xs.length) (h2 : p < ys.length) (he : xs[p] = ys[p]) : xs.take (p + 1) = ys.take (p + 1) := by
 rw [List.take_succ_eq_append_getElem h1, List.take_succ_eq_append_getElem h2, h, he]
theorem yj (w : World) (B : Nat) (a1 a2 : Option Addr) (c1 c2 : Nat) (xs ys : List Int) (h1 : kC w B a1 c1 xs) (h2 : kC w B a2 c2 ys) :
  Calls Tryz.prog 15 #[.slice a1 xs.length c1, .slice a2 ys.length c2] w fun e w' => e = .returned (.bool (decide (xs = ys))) /\ ∃ k, w' = w.drewN k := by
 have hl1 := h1.max
 have hl2 := h2.max
 unfold maxLen at hl1 hl2
 by_cases hlen : xs.length = ys.length
 ·have HX : Bx _ := ⟨h1⟩
  have HY : Bx _ := ⟨h2⟩
  clear h1 h2
  generalize hn : xs.length = n at *
  have HN : Bx (xs.length = n /\ ys.length = n) := ⟨hn, hlen.symm⟩
  rw [← hlen] at hl2
  rw [← hlen]
  clear hn hlen
  go_enter Tryz.func15, Tryz.ntmps15
  go_wp2
  go_loopw [13] (fun x wr => ∃ p k : Nat, p <= n /\ x = .int .i64 p /\ wr = w.drewN k /\ Bx (xs.take p = ys.take p)) (fun x _ => n - (intOf x).toNat)
  case atStart => exact ⟨0, 0, Nat.zero_le _, rfl, rfl, ⟨rfl⟩⟩
  case round =>
   obtain ⟨p, k, hp, rfl, rfl, HR⟩ := hrel
   by_cases hlt : p < n
   ·have hp1 : p < xs.length := by rw [HN.out.1]; exact hlt
    have hp2 : p < ys.length := by rw [HN.out.2]; exact hlt
    obtain ⟨b1, o1, rfl, hb1, hcell1⟩ := HX.out.at_ (by omega)
    have hc1 := HX.out.cap
    rw [HN.out.1] at hc1
    obtain ⟨b2, o2, rfl, hb2, hcell2⟩ := HY.out.at_ (by omega)
    have hc2 := HY.out.cap
    rw [HN.out.2] at hc2
    have k1 := hcell1 p hp1
    have k2 := hcell2 p hp2
    by_cases he : xs[p] = ys[p]
    ·have HT : Bx _ := ⟨FI HR.out hp1 hp2 he⟩
     rw [← he] at k2
     generalize xs[p] = z at *
     clear hcell1 hcell2 HR HX HY
     go_wp2
     go_quiet (fail)
     go_wp2
     go_roundw
     case rel => exact ⟨p + 1, k + nq, by omega, by go_num, by first | rfl | rw [World.drewN_drewN], HT⟩
     case measure => simp [intOf]; omega
    ·have hf : Bx (decide (xs = ys) = false) := ⟨decide_eq_false (fun e => he (by subst e; rfl))⟩
     have hz : (xs[p] != ys[p]) = true := by simpa using he
     generalize xs[p] = z at *
     generalize ys[p] = z2 at *
     clear hcell1 hcell2 HR HX HY
     go_wp2
     go_quiet (fail)
     go_wp2
     go_ret
     exact ⟨dS hf.out.symm, k + nq, by first | rfl | rw [World.drewN_drewN]⟩
   ·have hf : Bx (decide (xs = ys) = true) := ⟨decide_eq_true (by
     have := HR.out
     rw [List.take_of_length_le (by rw [HN.out.1]; omega), List.take_of_length_le (by rw [HN.out.2]; omega)] at this
     exact this)⟩
    clear HR HX HY HN
    go_wp2
    go_ret
    exact ⟨dS hf.out.symm, k, rfl⟩
 ·have hne : decide (xs = ys) = false := decide_eq_false (fun e => hlen (by rw [e]))
  rw [hne]
  have hne2 : ((xs.length : Int) != (ys.length : Int)) = true := by simp; omega
  clear h1 h2 hlen hne
  generalize xs.length = n1 at *
  generalize ys.length = n2 at *
  go_enter Tryz.func15, Tryz.ntmps15
  go_wp2
  go_ret
  exact ⟨rfl, 0, rfl⟩
structure ShC (W : World) (g cap : Nat) : Prop where
 k2 : W.cell? ⟨g, 10, none⟩ = some (.int .i64 22)
 k4 : W.cell? ⟨g, 20, none⟩ = some (.int .i64 22)
 s5 : W.cell? ⟨g, 28, none⟩ = some (.string ⟨#[120]⟩)
 hc : 7 <= cap
 lt : g < W.heap.size
theorem J6 {W : World} {rb : Nat} {nv : Value} (h : eH (fun _ => False) W rb nv shN) : ∃ g cap a4 c4 a6 c6, nv = .slice (some ⟨g, 0, none⟩) 7 cap /\ ShC W g cap /\ W.cell? ⟨g, 22, none⟩ = some (.slice a4 2 c4) /\ kC W W.heap.size a4 c4 [2, 3] /\ W.cell? ⟨g, 32, none⟩ = some (.slice a6 1 c6) /\ kC W W.heap.size a6 c6 [5] := by
 have hwf : ∀ n ∈ shN, vV n := by
  intro n hn
  simp only [shN, List.mem_cons, List.not_mem_nil, or_false] at hn
  rcases hn with rfl | rfl | rfl | rfl | rfl | rfl | rfl <;> exact ⟨by unfold I64; decide, by unfold I64; decide, by unfold I64; decide, by unfold maxLen; decide, by unfold I64; decide⟩
 obtain ⟨a, cap, e, hn⟩ := rO h hwf (by decide) (by
  intro n hn
  simp only [shN, List.mem_cons, List.not_mem_nil, or_false] at hn
  rcases hn with rfl | rfl | rfl | rfl | rfl | rfl | rfl <;> decide)
 obtain ⟨g, o, rfl, hN⟩ := hn.at_ (by decide)
 have ho : o = 0 := by
  obtain ⟨ks, _, h2, _⟩ := h.ex
  rcases h2.2 with ⟨e', _⟩ | ⟨g', cap', cur', e', _⟩
  ·rw [e] at e'; simp at e'
  ·rw [e] at e'; simp at e'; exact e'.1.2
 subst ho
 obtain ⟨ka2, kc2, h2⟩ := hN.at_ 2 (by decide)
 obtain ⟨ka4, kc4, h4⟩ := hN.at_ 4 (by decide)
 obtain ⟨ka5, kc5, h5⟩ := hN.at_ 5 (by decide)
 obtain ⟨ka6, kc6, h6⟩ := hN.at_ 6 (by decide)
 exact ⟨g, cap, ka4, kc4, ka6, kc6, e, ⟨h2.c0, h4.c0, h5.c3, hN.cap, hN.lo⟩, h4.c2, (aQ.w h4.kids).2, h6.c2, (aQ.w h6.kids).2⟩
theorem yl (w W1 : World) (hL : Laid w) (h7 : 7 <= w.heap.size) (hW1 : w.alloc (.cells #[.int .u8 118, .int .u8 97, .int .u8 108, .int .u8 32, .int .u8 120, .int .u8 32, .int .u8 61, .int .u8 32, .int .u8 49, .int .u8 32, .int .u8 45, .int .u8 32, .int .u8 50, .int .u8 32, .int .u8 45, .int .u8 32, .int .u8 51, .int .u8 59] 5 (18, 19)) = W1) :
  Calls Tryz.prog 10 #[.slice (some ⟨w.heap.size, 0, none⟩) 18 18, .int .i64 9] W1 (DK W1 (shN, 0, 0)) /\ Below w.heap.size w W1 /\ W1.heap.size = w.heap.size + 1 := by
 have hh1 : W1.heap[w.heap.size]? = some (.cells #[.int .u8 118, .int .u8 97, .int .u8 108, .int .u8 32, .int .u8 120, .int .u8 32, .int .u8 61, .int .u8 32, .int .u8 49, .int .u8 32, .int .u8 45, .int .u8 32, .int .u8 50, .int .u8 32, .int .u8 45, .int .u8 32, .int .u8 51, .int .u8 59] 5 (18, 19)) := by rw [← hW1]; exact heap_alloc_new _ _
 have b1 : Below w.heap.size w W1 := by rw [← hW1]; exact ah _ _
 have hz1 : W1.heap.size = w.heap.size + 1 := by rw [← hW1]; simp
 have hsrc : iG W1 (some ⟨w.heap.size, 0, none⟩) 18 shX := ⟨fun _ => ⟨w.heap.size, 0, rfl, by omega, fun i hi => by
  have hi : i < 18 := hi
  match i, hi with
  | 0, _ | 1, _ | 2, _ | 3, _ | 4, _ | 5, _ | 6, _ | 7, _ | 8, _ | 9, _ | 10, _ | 11, _ | 12, _ | 13, _ | 14, _ | 15, _ | 16, _ | 17, _ => simp [World.cell?, hh1, shX]
  | n + 18, h => omega⟩, by decide, by unfold maxLen; decide⟩
 have HC := uh W1 (hL.below b1) (by omega) (some ⟨w.heap.size, 0, none⟩) 18 shX hsrc 9
 rw [shR] at HC
 exact ⟨HC, b1, hz1⟩
theorem kC.later {W X : World} {B : Nat} {a : Option Addr} {c : Nat} {xs : List Int} (h : kC W B a c xs) (hb : Below B W X) (hB : B <= X.heap.size) : kC X X.heap.size a c xs := by
 refine ⟨h.cap, h.max, fun h0 => ?_⟩
 obtain ⟨b, o, e, hlt, hc⟩ := h.at_ h0
 exact ⟨b, o, e, by omega, fun i hi => by rw [hb.cell (p := ⟨b, o + i, none⟩) hlt]; exact hc i hi⟩
theorem ym {W X : World} {a : Option Addr} {c g2 : Nat} {xs : List Int} (n : Nat) (hn : xs.length = n) (hm : n <= maxLen) (hI : kC W W.heap.size a c xs) (hb : Below W.heap.size W X) (hX : X.heap[g2]? = some (.cells (bJ xs).toArray 3 (0, 0))) :
  Calls Tryz.prog 15 #[.slice a n c, .slice (some ⟨g2, 0, none⟩) n n] X fun e w' => e = .returned (.bool true) /\ Below X.heap.size X w' := by
 subst hn
 have h2 : kC X X.heap.size (some ⟨g2, 0, none⟩) xs.length xs := ⟨Nat.le_refl _, hm, fun _ => ⟨g2, 0, rfl, aU hX, fun i hi => by simp [World.cell?, hX, bJ, hi]⟩⟩
 refine Calls.mono (yj X X.heap.size a (some ⟨g2, 0, none⟩) c xs.length xs xs (hI.later hb hb.size) h2) ?_
 rintro e w' ⟨rfl, k, rfl⟩
 exact ⟨by simp, below_drewN (Below.refl _ _) _⟩
theorem Jq {w W1 W2 : World} {g : Nat} {a4 a6 : Option Addr} {c4 c6 : Nat} (b1 : Below w.heap.size w W1) (z1 : W1.heap.size = w.heap.size + 1) (b2 : Below W1.heap.size W1 W2) (hg : g < W2.heap.size) (s3 : W2.cell? ⟨g, 28, none⟩ = some (.string ⟨#[120]⟩)) (i4 : kC W2 W2.heap.size a4 c4 [2, 3]) (k6 : W2.cell? ⟨g, 32, none⟩ = some (.slice a6 1 c6)) (i6 : kC W2 W2.heap.size a6 c6 [5]) :
  ∀ X1, (W2.alloc (.cells #[.int .i64 0, .int .i64 0] 30)).alloc (.cells #[.int .i64 2, .int .i64 3] 3) = X1 ->
   Calls Tryz.prog 15 #[.slice a4 2 c4, .slice (some ⟨W2.heap.size + 1, 0, none⟩) 2 2] X1 (fun e w' => e = .returned (.bool true) /\ Below X1.heap.size X1 w') /\
   ∀ X2, Below X1.heap.size X1 X2 -> X2.cell? ⟨g, 28, none⟩ = some (.string ⟨#[120]⟩) /\ X2.cell? ⟨g, 32, none⟩ = some (.slice a6 1 c6) /\ g < X2.heap.size /\ W2.heap.size + 2 <= X2.heap.size /\
    ∀ X3, X2.alloc (.cells #[.int .i64 5] 3) = X3 -> Calls Tryz.prog 15 #[.slice a6 1 c6, .slice (some ⟨X2.heap.size, 0, none⟩) 1 1] X3 (fun e w' => e = .returned (.bool true) /\ Below w.heap.size w w') := by
 intro X1 hX1
 have bx : Below W2.heap.size W2 X1 := by rw [← hX1]; exact (ah W2 _).trans ((ah _ _).mono (by simp))
 have zx : X1.heap.size = W2.heap.size + 2 := by rw [← hX1]; simp
 have hx : X1.heap[W2.heap.size + 1]? = some (.cells (bJ [2, 3]).toArray 3 (0, 0)) := by
  rw [← hX1]
  have := heap_alloc_new (W2.alloc (.cells #[.int .i64 0, .int .i64 0] 30)) (.cells #[.int .i64 2, .int .i64 3] 3)
  rw [show (W2.alloc (.cells #[.int .i64 0, .int .i64 0] 30)).heap.size = W2.heap.size + 1 by simp] at this
  exact this
 refine ⟨ym 2 rfl (by unfold maxLen; decide) i4 bx hx, fun X2 b3 => ?_⟩
 have hz3 := b3.size
 have b23 : Below W2.heap.size W2 X2 := bx.trans (b3.mono (by omega))
 refine ⟨by rw [b23.cell (p := ⟨g, 28, none⟩) hg]; exact s3, by rw [b23.cell (p := ⟨g, 32, none⟩) hg]; exact k6, by omega, by omega, fun X3 hX3 => ?_⟩
 have b4 : Below X2.heap.size X2 X3 := by rw [← hX3]; exact ah _ _
 have hy : X3.heap[X2.heap.size]? = some (.cells (bJ [5]).toArray 3 (0, 0)) := by rw [← hX3]; exact heap_alloc_new _ _
 have hzz := b2.size
 have b24 : Below W2.heap.size W2 X3 := b23.trans (b4.mono (by omega))
 have hz4 := b24.size
 refine Calls.mono (ym 1 rfl (by unfold maxLen; decide) i6 b24 hy) ?_
 rintro e w' ⟨rfl, hb⟩
 exact ⟨rfl, b1.trans ((b2.mono (by omega)).trans ((b24.mono (by omega)).trans (hb.mono (by omega))))⟩
theorem DN (w : World) (hL : Laid w) (h7 : 7 <= w.heap.size) :
  Calls Tryz.prog 7 #[] w fun e w' => e = .returned (.bool true) /\ Below w.heap.size w w' := by
 have hcv := fun (w : World) (C : Array Value) (n c : Nat) => Lib.run_convert_bytes_const (P := Tryz.prog) w 33 5 C n c Tryz.underlying33 Tryz.underlying5
 have HP : Bx _ := ⟨fun W1 => yl w W1 hL h7⟩
 clear hL
 go_enter Tryz.func7, Tryz.ntmps7
 go_wp2_with (first
  | (go_at_call 10; obtain ⟨W1, hW1⟩ : ∃ W1, w.alloc (.cells #[.int .u8 118, .int .u8 97, .int .u8 108, .int .u8 32, .int .u8 120, .int .u8 32, .int .u8 61, .int .u8 32, .int .u8 49, .int .u8 32, .int .u8 45, .int .u8 32, .int .u8 50, .int .u8 32, .int .u8 45, .int .u8 32, .int .u8 51, .int .u8 59] 5 (18, 19)) = W1 := ⟨_, rfl⟩; have hp := HP.out W1 hW1; rw [hW1]; refine Calls.mono hp.1 ?_; clear hcv; rintro e W2 ⟨nv, rfl, hb, _, hx⟩; obtain ⟨rb, hrb, hno⟩ := hx rfl; obtain ⟨g, cap, a4, c4, a6, c6, rfl, hS, k4, i4, k6, i6⟩ := J6 hno; obtain ⟨s1, s2, s3, s4, s5⟩ := hS; have HS : Bx _ := ⟨Jq hp.2.1 hp.2.2 hb s5 s3 i4 k6 i6⟩; clear hb hx hno i4 i6 hrb hp hW1)
  | (go_at_call 15; obtain ⟨X1, hX1⟩ : ∃ X1, (W2.alloc (.cells #[.int .i64 0, .int .i64 0] 30)).alloc (.cells #[.int .i64 2, .int .i64 3] 3) = X1 := ⟨_, rfl⟩; rw [hX1]; have hq := HS.out X1 hX1; clear hX1; refine Calls.mono hq.1 ?_; rintro e X2 ⟨rfl, hb2⟩; obtain ⟨t1, t2, t3, t4, hc6⟩ := hq.2 X2 hb2; have HS6 : Bx _ := ⟨hc6⟩; clear s1 s2 s3 s5 k4 k6 HS hq hb2 hc6)
  | (go_at_call 15; obtain ⟨X3, hX3⟩ : ∃ X3, X2.alloc (.cells #[.int .i64 5] 3) = X3 := ⟨_, rfl⟩; rw [hX3]; have hq := HS6.out X3 hX3; clear hX3; refine Calls.mono hq ?_; rintro e X4 ⟨rfl, hb4⟩))
 go_ret
 exact ⟨rfl, hb4⟩
def FJ (but : Bool) (x y : Nd) : Prop := x.kind = y.kind /\ x.kids = y.kids /\ x.name = y.name /\ x.num = y.num /\ (but = false -> x.pos = y.pos)
theorem FJ.refl (but : Bool) (x : Nd) : FJ but x x := ⟨rfl, rfl, rfl, rfl, fun _ => rfl⟩
mutual
def Tr.ht : Tr -> Nat
 | .mk _ _ _ _ ks => hts ks + 1
def hts : List Tr -> Nat
 | [] => 0
 | t :: r => max t.ht (hts r)
end
mutual
def hl : Tr -> List Nat
 | .mk _ _ _ _ ks => hls ks ++ [hts ks + 1]
def hls : List Tr -> List Nat
 | [] => []
 | t :: r => hl t ++ hls r
end
theorem yn {f : Nat} {s s' : List ax} {ts : List Tr} (h : pF (f + 1) .program s = .ok ts s') : ∃ t, ts = [t] := by
 simp only [pF, body] at h
 match h1 : pF f .types s with
 | .out => rw [h1] at h; simp [aB] at h
 | .err _ => rw [h1] at h; simp [aB] at h
 | .ok a s1 =>
  rw [h1] at h
  simp only [aB] at h
  match h2 : pF f .tops s1 with
  | .out => rw [h2] at h; simp at h
  | .err _ => rw [h2] at h; simp at h
  | .ok b s2 =>
   rw [h2] at h
   simp only [Res.ok.injEq] at h
   exact ⟨_, h.1.symm⟩
theorem lh (xs : List UInt8) (nest : Int) (h : (fE xs nest).2.2 ≠ 0) : (fE xs nest).1 = [] := by
 unfold fE at h ⊢
 by_cases h0 : (aA xs).2.2 = 0
 ·rw [if_neg (fun h => h h0)] at h ⊢
  match hR : pF (jr (aA xs).1.length + 1) .program (pts xs (aR (aA xs).1 xs.length) 0) with
  | .out => rfl
  | .err s' => rfl
  | .ok ts s' =>
   rw [hR] at h
   simp only at h ⊢
   split at h
   ·rename_i h1
    rw [if_pos h1]
   ·simp at h
 ·rw [if_pos h0]
theorem rT (xs : List UInt8) (nest : Int) (h : (fE xs nest).2.2 = 0) : (aA xs).2.2 = 0 /\ ∃ t s', pF (jr (aA xs).1.length + 1) .program (pts xs (aR (aA xs).1 xs.length) 0) = .ok [t] s' /\ fE xs nest = (ag [t] 0, 0, 0) /\ lg (ag [t] 0) nest (dV (ag [t] 0)) 0 = (0, 0) := by
 unfold fE at h ⊢
 by_cases h0 : (aA xs).2.2 = 0
 ·rw [if_neg (fun h => h h0)] at h ⊢
  refine ⟨h0, ?_⟩
  have hne := rQ xs h0
  match hR : pF (jr (aA xs).1.length + 1) .program (pts xs (aR (aA xs).1 xs.length) 0) with
  | .out => exact absurd hR hne
  | .err s' => rw [hR] at h; simp at h
  | .ok ts s' =>
   obtain ⟨t, rfl⟩ := yn hR
   rw [hR] at h
   simp only at h ⊢
   split at h
   ·rename_i h1
    exact absurd h h1
   ·rename_i h1
    rw [if_neg h1]
    refine ⟨t, s', rfl, rfl, ?_⟩
    exact vG _ _ _ _ (by simpa using h1)
 ·rw [if_pos h0] at h
  exact absurd h (by simp only; omega)
theorem FK (xs : List UInt8) (nest : Int) : (∀ n ∈ (fE xs nest).1, vV n) /\ (fE xs nest).1.length <= 200000 /\ ∀ n ∈ (fE xs nest).1, n.kids.length <= 200000 := by
 by_cases h : (fE xs nest).2.2 = 0
 ·obtain ⟨h0, t, s', hR, e, _⟩ := rT xs nest h
  rw [e]
  exact pI xs h0 _ [t] s' hR
 ·rw [lh xs nest h]
  exact ⟨fun n hn => by simp at hn, by simp, fun n hn => by simp at hn⟩
def KR (w : World) (R : List Nd × Int × Int) (e : Ending) (w' : World) : Prop :=
 ∃ a cap, e = .returned (.tuple #[.slice a R.1.length cap, .agg #[.int .i64 R.2.1, .int .i64 R.2.2]]) /\ Below w.heap.size w w' /\ dh w' w'.heap.size a cap R.1
theorem Ht (w : World) (hL : Laid w) (h7 : 7 <= w.heap.size) (a : Option Addr) (cap : Nat) (xs : List UInt8) (hs : iG w a cap xs) (nest : Int) :
  Calls Tryz.prog 10 #[.slice a xs.length cap, .int .i64 nest] w (KR w (fE xs nest)) := by
 refine Calls.mono (uh w hL h7 a cap xs hs nest) ?_
 rintro e w' ⟨nv, rfl, hb, h1, h2⟩
 by_cases h : (fE xs nest).2.2 = 0
 ·obtain ⟨rb, _, hno⟩ := h2 h
  obtain ⟨g1, g2, g3⟩ := FK xs nest
  obtain ⟨a', c', rfl, hn⟩ := rO hno g1 g2 g3
  exact ⟨a', c', rfl, hb, hn⟩
 ·have e0 := lh xs nest h
  refine ⟨none, 0, ?_, hb, ?_⟩
  ·rw [h1 h, e0]; rfl
  ·rw [e0]; exact ⟨fun h => absurd h (by simp), Nat.le_refl _⟩
end Go.Proofs.YtecodpdfckjalaaGreatDoor
