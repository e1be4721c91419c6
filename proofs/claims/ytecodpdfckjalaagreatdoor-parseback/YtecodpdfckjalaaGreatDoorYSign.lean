import Derived.Test.YtecodpdfckjalaaGreatDoorYNumP
import Derived.Deep.RegionHeld
import Derived.Deep.DrawnRows
import Derived.Deep.QuietTactic
import Derived.BigQuiet
import Derived.Deep.DeepFit
import Derived.Deep.DeepMust
import Derived.Deep.AppendLies
set_option linter.unusedVariables false
set_option linter.unusedSimpArgs false
set_option maxHeartbeats 4000000
set_option maxRecDepth 100000
namespace Go.Proofs.YtecodpdfckjalaaGreatDoor
open Go.RowKit
def uT (xs : List UInt8) (k j K L : Nat) : Prop := jm (xs.drop k) = dh (dL.drop j) (40 + j) (K, L) (xs.drop k) /\ K <= 67 /\ L <= 3
def jc (w wr : World) : Prop := Below (w.heap.size + 1) (w.alloc (.cells #[.int .i64 0, .int .i64 0, .int .i64 0, .int .i64 0] 62)) wr
theorem jc.below {w wr : World} (h : jc w wr) : Below w.heap.size w wr :=
 ((Below.refl w.heap.size w).alloc (Nat.le_refl _) _).trans (Below.mono h (by omega))
theorem jc.drewN {w wr : World} (h : jc w wr) (n : Nat) : jc w (wr.drewN n) := below_drewN h n
theorem Dx (j : Nat) (h : j < 27) : (dL.getD j []).length <= 3 := by
 have : ∀ i : Fin 27, (dL.getD i []).length <= 3 := by decide
 exact this ⟨j, h⟩
structure Box (p : Prop) : Prop where
 out : p
def SignS (w : World) (b o k K : Nat) (xs : List UInt8) (wr : World) : Prop := Src wr b o xs /\ b < wr.heap.size /\ wr.cell? ⟨w.heap.size + 1, 0, none⟩ = some (.int .i64 K) /\ wr.cell? ⟨w.heap.size + 1, 1, none⟩ = some (.int .i64 k)
 /\ wr.cell? ⟨w.heap.size + 1, 3, none⟩ = some (.int .i64 0) /\ wr.frozen? ⟨w.heap.size + 1, 0, none⟩ = false /\ wr.frozen? ⟨w.heap.size + 1, 2, none⟩ = false /\ w.heap.size + 1 < wr.heap.size /\ jc w wr
theorem SignS.later {w wr w2 : World} {b o k K : Nat} {xs : List UInt8} (h : SignS w b o k K xs wr) (hb : Below wr.heap.size wr w2) : SignS w b o k K xs w2 := by
 obtain ⟨a1, a2, a3, a4, a5, a6, a7, a8, a9⟩ := h
 have hz := hb.size
 refine ⟨a1.below a2 hb, by omega, by rw [hb.cell a8]; exact a3, by rw [hb.cell a8]; exact a4, by rw [hb.cell a8]; exact a5, by rw [hb.frozen a8]; exact a6, by rw [hb.frozen a8]; exact a7, by omega, ?_⟩
 exact Below.trans a9 (hb.mono (by omega))
theorem SignS.drew {w wr : World} {b o k K : Nat} {xs : List UInt8} (h : SignS w b o k K xs wr) : SignS w b o k K xs wr.drew := h.later (Below.refl _ _).drew
theorem SignS.bytes {w wr : World} {b o k K : Nat} {xs : List UInt8} (h : SignS w b o k K xs wr) (s : ByteArray) : SignS w b o k K xs (Lib.bytesWorld wr 5 s) := h.later (gB wr s)
theorem bw_cell (W : World) (s : ByteArray) (b i : Nat) (hb : b < W.heap.size) : (Lib.bytesWorld W 5 s).cell? ⟨b, i, none⟩ = W.cell? ⟨b, i, none⟩ := Lib.bytesWorld_old W 5 s ⟨b, i, none⟩ hb
theorem bw_frozen (W : World) (s : ByteArray) (b i : Nat) (hb : b < W.heap.size) : (Lib.bytesWorld W 5 s).frozen? ⟨b, i, none⟩ = W.frozen? ⟨b, i, none⟩ := (gB W s).frozen (p := ⟨b, i, none⟩) hb
theorem Jw (W : World) (T i b o : Nat) (v : Value) (h : T ≠ b) : (W.setCell ⟨T, i, none⟩ v).cell? ⟨b, o, none⟩ = W.cell? ⟨b, o, none⟩ :=
 World.cell?_setCell_other _ _ _ _ (fun e => h (by injection e))
theorem og (W : World) (T i j : Nat) (v : Value) (h : i ≠ j) : (W.setCell ⟨T, i, none⟩ v).cell? ⟨T, j, none⟩ = W.cell? ⟨T, j, none⟩ :=
 World.cell?_setCell_other _ _ _ _ (fun e => h (by injection e))
theorem wrap_small (x : Int) (h0 : 0 <= x) (h1 : x <= 1000000) : IntKind.i64.wrap x = x := by
 rw [IntKind.wrap_i64]; omega
attribute [local go_sem ↓] Go.wp_at_zero Go.wp_at_succ
attribute [local simp] SignS.drew SignS.bytes bw_cell bw_frozen Lib.bytesWorld_size
theorem tN (w wr : World) (b o k K L j cap : Nat) (xs s : List UInt8) (p : Bool) (hp : s.isPrefixOf (xs.drop k) = p) (hk : k < xs.length) (hcap : xs.length <= cap) (h : SignS w b o k K xs wr) (hc : wr.cell? ⟨0, j, none⟩ = some (.string ⟨s.toArray⟩)) (h1 : 0 < wr.heap.size)
  (c2 : wr.cell? ⟨w.heap.size + 1, 2, none⟩ = some (.int .i64 L)) (d : Nat) :
  Calls Tryz.prog 82 #[.slice (some ⟨b, o + k, none⟩) (xs.length - k) (cap - k), .slice (some ⟨wr.heap.size, 0, none⟩) s.length d] (Lib.bytesWorld wr.drew 5 ⟨s.toArray⟩)
   fun e w' => e = .returned (.bool p) /\ SignS w b o k K xs w' /\ w'.cell? ⟨0, j, none⟩ = some (.string ⟨s.toArray⟩) /\ w'.cell? ⟨w.heap.size + 1, 2, none⟩ = some (.int .i64 L) /\ 0 < w'.heap.size := by
 have hb : Below wr.heap.size wr (Lib.bytesWorld wr.drew 5 ⟨s.toArray⟩) := (Below.refl _ _).drew.trans (gB wr.drew _)
 refine (uS wr.drew b o k (cap - k) d xs s h.drew.1 h.2.1 (by omega) (by omega)).mono ?_
 rintro e w' ⟨rfl, rfl⟩
 have := hb.size
 exact ⟨by rw [hp], h.later hb, by rw [hb.cell h1]; exact hc, by rw [hb.cell h.2.2.2.2.2.2.2.1]; exact c2, by omega⟩
theorem Dy (w w1 : World) (k K L : Nat) (x y : Int) (d0 : w1.cell? ⟨w.heap.size + 1, 0, none⟩ = some (.int .i64 K)) (d1 : w1.cell? ⟨w.heap.size + 1, 1, none⟩ = some (.int .i64 k)) (d2 : w1.cell? ⟨w.heap.size + 1, 2, none⟩ = some (.int .i64 L))
  (d3 : w1.cell? ⟨w.heap.size + 1, 3, none⟩ = some (.int .i64 0)) (g0 : w1.frozen? ⟨w.heap.size + 1, 0, none⟩ = false) (g2 : w1.frozen? ⟨w.heap.size + 1, 2, none⟩ = false) (hz : w.heap.size + 1 < w1.heap.size) (hm : jc w w1) :
  ((w1.setCell ⟨w.heap.size + 1, 0, none⟩ (.int .i64 x)).setCell ⟨w.heap.size + 1, 2, none⟩ (.int .i64 y)).drew.cell? ⟨w.heap.size + 1, 0, none⟩ = some (.int .i64 x) /\
  ((w1.setCell ⟨w.heap.size + 1, 0, none⟩ (.int .i64 x)).setCell ⟨w.heap.size + 1, 2, none⟩ (.int .i64 y)).drew.cell? ⟨w.heap.size + 1, 1, none⟩ = some (.int .i64 k) /\
  ((w1.setCell ⟨w.heap.size + 1, 0, none⟩ (.int .i64 x)).setCell ⟨w.heap.size + 1, 2, none⟩ (.int .i64 y)).drew.cell? ⟨w.heap.size + 1, 2, none⟩ = some (.int .i64 y) /\
  ((w1.setCell ⟨w.heap.size + 1, 0, none⟩ (.int .i64 x)).setCell ⟨w.heap.size + 1, 2, none⟩ (.int .i64 y)).drew.cell? ⟨w.heap.size + 1, 3, none⟩ = some (.int .i64 0) /\
  ((w1.setCell ⟨w.heap.size + 1, 0, none⟩ (.int .i64 x)).setCell ⟨w.heap.size + 1, 2, none⟩ (.int .i64 y)).drew.frozen? ⟨w.heap.size + 1, 0, none⟩ = false /\
  ((w1.setCell ⟨w.heap.size + 1, 0, none⟩ (.int .i64 x)).setCell ⟨w.heap.size + 1, 2, none⟩ (.int .i64 y)).drew.frozen? ⟨w.heap.size + 1, 2, none⟩ = false /\
  w.heap.size + 1 < ((w1.setCell ⟨w.heap.size + 1, 0, none⟩ (.int .i64 x)).setCell ⟨w.heap.size + 1, 2, none⟩ (.int .i64 y)).drew.heap.size /\
  jc w ((w1.setCell ⟨w.heap.size + 1, 0, none⟩ (.int .i64 x)).setCell ⟨w.heap.size + 1, 2, none⟩ (.int .i64 y)).drew := by
 have e1 : (w1.setCell ⟨w.heap.size + 1, 0, none⟩ (.int .i64 x)).cell? ⟨w.heap.size + 1, 2, none⟩ = some (.int .i64 L) := by rw [og _ _ _ _ _ (by omega)]; exact d2
 refine ⟨?_, ?_, ?_, ?_, ?_, ?_, ?_, ?_⟩
 ·show ((w1.setCell ⟨w.heap.size + 1, 0, none⟩ (.int .i64 x)).setCell ⟨w.heap.size + 1, 2, none⟩ (.int .i64 y)).cell? _ = _
  rw [og _ _ _ _ _ (by omega)]; exact World.cell?_setCell_same _ _ _ d0
 ·show ((w1.setCell ⟨w.heap.size + 1, 0, none⟩ (.int .i64 x)).setCell ⟨w.heap.size + 1, 2, none⟩ (.int .i64 y)).cell? _ = _
  rw [og _ _ _ _ _ (by omega), og _ _ _ _ _ (by omega)]; exact d1
 ·exact World.cell?_setCell_same _ _ _ e1
 ·show ((w1.setCell ⟨w.heap.size + 1, 0, none⟩ (.int .i64 x)).setCell ⟨w.heap.size + 1, 2, none⟩ (.int .i64 y)).cell? _ = _
  rw [og _ _ _ _ _ (by omega), og _ _ _ _ _ (by omega)]; exact d3
 ·show ((w1.setCell ⟨w.heap.size + 1, 0, none⟩ (.int .i64 x)).setCell ⟨w.heap.size + 1, 2, none⟩ (.int .i64 y)).frozen? _ = _
  rw [World.frozen?_setCell, World.frozen?_setCell]; exact g0
 ·show ((w1.setCell ⟨w.heap.size + 1, 0, none⟩ (.int .i64 x)).setCell ⟨w.heap.size + 1, 2, none⟩ (.int .i64 y)).frozen? _ = _
  rw [World.frozen?_setCell, World.frozen?_setCell]; exact g2
 ·simpa [World.setCell] using hz
 ·exact ((Below.setCell hm (Nat.le_refl _) _).setCell (Nat.le_refl _) _).drew
theorem BB (b o cap : Nat) (xs : List UInt8) (k : Nat) (w : World) (hs : Src w b o xs) (hb : b < w.heap.size) (hl : xs.length <= maxLen) (hcap : xs.length <= cap) (hk : k < xs.length) (hT : TabAt w 0 dL) (h1 : 0 < w.heap.size) :
  Calls Tryz.prog 65 #[.slice (some ⟨b, o, none⟩) xs.length cap, .int .i64 k] w fun e w' => e = .returned (.tuple #[aa (iq xs k).1, .int .i64 (iq xs k).2]) /\ Below w.heap.size w w' := by
 unfold maxLen at hl
 go_enter Tryz.func65, Tryz.ntmps65
 go_wp2
 go_loopw [10] (fun i wr => ∃ j K L : Nat, j <= 27 /\ i = .int .i64 j /\ wr.cell? ⟨w.heap.size + 1, 0, none⟩ = some (.int .i64 K) /\ wr.cell? ⟨w.heap.size + 1, 1, none⟩ = some (.int .i64 k)
   /\ wr.cell? ⟨w.heap.size + 1, 2, none⟩ = some (.int .i64 L) /\ wr.cell? ⟨w.heap.size + 1, 3, none⟩ = some (.int .i64 0) /\ wr.frozen? ⟨w.heap.size + 1, 0, none⟩ = false /\ wr.frozen? ⟨w.heap.size + 1, 2, none⟩ = false
   /\ w.heap.size + 1 < wr.heap.size /\ jc w wr /\ uT xs k j K L)
  (fun i _ => 27 - (intOf i).toNat)
 case atStart =>
  refine ⟨0, 0, 0, by omega, rfl, by simp, by simp, by simp, by simp, by simp, by simp, by simp, ?_, rfl, by omega, by omega⟩
  exact (Below.refl _ _).alloc (by simp) _
 case round =>
  obtain ⟨j, K, L, hj, rfl, c0, c1, c2, c3, f0, f2, hsz, HB, HE⟩ := hrel
  by_cases hlt : j < 27
  ·have hc := hT.below h1 HB.below j hlt
   have hsl := Dx j hlt
   have hL := HE.2.2
   have hN : ¬ (L < (dL.getD j []).length /\ (dL.getD j []).isPrefixOf (xs.drop k) = true) -> uT xs k (j + 1) K L := fun h =>
    ⟨HE.1.trans (wG dL j (40 + j) (K, L) (xs.drop k) hlt h), HE.2⟩
   have hY : L < (dL.getD j []).length -> (dL.getD j []).isPrefixOf (xs.drop k) = true -> uT xs k (j + 1) (40 + j) (dL.getD j []).length := fun h h' =>
    ⟨HE.1.trans (uR dL j (40 + j) (K, L) (xs.drop k) hlt h h'), by omega, hsl⟩
   have hsr : Src wr b o xs := hs.below hb HB.below
   have hbr : b < wr.heap.size := by have := HB.below.size; omega
   clear HE
   generalize dL.getD j [] = s at *
   by_cases hg : L < s.length
   ·have hgd : decide (L < s.length) = true := by simpa using hg
    have hcv := mf ⟨s.toArray⟩
    have hslc := fun W => yw W b o xs.length cap k hk hcap
    have hSS : SignS w b o k K xs wr := ⟨hsr, hbr, c0, c1, c3, f0, f2, hsz, HB⟩
    have h1r : 0 < wr.heap.size := by omega
    have HC : (Lib.bytesWorld wr.drew 5 ⟨s.toArray⟩).cell? ⟨0, j, none⟩ = some (.string ⟨s.toArray⟩) /\ (Lib.bytesWorld wr.drew 5 ⟨s.toArray⟩).cell? ⟨w.heap.size + 1, 2, none⟩ = some (.int .i64 L) /\ SignS w b o k K xs (Lib.bytesWorld wr.drew 5 ⟨s.toArray⟩) /\ 0 < (Lib.bytesWorld wr.drew 5 ⟨s.toArray⟩).heap.size /\ w.heap.size + 1 < (Lib.bytesWorld wr.drew 5 ⟨s.toArray⟩).heap.size := by
     have hb : Below wr.heap.size wr (Lib.bytesWorld wr.drew 5 ⟨s.toArray⟩) := (Below.refl _ _).drew.trans (gB wr.drew _)
     have := hb.size
     exact ⟨by rw [hb.cell h1r]; exact hc, by rw [hb.cell hsz]; exact c2, hSS.later hb, by omega, by omega⟩
    cases hpre : s.isPrefixOf (xs.drop k)
    ·have hN := hN (by rw [hpre]; simp)
     have HP : Hid _ := tN w wr b o k K L j cap xs s false hpre hk hcap hSS hc h1r c2
     clear hs hT hY hsr hbr c0 c1 c3 f0 f2 HB hpre
     go_wp2
     go_region_held (fun w' => w'.cell? ⟨0, j, none⟩ = some (.string ⟨s.toArray⟩) /\ w'.cell? ⟨w.heap.size + 1, 2, none⟩ = some (.int .i64 L) /\ SignS w b o k K xs w' /\ 0 < w'.heap.size /\ w.heap.size + 1 < w'.heap.size) ((first | exact ⟨hc, c2, hSS.drew, h1r, hsz⟩ | exact ⟨HC.1, HC.2.1, HC.2.2.1, HC.2.2.2.1, HC.2.2.2.2⟩ | exact ⟨k1, k2, hS1, hz3, hS1.2.2.2.2.2.2.2.1⟩))
      ((first | (go_at_call 82; refine Calls.mono (HP.out _) ?_; rintro e w1 ⟨rfl, hS1, k1, k2, hz3⟩)))
     go_wp2
     obtain ⟨_, _, d0, d1, d3, g0, g2, hz1, hm1⟩ := hS1
     go_roundw
     case rel => exact ⟨j + 1, K, L, by omega, by go_num, d0, d1, k2, d3, g0, g2, hz1, hm1, hN⟩
     case measure => simp [intOf]; omega
    ·have hY := hY hg hpre
     have HP : Hid _ := tN w wr b o k K L j cap xs s true hpre hk hcap hSS hc h1r c2
     clear hs hT hN hsr hbr c0 c1 c3 f0 f2 HB hpre
     go_wp2
     go_region_held (fun w' => w'.cell? ⟨0, j, none⟩ = some (.string ⟨s.toArray⟩) /\ w'.cell? ⟨w.heap.size + 1, 2, none⟩ = some (.int .i64 L) /\ SignS w b o k K xs w' /\ 0 < w'.heap.size /\ w.heap.size + 1 < w'.heap.size) ((first | exact ⟨hc, c2, hSS.drew, h1r, hsz⟩ | exact ⟨HC.1, HC.2.1, HC.2.2.1, HC.2.2.2.1, HC.2.2.2.2⟩ | exact ⟨k1, k2, hS1, hz3, hS1.2.2.2.2.2.2.2.1⟩))
      ((first | (go_at_call 82; refine Calls.mono (HP.out _) ?_; rintro e w1 ⟨rfl, hS1, k1, k2, hz3⟩)))
     go_wp2
     obtain ⟨_, _, d0, d1, d3, g0, g2, hz1, hm1⟩ := hS1
     have hne : w.heap.size + 1 ≠ 0 := by omega
     have hwr : IntKind.i64.wrap (40 + (j : Int)) = 40 + (j : Int) := wrap_small _ (by omega) (by omega)
     clear HC HP
     go_region_held (fun w' => w'.cell? ⟨0, j, none⟩ = some (.string ⟨s.toArray⟩))
      (first | exact k1 | simp [Jw _ _ _ _ _ _ hne, *]) (fail)
     go_wp2
     have R := Dy w w1 k K L (40 + (j : Int)) (s.length : Int) d0 d1 k2 d3 g0 g2 hz1 hm1
     go_roundw
     case rel => exact ⟨j + 1, 40 + j, s.length, by omega, by go_num, by rw [R.1]; go_num, R.2.1, R.2.2.1, R.2.2.2.1, R.2.2.2.2.1, R.2.2.2.2.2.1, R.2.2.2.2.2.2.1, R.2.2.2.2.2.2.2, hY⟩
     case measure => simp [intOf]; omega
   ·have hgd : decide (L < s.length) = false := by simp; omega
    have hN := hN (fun h => hg h.1)
    clear hY hg hs hT
    go_wp2
    go_quiet (fail)
    go_wp2
    go_roundw
    case rel => exact ⟨j + 1, K, L, by omega, by go_num, by simpa using c0, by simpa using c1, by simpa using c2, by simpa using c3, by simpa using f0, by simpa using f2, by simpa using hsz, HB.drewN nq, hN⟩
    case measure => simp [intOf]; omega
  ·have hbest : jm (xs.drop k) = (K, L) := by
    rw [HE.1, List.drop_eq_nil_of_le (show dL.length <= j from Nat.le_of_not_lt hlt)]; rfl
   have hK := HE.2.1
   have hL := HE.2.2
   have hr0 : ∀ i, i < 4 -> wr.cell? ⟨w.heap.size, i, none⟩ = some (.int .i64 0) := fun i hi => by
    rw [Below.cell HB (by simp)]
    match i, hi with
    | 0, _ => simp
    | 1, _ => simp
    | 2, _ => simp
    | 3, _ => simp
   have hf : ∀ i, wr.frozen? ⟨w.heap.size, i, none⟩ = false := fun i => by
    rw [Below.frozen HB (by simp)]; simp
   have r0 := hr0 0 (by omega)
   have r1 := hr0 1 (by omega)
   have r2 := hr0 2 (by omega)
   have r3 := hr0 3 (by omega)
   have q0 := hf 0
   have q1 := hf 1
   have q2 := hf 2
   have q3 := hf 3
   have hR : iq xs k = if L = 0 then (gM, 11) else (⟨K, k, L, 0⟩, 0) := by unfold iq; rw [hbest]
   clear HE hbest hr0 hf hs hT
   by_cases h0 : L = 0
   ·rw [if_pos h0] at hR
    have hq : ((L : Int) == 0) = true := by rw [h0]; rfl
    have HR : Box (iq xs k = (gM, 11)) := ⟨hR⟩
    clear hR h0
    go_wp2
    refine bodyPost_ret (v := .tuple #[aa gM, .int .i64 11]) (by simp [results, Tryz.results65, go_sem, aa, gM, r0, r1, r2, r3]) rfl ⟨by rw [HR.out]; rfl, ?_⟩
    exact (((HB.below.setCell (Nat.le_refl _) _).setCell (Nat.le_refl _) _).setCell (Nat.le_refl _) _).setCell (Nat.le_refl _) _
   ·rw [if_neg h0] at hR
    have hq : ((L : Int) == 0) = false := by rw [beq_eq_false_iff_ne]; omega
    have HR : Box (iq xs k = (⟨K, k, L, 0⟩, 0)) := ⟨hR⟩
    clear hR h0
    go_wp2
    refine bodyPost_ret (v := .tuple #[aa ⟨K, k, L, 0⟩, .int .i64 0]) (by simp [results, Tryz.results65, go_sem, aa, r0, r1, r2, r3]) rfl ⟨by rw [HR.out]; rfl, ?_⟩
    exact (((HB.below.setCell (Nat.le_refl _) _).setCell (Nat.le_refl _) _).setCell (Nat.le_refl _) _).setCell (Nat.le_refl _) _
structure Laid (w : World) : Prop where
 words : TabAt w 1 fK
 signs : TabAt w 0 dL
 range : ∃ te pe, w.cell? ⟨4, 0, none⟩ = some (.iface te pe)
 size : 4 < w.heap.size
theorem Laid.below {w w' : World} (h : Laid w) (hb : Below w.heap.size w w') : Laid w' := by
 have h3 := h.size
 refine ⟨h.words.below (by omega) hb, h.signs.below (by omega) hb, ?_, by have := hb.size; omega⟩
 obtain ⟨te, pe, hc⟩ := h.range
 exact ⟨te, pe, by rw [hb.cell (by exact h3)]; exact hc⟩
def bR (xs : List UInt8) (k : Nat) : Tok × Nat :=
 if wsI ((xs.getD k 0).toNat : Int) = true then iZ xs k else if cO ((xs.getD k 0).toNat : Int) = true then kJ xs k else iq xs k
def z4 : Obj := .cells #[.int .i64 0, .int .i64 0, .int .i64 0, .int .i64 0] 62
theorem BC (b o cap : Nat) (n k : Nat) (w : World) (c : Int) (t : Tok) (e0 : Int) (hc : w.cell? ⟨b, o + k, none⟩ = some (.int .u8 c)) (hb : b < w.heap.size) (hl : n <= 65536) (hk : k < n) (hw : wsI c = true)
  (HC : Box (∀ o', Calls Tryz.prog 62 #[.slice (some ⟨b, o, none⟩) n cap, .int .i64 k] (w.alloc o') fun e w' => e = .returned (.tuple #[aa t, .int .i64 e0]) /\ Below (w.alloc o').heap.size (w.alloc o') w')) :
  Calls Tryz.prog 36 #[.slice (some ⟨b, o, none⟩) n cap, .int .i64 k] w fun e w' => e = .returned (.tuple #[aa t, .int .i64 e0]) /\ Below w.heap.size w w' := by
 go_enter Tryz.func36, Tryz.ntmps36
 go_wp2_with (first | (go_at_call 61; refine (bi _ _).mono ?_; rintro e w' ⟨rfl, rfl⟩) | (go_at_call 62; refine Calls.mono (HC.out _) ?_; rintro e w1 ⟨rfl, hb1⟩; obtain ⟨hcc, hff⟩ := kK hb1; have hsz : w.heap.size < w1.heap.size := (by have := hb1.size; simp at this; omega); unfold aa))
 refine bodyPost_ret (v := .tuple #[aa t, .int .i64 e0]) (by simp [results, Tryz.results36, go_sem, aa, hcc, hsz]) rfl ⟨rfl, ?_⟩
 exact ((((((Below.refl _ _).alloc (Nat.le_refl _) _).trans (hb1.mono (by simp))).setCell (Nat.le_refl _) _).setCell (Nat.le_refl _) _).setCell (Nat.le_refl _) _).setCell (Nat.le_refl _) _
theorem Dz (b o cap : Nat) (n k : Nat) (w : World) (c : Int) (t : Tok) (e0 : Int) (hc : w.cell? ⟨b, o + k, none⟩ = some (.int .u8 c)) (hb : b < w.heap.size) (hl : n <= 65536) (hk : k < n) (hw : wsI c = false) (hd : cO c = true)
  (HC : Box (∀ o', Calls Tryz.prog 64 #[.slice (some ⟨b, o, none⟩) n cap, .int .i64 k] (w.alloc o') fun e w' => e = .returned (.tuple #[aa t, .int .i64 e0]) /\ Below (w.alloc o').heap.size (w.alloc o') w')) :
  Calls Tryz.prog 36 #[.slice (some ⟨b, o, none⟩) n cap, .int .i64 k] w fun e w' => e = .returned (.tuple #[aa t, .int .i64 e0]) /\ Below w.heap.size w w' := by
 go_enter Tryz.func36, Tryz.ntmps36
 go_wp2_with (first | (go_at_call 63; refine (gY _ _).mono ?_; rintro e w' ⟨rfl, rfl⟩) | (go_at_call 61; refine (bi _ _).mono ?_; rintro e w' ⟨rfl, rfl⟩) | (go_at_call 64; refine Calls.mono (HC.out _) ?_; rintro e w1 ⟨rfl, hb1⟩; obtain ⟨hcc, hff⟩ := kK hb1; have hsz : w.heap.size < w1.heap.size := (by have := hb1.size; simp at this; omega); unfold aa))
 refine bodyPost_ret (v := .tuple #[aa t, .int .i64 e0]) (by simp [results, Tryz.results36, go_sem, aa, hcc, hsz]) rfl ⟨rfl, ?_⟩
 exact ((((((Below.refl _ _).alloc (Nat.le_refl _) _).trans (hb1.mono (by simp))).setCell (Nat.le_refl _) _).setCell (Nat.le_refl _) _).setCell (Nat.le_refl _) _).setCell (Nat.le_refl _) _
theorem BD (b o cap : Nat) (n k : Nat) (w : World) (c : Int) (t : Tok) (e0 : Int) (hc : w.cell? ⟨b, o + k, none⟩ = some (.int .u8 c)) (hb : b < w.heap.size) (hl : n <= 65536) (hk : k < n) (hw : wsI c = false) (hd : cO c = false)
  (HC : Box (∀ o', Calls Tryz.prog 65 #[.slice (some ⟨b, o, none⟩) n cap, .int .i64 k] (w.alloc o') fun e w' => e = .returned (.tuple #[aa t, .int .i64 e0]) /\ Below (w.alloc o').heap.size (w.alloc o') w')) :
  Calls Tryz.prog 36 #[.slice (some ⟨b, o, none⟩) n cap, .int .i64 k] w fun e w' => e = .returned (.tuple #[aa t, .int .i64 e0]) /\ Below w.heap.size w w' := by
 go_enter Tryz.func36, Tryz.ntmps36
 go_wp2_with (first | (go_at_call 63; refine (gY _ _).mono ?_; rintro e w' ⟨rfl, rfl⟩) | (go_at_call 61; refine (bi _ _).mono ?_; rintro e w' ⟨rfl, rfl⟩) | (go_at_call 65; refine Calls.mono (HC.out _) ?_; rintro e w1 ⟨rfl, hb1⟩; obtain ⟨hcc, hff⟩ := kK hb1; have hsz : w.heap.size < w1.heap.size := (by have := hb1.size; simp at this; omega); unfold aa))
 refine bodyPost_ret (v := .tuple #[aa t, .int .i64 e0]) (by simp [results, Tryz.results36, go_sem, aa, hcc, hsz]) rfl ⟨rfl, ?_⟩
 exact ((((((Below.refl _ _).alloc (Nat.le_refl _) _).trans (hb1.mono (by simp))).setCell (Nat.le_refl _) _).setCell (Nat.le_refl _) _).setCell (Nat.le_refl _) _).setCell (Nat.le_refl _) _
theorem DC (b o cap : Nat) (xs : List UInt8) (k : Nat) (w : World) (hs : Src w b o xs) (hb : b < w.heap.size) (hl : xs.length <= 65536) (hcap : xs.length <= cap) (hk : k < xs.length) (hL : Laid w) :
  Calls Tryz.prog 36 #[.slice (some ⟨b, o, none⟩) xs.length cap, .int .i64 k] w fun e w' => e = .returned (.tuple #[aa (bR xs k).1, .int .i64 (bR xs k).2]) /\ Below w.heap.size w w' := by
 have hml : xs.length <= maxLen := by unfold maxLen; omega
 have hbl : ∀ o', Below w.heap.size w (w.alloc o') := fun o' => (Below.refl _ _).alloc (Nat.le_refl _) _
 have hc : w.cell? ⟨b, o + k, none⟩ = some (.int .u8 ((xs.getD k 0).toNat : Int)) := by
  rw [hs k hk]; simp [List.getD, hk]
 have hg : xs.getD k 0 = xs[k] := by simp [List.getD, hk]
 have hR : bR xs k = if wsI ((xs.getD k 0).toNat : Int) = true then iZ xs k else if cO ((xs.getD k 0).toNat : Int) = true then kJ xs k else iq xs k := rfl
 have hb' : ∀ o', b < (w.alloc o').heap.size := fun o' => by have := (hbl o').size; omega
 cases hw : wsI ((xs.getD k 0).toNat : Int)
 ·rw [if_neg (by rw [hw]; simp)] at hR
  cases hd : cO ((xs.getD k 0).toNat : Int)
  ·rw [if_neg (by rw [hd]; simp)] at hR
   rw [hR]
   refine BD b o cap xs.length k w _ _ _ hc hb hl hk hw hd ⟨fun o' => ?_⟩
   have hL' := hL.below (hbl o')
   have := hL'.size
   exact BB b o cap xs k _ (hs.below hb (hbl o')) (hb' o') hml hcap hk hL'.signs (by omega)
  ·rw [if_pos hd] at hR
   rw [hR]
   refine Dz b o cap xs.length k w _ _ _ hc hb hl hk hw hd ⟨fun o' => ?_⟩
   have hL' := hL.below (hbl o')
   obtain ⟨te, pe, h3⟩ := hL'.range
   refine yu b o cap xs k _ (hs.below hb (hbl o')) (hb' o') hl hcap ?_ te pe hL'.size h3
   rw [fJ _ _ _ hk (by rw [← hg]; exact hd)]
   have := (eQ cO xs (k + 1) (by omega)).1
   omega
 ·rw [if_pos hw] at hR
  rw [hR]
  refine BC b o cap xs.length k w _ _ _ hc hb hl hk hw ⟨fun o' => ?_⟩
  have hL' := hL.below (hbl o')
  have := hL'.size
  refine Dw b o cap xs k _ (hs.below hb (hbl o')) (hb' o') hml hcap ?_ hL'.words (by omega)
  rw [fJ _ _ _ hk (by rw [← hg]; unfold wbI; rw [hw]; rfl)]
  have := (eQ wbI xs (k + 1) (by omega)).1
  omega
theorem yx (s l : List UInt8) (h : s.isPrefixOf l = true) : s.length <= l.length := (List.isPrefixOf_iff_prefix.1 h).length_le
theorem oM (l : List UInt8) : ∀ (T : List (List UInt8)) (n : Nat) (acc : Nat × Nat), acc.2 <= l.length -> (dh T n acc l).2 <= l.length
 | [], n, acc, h => h
 | s :: r, n, acc, h => by
  simp only [dh]
  apply oM l r
  by_cases hc : acc.2 < s.length /\ s.isPrefixOf l = true
  ·rw [if_pos hc]; exact yx s l hc.2
  ·rw [if_neg hc]; exact h
theorem jg (xs : List UInt8) (k : Nat) (hk : k < xs.length) (h : (bR xs k).2 = 0) : 1 <= (bR xs k).1.len /\ k + (bR xs k).1.len <= xs.length := by
 have hg : xs.getD k 0 = xs[k] := by simp [List.getD, hk]
 have hR : bR xs k = if wsI ((xs.getD k 0).toNat : Int) = true then iZ xs k else if cO ((xs.getD k 0).toNat : Int) = true then kJ xs k else iq xs k := rfl
 cases hw : wsI ((xs.getD k 0).toNat : Int)
 ·rw [if_neg (by rw [hw]; simp)] at hR
  cases hd : cO ((xs.getD k 0).toNat : Int)
  ·rw [if_neg (by rw [hd]; simp)] at hR
   rw [hR] at h ⊢
   have hle := oM (xs.drop k) dL 40 (0, 0) (Nat.zero_le _)
   simp only [List.length_drop] at hle
   unfold iq at h ⊢
   by_cases h0 : (jm (xs.drop k)).2 = 0
   ·rw [if_pos h0] at h; simp at h
   ·rw [if_neg h0]
    unfold jm at h0 ⊢
    exact ⟨by simp only; omega, by simp only; omega⟩
  ·rw [if_pos hd] at hR
   rw [hR] at h ⊢
   have h1 : k < aJ cO xs k := by
    rw [fJ _ _ _ hk (by rw [← hg]; exact hd)]
    have := (eQ cO xs (k + 1) (by omega)).1
    omega
   have h2 := (eQ cO xs k (by omega)).2
   unfold kJ at h ⊢
   generalize aJ cO xs k = E at *
   split at h
   ·simp at h
   ·rename_i n1
    split at h
    ·simp at h
    ·rename_i n2
     split at h
     ·rename_i n3
      rw [if_neg n1, if_neg n2, if_pos n3]
      exact ⟨by simp only; omega, by simp only; omega⟩
     ·simp at h
 ·rw [if_pos hw] at hR
  rw [hR] at h ⊢
  have h1 : k < aJ wbI xs k := by
   rw [fJ _ _ _ hk (by rw [← hg]; unfold wbI; rw [hw]; rfl)]
   have := (eQ wbI xs (k + 1) (by omega)).1
   omega
  have h2 := (eQ wbI xs k (by omega)).2
  unfold iZ at h ⊢
  generalize aJ wbI xs k = E at *
  split at h
  ·rename_i n1
   rw [if_pos n1]
   exact ⟨by simp only; omega, by simp only; omega⟩
  ·rename_i n1
   split at h
   ·simp at h
   ·rename_i n2
    rw [if_neg n1, if_neg n2]
    exact ⟨by simp only; omega, by simp only; omega⟩
def iH : Nat -> List UInt8 -> Nat -> List Tok -> List Tok × Nat × Nat
 | 0, _, _, acc => (acc, 0, 0)
 | f + 1, xs, k, acc =>
  if k < xs.length then
   (if (bR xs k).2 = 0 then iH f xs (bL xs (k + (bR xs k).1.len)) (acc ++ [(bR xs k).1]) else ([], k, (bR xs k).2))
  else (acc, 0, 0)
def aB (xs : List UInt8) : List Tok × Nat × Nat := if 65536 < xs.length then ([], 65536, 10) else iH (xs.length + 1) xs (bL xs 0) []
def eZ (l : List Tok) : List Value := l.flatMap sS
theorem pY (l : List Tok) (t : Tok) : eZ (l ++ [t]) = eZ l ++ sS t := by
 unfold eZ; simp
theorem DD : (Tryz.prog.info? 62).map (fun i => (i.zero, i.size, i.bytes)) = some (some (.agg #[.int .i64 0, .int .i64 0, .int .i64 0, .int .i64 0]), 4, 32) := by kernel_rfl
structure uU (w : World) (xs : List UInt8) (f k : Nat) (acc : List Tok) : Prop where
 eq : aB xs = iH f xs k acc
 fuel : xs.length - k < f
 few : acc.length <= k
def lq (w wr : World) : Prop := Below (w.heap.size + 1) (w.alloc (.cells #[.int .i64 0, .int .i64 0] 30)) wr
theorem lq.below {w wr : World} (h : lq w wr) : Below w.heap.size w wr :=
 ((Below.refl w.heap.size w).alloc (Nat.le_refl _) _).trans (Below.mono h (by omega))
theorem p8 {w w' : World} {B : Nat} {e : TypeId} {s : Nat} {v : Value} {n : Nat} {cs : List Value} (h : w.ownsRow B e s v n cs) (hb : Below w.heap.size w w') : w'.ownsRow B e s v n cs := by
 obtain ⟨h1, h2⟩ := h
 refine ⟨h1, ?_⟩
 rcases h2 with h2 | ⟨g, cap, cur, hv, hg, hh, r⟩
 ·exact .inl h2
 ·refine .inr ⟨g, cap, cur, hv, hg, ?_, r⟩
  rw [hb.block g ?_]
  ·exact hh
  ·rcases Nat.lt_or_ge g w.heap.size with hlt | hge
   ·exact hlt
   ·rw [Array.getElem?_eq_none hge] at hh; cases hh
theorem BF {w : World} {B B' : Nat} {e : TypeId} {s : Nat} {v : Value} {n : Nat} {cs : List Value} (h : w.ownsRow B e s v n cs) (hb : B' <= B) : w.ownsRow B' e s v n cs := by
 obtain ⟨h1, h2⟩ := h
 refine ⟨h1, ?_⟩
 rcases h2 with h2 | ⟨g, cap, cur, hv, hg, r⟩
 ·exact .inl h2
 ·exact .inr ⟨g, cap, cur, hv, by omega, r⟩
def DF (t : Tok) : Obj := .cells #[.int .i64 t.kind, .int .i64 t.place, .int .i64 t.len, .int .i64 t.num] 62
theorem FQ (w1 : World) (o1 : Obj) (t : Tok) : ∀ j u, (sS t)[j]? = some u -> ((w1.alloc o1).alloc (DF t)).cell? ((⟨w1.heap.size + 1, 0, none⟩ : Addr).add j) = some u := by
 have h := heap_alloc_new (w1.alloc o1) (DF t)
 have e : (w1.alloc o1).heap.size = w1.heap.size + 1 := by simp
 rw [e] at h
 exact World.news_of_block (cs := #[.int .i64 t.kind, .int .i64 t.place, .int .i64 t.len, .int .i64 t.num]) h
theorem DI (t : Tok) : ∀ u ∈ sS t, u.oneCell' = true := by
 intro u hu
 simp only [sS, List.mem_cons, List.not_mem_nil, or_false] at hu
 rcases hu with rfl | rfl | rfl | rfl <;> rfl
theorem tO (w1 : World) (o1 o2 : Obj) : Below w1.heap.size w1 ((w1.alloc o1).alloc o2) := ((Below.refl _ _).alloc (Nat.le_refl _) _).alloc (by simp) _
theorem BG {w wr w1 w2 : World} {u : Value} {n : Nat} {cs : List Value} {t : Tok} (hown : wr.ownsRow (w.heap.size + 1) 62 4 u n cs) (HB : lq w wr) (hb1 : Below wr.heap.size wr w1)
  (hg : ((w1.alloc (DF t)).alloc (DF t)).grownBy w2 u.ownBlock) : lq w w2 /\ w2.cell? ⟨w1.heap.size, 2, none⟩ = some (.int .i64 t.len) := by
 have hz := Below.size HB
 simp at hz
 have hz1 := hb1.size
 refine ⟨?_, ?_⟩
 ·refine Below.grown (Below.trans (Below.trans HB (hb1.mono (by omega))) ((tO w1 _ _).mono (by omega))) hg (by simp; omega) ?_
  intro k hk
  exact (hown.lt k hk).1
 ·rw [hg.cell_far _ (by simp; omega) (by intro e; have := (hown.lt _ e.symm).2; simp at this; omega)]
  simp [DF]
theorem yz {w wr : World} {u : Value} {n : Nat} {cs : List Value} {x y : Value} (h : wr.ownsRow (w.heap.size + 1) 62 4 u n cs) :
  ((wr.setCell ⟨w.heap.size, 0, none⟩ x).setCell ⟨w.heap.size, 1, none⟩ y).ownsRow w.heap.size 62 4 u n cs :=
 BF (ownsRow_setCell_below (ownsRow_setCell_below h (by simp) _) (by simp) _) (by omega)
theorem oN {w wr : World} (HB : lq w wr) : ∀ w1, Below wr.heap.size wr w1 -> w1.cell? ⟨w.heap.size, 0, none⟩ = some (.int .i64 0) /\ w1.cell? ⟨w.heap.size, 1, none⟩ = some (.int .i64 0) /\ w1.frozen? ⟨w.heap.size, 0, none⟩ = false /\ w1.frozen? ⟨w.heap.size, 1, none⟩ = false /\ w.heap.size < w1.heap.size := by
 intro w1 hb1
 have hz1 := hb1.size
 have hz := Below.size HB
 simp at hz
 refine ⟨?_, ?_, ?_, ?_, by omega⟩
 ·rw [hb1.cell (by simp; omega), Below.cell HB (by simp)]; simp
 ·rw [hb1.cell (by simp; omega), Below.cell HB (by simp)]; simp
 ·rw [hb1.frozen (by simp; omega), Below.frozen HB (by simp)]; simp
 ·rw [hb1.frozen (by simp; omega), Below.frozen HB (by simp)]; simp
theorem BH (b o cap : Nat) (xs : List UInt8) (w : World) (hs : Src w b o xs) (hb : b < w.heap.size) (hl : xs.length <= 65536) (hcap : xs.length <= cap) (hL : Laid w) :
  Calls Tryz.prog 19 #[.slice (some ⟨b, o, none⟩) xs.length cap] w fun e w' => ∃ v, e = .returned (.tuple #[v, .agg #[.int .i64 (aB xs).2.1, .int .i64 (aB xs).2.2]]) /\ w'.ownsRow w.heap.size 62 4 v (aB xs).1.length (eZ (aB xs).1) /\ Below w.heap.size w w' := by
 have hml : xs.length <= maxLen := by unfold maxLen; omega
 have hsk := wB b o cap xs 0 (w.alloc (.cells #[.int .i64 0, .int .i64 0] 30)) (hs.below hb ((Below.refl _ _).alloc (Nat.le_refl _) _)) hml (Nat.zero_le _)
 have HK : Box _ := ⟨hsk⟩
 have h0 := (iG xs 0 (Nat.zero_le _)).2
 have hst : uU w xs (xs.length + 1) (bL xs 0) [] := ⟨by unfold aB; rw [if_neg (by omega)], by omega, Nat.zero_le _⟩
 generalize bL xs 0 = k0 at *
 clear hsk
 obtain ⟨i0, hi, hz0, hz1, hz2⟩ := info_parts DD
 go_enter Tryz.func19, Tryz.ntmps19
 go_wp2_with (first | (go_at_call 35; refine Calls.mono HK.out ?_; rintro e w' ⟨rfl, rfl⟩))
 go_loopw [4, 5] (fun v i wr => ∃ f k : Nat, ∃ acc : List Tok, k <= xs.length /\ i = .int .i64 k /\ wr.ownsRow (w.heap.size + 1) 62 4 v acc.length (eZ acc) /\ lq w wr /\ uU w xs f k acc)
  (fun _ i _ => xs.length - (intOf i).toNat)
 case atStart => exact ⟨xs.length + 1, k0, [], h0, rfl, World.ownsRow_nil _ _ _ _, Below.refl _ _, hst⟩
 case round =>
  obtain ⟨f, k, acc, hk, rfl, hown, HB, HE⟩ := hrel
  by_cases hlt : k < xs.length
  ·have hsz := HB.below.size
   have HN : Box _ := ⟨DC b o cap xs k wr (hs.below hb HB.below) (by omega) hl hcap hlt (hL.below HB.below)⟩
   have hlen := jg xs k hlt
   generalize hr : bR xs k = r at *
   by_cases he : r.2 = 0
   ·have hlen := hlen he
    have hnx : f ≠ 0 := by have := HE.fuel; omega
    obtain ⟨f, rfl⟩ : ∃ f', f = f' + 1 := ⟨f - 1, by omega⟩
    have hskl := iG xs (k + r.1.len) hlen.2
    have HE' : uU w xs f (bL xs (k + r.1.len)) (acc ++ [r.1]) := by
     refine ⟨?_, ?_, ?_⟩
     ·rw [HE.eq, iH, if_pos hlt, hr, if_pos he]
     ·have := HE.fuel; omega
     ·have := HE.few; simp; omega
    have HSK : Box (∀ w2, Below w.heap.size w w2 -> Calls Tryz.prog 35 #[.slice (some ⟨b, o, none⟩) xs.length cap, .int .i64 ((k : Int) + (r.1.len : Int))] w2 fun e w' => e = .returned (.int .i64 (bL xs (k + r.1.len))) /\ w2 = w') :=
     ⟨fun w2 h2 => wB b o cap xs (k + r.1.len) w2 (hs.below hb h2) hml hlen.2⟩
    generalize bL xs (k + r.1.len) = k' at *
    have hec : ((r.2 : Int) != 0) = false := by rw [he]; rfl
    have hfew := HE.few
    clear HE hr he hs hL HK hst h0
    obtain ⟨hlen1, hlen2⟩ := hlen
    go_wp2_with (first | (go_at_call 36; refine Calls.mono HN.out ?_; rintro e w1 ⟨rfl, hb1⟩; unfold aa) | (at_builtin; refine wpList_append_lies _ rfl (.tmp 29) (.tmp 31) 56 rfl (w.heap.size + 1) 62 i0 (.agg #[.int .i64 0, .int .i64 0, .int .i64 0, .int .i64 0]) 4 32 Tryz.underlying56 hi hz0 hz1 hz2 rfl (by omega) _ acc.length (eZ acc) rfl (p8 (p8 hown hb1) (tO w1 _ _)) ⟨w1.heap.size + 1, 0, none⟩ 1 1 (sS r.1) rfl rfl (FQ w1 _ r.1) (DI r.1) (by omega) (by unfold maxLen; omega) (by omega) (by have := Below.size HB; have := hb1.size; simp at *; omega) (w1.heap.size + 2) (by simp) ?_; intro g cp w2 hown2 hgrow hat hlt2; obtain ⟨HB2, hc2⟩ := BG hown HB hb1 hgrow; clear hgrow hat hlt2) | (go_at_call 35; refine Calls.mono (HSK.out _ HB2.below) ?_; rintro e w' ⟨rfl, rfl⟩))
    go_roundw
    case rel => exact ⟨f, k', acc ++ [r.1], hskl.2, rfl, by rw [pY]; simpa using hown2, HB2, HE'⟩
    case measure => simp [intOf]; omega
   ·have hec : ((r.2 : Int) != 0) = true := by rw [bne_iff_ne]; omega
    obtain ⟨f, rfl⟩ : ∃ f', f = f' + 1 := ⟨f - 1, by have := HE.fuel; omega⟩
    have HA : Box (aB xs = ([], k, r.2)) := ⟨by rw [HE.eq, iH, if_pos hlt, hr, if_neg he]⟩
    have HF := oN HB
    clear HE hr he hs hL HK hst h0 hown hlen
    go_wp2_with (first | (go_at_call 36; refine Calls.mono HN.out ?_; rintro e w1 ⟨rfl, hb1⟩; obtain ⟨p0, p1, p2, p3, p4⟩ := HF w1 hb1; unfold aa))
    refine bodyPost_ret (v := .tuple #[.slice none 0 0, .agg #[.int .i64 k, .int .i64 r.2]]) (by simp [results, Tryz.results19, go_sem, p0, p1, p4]) rfl ⟨.slice none 0 0, by rw [HA.out], by rw [HA.out]; exact World.ownsRow_nil _ _ _ _, ?_⟩
    exact ((((HB.below.trans (hb1.mono (by omega))).setCell (Nat.le_refl _) _).setCell (Nat.le_refl _) _).alloc (by simp; omega) _)
  ·obtain ⟨f, rfl⟩ : ∃ f', f = f' + 1 := ⟨f - 1, by have := HE.fuel; omega⟩
   have HA : Box (aB xs = (acc, 0, 0)) := ⟨by rw [HE.eq, iH, if_neg hlt]⟩
   have hwr : Below wr.heap.size wr wr := Below.refl _ _
   obtain ⟨p0, p1, p2, p3, p4⟩ := oN HB wr hwr
   clear HE hs hL HK hst h0 hwr
   go_wp2
   refine bodyPost_ret (v := .tuple #[u4, .agg #[.int .i64 0, .int .i64 0]]) (by simp [results, Tryz.results19, go_sem, p0, p1]) rfl ⟨u4, by rw [HA.out]; rfl, by rw [HA.out]; exact yz hown, ?_⟩
   exact (HB.below.setCell (Nat.le_refl _) _).setCell (Nat.le_refl _) _
end Go.Proofs.YtecodpdfckjalaaGreatDoor
