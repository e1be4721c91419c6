import Derived.Test.YtecodpdfckjalaaGreatDoorYRSim
import Derived.Deep.RegionHeld
set_option linter.unusedVariables false
set_option linter.unusedSimpArgs false
set_option maxHeartbeats 4000000
set_option maxRecDepth 100000
namespace Go.Proofs.YtecodpdfckjalaaGreatDoor
open Go.RowKit
theorem az {k : Nat} (hk : k = 0 ∨ k = 1 ∨ k = 2 ∨ (10 <= k /\ k < 31) ∨ (40 <= k /\ k < 67)) (c : Nat) (hc : (10 <= c /\ c < 31) ∨ (40 <= c /\ c < 67)) (t : List UInt8) (ht : ax (c : Int) = t) : ((⟨(ax (k : Nat)).toArray⟩ : ByteArray).toList == t) = decide (k = c) := by
 rw [ByteArray.toList_eq]
 have hiff := pM hk hc
 by_cases e : k = c
 ·rw [decide_eq_true e, beq_iff_eq, ← ht]
  exact hiff.2 e
 ·rw [decide_eq_false e, beq_eq_false_iff_ne, ← ht]
  exact fun h' => e (hiff.1 h')
theorem Ch {tx : ByteArray} (d0 : (tx.toList == [124, 124]) = true) (W : World) : Calls Tryz.prog 136 #[.string tx] W fun e W' => e = .returned (.int .i64 11) /\ W' = W := by
 go_enter Tryz.func136, Tryz.ntmps136
 go_wp2
 go_ret
 exact ⟨rfl, rfl⟩
theorem Ci {tx : ByteArray} (d0 : (tx.toList == [124, 124]) = false) (d1 : (tx.toList == [38, 38]) = true) (W : World) : Calls Tryz.prog 136 #[.string tx] W fun e W' => e = .returned (.int .i64 12) /\ W' = W := by
 go_enter Tryz.func136, Tryz.ntmps136
 go_wp2
 go_ret
 exact ⟨rfl, rfl⟩
theorem Cj {tx : ByteArray} (d0 : (tx.toList == [124, 124]) = false) (d1 : (tx.toList == [38, 38]) = false) (d2 : (tx.toList == [61, 61]) = true) (W : World) : Calls Tryz.prog 136 #[.string tx] W fun e W' => e = .returned (.int .i64 21) /\ W' = W := by
 go_enter Tryz.func136, Tryz.ntmps136
 go_wp2
 go_ret
 exact ⟨rfl, rfl⟩
theorem Ck {tx : ByteArray} (d0 : (tx.toList == [124, 124]) = false) (d1 : (tx.toList == [38, 38]) = false) (d2 : (tx.toList == [61, 61]) = false) (d3 : (tx.toList == [33, 61]) = true) (W : World) : Calls Tryz.prog 136 #[.string tx] W fun e W' => e = .returned (.int .i64 22) /\ W' = W := by
 go_enter Tryz.func136, Tryz.ntmps136
 go_wp2
 go_ret
 exact ⟨rfl, rfl⟩
theorem Cm {tx : ByteArray} (d0 : (tx.toList == [124, 124]) = false) (d1 : (tx.toList == [38, 38]) = false) (d2 : (tx.toList == [61, 61]) = false) (d3 : (tx.toList == [33, 61]) = false) (d4 : (tx.toList == [60]) = true) (W : World) : Calls Tryz.prog 136 #[.string tx] W fun e W' => e = .returned (.int .i64 23) /\ W' = W := by
 go_enter Tryz.func136, Tryz.ntmps136
 go_wp2
 go_ret
 exact ⟨rfl, rfl⟩
theorem Cn {tx : ByteArray} (d0 : (tx.toList == [124, 124]) = false) (d1 : (tx.toList == [38, 38]) = false) (d2 : (tx.toList == [61, 61]) = false) (d3 : (tx.toList == [33, 61]) = false) (d4 : (tx.toList == [60]) = false) (d5 : (tx.toList == [60, 61]) = true) (W : World) : Calls Tryz.prog 136 #[.string tx] W fun e W' => e = .returned (.int .i64 24) /\ W' = W := by
 go_enter Tryz.func136, Tryz.ntmps136
 go_wp2
 go_ret
 exact ⟨rfl, rfl⟩
theorem Co {tx : ByteArray} (d0 : (tx.toList == [124, 124]) = false) (d1 : (tx.toList == [38, 38]) = false) (d2 : (tx.toList == [61, 61]) = false) (d3 : (tx.toList == [33, 61]) = false) (d4 : (tx.toList == [60]) = false) (d5 : (tx.toList == [60, 61]) = false) (d6 : (tx.toList == [62]) = true) (W : World) : Calls Tryz.prog 136 #[.string tx] W fun e W' => e = .returned (.int .i64 25) /\ W' = W := by
 go_enter Tryz.func136, Tryz.ntmps136
 go_wp2
 go_ret
 exact ⟨rfl, rfl⟩
theorem Cq {tx : ByteArray} (d0 : (tx.toList == [124, 124]) = false) (d1 : (tx.toList == [38, 38]) = false) (d2 : (tx.toList == [61, 61]) = false) (d3 : (tx.toList == [33, 61]) = false) (d4 : (tx.toList == [60]) = false) (d5 : (tx.toList == [60, 61]) = false) (d6 : (tx.toList == [62]) = false) (d7 : (tx.toList == [62, 61]) = true) (W : World) : Calls Tryz.prog 136 #[.string tx] W fun e W' => e = .returned (.int .i64 26) /\ W' = W := by
 go_enter Tryz.func136, Tryz.ntmps136
 go_wp2
 go_ret
 exact ⟨rfl, rfl⟩
theorem Cr {tx : ByteArray} (d0 : (tx.toList == [124, 124]) = false) (d1 : (tx.toList == [38, 38]) = false) (d2 : (tx.toList == [61, 61]) = false) (d3 : (tx.toList == [33, 61]) = false) (d4 : (tx.toList == [60]) = false) (d5 : (tx.toList == [60, 61]) = false) (d6 : (tx.toList == [62]) = false) (d7 : (tx.toList == [62, 61]) = false) (d8 : (tx.toList == [43]) = true) (W : World) : Calls Tryz.prog 136 #[.string tx] W fun e W' => e = .returned (.int .i64 31) /\ W' = W := by
 go_enter Tryz.func136, Tryz.ntmps136
 go_wp2
 go_ret
 exact ⟨rfl, rfl⟩
theorem Cs {tx : ByteArray} (d0 : (tx.toList == [124, 124]) = false) (d1 : (tx.toList == [38, 38]) = false) (d2 : (tx.toList == [61, 61]) = false) (d3 : (tx.toList == [33, 61]) = false) (d4 : (tx.toList == [60]) = false) (d5 : (tx.toList == [60, 61]) = false) (d6 : (tx.toList == [62]) = false) (d7 : (tx.toList == [62, 61]) = false) (d8 : (tx.toList == [43]) = false) (d9 : (tx.toList == [45]) = true) (W : World) : Calls Tryz.prog 136 #[.string tx] W fun e W' => e = .returned (.int .i64 32) /\ W' = W := by
 go_enter Tryz.func136, Tryz.ntmps136
 go_wp2
 go_ret
 exact ⟨rfl, rfl⟩
theorem yJ {tx : ByteArray} (d0 : (tx.toList == [124, 124]) = false) (d1 : (tx.toList == [38, 38]) = false) (d2 : (tx.toList == [61, 61]) = false) (d3 : (tx.toList == [33, 61]) = false) (d4 : (tx.toList == [60]) = false) (d5 : (tx.toList == [60, 61]) = false) (d6 : (tx.toList == [62]) = false) (d7 : (tx.toList == [62, 61]) = false) (d8 : (tx.toList == [43]) = false) (d9 : (tx.toList == [45]) = false) (d10 : (tx.toList == [42]) = true) (W : World) : Calls Tryz.prog 136 #[.string tx] W fun e W' => e = .returned (.int .i64 41) /\ W' = W := by
 go_enter Tryz.func136, Tryz.ntmps136
 go_wp2
 go_ret
 exact ⟨rfl, rfl⟩
theorem yK {tx : ByteArray} (d0 : (tx.toList == [124, 124]) = false) (d1 : (tx.toList == [38, 38]) = false) (d2 : (tx.toList == [61, 61]) = false) (d3 : (tx.toList == [33, 61]) = false) (d4 : (tx.toList == [60]) = false) (d5 : (tx.toList == [60, 61]) = false) (d6 : (tx.toList == [62]) = false) (d7 : (tx.toList == [62, 61]) = false) (d8 : (tx.toList == [43]) = false) (d9 : (tx.toList == [45]) = false) (d10 : (tx.toList == [42]) = false) (d11 : (tx.toList == [47]) = true) (W : World) : Calls Tryz.prog 136 #[.string tx] W fun e W' => e = .returned (.int .i64 42) /\ W' = W := by
 go_enter Tryz.func136, Tryz.ntmps136
 go_wp2
 go_ret
 exact ⟨rfl, rfl⟩
theorem yL {tx : ByteArray} (d0 : (tx.toList == [124, 124]) = false) (d1 : (tx.toList == [38, 38]) = false) (d2 : (tx.toList == [61, 61]) = false) (d3 : (tx.toList == [33, 61]) = false) (d4 : (tx.toList == [60]) = false) (d5 : (tx.toList == [60, 61]) = false) (d6 : (tx.toList == [62]) = false) (d7 : (tx.toList == [62, 61]) = false) (d8 : (tx.toList == [43]) = false) (d9 : (tx.toList == [45]) = false) (d10 : (tx.toList == [42]) = false) (d11 : (tx.toList == [47]) = false) (d12 : (tx.toList == [37]) = true) (W : World) : Calls Tryz.prog 136 #[.string tx] W fun e W' => e = .returned (.int .i64 43) /\ W' = W := by
 go_enter Tryz.func136, Tryz.ntmps136
 go_wp2
 go_ret
 exact ⟨rfl, rfl⟩
theorem yM {tx : ByteArray} (d0 : (tx.toList == [124, 124]) = false) (d1 : (tx.toList == [38, 38]) = false) (d2 : (tx.toList == [61, 61]) = false) (d3 : (tx.toList == [33, 61]) = false) (d4 : (tx.toList == [60]) = false) (d5 : (tx.toList == [60, 61]) = false) (d6 : (tx.toList == [62]) = false) (d7 : (tx.toList == [62, 61]) = false) (d8 : (tx.toList == [43]) = false) (d9 : (tx.toList == [45]) = false) (d10 : (tx.toList == [42]) = false) (d11 : (tx.toList == [47]) = false) (d12 : (tx.toList == [37]) = false) (W : World) : Calls Tryz.prog 136 #[.string tx] W fun e W' => e = .returned (.int .i64 0) /\ W' = W := by
 go_enter Tryz.func136, Tryz.ntmps136
 go_wp2
 go_ret
 exact ⟨rfl, rfl⟩
theorem wW {k : Nat} (hk : k = 0 ∨ k = 1 ∨ k = 2 ∨ (10 <= k /\ k < 31) ∨ (40 <= k /\ k < 67)) (W : World) : Calls Tryz.prog 136 #[.string ⟨(ax (k : Nat)).toArray⟩] W fun e W' => e = .returned (.int .i64 (fe k)) /\ W' = W := by
 unfold fe
 by_cases c0 : k = 63
 ·rw [if_pos c0]; exact Ch (by rw [az hk 63 (by decide) _ (by decide)]; exact decide_eq_true c0) W
 rw [if_neg c0]
 by_cases c1 : k = 62
 ·rw [if_pos c1]; exact Ci (by rw [az hk 63 (by decide) _ (by decide)]; exact decide_eq_false c0) (by rw [az hk 62 (by decide) _ (by decide)]; exact decide_eq_true c1) W
 rw [if_neg c1]
 by_cases c2 : k = 51
 ·rw [if_pos c2]; exact Cj (by rw [az hk 63 (by decide) _ (by decide)]; exact decide_eq_false c0) (by rw [az hk 62 (by decide) _ (by decide)]; exact decide_eq_false c1) (by rw [az hk 51 (by decide) _ (by decide)]; exact decide_eq_true c2) W
 rw [if_neg c2]
 by_cases c3 : k = 52
 ·rw [if_pos c3]; exact Ck (by rw [az hk 63 (by decide) _ (by decide)]; exact decide_eq_false c0) (by rw [az hk 62 (by decide) _ (by decide)]; exact decide_eq_false c1) (by rw [az hk 51 (by decide) _ (by decide)]; exact decide_eq_false c2) (by rw [az hk 52 (by decide) _ (by decide)]; exact decide_eq_true c3) W
 rw [if_neg c3]
 by_cases c4 : k = 53
 ·rw [if_pos c4]; exact Cm (by rw [az hk 63 (by decide) _ (by decide)]; exact decide_eq_false c0) (by rw [az hk 62 (by decide) _ (by decide)]; exact decide_eq_false c1) (by rw [az hk 51 (by decide) _ (by decide)]; exact decide_eq_false c2) (by rw [az hk 52 (by decide) _ (by decide)]; exact decide_eq_false c3) (by rw [az hk 53 (by decide) _ (by decide)]; exact decide_eq_true c4) W
 rw [if_neg c4]
 by_cases c5 : k = 54
 ·rw [if_pos c5]; exact Cn (by rw [az hk 63 (by decide) _ (by decide)]; exact decide_eq_false c0) (by rw [az hk 62 (by decide) _ (by decide)]; exact decide_eq_false c1) (by rw [az hk 51 (by decide) _ (by decide)]; exact decide_eq_false c2) (by rw [az hk 52 (by decide) _ (by decide)]; exact decide_eq_false c3) (by rw [az hk 53 (by decide) _ (by decide)]; exact decide_eq_false c4) (by rw [az hk 54 (by decide) _ (by decide)]; exact decide_eq_true c5) W
 rw [if_neg c5]
 by_cases c6 : k = 55
 ·rw [if_pos c6]; exact Co (by rw [az hk 63 (by decide) _ (by decide)]; exact decide_eq_false c0) (by rw [az hk 62 (by decide) _ (by decide)]; exact decide_eq_false c1) (by rw [az hk 51 (by decide) _ (by decide)]; exact decide_eq_false c2) (by rw [az hk 52 (by decide) _ (by decide)]; exact decide_eq_false c3) (by rw [az hk 53 (by decide) _ (by decide)]; exact decide_eq_false c4) (by rw [az hk 54 (by decide) _ (by decide)]; exact decide_eq_false c5) (by rw [az hk 55 (by decide) _ (by decide)]; exact decide_eq_true c6) W
 rw [if_neg c6]
 by_cases c7 : k = 56
 ·rw [if_pos c7]; exact Cq (by rw [az hk 63 (by decide) _ (by decide)]; exact decide_eq_false c0) (by rw [az hk 62 (by decide) _ (by decide)]; exact decide_eq_false c1) (by rw [az hk 51 (by decide) _ (by decide)]; exact decide_eq_false c2) (by rw [az hk 52 (by decide) _ (by decide)]; exact decide_eq_false c3) (by rw [az hk 53 (by decide) _ (by decide)]; exact decide_eq_false c4) (by rw [az hk 54 (by decide) _ (by decide)]; exact decide_eq_false c5) (by rw [az hk 55 (by decide) _ (by decide)]; exact decide_eq_false c6) (by rw [az hk 56 (by decide) _ (by decide)]; exact decide_eq_true c7) W
 rw [if_neg c7]
 by_cases c8 : k = 57
 ·rw [if_pos c8]; exact Cr (by rw [az hk 63 (by decide) _ (by decide)]; exact decide_eq_false c0) (by rw [az hk 62 (by decide) _ (by decide)]; exact decide_eq_false c1) (by rw [az hk 51 (by decide) _ (by decide)]; exact decide_eq_false c2) (by rw [az hk 52 (by decide) _ (by decide)]; exact decide_eq_false c3) (by rw [az hk 53 (by decide) _ (by decide)]; exact decide_eq_false c4) (by rw [az hk 54 (by decide) _ (by decide)]; exact decide_eq_false c5) (by rw [az hk 55 (by decide) _ (by decide)]; exact decide_eq_false c6) (by rw [az hk 56 (by decide) _ (by decide)]; exact decide_eq_false c7) (by rw [az hk 57 (by decide) _ (by decide)]; exact decide_eq_true c8) W
 rw [if_neg c8]
 by_cases c9 : k = 58
 ·rw [if_pos c9]; exact Cs (by rw [az hk 63 (by decide) _ (by decide)]; exact decide_eq_false c0) (by rw [az hk 62 (by decide) _ (by decide)]; exact decide_eq_false c1) (by rw [az hk 51 (by decide) _ (by decide)]; exact decide_eq_false c2) (by rw [az hk 52 (by decide) _ (by decide)]; exact decide_eq_false c3) (by rw [az hk 53 (by decide) _ (by decide)]; exact decide_eq_false c4) (by rw [az hk 54 (by decide) _ (by decide)]; exact decide_eq_false c5) (by rw [az hk 55 (by decide) _ (by decide)]; exact decide_eq_false c6) (by rw [az hk 56 (by decide) _ (by decide)]; exact decide_eq_false c7) (by rw [az hk 57 (by decide) _ (by decide)]; exact decide_eq_false c8) (by rw [az hk 58 (by decide) _ (by decide)]; exact decide_eq_true c9) W
 rw [if_neg c9]
 by_cases c10 : k = 59
 ·rw [if_pos c10]; exact yJ (by rw [az hk 63 (by decide) _ (by decide)]; exact decide_eq_false c0) (by rw [az hk 62 (by decide) _ (by decide)]; exact decide_eq_false c1) (by rw [az hk 51 (by decide) _ (by decide)]; exact decide_eq_false c2) (by rw [az hk 52 (by decide) _ (by decide)]; exact decide_eq_false c3) (by rw [az hk 53 (by decide) _ (by decide)]; exact decide_eq_false c4) (by rw [az hk 54 (by decide) _ (by decide)]; exact decide_eq_false c5) (by rw [az hk 55 (by decide) _ (by decide)]; exact decide_eq_false c6) (by rw [az hk 56 (by decide) _ (by decide)]; exact decide_eq_false c7) (by rw [az hk 57 (by decide) _ (by decide)]; exact decide_eq_false c8) (by rw [az hk 58 (by decide) _ (by decide)]; exact decide_eq_false c9) (by rw [az hk 59 (by decide) _ (by decide)]; exact decide_eq_true c10) W
 rw [if_neg c10]
 by_cases c11 : k = 60
 ·rw [if_pos c11]; exact yK (by rw [az hk 63 (by decide) _ (by decide)]; exact decide_eq_false c0) (by rw [az hk 62 (by decide) _ (by decide)]; exact decide_eq_false c1) (by rw [az hk 51 (by decide) _ (by decide)]; exact decide_eq_false c2) (by rw [az hk 52 (by decide) _ (by decide)]; exact decide_eq_false c3) (by rw [az hk 53 (by decide) _ (by decide)]; exact decide_eq_false c4) (by rw [az hk 54 (by decide) _ (by decide)]; exact decide_eq_false c5) (by rw [az hk 55 (by decide) _ (by decide)]; exact decide_eq_false c6) (by rw [az hk 56 (by decide) _ (by decide)]; exact decide_eq_false c7) (by rw [az hk 57 (by decide) _ (by decide)]; exact decide_eq_false c8) (by rw [az hk 58 (by decide) _ (by decide)]; exact decide_eq_false c9) (by rw [az hk 59 (by decide) _ (by decide)]; exact decide_eq_false c10) (by rw [az hk 60 (by decide) _ (by decide)]; exact decide_eq_true c11) W
 rw [if_neg c11]
 by_cases c12 : k = 61
 ·rw [if_pos c12]; exact yL (by rw [az hk 63 (by decide) _ (by decide)]; exact decide_eq_false c0) (by rw [az hk 62 (by decide) _ (by decide)]; exact decide_eq_false c1) (by rw [az hk 51 (by decide) _ (by decide)]; exact decide_eq_false c2) (by rw [az hk 52 (by decide) _ (by decide)]; exact decide_eq_false c3) (by rw [az hk 53 (by decide) _ (by decide)]; exact decide_eq_false c4) (by rw [az hk 54 (by decide) _ (by decide)]; exact decide_eq_false c5) (by rw [az hk 55 (by decide) _ (by decide)]; exact decide_eq_false c6) (by rw [az hk 56 (by decide) _ (by decide)]; exact decide_eq_false c7) (by rw [az hk 57 (by decide) _ (by decide)]; exact decide_eq_false c8) (by rw [az hk 58 (by decide) _ (by decide)]; exact decide_eq_false c9) (by rw [az hk 59 (by decide) _ (by decide)]; exact decide_eq_false c10) (by rw [az hk 60 (by decide) _ (by decide)]; exact decide_eq_false c11) (by rw [az hk 61 (by decide) _ (by decide)]; exact decide_eq_true c12) W
 rw [if_neg c12]
 exact yM (by rw [az hk 63 (by decide) _ (by decide)]; exact decide_eq_false c0) (by rw [az hk 62 (by decide) _ (by decide)]; exact decide_eq_false c1) (by rw [az hk 51 (by decide) _ (by decide)]; exact decide_eq_false c2) (by rw [az hk 52 (by decide) _ (by decide)]; exact decide_eq_false c3) (by rw [az hk 53 (by decide) _ (by decide)]; exact decide_eq_false c4) (by rw [az hk 54 (by decide) _ (by decide)]; exact decide_eq_false c5) (by rw [az hk 55 (by decide) _ (by decide)]; exact decide_eq_false c6) (by rw [az hk 56 (by decide) _ (by decide)]; exact decide_eq_false c7) (by rw [az hk 57 (by decide) _ (by decide)]; exact decide_eq_false c8) (by rw [az hk 58 (by decide) _ (by decide)]; exact decide_eq_false c9) (by rw [az hk 59 (by decide) _ (by decide)]; exact decide_eq_false c10) (by rw [az hk 60 (by decide) _ (by decide)]; exact decide_eq_false c11) (by rw [az hk 61 (by decide) _ (by decide)]; exact decide_eq_false c12) W
end Go.Proofs.YtecodpdfckjalaaGreatDoor
namespace Go.Proofs.YtecodpdfckjalaaGreatDoor
open Go.RowKit
variable {w0 : World} {rb : Nat} {ae aa : Value} {TL : List Tok} {xs : List UInt8} {U : Nat -> Prop}
def nmB (s : List ai) : Bool := decide (kd s = 1 /\ kd (tl s) = 50)
theorem mr (hT : RT w0 rb ae aa TL xs) (hK : aR TL) {W : World} {s : List ai} {ns : List Nd} (h : RSs w0 rb ae aa TL xs U W s ns) :
  Calls Tryz.prog 127 #[.pointer (some ⟨rb, 0, none⟩)] W fun e W' => e = .returned (.bool (nmB s)) /\ Below W.heap.size W W' := by
 have hr := h.lt
 obtain ⟨i, rfl, hi, hS, hni, hU⟩ := h
 have HN : Bx (∀ W', Below W.heap.size W W' -> Calls Tryz.prog 84 #[.pointer (some ⟨rb, 0, none⟩)] W' fun e w' => e = .returned (Go.Proofs.YtecodpdfckjalaaGreatDoor.aa TL[i]) /\ Below W'.heap.size W' w') := ⟨fun W' hb => iJ hT (hS.ext hb) hi⟩
 unfold Go.Proofs.YtecodpdfckjalaaGreatDoor.aa at HN
 have hf0 := mg
 by_cases h1 : TL[i].kind = 1
 ·have hi1 : i + 1 < TL.length := adv hK hi (by omega)
  have hb : nmB (pts xs TL i) = decide (TL[i + 1].kind = 50) := by
   unfold nmB
   rw [ow hi, iK hi, iK hi1]
   simp [h1]
  rw [hb]
  have hTx : Bx (∀ W', Below W.heap.size W W' -> Calls Tryz.prog 83 #[.int .i64 (TL[i + 1].kind : Nat)] W' fun e w' => e = .returned (.string ⟨(ax (TL[i + 1].kind : Nat)).toArray⟩) /\ W' = w') := ⟨fun W' hb => by
   have hl := wN hT.laid hT.low (hS.ext hb).bel
   exact wK _ W' hl.words hl.signs⟩
  have heq := az (hK.ok (i + 1) hi1) 50 (by decide) [61] (by decide)
  have HF : Bx (∀ W', Below W.heap.size W W' -> W'.cell? ⟨rb, 1, none⟩ = some aa /\ W'.cell? ⟨rb, 2, none⟩ = some (.int .i64 i) /\ (∃ tb cap, aa = .slice (some ⟨tb, 0, none⟩) TL.length cap /\ TL.length <= cap /\ W'.cell? ⟨tb, (i + 1) * 4, none⟩ = some (.int .i64 TL[i + 1].kind)) /\ rb < W'.heap.size) := ⟨fun W' hb => by
   obtain ⟨nv, h1, h2⟩ := (hS.ext hb).rd
   obtain ⟨c0, c1, c2, c3, hlt⟩ := gT h1
   obtain ⟨tb, cap, e1, e2, e3, e4, _⟩ := hT.tok (hS.ext hb).bel hi1
   exact ⟨c1, c2, ⟨tb, cap, e1, e3, e4⟩, hlt⟩⟩
  obtain ⟨_, _, ⟨tb, cap, htv, hcap, _⟩, _⟩ := HF.out W (Below.refl _ _)
  subst htv
  have hsm := hT.small
  have HFF : Bx (∀ W', Below W.heap.size W W' -> W'.cell? ⟨rb, 1, none⟩ = some (.slice (some ⟨tb, 0, none⟩) TL.length cap) /\ W'.cell? ⟨rb, 2, none⟩ = some (.int .i64 i) /\ W'.cell? ⟨tb, (i + 1) * 4, none⟩ = some (.int .i64 TL[i + 1].kind) /\ rb < W'.heap.size /\ Below W.heap.size W W') := ⟨fun W' hb => by
   obtain ⟨c1, c2, ⟨tb', cap', e1, e3, e4⟩, hlt⟩ := HF.out W' hb
   simp at e1
   obtain ⟨rfl, rfl⟩ := e1
   exact ⟨c1, c2, e4, hlt, hb⟩⟩
  obtain ⟨tx, htx⟩ : ∃ tx, (⟨(ax (TL[i + 1].kind : Nat)).toArray⟩ : ByteArray) = tx := ⟨_, rfl⟩
  rw [htx] at heq hTx
  obtain ⟨k1, hk1⟩ : ∃ k1 : Nat, TL[i + 1].kind = k1 := ⟨_, rfl⟩
  rw [hk1] at heq hTx HFF
  rw [hk1]
  have hk : ((TL[i].kind : Nat) : Int) = 1 := by omega
  rw [hk] at HN
  generalize (TL[i].place : Int) = tp at *
  generalize (TL[i].len : Int) = tln at *
  generalize (TL[i].num : Int) = tnm at *
  have hbr : Below W.heap.size W W := Below.refl _ _
  have hw1 : IntKind.i64.wrap ((i : Int) + 1) = (i : Int) + 1 := by simp [IntKind.wrap, IntKind.bits, IntKind.signed]; omega
  have hb0 : (0 : Int) <= (i : Int) + 1 := by omega
  have hb1 : (i : Int) + 1 < (TL.length : Int) := by omega
  clear HF hS hT htx hk1 hb
  go_enter Tryz.func127, Tryz.ntmps127
  go_wp2
  go_region_held (fun w' => w'.cell? ⟨rb, 1, none⟩ = some (.slice (some ⟨tb, 0, none⟩) TL.length cap) /\ w'.cell? ⟨rb, 2, none⟩ = some (.int .i64 i) /\ w'.cell? ⟨tb, (i + 1) * 4, none⟩ = some (.int .i64 k1) /\ rb < w'.heap.size /\ Below W.heap.size W w')
   (first | exact HFF.out _ z1b | exact HFF.out _ hbr.drew)
   (first | (go_at_call 84; refine Calls.mono (HN.out _ hbr.drew) ?_; rintro e z1 ⟨rfl, hz1⟩; have z1b : Below W.heap.size W z1 := (hbr.drew).trans (hz1.mono (hbr.drew).size)) | (go_at_call 83; refine Calls.mono (hTx.out _ z1b) ?_; rintro e z2 ⟨rfl, rfl⟩))
  have HE : Bx (Below W.heap.size W z1) := ⟨z1b⟩
  go_wp2
  go_ret
  exact ⟨rfl, HE.out⟩
 ·have hb : nmB (pts xs TL i) = false := by
   unfold nmB
   rw [iK hi]
   simp [h1]
  rw [hb]
  have hk : (((TL[i].kind : Nat) : Int) == 1) = false := by simp; omega
  obtain ⟨k0, hk0⟩ : ∃ k0 : Int, ((TL[i].kind : Nat) : Int) = k0 := ⟨_, rfl⟩
  rw [hk0] at HN hk
  generalize (TL[i].place : Int) = tp at *
  generalize (TL[i].len : Int) = tln at *
  generalize (TL[i].num : Int) = tnm at *
  have hbr : Below W.heap.size W W := Below.refl _ _
  clear hS hT hb hk0
  go_enter Tryz.func127, Tryz.ntmps127
  go_wp2
  refine wp_region_any (by kernel_rfl) ?_
  try (change wpAny _ _ _ _ _ _ _ (World.drew _))
  refine wpAny_take (i := 0) (v := ?_) rfl (by decide +kernel) (by decide +kernel) (by decide +kernel) (fun _ _ _ h => h) (Or.inl ⟨by rfl, ?_⟩) ?_
  case refine_2 => intro w; go_simp; try rfl
  refine wpAny_ready (rs := [1]) (by decide +kernel) (by simp) ?_
  refine AllReady.cons rfl (fun KK hKK => ?_) AllReady.nil
  go_simp
  go_wp2_with (go_at_call 84; refine Calls.mono (HN.out _ hbr.drew) ?_; rintro e z1 ⟨rfl, hz1⟩; have HE : Bx (Below W.heap.size W z1) := ⟨(hbr.drew).trans (hz1.mono (hbr.drew).size)⟩; clear hz1)
  refine wpAny_take (i := 2) (v := ?_) rfl (by decide +kernel) (by decide +kernel) (by decide +kernel) (fun _ _ _ h => h) (Or.inl ⟨by rfl, ?_⟩) ?_
  case refine_2 => intro w; go_simp; try rfl
  refine wpAny_take (i := 3) (v := .bool false) rfl (by decide +kernel) (by decide +kernel) (by decide +kernel) (fun _ _ _ h => h) (Or.inl ⟨by rfl, ?_⟩) ?_
  ·intro w; go_simp; try rfl
  refine wpAny_take (i := 4) (v := ?_) rfl (by decide +kernel) (by decide +kernel) (by decide +kernel) (fun _ _ _ h => h) (Or.inl ⟨by rfl, ?_⟩) ?_
  case refine_2 => intro w; go_simp; try rfl
  first | (refine wpAny_take (i := 5) (v := undef) rfl (by decide +kernel) (by decide +kernel) (by decide +kernel) (fun _ _ _ h => h) (Or.inr ⟨by kernel_rfl, rfl⟩) ?_) | (refine wpAny_ready (rs := [5]) (by decide +kernel) (by simp) ?_; refine AllReady.cons rfl (fun KK hKK => ?_) AllReady.nil; go_simp; refine hKK _ _ ?_; clear hKK KK)
  first | (refine wpAny_take (i := 6) (v := undef) rfl (by decide +kernel) (by decide +kernel) (by decide +kernel) (fun _ _ _ h => h) (Or.inr ⟨by kernel_rfl, rfl⟩) ?_) | (refine wpAny_ready (rs := [6]) (by decide +kernel) (by simp) ?_; refine AllReady.cons rfl (fun KK hKK => ?_) AllReady.nil; go_simp; refine hKK _ _ ?_; clear hKK KK)
  first | (refine wpAny_take (i := 7) (v := undef) rfl (by decide +kernel) (by decide +kernel) (by decide +kernel) (fun _ _ _ h => h) (Or.inr ⟨by kernel_rfl, rfl⟩) ?_) | (refine wpAny_ready (rs := [7]) (by decide +kernel) (by simp) ?_; refine AllReady.cons rfl (fun KK hKK => ?_) AllReady.nil; go_simp; refine hKK _ _ ?_; clear hKK KK)
  first | (refine wpAny_take (i := 8) (v := undef) rfl (by decide +kernel) (by decide +kernel) (by decide +kernel) (fun _ _ _ h => h) (Or.inr ⟨by kernel_rfl, rfl⟩) ?_) | (refine wpAny_ready (rs := [8]) (by decide +kernel) (by simp) ?_; refine AllReady.cons rfl (fun KK hKK => ?_) AllReady.nil; go_simp; refine hKK _ _ ?_; clear hKK KK)
  first | (refine wpAny_take (i := 9) (v := undef) rfl (by decide +kernel) (by decide +kernel) (by decide +kernel) (fun _ _ _ h => h) (Or.inr ⟨by kernel_rfl, rfl⟩) ?_) | (refine wpAny_ready (rs := [9]) (by decide +kernel) (by simp) ?_; refine AllReady.cons rfl (fun KK hKK => ?_) AllReady.nil; go_simp; refine hKK _ _ ?_; clear hKK KK)
  first | (refine wpAny_take (i := 10) (v := undef) rfl (by decide +kernel) (by decide +kernel) (by decide +kernel) (fun _ _ _ h => h) (Or.inr ⟨by kernel_rfl, rfl⟩) ?_) | (refine wpAny_ready (rs := [10]) (by decide +kernel) (by simp) ?_; refine AllReady.cons rfl (fun KK hKK => ?_) AllReady.nil; go_simp; refine hKK _ _ ?_; clear hKK KK)
  first | (refine wpAny_take (i := 11) (v := undef) rfl (by decide +kernel) (by decide +kernel) (by decide +kernel) (fun _ _ _ h => h) (Or.inr ⟨by kernel_rfl, rfl⟩) ?_) | (refine wpAny_ready (rs := [11]) (by decide +kernel) (by simp) ?_; refine AllReady.cons rfl (fun KK hKK => ?_) AllReady.nil; go_simp; refine hKK _ _ ?_; clear hKK KK)
  first | (refine wpAny_take (i := 12) (v := undef) rfl (by decide +kernel) (by decide +kernel) (by decide +kernel) (fun _ _ _ h => h) (Or.inr ⟨by kernel_rfl, rfl⟩) ?_) | (refine wpAny_ready (rs := [12]) (by decide +kernel) (by simp) ?_; refine AllReady.cons rfl (fun KK hKK => ?_) AllReady.nil; go_simp; refine hKK _ _ ?_; clear hKK KK)
  first | (refine wpAny_take (i := 13) (v := undef) rfl (by decide +kernel) (by decide +kernel) (by decide +kernel) (fun _ _ _ h => h) (Or.inr ⟨by kernel_rfl, rfl⟩) ?_) | (refine wpAny_ready (rs := [13]) (by decide +kernel) (by simp) ?_; refine AllReady.cons rfl (fun KK hKK => ?_) AllReady.nil; go_simp; refine hKK _ _ ?_; clear hKK KK)
  first | (refine wpAny_take (i := 14) (v := undef) rfl (by decide +kernel) (by decide +kernel) (by decide +kernel) (fun _ _ _ h => h) (Or.inr ⟨by kernel_rfl, rfl⟩) ?_) | (refine wpAny_ready (rs := [14]) (by decide +kernel) (by simp) ?_; refine AllReady.cons rfl (fun KK hKK => ?_) AllReady.nil; go_simp; refine hKK _ _ ?_; clear hKK KK)
  first | (refine wpAny_take (i := 15) (v := undef) rfl (by decide +kernel) (by decide +kernel) (by decide +kernel) (fun _ _ _ h => h) (Or.inr ⟨by kernel_rfl, rfl⟩) ?_) | (refine wpAny_ready (rs := [15]) (by decide +kernel) (by simp) ?_; refine AllReady.cons rfl (fun KK hKK => ?_) AllReady.nil; go_simp; refine hKK _ _ ?_; clear hKK KK)
  first | (refine wpAny_take (i := 16) (v := undef) rfl (by decide +kernel) (by decide +kernel) (by decide +kernel) (fun _ _ _ h => h) (Or.inr ⟨by kernel_rfl, rfl⟩) ?_) | (refine wpAny_ready (rs := [16]) (by decide +kernel) (by simp) ?_; refine AllReady.cons rfl (fun KK hKK => ?_) AllReady.nil; go_simp; refine hKK _ _ ?_; clear hKK KK)
  first | (refine wpAny_take (i := 17) (v := undef) rfl (by decide +kernel) (by decide +kernel) (by decide +kernel) (fun _ _ _ h => h) (Or.inr ⟨by kernel_rfl, rfl⟩) ?_) | (refine wpAny_ready (rs := [17]) (by decide +kernel) (by simp) ?_; refine AllReady.cons rfl (fun KK hKK => ?_) AllReady.nil; go_simp; refine hKK _ _ ?_; clear hKK KK)
  first | (refine wpAny_take (i := 18) (v := undef) rfl (by decide +kernel) (by decide +kernel) (by decide +kernel) (fun _ _ _ h => h) (Or.inr ⟨by kernel_rfl, rfl⟩) ?_) | (refine wpAny_ready (rs := [18]) (by decide +kernel) (by simp) ?_; refine AllReady.cons rfl (fun KK hKK => ?_) AllReady.nil; go_simp; refine hKK _ _ ?_; clear hKK KK)
  refine wpAny_take (i := 19) (v := .bool false) rfl (by decide +kernel) (by decide +kernel) (by decide +kernel) (fun _ _ _ h => h) (Or.inl ⟨by kernel_rfl, fun w => by kernel_rfl⟩) ?_
  refine wpAny_take (i := 20) (v := .bool false) rfl (by decide +kernel) (by decide +kernel) (by decide +kernel) (fun _ _ _ h => h) (Or.inl ⟨by kernel_rfl, fun w => by kernel_rfl⟩) ?_
  refine wpAny_done (by decide +kernel) ?_ _
  go_wp2
  refine bodyPost_ret (v := .bool false) (by kernel_rfl) rfl ⟨rfl, HE.out⟩
end Go.Proofs.YtecodpdfckjalaaGreatDoor
