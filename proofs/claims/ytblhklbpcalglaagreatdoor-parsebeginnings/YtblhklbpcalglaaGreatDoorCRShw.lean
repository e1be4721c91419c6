import Derived.Test.YtblhklbpcalglaaGreatDoorCRPr4
import Derived.Lib.SlBytesConst
import Derived.Deep.RegionHeld3
namespace Go.Proofs.YtblhklbpcalglaaGreatDoor
open Go.RowKit
set_option linter.unusedVariables false
set_option linter.unusedSimpArgs false
theorem parse_shown (w W1 : World) (hL : Laid w) (h7 : 7 ≤ w.heap.size) (hW1 : w.alloc (.cells #[.int .u8 118, .int .u8 97, .int .u8 108, .int .u8 32, .int .u8 120, .int .u8 32, .int .u8 61, .int .u8 32, .int .u8 49, .int .u8 32, .int .u8 45, .int .u8 32, .int .u8 50, .int .u8 32, .int .u8 45, .int .u8 32, .int .u8 51, .int .u8 59] 5 (18, 19)) = W1) :
    Calls Tryz.prog 5 #[.slice (some ⟨w.heap.size, 0, none⟩) 18 18, .int .i64 9] W1 (ParQ W1 (shN, 0, 0)) ∧ Below w.heap.size w W1 ∧ W1.heap.size = w.heap.size + 1 := by
  have hh1 : W1.heap[w.heap.size]? = some (.cells #[.int .u8 118, .int .u8 97, .int .u8 108, .int .u8 32, .int .u8 120, .int .u8 32, .int .u8 61, .int .u8 32, .int .u8 49, .int .u8 32, .int .u8 45, .int .u8 32, .int .u8 50, .int .u8 32, .int .u8 45, .int .u8 32, .int .u8 51, .int .u8 59] 5 (18, 19)) := by rw [← hW1]; exact heap_alloc_new _ _
  have b1 : Below w.heap.size w W1 := by rw [← hW1]; exact below1 _ _
  have hz1 : W1.heap.size = w.heap.size + 1 := by rw [← hW1]; simp
  have hsrc : IsSrc W1 (some ⟨w.heap.size, 0, none⟩) 18 shX := ⟨fun _ => ⟨w.heap.size, 0, rfl, by omega, fun i hi => by
    have hi : i < 18 := hi
    match i, hi with
    | 0, _ | 1, _ | 2, _ | 3, _ | 4, _ | 5, _ | 6, _ | 7, _ | 8, _ | 9, _ | 10, _ | 11, _ | 12, _ | 13, _ | 14, _ | 15, _ | 16, _ | 17, _ => simp [World.cell?, hh1, shX]
    | n + 18, h => omega⟩, by decide, by unfold maxLen; decide⟩
  have HC := Parse_any W1 (hL.below b1) (by omega) (some ⟨w.heap.size, 0, none⟩) 18 shX hsrc 9
  rw [shR] at HC
  exact ⟨HC, b1, hz1⟩
end Go.Proofs.YtblhklbpcalglaaGreatDoor
namespace Go.Proofs.YtblhklbpcalglaaGreatDoor
open Go.RowKit
set_option linter.unusedVariables false
set_option linter.unusedSimpArgs false
theorem IntsW.later {W X : World} {B : Nat} {a : Option Addr} {c : Nat} {xs : List Int} (h : IntsW W B a c xs) (hb : Below B W X) (hB : B ≤ X.heap.size) : IntsW X X.heap.size a c xs := by
  refine ⟨h.cap, h.max, fun h0 => ?_⟩
  obtain ⟨b, o, e, hlt, hc⟩ := h.at_ h0
  exact ⟨b, o, e, by omega, fun i hi => by rw [hb.cell (p := ⟨b, o + i, none⟩) hlt]; exact hc i hi⟩
theorem nums_two {W X : World} {a : Option Addr} {c g2 : Nat} {xs : List Int} (n : Nat) (hn : xs.length = n) (hm : n ≤ maxLen) (hI : IntsW W W.heap.size a c xs) (hb : Below W.heap.size W X) (hX : X.heap[g2]? = some (.cells (intsC xs).toArray 3 (0, 0))) :
    Calls Tryz.prog 7 #[.slice a n c, .slice (some ⟨g2, 0, none⟩) n n] X fun e w' => e = .returned (.bool true) ∧ Below X.heap.size X w' := by
  subst hn
  have h2 : IntsW X X.heap.size (some ⟨g2, 0, none⟩) xs.length xs := ⟨Nat.le_refl _, hm, fun _ => ⟨g2, 0, rfl, heapLt hX, fun i hi => by simp [World.cell?, hX, intsC, hi]⟩⟩
  refine Calls.mono (numbers_any X X.heap.size a (some ⟨g2, 0, none⟩) c xs.length xs xs (hI.later hb hb.size) h2) ?_
  rintro e w' ⟨rfl, k, rfl⟩
  exact ⟨by simp, below_drewN (Below.refl _ _) _⟩
theorem sh_all {w W1 W2 : World} {g : Nat} {a4 a6 : Option Addr} {c4 c6 : Nat} (b1 : Below w.heap.size w W1) (z1 : W1.heap.size = w.heap.size + 1) (b2 : Below W1.heap.size W1 W2) (hg : g < W2.heap.size) (s3 : W2.cell? ⟨g, 28, none⟩ = some (.string ⟨#[120]⟩)) (i4 : IntsW W2 W2.heap.size a4 c4 [2, 3]) (k6 : W2.cell? ⟨g, 32, none⟩ = some (.slice a6 1 c6)) (i6 : IntsW W2 W2.heap.size a6 c6 [5]) :
    ∀ X1, (W2.alloc (.cells #[.int .i64 0, .int .i64 0] 27)).alloc (.cells #[.int .i64 2, .int .i64 3] 3) = X1 →
      Calls Tryz.prog 7 #[.slice a4 2 c4, .slice (some ⟨W2.heap.size + 1, 0, none⟩) 2 2] X1 (fun e w' => e = .returned (.bool true) ∧ Below X1.heap.size X1 w') ∧
      ∀ X2, Below X1.heap.size X1 X2 → X2.cell? ⟨g, 28, none⟩ = some (.string ⟨#[120]⟩) ∧ X2.cell? ⟨g, 32, none⟩ = some (.slice a6 1 c6) ∧ g < X2.heap.size ∧ W2.heap.size + 2 ≤ X2.heap.size ∧
        ∀ X3, X2.alloc (.cells #[.int .i64 5] 3) = X3 → Calls Tryz.prog 7 #[.slice a6 1 c6, .slice (some ⟨X2.heap.size, 0, none⟩) 1 1] X3 (fun e w' => e = .returned (.bool true) ∧ Below w.heap.size w w') := by
  intro X1 hX1
  have bx : Below W2.heap.size W2 X1 := by rw [← hX1]; exact (below1 W2 _).trans ((below1 _ _).mono (by simp))
  have zx : X1.heap.size = W2.heap.size + 2 := by rw [← hX1]; simp
  have hx : X1.heap[W2.heap.size + 1]? = some (.cells (intsC [2, 3]).toArray 3 (0, 0)) := by
    rw [← hX1]
    have := heap_alloc_new (W2.alloc (.cells #[.int .i64 0, .int .i64 0] 27)) (.cells #[.int .i64 2, .int .i64 3] 3)
    rw [show (W2.alloc (.cells #[.int .i64 0, .int .i64 0] 27)).heap.size = W2.heap.size + 1 by simp] at this
    exact this
  refine ⟨nums_two 2 rfl (by unfold maxLen; decide) i4 bx hx, fun X2 b3 => ?_⟩
  have hz3 := b3.size
  have b23 : Below W2.heap.size W2 X2 := bx.trans (b3.mono (by omega))
  refine ⟨by rw [b23.cell (p := ⟨g, 28, none⟩) hg]; exact s3, by rw [b23.cell (p := ⟨g, 32, none⟩) hg]; exact k6, by omega, by omega, fun X3 hX3 => ?_⟩
  have b4 : Below X2.heap.size X2 X3 := by rw [← hX3]; exact below1 _ _
  have hy : X3.heap[X2.heap.size]? = some (.cells (intsC [5]).toArray 3 (0, 0)) := by rw [← hX3]; exact heap_alloc_new _ _
  have hzz := b2.size
  have b24 : Below W2.heap.size W2 X3 := b23.trans (b4.mono (by omega))
  have hz4 := b24.size
  refine Calls.mono (nums_two 1 rfl (by unfold maxLen; decide) i6 b24 hy) ?_
  rintro e w' ⟨rfl, hb⟩
  exact ⟨rfl, b1.trans ((b2.mono (by omega)).trans ((b24.mono (by omega)).trans (hb.mono (by omega))))⟩
set_option maxRecDepth 100000 in
set_option maxHeartbeats 1000000 in
theorem shown_any (w : World) (hL : Laid w) (h7 : 7 ≤ w.heap.size) :
    Calls Tryz.prog 4 #[] w fun e w' => e = .returned (.bool true) ∧ Below w.heap.size w w' := by
  have hcv := fun (w : World) (C : Array Value) (n c : Nat) => Lib.run_convert_bytes_const (P := Tryz.prog) w 22 5 C n c Tryz.underlying22 Tryz.underlying5
  have HP : Bx _ := ⟨fun W1 => parse_shown w W1 hL h7⟩
  clear hL
  go_enter Tryz.func4, Tryz.ntmps4
  go_wp2_with (first
    | (go_at_call 5; obtain ⟨W1, hW1⟩ : ∃ W1, w.alloc (.cells #[.int .u8 118, .int .u8 97, .int .u8 108, .int .u8 32, .int .u8 120, .int .u8 32, .int .u8 61, .int .u8 32, .int .u8 49, .int .u8 32, .int .u8 45, .int .u8 32, .int .u8 50, .int .u8 32, .int .u8 45, .int .u8 32, .int .u8 51, .int .u8 59] 5 (18, 19)) = W1 := ⟨_, rfl⟩; have hp := HP.out W1 hW1; rw [hW1]; refine Calls.mono hp.1 ?_; clear hcv; rintro e W2 ⟨nv, rfl, hb, _, hx⟩; obtain ⟨rb, hrb, hno⟩ := hx rfl; obtain ⟨g, cap, a4, c4, a6, c6, rfl, hS, k4, i4, k6, i6⟩ := sh_in hno; obtain ⟨s1, s2, s3, s4, s5⟩ := hS; have HS : Bx _ := ⟨sh_all hp.2.1 hp.2.2 hb s5 s3 i4 k6 i6⟩; clear hb hx hno i4 i6 hrb hp hW1)
    | (go_at_call 7; obtain ⟨X1, hX1⟩ : ∃ X1, (W2.alloc (.cells #[.int .i64 0, .int .i64 0] 27)).alloc (.cells #[.int .i64 2, .int .i64 3] 3) = X1 := ⟨_, rfl⟩; rw [hX1]; have hq := HS.out X1 hX1; clear hX1; refine Calls.mono hq.1 ?_; rintro e X2 ⟨rfl, hb2⟩; obtain ⟨t1, t2, t3, t4, hc6⟩ := hq.2 X2 hb2; have HS6 : Bx _ := ⟨hc6⟩; clear s1 s2 s3 s5 k4 k6 HS hq hb2 hc6)
    | (go_at_call 7; obtain ⟨X3, hX3⟩ : ∃ X3, X2.alloc (.cells #[.int .i64 5] 3) = X3 := ⟨_, rfl⟩; rw [hX3]; have hq := HS6.out X3 hX3; clear hX3; refine Calls.mono hq ?_; rintro e X4 ⟨rfl, hb4⟩))
  go_ret
  exact ⟨rfl, hb4⟩
end Go.Proofs.YtblhklbpcalglaaGreatDoor
namespace Go.Proofs.YtblhklbpcalglaaGreatDoor
open Go.RowKit
set_option linter.unusedVariables false
set_option linter.unusedSimpArgs false
def NdSame (but : Bool) (x y : Nd) : Prop := x.kind = y.kind ∧ x.kids = y.kids ∧ x.name = y.name ∧ x.num = y.num ∧ (but = false → x.pos = y.pos)
theorem NdSame.refl (but : Bool) (x : Nd) : NdSame but x x := ⟨rfl, rfl, rfl, rfl, fun _ => rfl⟩
end Go.Proofs.YtblhklbpcalglaaGreatDoor
