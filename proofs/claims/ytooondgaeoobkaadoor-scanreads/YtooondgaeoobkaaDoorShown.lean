import Derived.Test.YtooondgaeoobkaaDoorScanA
import Derived.Lib.SlBytesConst
namespace Go.Proofs.YtooondgaeoobkaaDoor
open Go.RowKit
set_option linter.unusedVariables false
set_option linter.unusedSimpArgs false

theorem owns_cells {w : World} {B : Nat} {e : TypeId} {s : Nat} {v : Value} {n : Nat} {cs : List Value} (h : w.ownsRow B e s v n cs) (hn : 0 < n) :
    ∃ g cap, v = .slice (some ⟨g, 0, none⟩) n cap ∧ B ≤ g ∧ g < w.heap.size ∧ n ≤ cap ∧ ∀ i, i < cs.length → w.cell? ⟨g, i, none⟩ = cs[i]? := by
  obtain ⟨h1, h2⟩ := h
  rcases h2 with ⟨_, h2⟩ | ⟨g, cap, cur, hv, hg, hh, hc, hm, hz, ht⟩
  · omega
  · refine ⟨g, cap, hv, hg, ?_, hc, fun i hi => ?_⟩
    · rcases Nat.lt_or_ge g w.heap.size with hlt | hge
      · exact hlt
      · rw [Array.getElem?_eq_none hge] at hh; cases hh
    · rw [cell_of_row w g i cur e (0, 0) hh, ← ht, List.getElem?_take_of_lt (by omega)]
      simp

theorem scan1 (b c : Nat) (W : World) (hs : Src W b 0 ex1) (hb : b < W.heap.size) (hc : 8 ≤ c) (hL : Laid W) :
    Calls Tryd.prog 13 #[.slice (some ⟨b, 0, none⟩) 8 c] W fun e w' => ∃ g cap, e = .returned (.tuple #[.slice (some ⟨g, 0, none⟩) 3 cap, .agg #[.int .i64 0, .int .i64 0]]) ∧ W.heap.size ≤ g ∧ g < w'.heap.size ∧ 3 ≤ cap ∧
      w'.cell? ⟨g, 4, none⟩ = some (.int .i64 65) ∧ w'.cell? ⟨g, 5, none⟩ = some (.int .i64 1) ∧ w'.cell? ⟨g, 6, none⟩ = some (.int .i64 2) ∧ w'.cell? ⟨g, 7, none⟩ = some (.int .i64 0) ∧ w'.cell? ⟨g, 11, none⟩ = some (.int .i64 1) ∧ Below W.heap.size W w' := by
  refine (Scan_some b 0 c ex1 W hs hb (by decide) hc hL).mono ?_
  rintro e w' ⟨v, rfl, hown, hbl⟩
  rw [scan_ex1] at hown ⊢
  obtain ⟨g, cap, rfl, h1, h2, h3, hcell⟩ := owns_cells hown (by decide)
  exact ⟨g, cap, rfl, h1, h2, h3, hcell 4 (by decide), hcell 5 (by decide), hcell 6 (by decide), hcell 7 (by decide), hcell 11 (by decide), hbl⟩

theorem scan2 (b c : Nat) (W : World) (hs : Src W b 0 ex2) (hb : b < W.heap.size) (hc : 5 ≤ c) (hL : Laid W) :
    Calls Tryd.prog 13 #[.slice (some ⟨b, 0, none⟩) 5 c] W fun e w' => ∃ v, e = .returned (.tuple #[v, .agg #[.int .i64 2, .int .i64 12]]) ∧ Below W.heap.size W w' := by
  refine (Scan_some b 0 c ex2 W hs hb (by decide) hc hL).mono ?_
  rintro e w' ⟨v, rfl, hown, hbl⟩
  rw [scan_ex2]
  exact ⟨v, rfl, hbl⟩

theorem src_const (W : World) (xs : List UInt8) (m : Nat × Nat) : Src (W.alloc (.cells (xs.map fun c => Value.int .u8 (c.toNat : Int)).toArray 5 m)) W.heap.size 0 xs := by
  intro i hi
  rw [cell_of_row _ W.heap.size (0 + i) _ 5 m (heap_alloc_new W _)]
  simp [hi]
theorem src_ex1 (W : World) : Src (W.alloc (.cells #[.int .u8 120, .int .u8 60, .int .u8 45, .int .u8 49, .int .u8 32, .int .u8 35, .int .u8 32, .int .u8 97] 5 (8, 9))) W.heap.size 0 ex1 := src_const W ex1 (8, 9)
theorem src_ex2 (W : World) : Src (W.alloc (.cells #[.int .u8 97, .int .u8 32, .int .u8 49, .int .u8 50, .int .u8 98] 5 (5, 6))) W.heap.size 0 ex2 := src_const W ex2 (5, 6)

theorem shown1 (W : World) (hL : Laid W) :
    Calls Tryd.prog 13 #[.slice (some ⟨W.heap.size, 0, none⟩) 8 8] (W.alloc (.cells #[.int .u8 120, .int .u8 60, .int .u8 45, .int .u8 49, .int .u8 32, .int .u8 35, .int .u8 32, .int .u8 97] 5 (8, 9))) fun e w' =>
      ∃ g cap, e = .returned (.tuple #[.slice (some ⟨g, 0, none⟩) 3 cap, .agg #[.int .i64 0, .int .i64 0]]) ∧ W.heap.size < g ∧ g < w'.heap.size ∧ 3 ≤ cap ∧
      w'.cell? ⟨g, 4, none⟩ = some (.int .i64 65) ∧ w'.cell? ⟨g, 5, none⟩ = some (.int .i64 1) ∧ w'.cell? ⟨g, 6, none⟩ = some (.int .i64 2) ∧ w'.cell? ⟨g, 7, none⟩ = some (.int .i64 0) ∧ w'.cell? ⟨g, 11, none⟩ = some (.int .i64 1) ∧ Below W.heap.size W w' := by
  have hb : Below W.heap.size W (W.alloc (.cells #[.int .u8 120, .int .u8 60, .int .u8 45, .int .u8 49, .int .u8 32, .int .u8 35, .int .u8 32, .int .u8 97] 5 (8, 9))) := (Below.refl _ _).alloc (Nat.le_refl _) _
  refine (scan1 W.heap.size 8 _ (src_ex1 W) (by simp) (Nat.le_refl _) (hL.below hb)).mono ?_
  rintro e w' ⟨g, cap, h1, h2, h3, h4, c4, c5, c6, c7, c11, hbl⟩
  simp at h2
  exact ⟨g, cap, h1, by omega, h3, h4, c4, c5, c6, c7, c11, hb.trans (hbl.mono (by simp))⟩
theorem shown2 (W : World) (N : Nat) (hN : W.heap.size = N) (hL : Laid W) :
    Calls Tryd.prog 13 #[.slice (some ⟨N, 0, none⟩) 5 5] (W.alloc (.cells #[.int .u8 97, .int .u8 32, .int .u8 49, .int .u8 50, .int .u8 98] 5 (5, 6))) fun e w' =>
      ∃ v, e = .returned (.tuple #[v, .agg #[.int .i64 2, .int .i64 12]]) ∧ Below W.heap.size W w' := by
  subst hN
  have hb : Below W.heap.size W (W.alloc (.cells #[.int .u8 97, .int .u8 32, .int .u8 49, .int .u8 50, .int .u8 98] 5 (5, 6))) := (Below.refl _ _).alloc (Nat.le_refl _) _
  refine (scan2 W.heap.size 5 _ (src_ex2 W) (by simp) (Nat.le_refl _) (hL.below hb)).mono ?_
  rintro e w' ⟨v, h1, hbl⟩
  exact ⟨v, h1, hb.trans (hbl.mono (by simp))⟩
theorem shownText (W : World) (hL : Laid W) : Calls Tryd.prog 9 #[.int .i64 30] W fun e w' => e = .returned (.string ⟨#[119, 104, 105, 108, 101]⟩) ∧ W = w' := by
  have := Text_any 30 W hL.words hL.signs
  rw [text30] at this
  exact this
theorem shownKind (W : World) (hL : Laid W) : Calls Tryd.prog 10 #[.string ⟨#[60, 45, 61]⟩] W fun e w' => e = .returned (.int .i64 66) ∧ W = w' := by
  have := Kind_any ⟨#[60, 45, 61]⟩ W hL.words hL.signs
  rw [ByteArray.toList_eq, show kindK (⟨#[60, 45, 61]⟩ : ByteArray).data.toList = 66 from kind66] at this
  exact this

theorem conv_const (W : World) (C : Array Value) (n c : Nat) : (convert 26 26 (.slice (some ⟨W.heap.size, 0, none⟩) n c)).run Tryd.prog (W.alloc (.cells C 5)) = .ok (.slice (some ⟨W.heap.size, 0, none⟩) n c) (W.alloc (.cells C 5 (C.size, C.size + 1))) :=
  Lib.run_convert_bytes_const (P := Tryd.prog) W 26 5 C n c Tryd.underlying26 Tryd.underlying5
theorem conv_const1 (W : World) (o : Obj) (C : Array Value) (n c : Nat) : (convert 26 26 (.slice (some ⟨W.heap.size + 1, 0, none⟩) n c)).run Tryd.prog ((W.alloc o).alloc (.cells C 5)) = .ok (.slice (some ⟨W.heap.size + 1, 0, none⟩) n c) ((W.alloc o).alloc (.cells C 5 (C.size, C.size + 1))) := by
  have h := conv_const (W.alloc o) C n c
  rw [show (W.alloc o).heap.size = W.heap.size + 1 by simp] at h
  exact h

theorem shown_keep {w1 w2 : World} {g : Nat} (g2 : g < w1.heap.size) (hb2 : Below (w1.alloc (.cells #[.int .i64 0, .int .i64 0] 34)).heap.size (w1.alloc (.cells #[.int .i64 0, .int .i64 0] 34)) w2) :
    w1.heap.size < w2.heap.size ∧ g < w2.heap.size ∧ w2.cell? ⟨w1.heap.size, 1, none⟩ = some (.int .i64 0) ∧ ∀ i, w2.cell? ⟨g, i, none⟩ = w1.cell? ⟨g, i, none⟩ := by
  have hz := hb2.size
  simp at hz
  refine ⟨by omega, by omega, ?_, fun i => ?_⟩
  · rw [hb2.cell (by simp)]; simp
  · rw [hb2.cell (by simp; omega)]
    exact ((Below.refl w1.heap.size w1).alloc (Nat.le_refl _) _).cell g2

set_option maxHeartbeats 1000000 in
theorem shown_any (w : World) (hL : Laid w) : Calls Tryd.prog 8 #[] w fun e w' => e = .returned (.bool true) ∧ Below w.heap.size w w' := by
  have kc := conv_const
  have kc1 := conv_const1
  go_enter Tryd.func8, Tryd.ntmps8
  go_wp2_with (first
    | (go_at_call_of 13 (Value.slice (some { block := w.heap.size, off := 0, spot := none }) 8 8); refine (shown1 w hL).mono ?_; rintro e w1 ⟨g, cap, rfl, g1, g2, g3, c4, c5, c6, c7, c11, hb1⟩; have hz1 := hb1.size)
    | (go_at_call 13; go_must (refine (shown2 (w1.alloc _) (w1.heap.size + 1) (by simp) ((hL.below hb1).below ((Below.refl _ _).alloc (Nat.le_refl _) _))).mono ?_; rintro e w2 ⟨v2, rfl, hb2⟩; obtain ⟨z1, z2, d1, dg⟩ := shown_keep g2 hb2; have hbw := ((hb1.alloc hb1.size _).trans (hb2.mono (by have := hb1.size; simp; omega))).alloc (Nat.le_trans hb1.size (Nat.le_of_lt z1)) (.cells #[.int .i64 2, .int .i64 12] 34); have HL2 := hL.below hbw))
    | (go_at_call 9; refine (shownText _ HL2).mono ?_; rintro e w' ⟨rfl, rfl⟩)
    | (go_at_call 10; refine (shownKind _ HL2).mono ?_; rintro e w' ⟨rfl, rfl⟩))
  go_ret
  exact ⟨rfl, hbw⟩
end Go.Proofs.YtooondgaeoobkaaDoor
