import Derived.Test.YtafchddhokaopaaDoorCYV
namespace Go.Proofs.YtafchddhokaopaaDoor
open Go.RowKit
set_option linter.unusedVariables false
set_option linter.unusedSimpArgs false

set_option maxRecDepth 100000 in
set_option maxHeartbeats 4000000 in
theorem Heights_C (w : World) (hV : VW w) (pb cb : Nat) (hU : UE w pb cb exC) : Calls Tryd.prog 12 #[unE pb, .int .i64 0] w fun e w' => ∃ hb, e = .returned (.slice (some ⟨hb, 0, none⟩) 3 3) ∧ w'.cell? ⟨hb, 0, none⟩ = some (.int .i64 0) ∧ w'.cell? ⟨hb, 1, none⟩ = some (.int .i64 1) ∧ w'.cell? ⟨hb, 2, none⟩ = some (.int .i64 0) ∧ w.heap.size ≤ hb ∧ hb < w'.heap.size ∧ Bx (Below w.heap.size w w') := by
  obtain ⟨H, hH⟩ : ∃ H, w.heap.size = H := ⟨_, rfl⟩
  have hpl : pb < H := hH ▸ hU.lt.1
  obtain ⟨w0, hw0⟩ : ∃ w0, w.alloc (.cells #[.slice (some ⟨pb, 0, none⟩) 1 1, .slice none 0 0] 25) = w0 := ⟨_, rfl⟩
  have b0 : Below H w w0 := by rw [← hw0, ← hH]; exact below1 w _
  have s0 : w0.heap.size = H + 1 := by rw [← hw0]; simp [hH]
  have q0 : w0.heap[H]? = some (.cells #[.slice (some ⟨pb, 0, none⟩) 1 1, .slice none 0 0] 25 (0, 0)) := by rw [← hw0, ← hH]; exact heap_alloc_new w _
  have c0 : w0.cell? ⟨H, 0, none⟩ = some (.slice (some ⟨pb, 0, none⟩) 1 1) := (cell_of_row w0 _ 0 _ _ _ q0).trans rfl
  have c1 : w0.cell? ⟨H, 1, none⟩ = some (.slice none 0 0) := (cell_of_row w0 _ 1 _ _ _ q0).trans rfl
  have HC : Calls Tryd.prog 10 #[.agg #[.slice (some ⟨pb, 0, none⟩) 1 1, .slice none 0 0]] w0 fun e w' => e = .returned (.tuple #[.int .i64 0, .int .i64 0, .int .i64 0]) ∧ w'.cell? ⟨H, 0, none⟩ = some (.slice (some ⟨pb, 0, none⟩) 1 1) ∧ w'.cell? ⟨pb, 0, none⟩ = some (.int .i64 0) ∧ w'.cell? ⟨pb, 1, none⟩ = some (.int .i64 1) ∧ w'.cell? ⟨pb, 2, none⟩ = some (.int .i64 2) ∧ w'.cell? ⟨pb, 3, none⟩ = some (.bool false) ∧ w'.cell? ⟨pb, 4, none⟩ = some (.slice (some ⟨cb, 0, none⟩) 3 3) ∧ pb < w'.heap.size ∧ Bx (Below H w w') := (Check_ex w0 (hV.below (hH ▸ b0)) pb cb exC (.inr (.inr rfl)) (hU.below (hH ▸ b0))).mono fun e w' h => by
    have hb : Below (H + 1) w0 w' := s0 ▸ h.2
    have hbw : Below H w w' := b0.trans (hb.mono (by omega))
    obtain ⟨p0, p1, p2, p3, p4⟩ := (hU.below (hH ▸ hbw)).prog (n := 3) rfl
    exact ⟨by rw [h.1]; rfl, (cell_of_row w' _ 0 _ _ _ ((hb.block H (by omega)).trans q0)).trans rfl, p0, p1, p2, p3, p4, by have := hb.size; omega, ⟨hbw⟩⟩
  have HN : Bx (∀ X, Below H w X → Calls Tryd.prog 27 #[.int .i64 3] (X.alloc (.cells #[.int .i64 0, .int .i64 1, .int .i64 2, .bool false, .slice (some ⟨cb, 0, none⟩) 3 3] 40)) fun e w' => ∃ wb, e = .returned (.pointer (some ⟨wb, 0, none⟩)) ∧ w'.cell? ⟨X.heap.size, 0, none⟩ = some (.int .i64 0) ∧ w'.cell? ⟨X.heap.size, 1, none⟩ = some (.int .i64 1) ∧ w'.cell? ⟨X.heap.size, 2, none⟩ = some (.int .i64 2) ∧ w'.cell? ⟨X.heap.size, 3, none⟩ = some (.bool false) ∧ w'.cell? ⟨X.heap.size, 4, none⟩ = some (.slice (some ⟨cb, 0, none⟩) 3 3) ∧
      Bx (Calls Tryd.prog 28 #[.pointer (some ⟨wb, 0, none⟩), .agg #[.int .i64 0, .int .i64 1, .int .i64 2, .bool false, .slice (some ⟨cb, 0, none⟩) 3 3]] w' fun e w'' => e = .returned (.tuple #[.int .i64 0, .int .i64 0]) ∧ w''.cell? ⟨X.heap.size, 4, none⟩ = some (.slice (some ⟨cb, 0, none⟩) 3 3) ∧ ∃ kb, w''.cell? ⟨wb, 5, none⟩ = some (.slice (some ⟨kb, 0, none⟩) 3 3) ∧ w''.cell? ⟨kb, 0, none⟩ = some (.int .i64 1) ∧ w''.cell? ⟨kb, 2, none⟩ = some (.int .i64 2) ∧ w''.cell? ⟨kb, 4, none⟩ = some (.int .i64 1) ∧ kb < w''.heap.size ∧ wb < w''.heap.size ∧ H ≤ w''.heap.size ∧ Bx (Below H w w''))) := ⟨fun X hX => by
    have hs := hX.size
    have bX := below1 X (.cells #[.int .i64 0, .int .i64 1, .int .i64 2, .bool false, .slice (some ⟨cb, 0, none⟩) 3 3] 40)
    have qX : (X.alloc (.cells #[.int .i64 0, .int .i64 1, .int .i64 2, .bool false, .slice (some ⟨cb, 0, none⟩) 3 3] 40)).heap[X.heap.size]? = some (.cells #[.int .i64 0, .int .i64 1, .int .i64 2, .bool false, .slice (some ⟨cb, 0, none⟩) 3 3] 40 (0, 0)) := heap_alloc_new X _
    have sX : (X.alloc (.cells #[.int .i64 0, .int .i64 1, .int .i64 2, .bool false, .slice (some ⟨cb, 0, none⟩) 3 3] 40)).heap.size = X.heap.size + 1 := by simp
    generalize X.alloc (.cells #[.int .i64 0, .int .i64 1, .int .i64 2, .bool false, .slice (some ⟨cb, 0, none⟩) 3 3] 40) = Y at *
    have hY : Below H w Y := hX.trans (bX.mono (by omega))
    refine (newWalker_any Y 3 (by omega) (by omega)).mono ?_
    rintro e w' ⟨wb, kb, db, eb, dc, rfl, hh⟩
    obtain ⟨h1, h2, g1, g2, g3, g4⟩ := hh.out
    have q' := (h2.block X.heap.size (by omega)).trans qX
    refine ⟨wb, rfl, (cell_of_row w' _ 0 _ _ _ q').trans rfl, (cell_of_row w' _ 1 _ _ _ q').trans rfl, (cell_of_row w' _ 2 _ _ _ q').trans rfl, (cell_of_row w' _ 3 _ _ _ q').trans rfl, (cell_of_row w' _ 4 _ _ _ q').trans rfl, ⟨?_⟩⟩
    refine Calls.mono (follow_ex (w0 := Y) (w := w') (pb := pb) (l := exC) (hU.below (hH ▸ hY)) (hV.below (hH ▸ hY)) rfl (.inr (.inr rfl)) h1 h2 g1 g2 g3 g4) ?_
    rintro e w'' ⟨rfl, hf⟩
    obtain ⟨hb, hk⟩ := hf.out
    obtain ⟨pv, mv, K, hS, hL⟩ := hk (by decide)
    obtain ⟨_, _, k5, _, _, hwl⟩ := hL.cells
    have hkl := hL.wk.lts.2.1
    have q'' := (hb.block X.heap.size (by omega)).trans qX
    have hK : K = [(1, 0), (2, 0), (1, 1)] := by
      unfold Sg at hS
      rcases hS with ⟨h, _⟩ | ⟨h, _⟩ | ⟨_, ⟨h, _⟩ | ⟨h, _⟩ | ⟨h, _⟩ | ⟨_, h, _⟩⟩
      · exact absurd h (by decide)
      · exact absurd h (by decide)
      · exact absurd h (by decide)
      · exact absurd h (by decide)
      · exact absurd h (by decide)
      · exact h
    subst hK
    have k0 := (hL.known 0 (by decide)).1
    have k1 := (hL.known 1 (by decide)).1
    have k2 := (hL.known 2 (by decide)).1
    have hs3 := hb.size
    exact ⟨rfl, (cell_of_row w'' _ 4 _ _ _ q'').trans rfl, kb, k5, k0, k1, k2, hkl, hwl, by omega, ⟨hY.trans (hb.mono (by omega))⟩⟩⟩
  have hm3 := make3
  have hlt0 : H < w0.heap.size := by omega
  rw [hH]
  clear hU hV q0 b0
  go_enter Tryd.func12, Tryd.ntmps12
  go_wp2_with (first
    | (go_at_call 10; refine HC.mono ?_; clear HC c0 c1; rintro e w1 ⟨rfl, c0, p0, p1, p2, p3, p4, hpl1, HB1⟩)
    | (go_at_call 27; refine (HN.out _ HB1.out).mono ?_; clear p0 p1 p2 p3 p4 c0; rintro e w2 ⟨wb, rfl, y0, y1, y2, y3, y4, HF⟩)
    | (go_at_call 28; refine HF.out.mono ?_; clear y0 y1 y2 y3 y4; rintro e w3 ⟨rfl, y4, kb, k5, k0, k1, k2, hkl, hwl, hHl, HB3⟩))
  refine wp_loop_rounds 4 ?_
  rw [rounds_succ]
  go_wp2
  rw [rounds_succ]
  go_wp2
  rw [rounds_succ]
  go_wp2
  rw [rounds_succ]
  go_wp2
  go_ret
  have hq := heap_alloc_new w3 (.cells #[.int .i64 0, .int .i64 1, .int .i64 0] 3)
  exact ⟨w3.heap.size, rfl, (cell_of_row _ _ 0 _ _ _ hq).trans rfl, (cell_of_row _ _ 1 _ _ _ hq).trans rfl, (cell_of_row _ _ 2 _ _ _ hq).trans rfl, hHl, by simp, ⟨HB3.out.alloc hHl _⟩⟩
end Go.Proofs.YtafchddhokaopaaDoor
