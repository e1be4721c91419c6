import Derived.Test.YtafchddhokaopaaDoorCYD
namespace Go.Proofs.YtafchddhokaopaaDoor
open Go.RowKit
set_option linter.unusedVariables false
set_option linter.unusedSimpArgs false

set_option maxRecDepth 100000 in
set_option maxHeartbeats 1000000 in
theorem wrong_ex (w : World) (hV : VW w) (jb : Nat) (hj : w.cell? ⟨jb, 3, none⟩ = some (.int .i64 1)) (op a v : Int) (h : Ex op a v) (at_ : Int) : Calls Tryd.prog 37 #[.pointer (some ⟨jb, 0, none⟩), .int .i64 at_, exV op a] w fun e w' => e = .returned (.int .i64 0) ∧ Below w.heap.size w w' := by
  obtain ⟨H, hH⟩ : ∃ H, w.heap.size = H := ⟨_, rfl⟩
  have hjl : jb < H := hH ▸ World.block_lt_of_cell? w _ hj
  have hgl : 1 < H := hH ▸ hV.ltv
  obtain ⟨w0, hw0⟩ : ∃ w0, w.alloc (.cells #[.int .i64 op, .int .i64 a, .int .i64 0, .slice none 0 0] 43) = w0 := ⟨_, rfl⟩
  have b0 : Below H w w0 := by rw [← hw0, ← hH]; exact below1 w _
  have s0 : w0.heap.size = H + 1 := by rw [← hw0]; simp [hH]
  have q0 : w0.heap[H]? = some (.cells #[.int .i64 op, .int .i64 a, .int .i64 0, .slice none 0 0] 43 (0, 0)) := by rw [← hw0, ← hH]; exact heap_alloc_new w _
  obtain ⟨w1, hw1⟩ : ∃ w1, w0.alloc (.cells #[.int .i64 v, .int .i64 0, .int .i64 0] 106) = w1 := ⟨_, rfl⟩
  have b1 : Below (H + 1) w0 w1 := by rw [← hw1, ← s0]; exact below1 w0 _
  have s1 : w1.heap.size = H + 2 := by rw [← hw1]; simp [s0]
  have q1 : w1.heap[H + 1]? = some (.cells #[.int .i64 v, .int .i64 0, .int .i64 0] 106 (0, 0)) := by rw [← hw1, ← s0]; exact heap_alloc_new w0 _
  have c0 : ∀ k, w0.cell? ⟨1, k, none⟩ = w.cell? ⟨1, k, none⟩ := fun k => b0.cell (p := ⟨1, k, none⟩) hgl
  have e0 : w0.cell? ⟨H, 0, none⟩ = some (.int .i64 op) := (cell_of_row w0 _ 0 _ _ _ q0).trans rfl
  have e1 : w0.cell? ⟨H, 1, none⟩ = some (.int .i64 a) := (cell_of_row w0 _ 1 _ _ _ q0).trans rfl
  have e2 : w0.cell? ⟨H, 2, none⟩ = some (.int .i64 0) := (cell_of_row w0 _ 2 _ _ _ q0).trans rfl
  have e3 : w0.cell? ⟨H, 3, none⟩ = some (.slice none 0 0) := (cell_of_row w0 _ 3 _ _ _ q0).trans rfl
  have HC : Bx (∀ X, Below (H + 2) w1 X → X.cell? ⟨H, 0, none⟩ = some (.int .i64 op) ∧ X.cell? ⟨H, 1, none⟩ = some (.int .i64 a) ∧ X.cell? ⟨H, 2, none⟩ = some (.int .i64 0) ∧ X.cell? ⟨H, 3, none⟩ = some (.slice none 0 0) ∧ X.cell? ⟨H + 1, 0, none⟩ = some (.int .i64 v) ∧ X.cell? ⟨H + 1, 1, none⟩ = some (.int .i64 0) ∧ X.cell? ⟨H + 1, 2, none⟩ = some (.int .i64 0) ∧ Bx (X.cell? ⟨jb, 3, none⟩ = some (.int .i64 1) ∧ Below H w X)) := ⟨fun X hX => by
    have r0 : X.heap[H]? = _ := ((hX.block H (by omega)).trans (b1.block H (by omega))).trans q0
    have r1 : X.heap[H + 1]? = _ := (hX.block (H + 1) (by omega)).trans q1
    have hb : Below H w X := b0.trans ((b1.mono (by omega)).trans (hX.mono (by omega)))
    exact ⟨(cell_of_row X _ 0 _ _ _ r0).trans rfl, (cell_of_row X _ 1 _ _ _ r0).trans rfl, (cell_of_row X _ 2 _ _ _ r0).trans rfl, (cell_of_row X _ 3 _ _ _ r0).trans rfl, (cell_of_row X _ 0 _ _ _ r1).trans rfl, (cell_of_row X _ 1 _ _ _ r1).trans rfl, (cell_of_row X _ 2 _ _ _ r1).trans rfl, ⟨(hb.cell (p := ⟨jb, 3, none⟩) hjl).trans hj, hb⟩⟩⟩
  have HF : Bx (∀ X, Below (H + 2) w1 X → Calls Tryd.prog 51 #[.pointer (some ⟨jb, 0, none⟩), .agg #[.int .i64 v, .int .i64 0, .int .i64 0], .agg #[.int .i64 op, .int .i64 a, .int .i64 0, .slice none 0 0]] X fun e w' => e = .returned (.bool true) ∧ Below (H + 2) w1 w') := ⟨fun X hX => (isFormed_ex _ op a v h X).mono fun e w' hh => ⟨hh.1, hX.trans (hh.2.mono (by have := hX.size; omega))⟩⟩
  have HT : Bx (∀ X, Below (H + 2) w1 X → Calls Tryd.prog 53 #[.pointer (some ⟨jb, 0, none⟩), .agg #[.int .i64 v, .int .i64 0, .int .i64 0], .int .i64 at_, .agg #[.int .i64 op, .int .i64 a, .int .i64 0, .slice none 0 0]] X fun e w' => e = .returned (.bool true) ∧ Below (H + 2) w1 w') := ⟨fun X hX => (hasTargets_ex _ op a v at_ h X).mono fun e w' hh => ⟨hh.1, hX.trans (hh.2.mono (by have := hX.size; omega))⟩⟩
  have HS : Bx (∀ X, Below (H + 2) w1 X → _) := ⟨fun X hX => hasSlot_ex X jb v a (by rcases h with ⟨_, rfl, rfl⟩ | ⟨_, rfl, rfl⟩ | ⟨_, rfl, rfl⟩ <;> simp) (HC.out X hX).2.2.2.2.2.2.2.out.1⟩
  have g1 := (c0 (1 * 3)).trans (hV.v0 1 (by omega))
  have g2 := (c0 (1 * 3 + 1)).trans (hV.v1 1 (by omega))
  have g3 := (c0 (1 * 3 + 2)).trans (hV.v2 1 (by omega))
  have g4 := (c0 (5 * 3)).trans (hV.v0 5 (by omega))
  have g5 := (c0 (5 * 3 + 1)).trans (hV.v1 5 (by omega))
  have g6 := (c0 (5 * 3 + 2)).trans (hV.v2 5 (by omega))
  have g7 := (c0 (25 * 3)).trans (hV.v0 25 (by omega))
  have g8 := (c0 (25 * 3 + 1)).trans (hV.v1 25 (by omega))
  have g9 := (c0 (25 * 3 + 2)).trans (hV.v2 25 (by omega))
  simp [vsT] at g1 g2 g3 g4 g5 g6 g7 g8 g9
  have HW1 : Bx _ := ⟨hw1⟩
  clear c0 hV hj q0 q1 hw1
  have hlt0 : H < w0.heap.size := by omega
  rw [hH]
  rcases h with ⟨rfl, rfl, rfl⟩ | ⟨rfl, rfl, rfl⟩ | ⟨rfl, rfl, rfl⟩
  all_goals
    go_enter Tryd.func37, Tryd.ntmps37
    go_wp2_with (first
      | (go_at_call 51; rw [HW1.out]; refine (HF.out _ (Below.refl _ _)).mono ?_; rintro e w2 ⟨rfl, hb2⟩; have B2 : Bx _ := ⟨hb2⟩; clear hb2; obtain ⟨y0, y1, y2, y3, y4, y5, y6, y7⟩ := HC.out _ B2.out)
      | (go_at_call 52; refine (HS.out _ B2.out).mono ?_; rintro e w3 ⟨rfl, rfl⟩)
      | (go_at_call 53; refine (HT.out _ B2.out).mono ?_; rintro e w4 ⟨rfl, hb4⟩; have B4 : Bx _ := ⟨hb4⟩; clear hb4))
    go_ret
    exact ⟨rfl, (HC.out _ B4.out).2.2.2.2.2.2.2.out.2⟩
end Go.Proofs.YtafchddhokaopaaDoor
