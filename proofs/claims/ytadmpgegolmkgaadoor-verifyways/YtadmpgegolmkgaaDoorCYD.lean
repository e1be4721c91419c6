import Derived.Test.YtadmpgegolmkgaaDoorCWlH
namespace Go.Proofs.YtadmpgegolmkgaaDoor
open Go.RowKit
set_option linter.unusedVariables false
set_option linter.unusedSimpArgs false

set_option maxRecDepth 100000 in
set_option maxHeartbeats 1000000 in
theorem within_yes (n m : Int) (h0 : 0 ≤ n) (h1 : n ≤ m) (w : World) : Calls Tryd.prog 49 #[.int .i64 n, .int .i64 m] w fun e w' => e = .returned (.bool true) ∧ w = w' := by
  go_enter Tryd.func49, Tryd.ntmps49
  go_wp2
  go_ret
  exact ⟨ret_bool (by simp [h0, h1]), rfl⟩
/-- the three instructions of the examples, with what their operations want of A -/
def Ex (op a v : Int) : Prop := (op = 1 ∧ a = 1 ∧ v = 1) ∨ (op = 5 ∧ a = 0 ∧ v = 12) ∨ (op = 25 ∧ a = 0 ∧ v = 0)
set_option maxRecDepth 100000 in
set_option maxHeartbeats 1000000 in
theorem fits_ex (j : Value) (v n : Int) (h : (v = 0 ∧ n = 0) ∨ (v = 1 ∧ n = 1) ∨ (v = 12 ∧ n = 0)) (w : World) : Calls Tryd.prog 71 #[j, .int .i64 v, .int .i64 n] w fun e w' => e = .returned (.bool true) ∧ w = w' := by
  rcases h with ⟨rfl, rfl⟩ | ⟨rfl, rfl⟩ | ⟨rfl, rfl⟩
  all_goals
    go_enter Tryd.func71, Tryd.ntmps71
    go_wp2
    go_ret
    exact ⟨rfl, rfl⟩
set_option maxRecDepth 100000 in
set_option maxHeartbeats 1000000 in
theorem fitsList_ex (w : World) : Calls Tryd.prog 72 #[.int .i64 0, .slice none 0 0] w fun e w' => e = .returned (.bool true) ∧ w = w' := by
  go_enter Tryd.func72, Tryd.ntmps72
  go_wp2
  go_ret
  exact ⟨rfl, rfl⟩
abbrev exV (op a : Int) : Value := .agg #[.int .i64 op, .int .i64 a, .int .i64 0, .slice none 0 0]
set_option maxRecDepth 100000 in
set_option maxHeartbeats 1000000 in
theorem isFormed_ex (j : Value) (op a v : Int) (h : Ex op a v) (w : World) : Calls Tryd.prog 50 #[j, .agg #[.int .i64 v, .int .i64 0, .int .i64 0], exV op a] w fun e w' => e = .returned (.bool true) ∧ Below w.heap.size w w' := by
  have H1 : Bx (∀ W, _) := ⟨fun W => fits_ex j v a (by rcases h with ⟨_, rfl, rfl⟩ | ⟨_, rfl, rfl⟩ | ⟨_, rfl, rfl⟩ <;> simp) W⟩
  have H0 : Bx (∀ W, _) := ⟨fun W => fits_ex j 0 0 (.inl ⟨rfl, rfl⟩) W⟩
  have HL : Bx (∀ W, _) := ⟨fun W => fitsList_ex W⟩
  have hb : Bx (∀ o1 o2, Below w.heap.size w ((w.alloc o1).alloc o2)) := ⟨fun o1 o2 => (below1 w o1).alloc (by simp) o2⟩
  go_enter Tryd.func50, Tryd.ntmps50
  go_wp2_with (first
    | (go_at_call 71; refine (H1.out _).mono ?_; rintro e w1 ⟨rfl, rfl⟩; clear H1)
    | (go_at_call 72; refine (HL.out _).mono ?_; rintro e w2 ⟨rfl, rfl⟩)
    | (go_at_call 71; refine (H0.out _).mono ?_; rintro e w1 ⟨rfl, rfl⟩))
  go_ret
  exact ⟨rfl, hb.out _ _⟩
set_option maxRecDepth 100000 in
set_option maxHeartbeats 1000000 in
theorem hasSlot_ex (w : World) (jb : Nat) (v a : Int) (h : (v = 0 ∧ a = 0) ∨ (v = 1 ∧ a = 1) ∨ (v = 12 ∧ a = 0)) (hj : w.cell? ⟨jb, 3, none⟩ = some (.int .i64 1)) : Calls Tryd.prog 51 #[.pointer (some ⟨jb, 0, none⟩), .int .i64 v, .int .i64 a] w fun e w' => e = .returned (.bool true) ∧ w = w' := by
  have HW : Bx (∀ W, _) := ⟨fun W => within_yes 0 0 (by omega) (by omega) W⟩
  rcases h with ⟨rfl, rfl⟩ | ⟨rfl, rfl⟩ | ⟨rfl, rfl⟩
  all_goals
    go_enter Tryd.func51, Tryd.ntmps51
    go_wp2_with (first
      | (go_at_call 49; refine (HW.out _).mono ?_; rintro e w1 ⟨rfl, rfl⟩))
    go_ret
    exact ⟨rfl, rfl⟩
set_option maxRecDepth 100000 in
set_option maxHeartbeats 1000000 in
theorem hasTargets_ex (j : Value) (op a v at_ : Int) (h : Ex op a v) (w : World) : Calls Tryd.prog 52 #[j, .agg #[.int .i64 v, .int .i64 0, .int .i64 0], .int .i64 at_, exV op a] w fun e w' => e = .returned (.bool true) ∧ Below w.heap.size w w' := by
  have hb : Bx (∀ o1 o2, Below w.heap.size w ((w.alloc o1).alloc o2)) := ⟨fun o1 o2 => (below1 w o1).alloc (by simp) o2⟩
  rcases h with ⟨rfl, rfl, rfl⟩ | ⟨rfl, rfl, rfl⟩ | ⟨rfl, rfl, rfl⟩
  all_goals
    go_enter Tryd.func52, Tryd.ntmps52
    go_wp2
    go_ret
    exact ⟨rfl, hb.out _ _⟩
end Go.Proofs.YtadmpgegolmkgaaDoor
namespace Go.Proofs.YtadmpgegolmkgaaDoor
open Go.RowKit
set_option linter.unusedVariables false
set_option linter.unusedSimpArgs false

set_option maxRecDepth 100000 in
set_option maxHeartbeats 1000000 in
theorem wrong_ex (w : World) (hV : VW w) (jb : Nat) (hj : w.cell? ⟨jb, 3, none⟩ = some (.int .i64 1)) (op a v : Int) (h : Ex op a v) (at_ : Int) : Calls Tryd.prog 36 #[.pointer (some ⟨jb, 0, none⟩), .int .i64 at_, exV op a] w fun e w' => e = .returned (.int .i64 0) ∧ Below w.heap.size w w' := by
  obtain ⟨H, hH⟩ : ∃ H, w.heap.size = H := ⟨_, rfl⟩
  have hjl : jb < H := hH ▸ World.block_lt_of_cell? w _ hj
  have hgl : 1 < H := hH ▸ hV.ltv
  obtain ⟨w0, hw0⟩ : ∃ w0, w.alloc (.cells #[.int .i64 op, .int .i64 a, .int .i64 0, .slice none 0 0] 43) = w0 := ⟨_, rfl⟩
  have b0 : Below H w w0 := by rw [← hw0, ← hH]; exact below1 w _
  have s0 : w0.heap.size = H + 1 := by rw [← hw0]; simp [hH]
  have q0 : w0.heap[H]? = some (.cells #[.int .i64 op, .int .i64 a, .int .i64 0, .slice none 0 0] 43 (0, 0)) := by rw [← hw0, ← hH]; exact heap_alloc_new w _
  obtain ⟨w1, hw1⟩ : ∃ w1, w0.alloc (.cells #[.int .i64 v, .int .i64 0, .int .i64 0] 106) = w1 := ⟨_, rfl⟩
  have b1 : Below (H + 1) w0 w1 := by rw [← hw1, ← s0]; exact below1 w0 _
  have s1 : w1.heap.size = H + 2 := by rw [← hw1]; simp [s0]
  have q1 : w1.heap[H + 1]? = some (.cells #[.int .i64 v, .int .i64 0, .int .i64 0] 106 (0, 0)) := by rw [← hw1, ← s0]; exact heap_alloc_new w0 _
  have c0 : ∀ k, w0.cell? ⟨1, k, none⟩ = w.cell? ⟨1, k, none⟩ := fun k => b0.cell (p := ⟨1, k, none⟩) hgl
  have e0 : w0.cell? ⟨H, 0, none⟩ = some (.int .i64 op) := (cell_of_row w0 _ 0 _ _ _ q0).trans rfl
  have e1 : w0.cell? ⟨H, 1, none⟩ = some (.int .i64 a) := (cell_of_row w0 _ 1 _ _ _ q0).trans rfl
  have e2 : w0.cell? ⟨H, 2, none⟩ = some (.int .i64 0) := (cell_of_row w0 _ 2 _ _ _ q0).trans rfl
  have e3 : w0.cell? ⟨H, 3, none⟩ = some (.slice none 0 0) := (cell_of_row w0 _ 3 _ _ _ q0).trans rfl
  have HC : Bx (∀ X, Below (H + 2) w1 X → X.cell? ⟨H, 0, none⟩ = some (.int .i64 op) ∧ X.cell? ⟨H, 1, none⟩ = some (.int .i64 a) ∧ X.cell? ⟨H, 2, none⟩ = some (.int .i64 0) ∧ X.cell? ⟨H, 3, none⟩ = some (.slice none 0 0) ∧ X.cell? ⟨H + 1, 0, none⟩ = some (.int .i64 v) ∧ X.cell? ⟨H + 1, 1, none⟩ = some (.int .i64 0) ∧ X.cell? ⟨H + 1, 2, none⟩ = some (.int .i64 0) ∧ Bx (X.cell? ⟨jb, 3, none⟩ = some (.int .i64 1) ∧ Below H w X)) := ⟨fun X hX => by
    have r0 : X.heap[H]? = _ := ((hX.block H (by omega)).trans (b1.block H (by omega))).trans q0
    have r1 : X.heap[H + 1]? = _ := (hX.block (H + 1) (by omega)).trans q1
    have hb : Below H w X := b0.trans ((b1.mono (by omega)).trans (hX.mono (by omega)))
    exact ⟨(cell_of_row X _ 0 _ _ _ r0).trans rfl, (cell_of_row X _ 1 _ _ _ r0).trans rfl, (cell_of_row X _ 2 _ _ _ r0).trans rfl, (cell_of_row X _ 3 _ _ _ r0).trans rfl, (cell_of_row X _ 0 _ _ _ r1).trans rfl, (cell_of_row X _ 1 _ _ _ r1).trans rfl, (cell_of_row X _ 2 _ _ _ r1).trans rfl, ⟨(hb.cell (p := ⟨jb, 3, none⟩) hjl).trans hj, hb⟩⟩⟩
  have HF : Bx (∀ X, Below (H + 2) w1 X → Calls Tryd.prog 50 #[.pointer (some ⟨jb, 0, none⟩), .agg #[.int .i64 v, .int .i64 0, .int .i64 0], .agg #[.int .i64 op, .int .i64 a, .int .i64 0, .slice none 0 0]] X fun e w' => e = .returned (.bool true) ∧ Below (H + 2) w1 w') := ⟨fun X hX => (isFormed_ex _ op a v h X).mono fun e w' hh => ⟨hh.1, hX.trans (hh.2.mono (by have := hX.size; omega))⟩⟩
  have HT : Bx (∀ X, Below (H + 2) w1 X → Calls Tryd.prog 52 #[.pointer (some ⟨jb, 0, none⟩), .agg #[.int .i64 v, .int .i64 0, .int .i64 0], .int .i64 at_, .agg #[.int .i64 op, .int .i64 a, .int .i64 0, .slice none 0 0]] X fun e w' => e = .returned (.bool true) ∧ Below (H + 2) w1 w') := ⟨fun X hX => (hasTargets_ex _ op a v at_ h X).mono fun e w' hh => ⟨hh.1, hX.trans (hh.2.mono (by have := hX.size; omega))⟩⟩
  have HS : Bx (∀ X, Below (H + 2) w1 X → _) := ⟨fun X hX => hasSlot_ex X jb v a (by rcases h with ⟨_, rfl, rfl⟩ | ⟨_, rfl, rfl⟩ | ⟨_, rfl, rfl⟩ <;> simp) (HC.out X hX).2.2.2.2.2.2.2.out.1⟩
  have g1 := (c0 (1 * 3)).trans (hV.v0 1 (by omega))
  have g2 := (c0 (1 * 3 + 1)).trans (hV.v1 1 (by omega))
  have g3 := (c0 (1 * 3 + 2)).trans (hV.v2 1 (by omega))
  have g4 := (c0 (5 * 3)).trans (hV.v0 5 (by omega))
  have g5 := (c0 (5 * 3 + 1)).trans (hV.v1 5 (by omega))
  have g6 := (c0 (5 * 3 + 2)).trans (hV.v2 5 (by omega))
  have g7 := (c0 (25 * 3)).trans (hV.v0 25 (by omega))
  have g8 := (c0 (25 * 3 + 1)).trans (hV.v1 25 (by omega))
  have g9 := (c0 (25 * 3 + 2)).trans (hV.v2 25 (by omega))
  simp [vsT] at g1 g2 g3 g4 g5 g6 g7 g8 g9
  have HW1 : Bx _ := ⟨hw1⟩
  clear c0 hV hj q0 q1 hw1
  have hlt0 : H < w0.heap.size := by omega
  rw [hH]
  rcases h with ⟨rfl, rfl, rfl⟩ | ⟨rfl, rfl, rfl⟩ | ⟨rfl, rfl, rfl⟩
  all_goals
    go_enter Tryd.func36, Tryd.ntmps36
    go_wp2_with (first
      | (go_at_call 50; rw [HW1.out]; refine (HF.out _ (Below.refl _ _)).mono ?_; rintro e w2 ⟨rfl, hb2⟩; have B2 : Bx _ := ⟨hb2⟩; clear hb2; obtain ⟨y0, y1, y2, y3, y4, y5, y6, y7⟩ := HC.out _ B2.out)
      | (go_at_call 51; refine (HS.out _ B2.out).mono ?_; rintro e w3 ⟨rfl, rfl⟩)
      | (go_at_call 52; refine (HT.out _ B2.out).mono ?_; rintro e w4 ⟨rfl, hb4⟩; have B4 : Bx _ := ⟨hb4⟩; clear hb4))
    go_ret
    exact ⟨rfl, (HC.out _ B4.out).2.2.2.2.2.2.2.out.2⟩
end Go.Proofs.YtadmpgegolmkgaaDoor
namespace Go.Proofs.YtadmpgegolmkgaaDoor
open Go.RowKit
set_option linter.unusedVariables false
set_option linter.unusedSimpArgs false

theorem infoB : (Tryd.prog.info? 4).map (fun i => (i.zero, i.size, i.bytes)) = some (some (.bool false), 1, 1) := by kernel_rfl
theorem infoI : (Tryd.prog.info? 3).map (fun i => (i.zero, i.size, i.bytes)) = some (some (.int .i64 0), 1, 8) := by kernel_rfl
theorem infoIs : (Tryd.prog.info? 32).map (fun i => (i.zero, i.size, i.bytes)) = some (some (.slice none 0 0), 1, 24) := by kernel_rfl
theorem made0 (z : Array Value) : madeCells z 0 = #[] := by simp [madeCells]
theorem make0B (w : World) : (Instr.makeSlice 41 (.int .i64 0) (.int .i64 0)).run Tryd.prog w = .ok (.slice (some ⟨w.heap.size, 0, none⟩) 0 0) (w.alloc (.cells #[] 4)) := by
  obtain ⟨i0, hi, hz0, hz1, hz2⟩ := info_parts infoB
  have := run_make (P := Tryd.prog) w 41 4 i0 _ Tryd.underlying41 hi hz0 .i64 .i64 0 0 (by omega) (by omega) (by rw [hz2]; omega) (by omega)
  simpa [made0] using this
theorem make0I (w : World) : (Instr.makeSlice 32 (.int .i64 0) (.int .i64 0)).run Tryd.prog w = .ok (.slice (some ⟨w.heap.size, 0, none⟩) 0 0) (w.alloc (.cells #[] 3)) := by
  obtain ⟨i0, hi, hz0, hz1, hz2⟩ := info_parts infoI
  have := run_make (P := Tryd.prog) w 32 3 i0 _ Tryd.underlying32 hi hz0 .i64 .i64 0 0 (by omega) (by omega) (by rw [hz2]; omega) (by omega)
  simpa [made0] using this
theorem make0S (w : World) : (Instr.makeSlice 103 (.int .i64 0) (.int .i64 0)).run Tryd.prog w = .ok (.slice (some ⟨w.heap.size, 0, none⟩) 0 0) (w.alloc (.cells #[] 32)) := by
  obtain ⟨i0, hi, hz0, hz1, hz2⟩ := info_parts infoIs
  have := run_make (P := Tryd.prog) w 103 32 i0 _ Tryd.underlying103 hi hz0 .i64 .i64 0 0 (by omega) (by omega) (by rw [hz2]; omega) (by omega)
  simpa [made0] using this
set_option maxRecDepth 100000 in
set_option maxHeartbeats 1000000 in
theorem defaults_nil (w : World) : Calls Tryd.prog 35 #[.slice none 0 0] w fun e w' => e = .returned (.slice (some ⟨w.heap.size, 0, none⟩) 0 0) ∧ Below w.heap.size w w' := by
  have h1 := make0B
  have h2 := make0I
  have h3 := make0S
  have hb : Bx (∀ o1 o2 o3, Below w.heap.size w (((w.alloc o1).alloc o2).alloc o3)) := ⟨fun o1 o2 o3 => ((below1 w o1).alloc (by simp) o2).alloc (by simp; omega) o3⟩
  go_enter Tryd.func35, Tryd.ntmps35
  go_wp2
  refine wp_loop_rounds 1 ?_
  rw [rounds_succ]
  go_wp2
  refine wp_loop_rounds 1 ?_
  rw [rounds_succ]
  go_wp2
  go_ret
  exact ⟨rfl, hb.out _ _ _⟩
/-- the code of an example, as cells -/
def cdC (l : List (Int × Int)) : Array Value := (l.flatMap fun p => [Value.int .i64 p.1, .int .i64 p.2, .int .i64 0, .slice none 0 0]).toArray
/-- a unit of one prog -/
structure UE (w : World) (pb cb : Nat) (l : List (Int × Int)) : Prop where
  pg : w.heap[pb]? = some (.cells #[.int .i64 0, .int .i64 1, .int .i64 2, .bool false, .slice (some ⟨cb, 0, none⟩) l.length l.length] 40 (0, 0))
  cd : w.heap[cb]? = some (.cells (cdC l) 43 (0, 0))
  all : ∀ p ∈ l, ∃ v, Ex p.1 p.2 v
  len : l.length ≤ 3
  pos : 0 < l.length
theorem UE.lt {w : World} {pb cb : Nat} {l : List (Int × Int)} (h : UE w pb cb l) : pb < w.heap.size ∧ cb < w.heap.size := ⟨(Array.getElem?_eq_some_iff.1 h.pg).1, (Array.getElem?_eq_some_iff.1 h.cd).1⟩
theorem UE.below {w w' : World} {pb cb : Nat} {l : List (Int × Int)} (h : UE w pb cb l) (hb : Below w.heap.size w w') : UE w' pb cb l :=
  ⟨(hb.block _ h.lt.1).trans h.pg, (hb.block _ h.lt.2).trans h.cd, h.all, h.len, h.pos⟩
theorem cdC_get : ∀ (l : List (Int × Int)) (i : Nat) (h : i < l.length), (cdC l)[i * 4]? = some (.int .i64 l[i].1) ∧ (cdC l)[i * 4 + 1]? = some (.int .i64 l[i].2) ∧ (cdC l)[i * 4 + 2]? = some (.int .i64 0) ∧ (cdC l)[i * 4 + 3]? = some (.slice none 0 0)
  | p :: r, 0, _ => by simp [cdC]
  | p :: r, i + 1, h => by
    have := cdC_get r i (by simpa using h)
    simp only [cdC, List.getElem?_toArray, List.flatMap_cons, List.getElem_cons_succ] at this ⊢
    have e : ∀ k, ([Value.int .i64 p.1, .int .i64 p.2, .int .i64 0, .slice none 0 0] ++ List.flatMap (fun p => [Value.int .i64 p.1, .int .i64 p.2, .int .i64 0, .slice none 0 0]) r)[4 + k]? = (List.flatMap (fun p => [Value.int .i64 p.1, .int .i64 p.2, .int .i64 0, .slice none 0 0]) r)[k]? := fun k => by
      rw [List.getElem?_append_right (by simp)]
      simp
    rw [show (i + 1) * 4 = 4 + i * 4 by omega, show 4 + i * 4 + 1 = 4 + (i * 4 + 1) by omega, show 4 + i * 4 + 2 = 4 + (i * 4 + 2) by omega, show 4 + i * 4 + 3 = 4 + (i * 4 + 3) by omega, e, e, e, e]
    exact this
theorem UE.cell {w : World} {pb cb : Nat} {l : List (Int × Int)} (h : UE w pb cb l) (i : Nat) (hi : i < l.length) : w.cell? ⟨cb, i * 4, none⟩ = some (.int .i64 l[i].1) ∧ w.cell? ⟨cb, i * 4 + 1, none⟩ = some (.int .i64 l[i].2) ∧ w.cell? ⟨cb, i * 4 + 2, none⟩ = some (.int .i64 0) ∧ w.cell? ⟨cb, i * 4 + 3, none⟩ = some (.slice none 0 0) := by
  obtain ⟨h1, h2, h3, h4⟩ := cdC_get l i hi
  exact ⟨(cell_of_row w _ _ _ _ _ h.cd).trans h1, (cell_of_row w _ _ _ _ _ h.cd).trans h2, (cell_of_row w _ _ _ _ _ h.cd).trans h3, (cell_of_row w _ _ _ _ _ h.cd).trans h4⟩
end Go.Proofs.YtadmpgegolmkgaaDoor
