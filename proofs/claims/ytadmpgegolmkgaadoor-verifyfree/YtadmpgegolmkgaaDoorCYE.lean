import Derived.Test.YtadmpgegolmkgaaDoorCYC
namespace Go.Proofs.YtadmpgegolmkgaaDoor
open Go.RowKit
set_option linter.unusedVariables false
set_option linter.unusedSimpArgs false

set_option maxRecDepth 100000 in
set_option maxHeartbeats 1000000 in
theorem wrong_ex (w : World) (hV : VW w) (jb : Nat) (hj : w.cell? ⟨jb, 3, none⟩ = some (.int .i64 1)) (op a v : Int) (h : Ex op a v) (at_ : Int) : Calls Tryd.prog 36 #[.pointer (some ⟨jb, 0, none⟩), .int .i64 at_, exV op a] w fun e w' => e = .returned (.int .i64 0) ∧ Below w.heap.size w w' := by
  obtain ⟨H, hH⟩ : ∃ H, w.heap.size = H := ⟨_, rfl⟩
  have hjl : jb < H := hH ▸ World.block_lt_of_cell? w _ hj
  have hgl : 1 < H := hH ▸ hV.ltv
  obtain ⟨w0, hw0⟩ : ∃ w0, w.alloc (.cells #[.int .i64 op, .int .i64 a, .int .i64 0, .slice none 0 0] 43) = w0 := ⟨_, rfl⟩
  have b0 : Below H w w0 := by rw [← hw0, ← hH]; exact below1 w _
  have s0 : w0.heap.size = H + 1 := by rw [← hw0]; simp [hH]
  have q0 : w0.heap[H]? = some (.cells #[.int .i64 op, .int .i64 a, .int .i64 0, .slice none 0 0] 43 (0, 0)) := by rw [← hw0, ← hH]; exact heap_alloc_new w _
  obtain ⟨w1, hw1⟩ : ∃ w1, w0.alloc (.cells #[.int .i64 v, .int .i64 0, .int .i64 0] 106) = w1 := ⟨_, rfl⟩
  have b1 : Below (H + 1) w0 w1 := by rw [← hw1, ← s0]; exact below1 w0 _
  have s1 : w1.heap.size = H + 2 := by rw [← hw1]; simp [s0]
  have q1 : w1.heap[H + 1]? = some (.cells #[.int .i64 v, .int .i64 0, .int .i64 0] 106 (0, 0)) := by rw [← hw1, ← s0]; exact heap_alloc_new w0 _
  have c0 : ∀ k, w0.cell? ⟨1, k, none⟩ = w.cell? ⟨1, k, none⟩ := fun k => b0.cell (p := ⟨1, k, none⟩) hgl
  have e0 : w0.cell? ⟨H, 0, none⟩ = some (.int .i64 op) := (cell_of_row w0 _ 0 _ _ _ q0).trans rfl
  have e1 : w0.cell? ⟨H, 1, none⟩ = some (.int .i64 a) := (cell_of_row w0 _ 1 _ _ _ q0).trans rfl
  have e2 : w0.cell? ⟨H, 2, none⟩ = some (.int .i64 0) := (cell_of_row w0 _ 2 _ _ _ q0).trans rfl
  have e3 : w0.cell? ⟨H, 3, none⟩ = some (.slice none 0 0) := (cell_of_row w0 _ 3 _ _ _ q0).trans rfl
  have HC : Bx (∀ X, Below (H + 2) w1 X → X.cell? ⟨H, 0, none⟩ = some (.int .i64 op) ∧ X.cell? ⟨H, 1, none⟩ = some (.int .i64 a) ∧ X.cell? ⟨H, 2, none⟩ = some (.int .i64 0) ∧ X.cell? ⟨H, 3, none⟩ = some (.slice none 0 0) ∧ X.cell? ⟨H + 1, 0, none⟩ = some (.int .i64 v) ∧ X.cell? ⟨H + 1, 1, none⟩ = some (.int .i64 0) ∧ X.cell? ⟨H + 1, 2, none⟩ = some (.int .i64 0) ∧ Bx (X.cell? ⟨jb, 3, none⟩ = some (.int .i64 1) ∧ Below H w X)) := ⟨fun X hX => by
    have r0 : X.heap[H]? = _ := ((hX.block H (by omega)).trans (b1.block H (by omega))).trans q0
    have r1 : X.heap[H + 1]? = _ := (hX.block (H + 1) (by omega)).trans q1
    have hb : Below H w X := b0.trans ((b1.mono (by omega)).trans (hX.mono (by omega)))
    exact ⟨(cell_of_row X _ 0 _ _ _ r0).trans rfl, (cell_of_row X _ 1 _ _ _ r0).trans rfl, (cell_of_row X _ 2 _ _ _ r0).trans rfl, (cell_of_row X _ 3 _ _ _ r0).trans rfl, (cell_of_row X _ 0 _ _ _ r1).trans rfl, (cell_of_row X _ 1 _ _ _ r1).trans rfl, (cell_of_row X _ 2 _ _ _ r1).trans rfl, ⟨(hb.cell (p := ⟨jb, 3, none⟩) hjl).trans hj, hb⟩⟩⟩
  have HF : Bx (∀ X, Below (H + 2) w1 X → Calls Tryd.prog 50 #[.pointer (some ⟨jb, 0, none⟩), .agg #[.int .i64 v, .int .i64 0, .int .i64 0], .agg #[.int .i64 op, .int .i64 a, .int .i64 0, .slice none 0 0]] X fun e w' => e = .returned (.bool true) ∧ Below (H + 2) w1 w') := ⟨fun X hX => (isFormed_ex _ op a v h X).mono fun e w' hh => ⟨hh.1, hX.trans (hh.2.mono (by have := hX.size; omega))⟩⟩
  have HT : Bx (∀ X, Below (H + 2) w1 X → Calls Tryd.prog 52 #[.pointer (some ⟨jb, 0, none⟩), .agg #[.int .i64 v, .int .i64 0, .int .i64 0], .int .i64 at_, .agg #[.int .i64 op, .int .i64 a, .int .i64 0, .slice none 0 0]] X fun e w' => e = .returned (.bool true) ∧ Below (H + 2) w1 w') := ⟨fun X hX => (hasTargets_ex _ op a v at_ h X).mono fun e w' hh => ⟨hh.1, hX.trans (hh.2.mono (by have := hX.size; omega))⟩⟩
  have HS : Bx (∀ X, Below (H + 2) w1 X → _) := ⟨fun X hX => hasSlot_ex X jb v a (by rcases h with ⟨_, rfl, rfl⟩ | ⟨_, rfl, rfl⟩ | ⟨_, rfl, rfl⟩ <;> simp) (HC.out X hX).2.2.2.2.2.2.2.out.1⟩
  have g1 := (c0 (1 * 3)).trans (hV.v0 1 (by omega))
  have g2 := (c0 (1 * 3 + 1)).trans (hV.v1 1 (by omega))
  have g3 := (c0 (1 * 3 + 2)).trans (hV.v2 1 (by omega))
  have g4 := (c0 (5 * 3)).trans (hV.v0 5 (by omega))
  have g5 := (c0 (5 * 3 + 1)).trans (hV.v1 5 (by omega))
  have g6 := (c0 (5 * 3 + 2)).trans (hV.v2 5 (by omega))
  have g7 := (c0 (25 * 3)).trans (hV.v0 25 (by omega))
  have g8 := (c0 (25 * 3 + 1)).trans (hV.v1 25 (by omega))
  have g9 := (c0 (25 * 3 + 2)).trans (hV.v2 25 (by omega))
  simp [vsT] at g1 g2 g3 g4 g5 g6 g7 g8 g9
  have HW1 : Bx _ := ⟨hw1⟩
  clear c0 hV hj q0 q1 hw1
  have hlt0 : H < w0.heap.size := by omega
  rw [hH]
  rcases h with ⟨rfl, rfl, rfl⟩ | ⟨rfl, rfl, rfl⟩ | ⟨rfl, rfl, rfl⟩
  all_goals
    go_enter Tryd.func36, Tryd.ntmps36
    go_wp2_with (first
      | (go_at_call 50; rw [HW1.out]; refine (HF.out _ (Below.refl _ _)).mono ?_; rintro e w2 ⟨rfl, hb2⟩; have B2 : Bx _ := ⟨hb2⟩; clear hb2; obtain ⟨y0, y1, y2, y3, y4, y5, y6, y7⟩ := HC.out _ B2.out)
      | (go_at_call 51; refine (HS.out _ B2.out).mono ?_; rintro e w3 ⟨rfl, rfl⟩)
      | (go_at_call 52; refine (HT.out _ B2.out).mono ?_; rintro e w4 ⟨rfl, hb4⟩; have B4 : Bx _ := ⟨hb4⟩; clear hb4))
    go_ret
    exact ⟨rfl, (HC.out _ B4.out).2.2.2.2.2.2.2.out.2⟩
end Go.Proofs.YtadmpgegolmkgaaDoor
namespace Go.Proofs.YtadmpgegolmkgaaDoor
open Go.RowKit
set_option linter.unusedVariables false
set_option linter.unusedSimpArgs false

theorem infoB : (Tryd.prog.info? 4).map (fun i => (i.zero, i.size, i.bytes)) = some (some (.bool false), 1, 1) := by kernel_rfl
theorem infoI : (Tryd.prog.info? 3).map (fun i => (i.zero, i.size, i.bytes)) = some (some (.int .i64 0), 1, 8) := by kernel_rfl
theorem infoIs : (Tryd.prog.info? 32).map (fun i => (i.zero, i.size, i.bytes)) = some (some (.slice none 0 0), 1, 24) := by kernel_rfl
theorem made0 (z : Array Value) : madeCells z 0 = #[] := by simp [madeCells]
theorem make0B (w : World) : (Instr.makeSlice 41 (.int .i64 0) (.int .i64 0)).run Tryd.prog w = .ok (.slice (some ⟨w.heap.size, 0, none⟩) 0 0) (w.alloc (.cells #[] 4)) := by
  obtain ⟨i0, hi, hz0, hz1, hz2⟩ := info_parts infoB
  have := run_make (P := Tryd.prog) w 41 4 i0 _ Tryd.underlying41 hi hz0 .i64 .i64 0 0 (by omega) (by omega) (by rw [hz2]; omega) (by omega)
  simpa [made0] using this
theorem make0I (w : World) : (Instr.makeSlice 32 (.int .i64 0) (.int .i64 0)).run Tryd.prog w = .ok (.slice (some ⟨w.heap.size, 0, none⟩) 0 0) (w.alloc (.cells #[] 3)) := by
  obtain ⟨i0, hi, hz0, hz1, hz2⟩ := info_parts infoI
  have := run_make (P := Tryd.prog) w 32 3 i0 _ Tryd.underlying32 hi hz0 .i64 .i64 0 0 (by omega) (by omega) (by rw [hz2]; omega) (by omega)
  simpa [made0] using this
theorem make0S (w : World) : (Instr.makeSlice 103 (.int .i64 0) (.int .i64 0)).run Tryd.prog w = .ok (.slice (some ⟨w.heap.size, 0, none⟩) 0 0) (w.alloc (.cells #[] 32)) := by
  obtain ⟨i0, hi, hz0, hz1, hz2⟩ := info_parts infoIs
  have := run_make (P := Tryd.prog) w 103 32 i0 _ Tryd.underlying103 hi hz0 .i64 .i64 0 0 (by omega) (by omega) (by rw [hz2]; omega) (by omega)
  simpa [made0] using this
set_option maxRecDepth 100000 in
set_option maxHeartbeats 1000000 in
theorem defaults_nil (w : World) : Calls Tryd.prog 35 #[.slice none 0 0] w fun e w' => e = .returned (.slice (some ⟨w.heap.size, 0, none⟩) 0 0) ∧ Below w.heap.size w w' := by
  have h1 := make0B
  have h2 := make0I
  have h3 := make0S
  have hb : Bx (∀ o1 o2 o3, Below w.heap.size w (((w.alloc o1).alloc o2).alloc o3)) := ⟨fun o1 o2 o3 => ((below1 w o1).alloc (by simp) o2).alloc (by simp; omega) o3⟩
  go_enter Tryd.func35, Tryd.ntmps35
  go_wp2
  refine wp_loop_rounds 1 ?_
  rw [rounds_succ]
  go_wp2
  refine wp_loop_rounds 1 ?_
  rw [rounds_succ]
  go_wp2
  go_ret
  exact ⟨rfl, hb.out _ _ _⟩
/-- the code of an example, as cells -/
def cdC (l : List (Int × Int)) : Array Value := (l.flatMap fun p => [Value.int .i64 p.1, .int .i64 p.2, .int .i64 0, .slice none 0 0]).toArray
/-- a unit of one prog -/
structure UE (w : World) (pb cb : Nat) (l : List (Int × Int)) : Prop where
  pg : w.heap[pb]? = some (.cells #[.int .i64 0, .int .i64 1, .int .i64 2, .bool false, .slice (some ⟨cb, 0, none⟩) l.length l.length] 40 (0, 0))
  cd : w.heap[cb]? = some (.cells (cdC l) 43 (0, 0))
  all : ∀ p ∈ l, ∃ v, Ex p.1 p.2 v
  len : l.length ≤ 3
  pos : 0 < l.length
theorem UE.lt {w : World} {pb cb : Nat} {l : List (Int × Int)} (h : UE w pb cb l) : pb < w.heap.size ∧ cb < w.heap.size := ⟨(Array.getElem?_eq_some_iff.1 h.pg).1, (Array.getElem?_eq_some_iff.1 h.cd).1⟩
theorem UE.below {w w' : World} {pb cb : Nat} {l : List (Int × Int)} (h : UE w pb cb l) (hb : Below w.heap.size w w') : UE w' pb cb l :=
  ⟨(hb.block _ h.lt.1).trans h.pg, (hb.block _ h.lt.2).trans h.cd, h.all, h.len, h.pos⟩
theorem cdC_get : ∀ (l : List (Int × Int)) (i : Nat) (h : i < l.length), (cdC l)[i * 4]? = some (.int .i64 l[i].1) ∧ (cdC l)[i * 4 + 1]? = some (.int .i64 l[i].2) ∧ (cdC l)[i * 4 + 2]? = some (.int .i64 0) ∧ (cdC l)[i * 4 + 3]? = some (.slice none 0 0)
  | p :: r, 0, _ => by simp [cdC]
  | p :: r, i + 1, h => by
    have := cdC_get r i (by simpa using h)
    simp only [cdC, List.getElem?_toArray, List.flatMap_cons, List.getElem_cons_succ] at this ⊢
    have e : ∀ k, ([Value.int .i64 p.1, .int .i64 p.2, .int .i64 0, .slice none 0 0] ++ List.flatMap (fun p => [Value.int .i64 p.1, .int .i64 p.2, .int .i64 0, .slice none 0 0]) r)[4 + k]? = (List.flatMap (fun p => [Value.int .i64 p.1, .int .i64 p.2, .int .i64 0, .slice none 0 0]) r)[k]? := fun k => by
      rw [List.getElem?_append_right (by simp)]
      simp
    rw [show (i + 1) * 4 = 4 + i * 4 by omega, show 4 + i * 4 + 1 = 4 + (i * 4 + 1) by omega, show 4 + i * 4 + 2 = 4 + (i * 4 + 2) by omega, show 4 + i * 4 + 3 = 4 + (i * 4 + 3) by omega, e, e, e, e]
    exact this
theorem UE.cell {w : World} {pb cb : Nat} {l : List (Int × Int)} (h : UE w pb cb l) (i : Nat) (hi : i < l.length) : w.cell? ⟨cb, i * 4, none⟩ = some (.int .i64 l[i].1) ∧ w.cell? ⟨cb, i * 4 + 1, none⟩ = some (.int .i64 l[i].2) ∧ w.cell? ⟨cb, i * 4 + 2, none⟩ = some (.int .i64 0) ∧ w.cell? ⟨cb, i * 4 + 3, none⟩ = some (.slice none 0 0) := by
  obtain ⟨h1, h2, h3, h4⟩ := cdC_get l i hi
  exact ⟨(cell_of_row w _ _ _ _ _ h.cd).trans h1, (cell_of_row w _ _ _ _ _ h.cd).trans h2, (cell_of_row w _ _ _ _ _ h.cd).trans h3, (cell_of_row w _ _ _ _ _ h.cd).trans h4⟩
end Go.Proofs.YtadmpgegolmkgaaDoor
namespace Go.Proofs.YtadmpgegolmkgaaDoor
open Go.RowKit
set_option linter.unusedVariables false
set_option linter.unusedSimpArgs false

abbrev unE (pb : Nat) : Value := .agg #[.slice (some ⟨pb, 0, none⟩) 1 1, .slice none 0 0]
set_option maxRecDepth 100000 in
set_option maxHeartbeats 2000000 in
theorem wrongAlone_ex (w : World) (hV : VW w) (pb cb : Nat) (l : List (Int × Int)) (hU : UE w pb cb l) : Calls Tryd.prog 20 #[unE pb] w fun e w' => e = .returned (.tuple #[.int .i64 0, .int .i64 0, .int .i64 0]) ∧ Below w.heap.size w w' := by
  obtain ⟨H, hH⟩ : ∃ H, w.heap.size = H := ⟨_, rfl⟩
  have hpl : pb < H := hH ▸ hU.lt.1
  obtain ⟨w0, hw0⟩ : ∃ w0, w.alloc (.cells #[.slice (some ⟨pb, 0, none⟩) 1 1, .slice none 0 0] 25) = w0 := ⟨_, rfl⟩
  have b0 : Below H w w0 := by rw [← hw0, ← hH]; exact below1 w _
  have s0 : w0.heap.size = H + 1 := by rw [← hw0]; simp [hH]
  have q0 : w0.heap[H]? = some (.cells #[.slice (some ⟨pb, 0, none⟩) 1 1, .slice none 0 0] 25 (0, 0)) := by rw [← hw0, ← hH]; exact heap_alloc_new w _
  have e0 : w0.cell? ⟨H, 0, none⟩ = some (.slice (some ⟨pb, 0, none⟩) 1 1) := (cell_of_row w0 _ 0 _ _ _ q0).trans rfl
  have e1 : w0.cell? ⟨H, 1, none⟩ = some (.slice none 0 0) := (cell_of_row w0 _ 1 _ _ _ q0).trans rfl
  have HC : Bx (∀ X, Below (H + 1) w0 X → X.cell? ⟨H, 0, none⟩ = some (.slice (some ⟨pb, 0, none⟩) 1 1) ∧ X.cell? ⟨H, 1, none⟩ = some (.slice none 0 0)) := ⟨fun X hX => by
    have r0 : X.heap[H]? = _ := (hX.block H (by omega)).trans q0
    exact ⟨(cell_of_row X _ 0 _ _ _ r0).trans rfl, (cell_of_row X _ 1 _ _ _ r0).trans rfl⟩⟩
  have HD : Bx (∀ X, Below (H + 1) w0 X → Calls Tryd.prog 35 #[.slice none 0 0] X fun e w' => ∃ g, e = .returned (.slice (some ⟨g, 0, none⟩) 0 0) ∧ Below (H + 1) w0 w') := ⟨fun X hX => (defaults_nil X).mono fun e w' hh => ⟨_, hh.1, hX.trans (hh.2.mono (by have := hX.size; omega))⟩⟩
  have hbr : Below (H + 1) w0 w0 := Below.refl _ _
  have hlt0 : H < w0.heap.size := by omega
  rw [hH]
  go_enter Tryd.func20, Tryd.ntmps20
  go_wp2
  clear e0 e1 q0
  go_region_held3 (fun w' => w'.cell? ⟨H, 0, none⟩ = some (.slice (some ⟨pb, 0, none⟩) 1 1) ∧ w'.cell? ⟨H, 1, none⟩ = some (.slice none 0 0))
    (first | exact HC.out _ (hz1.alloc (by have := hz1.size; omega) _) | exact HC.out _ hz1.drew | exact HC.out _ hz1 | exact HC.out _ hbr.drew)
    (first
      | (go_at_call 35; refine Calls.mono (HD.out _ hbr.drew) ?_; rintro e z1 ⟨g, rfl, hz1⟩))
  rename_i hHeld
  obtain ⟨J, hJ⟩ : ∃ J, z1.heap.size = J := ⟨_, rfl⟩
  obtain ⟨w2, hw2⟩ : ∃ w2, z1.alloc (.cells #[.slice (some ⟨pb, 0, none⟩) 1 1, .slice (some ⟨g, 0, none⟩) 0 0, .int .i64 0, .int .i64 0, .int .i64 0, .bool false, .slice none 0 0] 87) = w2 := ⟨_, rfl⟩
  rw [hw2, hJ]
  have hJH : H + 1 ≤ J := by have := hz1.size; omega
  have b2 : Below J z1 w2 := by rw [← hw2, ← hJ]; exact below1 z1 _
  have s2 : w2.heap.size = J + 1 := by rw [← hw2]; simp [hJ]
  have q2 : w2.heap[J]? = some (.cells #[.slice (some ⟨pb, 0, none⟩) 1 1, .slice (some ⟨g, 0, none⟩) 0 0, .int .i64 0, .int .i64 0, .int .i64 0, .bool false, .slice none 0 0] 87 (0, 0)) := by rw [← hw2, ← hJ]; exact heap_alloc_new z1 _
  have hb2 : Below H w w2 := b0.trans ((hz1.mono (by omega)).trans (b2.mono (by omega)))
  obtain ⟨f0, f1⟩ := HC.out w2 (hz1.trans (b2.mono (by omega)))
  have qp : w2.heap[pb]? = _ := (hb2.block pb hpl).trans hU.pg
  obtain ⟨n, hn⟩ : ∃ n, l.length = n := ⟨_, rfl⟩
  rw [hn] at qp
  have p0 : w2.cell? ⟨pb, 0, none⟩ = some (.int .i64 0) := (cell_of_row w2 _ 0 _ _ _ qp).trans rfl
  have p1 : w2.cell? ⟨pb, 1, none⟩ = some (.int .i64 1) := (cell_of_row w2 _ 1 _ _ _ qp).trans rfl
  have p2 : w2.cell? ⟨pb, 2, none⟩ = some (.int .i64 2) := (cell_of_row w2 _ 2 _ _ _ qp).trans rfl
  have p3 : w2.cell? ⟨pb, 3, none⟩ = some (.bool false) := (cell_of_row w2 _ 3 _ _ _ qp).trans rfl
  have p4 : w2.cell? ⟨pb, 4, none⟩ = some (.slice (some ⟨cb, 0, none⟩) n n) := (cell_of_row w2 _ 4 _ _ _ qp).trans rfl
  have hpl2 : pb < w2.heap.size := by omega
  obtain ⟨w3, hw3⟩ : ∃ w3, w2.alloc (.cells #[.int .i64 0, .int .i64 1, .int .i64 2, .bool false, .slice (some ⟨cb, 0, none⟩) n n] 40) = w3 := ⟨_, rfl⟩
  have HW3 : Bx _ := ⟨hw3⟩
  have j2 : w2.cell? ⟨J, 2, none⟩ = some (.int .i64 0) := (cell_of_row w2 _ 2 _ _ _ q2).trans rfl
  have j3 : w2.cell? ⟨J, 3, none⟩ = some (.int .i64 0) := (cell_of_row w2 _ 3 _ _ _ q2).trans rfl
  have j4 : w2.cell? ⟨J, 4, none⟩ = some (.int .i64 0) := (cell_of_row w2 _ 4 _ _ _ q2).trans rfl
  have j5 : w2.cell? ⟨J, 5, none⟩ = some (.bool false) := (cell_of_row w2 _ 5 _ _ _ q2).trans rfl
  have j6 : w2.cell? ⟨J, 6, none⟩ = some (.slice none 0 0) := (cell_of_row w2 _ 6 _ _ _ q2).trans rfl
  have jf : ∀ k, w2.frozen? ⟨J, k, none⟩ = false := fun k => by simp [World.frozen?, q2]
  have hJl : J < w2.heap.size := by omega
  have hbX : Below H w ((((((w2.setCell ⟨J, 2, none⟩ (.int .i64 0)).setCell ⟨J, 3, none⟩ (.int .i64 1)).setCell ⟨J, 4, none⟩ (.int .i64 2)).setCell ⟨J, 5, none⟩ (.bool false)).setCell ⟨J, 6, none⟩ (.slice (some ⟨cb, 0, none⟩) n n)).alloc (.cells #[.int .i64 0, .int .i64 1, .int .i64 2, .bool false, .slice (some ⟨cb, 0, none⟩) n n] 40)) :=
    (((((hb2.setCell (p := ⟨J, 2, none⟩) (by simp; omega) _).setCell (p := ⟨J, 3, none⟩) (by simp; omega) _).setCell (p := ⟨J, 4, none⟩) (by simp; omega) _).setCell (p := ⟨J, 5, none⟩) (by simp; omega) _).setCell (p := ⟨J, 6, none⟩) (by simp; omega) _).alloc (by simp; omega) _
  have hcX : (((((((w2.setCell ⟨J, 2, none⟩ (.int .i64 0)).setCell ⟨J, 3, none⟩ (.int .i64 1)).setCell ⟨J, 4, none⟩ (.int .i64 2)).setCell ⟨J, 5, none⟩ (.bool false)).setCell ⟨J, 6, none⟩ (.slice (some ⟨cb, 0, none⟩) n n)).alloc (.cells #[.int .i64 0, .int .i64 1, .int .i64 2, .bool false, .slice (some ⟨cb, 0, none⟩) n n] 40))).cell? ⟨J, 3, none⟩ = some (.int .i64 1) := by
    rw [(below1 _ _).cell (p := ⟨J, 3, none⟩) (by simp; omega)]
    simp [World.cell?, World.setCell, Array.getElem?_modify, q2]
  have HIX : Bx _ := ⟨(⟨hbX, hcX⟩ : _ ∧ _)⟩
  clear hbX hcX
  have HR : Bx (∀ X i (h : i < n), Below H w X ∧ X.cell? ⟨J, 3, none⟩ = some (.int .i64 1) → ∃ op a : Int, X.cell? ⟨cb, i * 4, none⟩ = some (.int .i64 op) ∧ X.cell? ⟨cb, i * 4 + 1, none⟩ = some (.int .i64 a) ∧ X.cell? ⟨cb, i * 4 + 2, none⟩ = some (.int .i64 0) ∧ X.cell? ⟨cb, i * 4 + 3, none⟩ = some (.slice none 0 0) ∧ cb < X.heap.size ∧ Bx (∀ o, Calls Tryd.prog 36 #[.pointer (some ⟨J, 0, none⟩), .int .i64 i, .agg #[.int .i64 op, .int .i64 a, .int .i64 0, .slice none 0 0]] (X.alloc o) fun e w' => e = .returned (.int .i64 0) ∧ Bx (Below H w w' ∧ w'.cell? ⟨J, 3, none⟩ = some (.int .i64 1)))) := ⟨fun X i h ⟨hX, hc⟩ => by
    have hUX : UE X pb cb l := hU.below (hH ▸ hX)
    have hi : i < l.length := by omega
    obtain ⟨u0, u1, u2, u3⟩ := hUX.cell i hi
    refine ⟨_, _, u0, u1, u2, u3, hUX.lt.2, ⟨fun o => ?_⟩⟩
    obtain ⟨v, hv⟩ := hU.all _ (List.getElem_mem hi)
    have hJX : J < X.heap.size := World.block_lt_of_cell? X _ hc
    have hcc : (X.alloc o).cell? ⟨J, 3, none⟩ = some (.int .i64 1) := ((below1 X o).cell (p := ⟨J, 3, none⟩) hJX).trans hc
    have hsX : H ≤ X.heap.size := by have := hX.size; omega
    refine (wrong_ex (X.alloc o) (hV.below (hH ▸ hX.alloc hsX o)) J hcc _ _ v hv i).mono ?_
    rintro e w' ⟨rfl, hb⟩
    exact ⟨rfl, ⟨(hX.alloc hsX o).trans (hb.mono (by simp; omega)), (hb.cell (p := ⟨J, 3, none⟩) (by simp; omega)).trans hcc⟩⟩⟩
  have hn3 : n ≤ 3 := hn ▸ hU.len
  have HU2 : Bx _ := ⟨hU⟩
  have HV2 : Bx _ := ⟨hV⟩
  have HB2 : Bx _ := ⟨hb2⟩
  have HQ2 : Bx _ := ⟨q2⟩
  clear hw2 hw0 hw3 HW3 q2 qp hU hV HC HD hb2 b2 hz1 hbr b0 hHeld HU2 HV2 HB2 HQ2
  go_wp2
  refine wp_loop_rounds 2 ?_
  rw [rounds_succ]
  go_wp2
  go_loopw [33] (fun x wr => ∃ i : Nat, i ≤ n ∧ x = .int .i64 i ∧ Bx (Below H w wr ∧ wr.cell? ⟨J, 3, none⟩ = some (.int .i64 1))) (fun x _ => n - (intOf x).toNat)
  case atStart => exact ⟨0, Nat.zero_le _, rfl, HIX⟩
  case round =>
    clear HIX j2 j3 j4 j5 j6 jf p0 p1 p2 p3 p4 f0 f1
    obtain ⟨i, hi, rfl, HI⟩ := hrel
    by_cases hlt : i < n
    · obtain ⟨op, a, u0, u1, u2, u3, hcl, HWR⟩ := HR.out _ i hlt HI.out
      go_wp2_with (first
        | (go_at_call 36; refine (HWR.out _).mono ?_; rintro e w9 ⟨rfl, HI'⟩))
      go_roundw
      case rel => exact ⟨i + 1, by omega, by go_num, HI'⟩
      case measure => simp [intOf]; omega
    · go_wp2
      rw [rounds_succ]
      go_wp2
      go_returns
      exact ⟨rfl, HI.out.1⟩
end Go.Proofs.YtadmpgegolmkgaaDoor
