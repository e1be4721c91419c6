import Derived.Test.YtadmpgegolmkgaaDoorCYT
namespace Go.Proofs.YtadmpgegolmkgaaDoor
open Go.RowKit
set_option linter.unusedVariables false
set_option linter.unusedSimpArgs false

set_option maxRecDepth 100000 in
set_option maxHeartbeats 4000000 in
theorem wrongWay_ex (w : World) (hV : VW w) (pb cb : Nat) (l : List (Int × Int)) (hE : l = exA ∨ l = exB ∨ l = exC) (hU : UE w pb cb l) : Calls Tryd.prog 21 #[unE pb] w fun e w' => e = .returned (.tuple #[.int .i64 0, .int .i64 (if l = exB then 1 else 0), .int .i64 (if l = exB then 94 else 0)]) ∧ Below w.heap.size w w' := by
  obtain ⟨n, hn⟩ : ∃ n, l.length = n := ⟨_, rfl⟩
  obtain ⟨H, hH⟩ : ∃ H, w.heap.size = H := ⟨_, rfl⟩
  have hn3 : n ≤ 3 := hn ▸ hU.len
  have hn0 : 0 < n := hn ▸ hU.pos
  have hpl : pb < H := hH ▸ hU.lt.1
  obtain ⟨w0, hw0⟩ : ∃ w0, w.alloc (.cells #[.slice (some ⟨pb, 0, none⟩) 1 1, .slice none 0 0] 25) = w0 := ⟨_, rfl⟩
  have b0 : Below H w w0 := by rw [← hw0, ← hH]; exact below1 w _
  have s0 : w0.heap.size = H + 1 := by rw [← hw0]; simp [hH]
  have q0 : w0.heap[H]? = some (.cells #[.slice (some ⟨pb, 0, none⟩) 1 1, .slice none 0 0] 25 (0, 0)) := by rw [← hw0, ← hH]; exact heap_alloc_new w _
  have e0 : w0.cell? ⟨H, 0, none⟩ = some (.slice (some ⟨pb, 0, none⟩) 1 1) := (cell_of_row w0 _ 0 _ _ _ q0).trans rfl
  have hlt0 : H < w0.heap.size := by omega
  obtain ⟨p0, p1, p2, p3, p4⟩ := (hU.below (hH ▸ b0)).prog hn
  have hpl0 : pb < w0.heap.size := by omega
  have HN : Bx (∀ o, Calls Tryd.prog 26 #[.int .i64 n] (w0.alloc o) fun e w' => ∃ wb kb db eb dc, e = .returned (.pointer (some ⟨wb, 0, none⟩)) ∧ w'.cell? ⟨H, 0, none⟩ = some (.slice (some ⟨pb, 0, none⟩) 1 1) ∧ w'.cell? ⟨pb, 0, none⟩ = some (.int .i64 0) ∧ w'.cell? ⟨pb, 1, none⟩ = some (.int .i64 1) ∧ w'.cell? ⟨pb, 2, none⟩ = some (.int .i64 2) ∧ w'.cell? ⟨pb, 3, none⟩ = some (.bool false) ∧ w'.cell? ⟨pb, 4, none⟩ = some (.slice (some ⟨cb, 0, none⟩) n n) ∧ pb < w'.heap.size ∧ Bx (∀ o2, Calls Tryd.prog 27 #[.pointer (some ⟨wb, 0, none⟩), .agg #[.int .i64 0, .int .i64 1, .int .i64 2, .bool false, .slice (some ⟨cb, 0, none⟩) n n]] (w'.alloc o2) fun e w'' => e = .returned (.tuple #[.int .i64 (if l = exB then 1 else 0), .int .i64 (if l = exB then 94 else 0)]) ∧ Bx (Below H w w''))) := ⟨fun o => by
    refine (newWalker_any (w0.alloc o) n hn0 hn3).mono ?_
    rintro e w' ⟨wb, kb, db, eb, dc, rfl, hh⟩
    obtain ⟨h1, h2, g1, g2, g3, g4⟩ := hh.out
    have sa : (w0.alloc o).heap.size = H + 2 := by simp [s0]
    rw [sa] at h2 g1 g2 g3 g4
    have b1 : Below (H + 1) w0 (w0.alloc o) := s0 ▸ below1 w0 o
    have hbw : Below H w w' := b0.trans ((b1.mono (by omega)).trans (h2.mono (by omega)))
    obtain ⟨y0, y1, y2, y3, y4⟩ := (hU.below (hH ▸ hbw)).prog hn
    have hs := hbw.size
    have hq := ((h2.block H (by omega)).trans (b1.block H (by omega))).trans q0
    refine ⟨wb, kb, db, eb, dc, rfl, (cell_of_row w' _ 0 _ _ _ hq).trans rfl, y0, y1, y2, y3, y4, by omega, ⟨fun o2 => ?_⟩⟩
    have b9 := below1 w' o2
    refine Calls.mono (follow_ex (w0 := w) (w := w'.alloc o2) (pb := pb) hU hV hn hE (h1.fx (Fx.no b9) id id id id) (hH ▸ hbw.trans (b9.mono (by omega))) (by omega) (by omega) (by omega) (by omega)) ?_
    rintro e w'' ⟨rfl, hf⟩
    exact ⟨rfl, ⟨hH ▸ hf.out.1⟩⟩⟩
  rw [hH]
  clear hU hV q0 hn
  go_enter Tryd.func21, Tryd.ntmps21
  go_wp2
  refine wp_loop_rounds 2 ?_
  rw [rounds_succ]
  go_wp2
  rw [rounds_succ]
  go_wp2_with (first
    | (go_at_call 26; refine (HN.out _).mono ?_; rintro e w2 ⟨wb, kb, db, eb, dc, rfl, k0, y0, y1, y2, y3, y4, hpl2, HFO⟩))
  refine wp_loop_rounds 2 ?_
  rw [rounds_succ]
  by_cases hB : l = exB
  · simp only [if_pos hB] at HFO ⊢
    clear p0 p1 p2 p3 p4 e0 HN hE
    go_wp2_with (first
      | (go_at_call 27; refine (HFO.out _).mono ?_; rintro e w3 ⟨rfl, HB3⟩))
    go_returns
    exact ⟨rfl, HB3.out⟩
  · simp only [if_neg hB] at HFO ⊢
    clear p0 p1 p2 p3 p4 e0 HN hE
    go_wp2_with (first
      | (go_at_call 27; refine (HFO.out _).mono ?_; rintro e w3 ⟨rfl, HB3⟩))
    rw [rounds_succ]
    go_wp2
    go_returns
    exact ⟨rfl, HB3.out⟩
end Go.Proofs.YtadmpgegolmkgaaDoor
namespace Go.Proofs.YtadmpgegolmkgaaDoor
open Go.RowKit
set_option linter.unusedVariables false
set_option linter.unusedSimpArgs false

set_option maxRecDepth 100000 in
set_option maxHeartbeats 4000000 in
theorem Check_ex (w : World) (hV : VW w) (pb cb : Nat) (l : List (Int × Int)) (hE : l = exA ∨ l = exB ∨ l = exC) (hU : UE w pb cb l) : Calls Tryd.prog 9 #[unE pb] w fun e w' => e = .returned (.tuple #[.int .i64 0, .int .i64 (if l = exB then 1 else 0), .int .i64 (if l = exB then 94 else 0)]) ∧ Below w.heap.size w w' := by
  obtain ⟨H, hH⟩ : ∃ H, w.heap.size = H := ⟨_, rfl⟩
  obtain ⟨w0, hw0⟩ : ∃ w0, w.alloc (.cells #[.slice (some ⟨pb, 0, none⟩) 1 1, .slice none 0 0] 25) = w0 := ⟨_, rfl⟩
  have b0 : Below H w w0 := by rw [← hw0, ← hH]; exact below1 w _
  have s0 : w0.heap.size = H + 1 := by rw [← hw0]; simp [hH]
  have q0 : w0.heap[H]? = some (.cells #[.slice (some ⟨pb, 0, none⟩) 1 1, .slice none 0 0] 25 (0, 0)) := by rw [← hw0, ← hH]; exact heap_alloc_new w _
  have HC : Bx (∀ X, Below (H + 1) w0 X → X.cell? ⟨H, 0, none⟩ = some (.slice (some ⟨pb, 0, none⟩) 1 1) ∧ X.cell? ⟨H, 1, none⟩ = some (.slice none 0 0)) := ⟨fun X hX => by
    have r0 : X.heap[H]? = _ := (hX.block H (by omega)).trans q0
    exact ⟨(cell_of_row X _ 0 _ _ _ r0).trans rfl, (cell_of_row X _ 1 _ _ _ r0).trans rfl⟩⟩
  have e0 := HC.out w0 (Below.refl _ _)
  obtain ⟨c0, c1⟩ := e0
  have HA : Bx (∀ X, Below (H + 1) w0 X → Calls Tryd.prog 19 #[.agg #[.slice (some ⟨pb, 0, none⟩) 1 1, .slice none 0 0]] X fun e w' => e = .returned (.tuple #[.int .i64 0, .bool false]) ∧ Below (H + 1) w0 w') := ⟨fun X hX => (wrongProg_ex X pb cb l (hU.below (hH ▸ b0.trans (hX.mono (by omega))))).mono fun e w' h => ⟨h.1, hX.trans (h.2.mono (by have := hX.size; omega))⟩⟩
  have HB : Bx (∀ X, Below (H + 1) w0 X → Calls Tryd.prog 20 #[.agg #[.slice (some ⟨pb, 0, none⟩) 1 1, .slice none 0 0]] X fun e w' => e = .returned (.tuple #[.int .i64 0, .int .i64 0, .int .i64 0]) ∧ Below (H + 1) w0 w') := ⟨fun X hX => (wrongAlone_ex X (hV.below (hH ▸ b0.trans (hX.mono (by omega)))) pb cb l (hU.below (hH ▸ b0.trans (hX.mono (by omega))))).mono fun e w' h => ⟨h.1, hX.trans (h.2.mono (by have := hX.size; omega))⟩⟩
  have HW : Bx (∀ X, Below (H + 1) w0 X → Calls Tryd.prog 21 #[.agg #[.slice (some ⟨pb, 0, none⟩) 1 1, .slice none 0 0]] X fun e w' => e = .returned (.tuple #[.int .i64 0, .int .i64 (if l = exB then 1 else 0), .int .i64 (if l = exB then 94 else 0)]) ∧ Bx (Below H w w')) := ⟨fun X hX => (wrongWay_ex X (hV.below (hH ▸ b0.trans (hX.mono (by omega)))) pb cb l hE (hU.below (hH ▸ b0.trans (hX.mono (by omega))))).mono fun e w' h => ⟨h.1, ⟨b0.trans ((hX.mono (by omega)).trans (h.2.mono (by have := hX.size; omega)))⟩⟩⟩
  rw [hH]
  generalize (if l = exB then (1 : Int) else 0) = r1 at *
  generalize (if l = exB then (94 : Int) else 0) = r2 at *
  have B0 : Bx _ := ⟨Below.refl (H + 1) w0⟩
  have hlt0 : H < w0.heap.size := by omega
  clear hU hV q0 hE b0
  go_enter Tryd.func9, Tryd.ntmps9
  go_wp2_with (first
    | (go_at_call 19; refine (HA.out _ B0.out).mono ?_; rintro e w1 ⟨rfl, hb1⟩; have B1 : Bx _ := ⟨hb1⟩; clear hb1 c0 c1; obtain ⟨c0, c1⟩ := HC.out _ B1.out)
    | (go_at_call 20; refine (HB.out _ B1.out).mono ?_; rintro e w2 ⟨rfl, hb2⟩; have B2 : Bx _ := ⟨hb2⟩; clear hb2 c0 c1; obtain ⟨c0, c1⟩ := HC.out _ B2.out)
    | (go_at_call 21; refine (HW.out _ B2.out).mono ?_; rintro e w3 ⟨rfl, HX⟩))
  go_returns
  exact ⟨rfl, HX.out⟩
theorem make3 (w : World) : (Instr.makeSlice 32 (.int .i64 3) (.int .i64 3)).run Tryd.prog w = .ok (.slice (some ⟨w.heap.size, 0, none⟩) 3 3) (w.alloc (.cells #[.int .i64 0, .int .i64 0, .int .i64 0] 3)) := by
  obtain ⟨i0, hi, hz0, hz1, hz2⟩ := info_parts infoI
  have := run_make (P := Tryd.prog) w 32 3 i0 _ Tryd.underlying32 hi hz0 .i64 .i64 3 3 (by omega) (by omega) (by rw [hz2]; omega) (by omega)
  rw [hz1] at this
  have e : madeCells #[Value.int .i64 0] 3 = #[Value.int .i64 0, .int .i64 0, .int .i64 0] := by kernel_rfl
  rw [← e]
  exact this
set_option maxRecDepth 100000 in
set_option maxHeartbeats 4000000 in
theorem Heights_B (w : World) (hV : VW w) (pb cb : Nat) (hU : UE w pb cb exB) : Calls Tryd.prog 11 #[unE pb, .int .i64 0] w fun e w' => e = .returned (.slice none 0 0) ∧ Below w.heap.size w w' := by
  obtain ⟨H, hH⟩ : ∃ H, w.heap.size = H := ⟨_, rfl⟩
  obtain ⟨w0, hw0⟩ : ∃ w0, w.alloc (.cells #[.slice (some ⟨pb, 0, none⟩) 1 1, .slice none 0 0] 25) = w0 := ⟨_, rfl⟩
  have b0 : Below H w w0 := by rw [← hw0, ← hH]; exact below1 w _
  have s0 : w0.heap.size = H + 1 := by rw [← hw0]; simp [hH]
  have q0 : w0.heap[H]? = some (.cells #[.slice (some ⟨pb, 0, none⟩) 1 1, .slice none 0 0] 25 (0, 0)) := by rw [← hw0, ← hH]; exact heap_alloc_new w _
  have c0 : w0.cell? ⟨H, 0, none⟩ = some (.slice (some ⟨pb, 0, none⟩) 1 1) := (cell_of_row w0 _ 0 _ _ _ q0).trans rfl
  have c1 : w0.cell? ⟨H, 1, none⟩ = some (.slice none 0 0) := (cell_of_row w0 _ 1 _ _ _ q0).trans rfl
  have HC : Calls Tryd.prog 9 #[.agg #[.slice (some ⟨pb, 0, none⟩) 1 1, .slice none 0 0]] w0 fun e w' => e = .returned (.tuple #[.int .i64 0, .int .i64 1, .int .i64 94]) ∧ Bx (Below H w w') := (Check_ex w0 (hV.below (hH ▸ b0)) pb cb exB (.inr (.inl rfl)) (hU.below (hH ▸ b0))).mono fun e w' h => ⟨by rw [h.1]; rfl, ⟨b0.trans (h.2.mono (by omega))⟩⟩
  have hlt0 : H < w0.heap.size := by omega
  rw [hH]
  clear hU hV q0 b0
  go_enter Tryd.func11, Tryd.ntmps11
  go_wp2_with (first
    | (go_at_call 9; refine HC.mono ?_; rintro e w1 ⟨rfl, HX⟩))
  go_ret
  exact ⟨rfl, HX.out⟩
end Go.Proofs.YtadmpgegolmkgaaDoor
namespace Go.Proofs.YtadmpgegolmkgaaDoor
open Go.RowKit
set_option linter.unusedVariables false
set_option linter.unusedSimpArgs false

set_option maxRecDepth 100000 in
set_option maxHeartbeats 4000000 in
theorem Heights_C (w : World) (hV : VW w) (pb cb : Nat) (hU : UE w pb cb exC) : Calls Tryd.prog 11 #[unE pb, .int .i64 0] w fun e w' => ∃ hb, e = .returned (.slice (some ⟨hb, 0, none⟩) 3 3) ∧ w'.cell? ⟨hb, 0, none⟩ = some (.int .i64 0) ∧ w'.cell? ⟨hb, 1, none⟩ = some (.int .i64 1) ∧ w'.cell? ⟨hb, 2, none⟩ = some (.int .i64 0) ∧ w.heap.size ≤ hb ∧ hb < w'.heap.size ∧ Bx (Below w.heap.size w w') := by
  obtain ⟨H, hH⟩ : ∃ H, w.heap.size = H := ⟨_, rfl⟩
  have hpl : pb < H := hH ▸ hU.lt.1
  obtain ⟨w0, hw0⟩ : ∃ w0, w.alloc (.cells #[.slice (some ⟨pb, 0, none⟩) 1 1, .slice none 0 0] 25) = w0 := ⟨_, rfl⟩
  have b0 : Below H w w0 := by rw [← hw0, ← hH]; exact below1 w _
  have s0 : w0.heap.size = H + 1 := by rw [← hw0]; simp [hH]
  have q0 : w0.heap[H]? = some (.cells #[.slice (some ⟨pb, 0, none⟩) 1 1, .slice none 0 0] 25 (0, 0)) := by rw [← hw0, ← hH]; exact heap_alloc_new w _
  have c0 : w0.cell? ⟨H, 0, none⟩ = some (.slice (some ⟨pb, 0, none⟩) 1 1) := (cell_of_row w0 _ 0 _ _ _ q0).trans rfl
  have c1 : w0.cell? ⟨H, 1, none⟩ = some (.slice none 0 0) := (cell_of_row w0 _ 1 _ _ _ q0).trans rfl
  have HC : Calls Tryd.prog 9 #[.agg #[.slice (some ⟨pb, 0, none⟩) 1 1, .slice none 0 0]] w0 fun e w' => e = .returned (.tuple #[.int .i64 0, .int .i64 0, .int .i64 0]) ∧ w'.cell? ⟨H, 0, none⟩ = some (.slice (some ⟨pb, 0, none⟩) 1 1) ∧ w'.cell? ⟨pb, 0, none⟩ = some (.int .i64 0) ∧ w'.cell? ⟨pb, 1, none⟩ = some (.int .i64 1) ∧ w'.cell? ⟨pb, 2, none⟩ = some (.int .i64 2) ∧ w'.cell? ⟨pb, 3, none⟩ = some (.bool false) ∧ w'.cell? ⟨pb, 4, none⟩ = some (.slice (some ⟨cb, 0, none⟩) 3 3) ∧ pb < w'.heap.size ∧ Bx (Below H w w') := (Check_ex w0 (hV.below (hH ▸ b0)) pb cb exC (.inr (.inr rfl)) (hU.below (hH ▸ b0))).mono fun e w' h => by
    have hb : Below (H + 1) w0 w' := s0 ▸ h.2
    have hbw : Below H w w' := b0.trans (hb.mono (by omega))
    obtain ⟨p0, p1, p2, p3, p4⟩ := (hU.below (hH ▸ hbw)).prog (n := 3) rfl
    exact ⟨by rw [h.1]; rfl, (cell_of_row w' _ 0 _ _ _ ((hb.block H (by omega)).trans q0)).trans rfl, p0, p1, p2, p3, p4, by have := hb.size; omega, ⟨hbw⟩⟩
  have HN : Bx (∀ X, Below H w X → Calls Tryd.prog 26 #[.int .i64 3] (X.alloc (.cells #[.int .i64 0, .int .i64 1, .int .i64 2, .bool false, .slice (some ⟨cb, 0, none⟩) 3 3] 40)) fun e w' => ∃ wb, e = .returned (.pointer (some ⟨wb, 0, none⟩)) ∧ w'.cell? ⟨X.heap.size, 0, none⟩ = some (.int .i64 0) ∧ w'.cell? ⟨X.heap.size, 1, none⟩ = some (.int .i64 1) ∧ w'.cell? ⟨X.heap.size, 2, none⟩ = some (.int .i64 2) ∧ w'.cell? ⟨X.heap.size, 3, none⟩ = some (.bool false) ∧ w'.cell? ⟨X.heap.size, 4, none⟩ = some (.slice (some ⟨cb, 0, none⟩) 3 3) ∧
      Bx (Calls Tryd.prog 27 #[.pointer (some ⟨wb, 0, none⟩), .agg #[.int .i64 0, .int .i64 1, .int .i64 2, .bool false, .slice (some ⟨cb, 0, none⟩) 3 3]] w' fun e w'' => e = .returned (.tuple #[.int .i64 0, .int .i64 0]) ∧ w''.cell? ⟨X.heap.size, 4, none⟩ = some (.slice (some ⟨cb, 0, none⟩) 3 3) ∧ ∃ kb, w''.cell? ⟨wb, 5, none⟩ = some (.slice (some ⟨kb, 0, none⟩) 3 3) ∧ w''.cell? ⟨kb, 0, none⟩ = some (.int .i64 1) ∧ w''.cell? ⟨kb, 2, none⟩ = some (.int .i64 2) ∧ w''.cell? ⟨kb, 4, none⟩ = some (.int .i64 1) ∧ kb < w''.heap.size ∧ wb < w''.heap.size ∧ H ≤ w''.heap.size ∧ Bx (Below H w w''))) := ⟨fun X hX => by
    have hs := hX.size
    have bX := below1 X (.cells #[.int .i64 0, .int .i64 1, .int .i64 2, .bool false, .slice (some ⟨cb, 0, none⟩) 3 3] 40)
    have qX : (X.alloc (.cells #[.int .i64 0, .int .i64 1, .int .i64 2, .bool false, .slice (some ⟨cb, 0, none⟩) 3 3] 40)).heap[X.heap.size]? = some (.cells #[.int .i64 0, .int .i64 1, .int .i64 2, .bool false, .slice (some ⟨cb, 0, none⟩) 3 3] 40 (0, 0)) := heap_alloc_new X _
    have sX : (X.alloc (.cells #[.int .i64 0, .int .i64 1, .int .i64 2, .bool false, .slice (some ⟨cb, 0, none⟩) 3 3] 40)).heap.size = X.heap.size + 1 := by simp
    generalize X.alloc (.cells #[.int .i64 0, .int .i64 1, .int .i64 2, .bool false, .slice (some ⟨cb, 0, none⟩) 3 3] 40) = Y at *
    have hY : Below H w Y := hX.trans (bX.mono (by omega))
    refine (newWalker_any Y 3 (by omega) (by omega)).mono ?_
    rintro e w' ⟨wb, kb, db, eb, dc, rfl, hh⟩
    obtain ⟨h1, h2, g1, g2, g3, g4⟩ := hh.out
    have q' := (h2.block X.heap.size (by omega)).trans qX
    refine ⟨wb, rfl, (cell_of_row w' _ 0 _ _ _ q').trans rfl, (cell_of_row w' _ 1 _ _ _ q').trans rfl, (cell_of_row w' _ 2 _ _ _ q').trans rfl, (cell_of_row w' _ 3 _ _ _ q').trans rfl, (cell_of_row w' _ 4 _ _ _ q').trans rfl, ⟨?_⟩⟩
    refine Calls.mono (follow_ex (w0 := Y) (w := w') (pb := pb) (l := exC) (hU.below (hH ▸ hY)) (hV.below (hH ▸ hY)) rfl (.inr (.inr rfl)) h1 h2 g1 g2 g3 g4) ?_
    rintro e w'' ⟨rfl, hf⟩
    obtain ⟨hb, hk⟩ := hf.out
    obtain ⟨pv, mv, K, hS, hL⟩ := hk (by decide)
    obtain ⟨_, _, k5, _, _, hwl⟩ := hL.cells
    have hkl := hL.wk.lts.2.1
    have q'' := (hb.block X.heap.size (by omega)).trans qX
    have hK : K = [(1, 0), (2, 0), (1, 1)] := by
      unfold Sg at hS
      rcases hS with ⟨h, _⟩ | ⟨h, _⟩ | ⟨_, ⟨h, _⟩ | ⟨h, _⟩ | ⟨h, _⟩ | ⟨_, h, _⟩⟩
      · exact absurd h (by decide)
      · exact absurd h (by decide)
      · exact absurd h (by decide)
      · exact absurd h (by decide)
      · exact absurd h (by decide)
      · exact h
    subst hK
    have k0 := (hL.known 0 (by decide)).1
    have k1 := (hL.known 1 (by decide)).1
    have k2 := (hL.known 2 (by decide)).1
    have hs3 := hb.size
    exact ⟨rfl, (cell_of_row w'' _ 4 _ _ _ q'').trans rfl, kb, k5, k0, k1, k2, hkl, hwl, by omega, ⟨hY.trans (hb.mono (by omega))⟩⟩⟩
  have hm3 := make3
  have hlt0 : H < w0.heap.size := by omega
  rw [hH]
  clear hU hV q0 b0
  go_enter Tryd.func11, Tryd.ntmps11
  go_wp2_with (first
    | (go_at_call 9; refine HC.mono ?_; clear HC c0 c1; rintro e w1 ⟨rfl, c0, p0, p1, p2, p3, p4, hpl1, HB1⟩)
    | (go_at_call 26; refine (HN.out _ HB1.out).mono ?_; clear p0 p1 p2 p3 p4 c0; rintro e w2 ⟨wb, rfl, y0, y1, y2, y3, y4, HF⟩)
    | (go_at_call 27; refine HF.out.mono ?_; clear y0 y1 y2 y3 y4; rintro e w3 ⟨rfl, y4, kb, k5, k0, k1, k2, hkl, hwl, hHl, HB3⟩))
  refine wp_loop_rounds 4 ?_
  rw [rounds_succ]
  go_wp2
  rw [rounds_succ]
  go_wp2
  rw [rounds_succ]
  go_wp2
  rw [rounds_succ]
  go_wp2
  go_ret
  have hq := heap_alloc_new w3 (.cells #[.int .i64 0, .int .i64 1, .int .i64 0] 3)
  exact ⟨w3.heap.size, rfl, (cell_of_row _ _ 0 _ _ _ hq).trans rfl, (cell_of_row _ _ 1 _ _ _ hq).trans rfl, (cell_of_row _ _ 2 _ _ _ hq).trans rfl, hHl, by simp, ⟨HB3.out.alloc hHl _⟩⟩
end Go.Proofs.YtadmpgegolmkgaaDoor
