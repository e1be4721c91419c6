import Derived.Test.YtafchddhokaopaaDoorCYU
namespace Go.Proofs.YtafchddhokaopaaDoor
open Go.RowKit
set_option linter.unusedVariables false
set_option linter.unusedSimpArgs false

set_option maxRecDepth 100000 in
set_option maxHeartbeats 4000000 in
theorem Check_ex (w : World) (hV : VW w) (pb cb : Nat) (l : List (Int × Int)) (hE : l = exA ∨ l = exB ∨ l = exC) (hU : UE w pb cb l) : Calls Tryd.prog 10 #[unE pb] w fun e w' => e = .returned (.tuple #[.int .i64 0, .int .i64 (if l = exB then 1 else 0), .int .i64 (if l = exB then 94 else 0)]) ∧ Below w.heap.size w w' := by
  obtain ⟨H, hH⟩ : ∃ H, w.heap.size = H := ⟨_, rfl⟩
  obtain ⟨w0, hw0⟩ : ∃ w0, w.alloc (.cells #[.slice (some ⟨pb, 0, none⟩) 1 1, .slice none 0 0] 25) = w0 := ⟨_, rfl⟩
  have b0 : Below H w w0 := by rw [← hw0, ← hH]; exact below1 w _
  have s0 : w0.heap.size = H + 1 := by rw [← hw0]; simp [hH]
  have q0 : w0.heap[H]? = some (.cells #[.slice (some ⟨pb, 0, none⟩) 1 1, .slice none 0 0] 25 (0, 0)) := by rw [← hw0, ← hH]; exact heap_alloc_new w _
  have HC : Bx (∀ X, Below (H + 1) w0 X → X.cell? ⟨H, 0, none⟩ = some (.slice (some ⟨pb, 0, none⟩) 1 1) ∧ X.cell? ⟨H, 1, none⟩ = some (.slice none 0 0)) := ⟨fun X hX => by
    have r0 : X.heap[H]? = _ := (hX.block H (by omega)).trans q0
    exact ⟨(cell_of_row X _ 0 _ _ _ r0).trans rfl, (cell_of_row X _ 1 _ _ _ r0).trans rfl⟩⟩
  have e0 := HC.out w0 (Below.refl _ _)
  obtain ⟨c0, c1⟩ := e0
  have HA : Bx (∀ X, Below (H + 1) w0 X → Calls Tryd.prog 20 #[.agg #[.slice (some ⟨pb, 0, none⟩) 1 1, .slice none 0 0]] X fun e w' => e = .returned (.tuple #[.int .i64 0, .bool false]) ∧ Below (H + 1) w0 w') := ⟨fun X hX => (wrongProg_ex X pb cb l (hU.below (hH ▸ b0.trans (hX.mono (by omega))))).mono fun e w' h => ⟨h.1, hX.trans (h.2.mono (by have := hX.size; omega))⟩⟩
  have HB : Bx (∀ X, Below (H + 1) w0 X → Calls Tryd.prog 21 #[.agg #[.slice (some ⟨pb, 0, none⟩) 1 1, .slice none 0 0]] X fun e w' => e = .returned (.tuple #[.int .i64 0, .int .i64 0, .int .i64 0]) ∧ Below (H + 1) w0 w') := ⟨fun X hX => (wrongAlone_ex X (hV.below (hH ▸ b0.trans (hX.mono (by omega)))) pb cb l (hU.below (hH ▸ b0.trans (hX.mono (by omega))))).mono fun e w' h => ⟨h.1, hX.trans (h.2.mono (by have := hX.size; omega))⟩⟩
  have HW : Bx (∀ X, Below (H + 1) w0 X → Calls Tryd.prog 22 #[.agg #[.slice (some ⟨pb, 0, none⟩) 1 1, .slice none 0 0]] X fun e w' => e = .returned (.tuple #[.int .i64 0, .int .i64 (if l = exB then 1 else 0), .int .i64 (if l = exB then 94 else 0)]) ∧ Bx (Below H w w')) := ⟨fun X hX => (wrongWay_ex X (hV.below (hH ▸ b0.trans (hX.mono (by omega)))) pb cb l hE (hU.below (hH ▸ b0.trans (hX.mono (by omega))))).mono fun e w' h => ⟨h.1, ⟨b0.trans ((hX.mono (by omega)).trans (h.2.mono (by have := hX.size; omega)))⟩⟩⟩
  rw [hH]
  generalize (if l = exB then (1 : Int) else 0) = r1 at *
  generalize (if l = exB then (94 : Int) else 0) = r2 at *
  have B0 : Bx _ := ⟨Below.refl (H + 1) w0⟩
  have hlt0 : H < w0.heap.size := by omega
  clear hU hV q0 hE b0
  go_enter Tryd.func10, Tryd.ntmps10
  go_wp2_with (first
    | (go_at_call 20; refine (HA.out _ B0.out).mono ?_; rintro e w1 ⟨rfl, hb1⟩; have B1 : Bx _ := ⟨hb1⟩; clear hb1 c0 c1; obtain ⟨c0, c1⟩ := HC.out _ B1.out)
    | (go_at_call 21; refine (HB.out _ B1.out).mono ?_; rintro e w2 ⟨rfl, hb2⟩; have B2 : Bx _ := ⟨hb2⟩; clear hb2 c0 c1; obtain ⟨c0, c1⟩ := HC.out _ B2.out)
    | (go_at_call 22; refine (HW.out _ B2.out).mono ?_; rintro e w3 ⟨rfl, HX⟩))
  go_returns
  exact ⟨rfl, HX.out⟩
theorem make3 (w : World) : (Instr.makeSlice 32 (.int .i64 3) (.int .i64 3)).run Tryd.prog w = .ok (.slice (some ⟨w.heap.size, 0, none⟩) 3 3) (w.alloc (.cells #[.int .i64 0, .int .i64 0, .int .i64 0] 3)) := by
  obtain ⟨i0, hi, hz0, hz1, hz2⟩ := info_parts infoI
  have := run_make (P := Tryd.prog) w 32 3 i0 _ Tryd.underlying32 hi hz0 .i64 .i64 3 3 (by omega) (by omega) (by rw [hz2]; omega) (by omega)
  rw [hz1] at this
  have e : madeCells #[Value.int .i64 0] 3 = #[Value.int .i64 0, .int .i64 0, .int .i64 0] := by kernel_rfl
  rw [← e]
  exact this
set_option maxRecDepth 100000 in
set_option maxHeartbeats 4000000 in
theorem Heights_B (w : World) (hV : VW w) (pb cb : Nat) (hU : UE w pb cb exB) : Calls Tryd.prog 12 #[unE pb, .int .i64 0] w fun e w' => e = .returned (.slice none 0 0) ∧ Below w.heap.size w w' := by
  obtain ⟨H, hH⟩ : ∃ H, w.heap.size = H := ⟨_, rfl⟩
  obtain ⟨w0, hw0⟩ : ∃ w0, w.alloc (.cells #[.slice (some ⟨pb, 0, none⟩) 1 1, .slice none 0 0] 25) = w0 := ⟨_, rfl⟩
  have b0 : Below H w w0 := by rw [← hw0, ← hH]; exact below1 w _
  have s0 : w0.heap.size = H + 1 := by rw [← hw0]; simp [hH]
  have q0 : w0.heap[H]? = some (.cells #[.slice (some ⟨pb, 0, none⟩) 1 1, .slice none 0 0] 25 (0, 0)) := by rw [← hw0, ← hH]; exact heap_alloc_new w _
  have c0 : w0.cell? ⟨H, 0, none⟩ = some (.slice (some ⟨pb, 0, none⟩) 1 1) := (cell_of_row w0 _ 0 _ _ _ q0).trans rfl
  have c1 : w0.cell? ⟨H, 1, none⟩ = some (.slice none 0 0) := (cell_of_row w0 _ 1 _ _ _ q0).trans rfl
  have HC : Calls Tryd.prog 10 #[.agg #[.slice (some ⟨pb, 0, none⟩) 1 1, .slice none 0 0]] w0 fun e w' => e = .returned (.tuple #[.int .i64 0, .int .i64 1, .int .i64 94]) ∧ Bx (Below H w w') := (Check_ex w0 (hV.below (hH ▸ b0)) pb cb exB (.inr (.inl rfl)) (hU.below (hH ▸ b0))).mono fun e w' h => ⟨by rw [h.1]; rfl, ⟨b0.trans (h.2.mono (by omega))⟩⟩
  have hlt0 : H < w0.heap.size := by omega
  rw [hH]
  clear hU hV q0 b0
  go_enter Tryd.func12, Tryd.ntmps12
  go_wp2_with (first
    | (go_at_call 10; refine HC.mono ?_; rintro e w1 ⟨rfl, HX⟩))
  go_ret
  exact ⟨rfl, HX.out⟩
end Go.Proofs.YtafchddhokaopaaDoor
