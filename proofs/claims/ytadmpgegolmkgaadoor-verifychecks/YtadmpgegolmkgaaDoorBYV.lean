import Derived.Test.YtadmpgegolmkgaaDoorBYR
set_option linter.unusedVariables false
set_option linter.unusedSimpArgs false
set_option maxHeartbeats 4000000
set_option maxRecDepth 100000
namespace Go.Proofs.YtadmpgegolmkgaaDoor
open Go.RowKit
theorem jw (w : World) (hV : VW w) (pb cb : Nat) (l : List (Int × Int)) (hE : l = exA ∨ l = exB ∨ l = exC) (hU : UE w pb cb l) : Calls Tryd.prog 9 #[unE pb] w fun e w' => e = .returned (.tuple #[.int .i64 0, .int .i64 (if l = exB then 1 else 0), .int .i64 (if l = exB then 94 else 0)]) /\ Below w.heap.size w w' := by
 obtain ⟨H, hH⟩ : ∃ H, w.heap.size = H := ⟨_, rfl⟩
 obtain ⟨w0, hw0⟩ : ∃ w0, w.alloc (.cells #[.slice (some ⟨pb, 0, none⟩) 1 1, .slice none 0 0] 25) = w0 := ⟨_, rfl⟩
 have b0 : Below H w w0 := by rw [← hw0, ← hH]; exact ak w _
 have s0 : w0.heap.size = H + 1 := by rw [← hw0]; simp [hH]
 have q0 : w0.heap[H]? = some (.cells #[.slice (some ⟨pb, 0, none⟩) 1 1, .slice none 0 0] 25 (0, 0)) := by rw [← hw0, ← hH]; exact heap_alloc_new w _
 have HC : Bx (∀ X, Below (H + 1) w0 X -> X.cell? ⟨H, 0, none⟩ = some (.slice (some ⟨pb, 0, none⟩) 1 1) /\ X.cell? ⟨H, 1, none⟩ = some (.slice none 0 0)) := ⟨fun X hX => by
  have r0 : X.heap[H]? = _ := (hX.block H (by omega)).trans q0
  exact ⟨(cell_of_row X _ 0 _ _ _ r0).trans rfl, (cell_of_row X _ 1 _ _ _ r0).trans rfl⟩⟩
 have e0 := HC.out w0 (Below.refl _ _)
 obtain ⟨c0, c1⟩ := e0
 have HA : Bx (∀ X, Below (H + 1) w0 X -> Calls Tryd.prog 19 #[.agg #[.slice (some ⟨pb, 0, none⟩) 1 1, .slice none 0 0]] X fun e w' => e = .returned (.tuple #[.int .i64 0, .bool false]) /\ Below (H + 1) w0 w') := ⟨fun X hX => (nC X pb cb l (hU.below (hH ▸ b0.trans (hX.mono (by omega))))).mono fun e w' h => ⟨h.1, hX.trans (h.2.mono (by have := hX.size; omega))⟩⟩
 have HB : Bx (∀ X, Below (H + 1) w0 X -> Calls Tryd.prog 20 #[.agg #[.slice (some ⟨pb, 0, none⟩) 1 1, .slice none 0 0]] X fun e w' => e = .returned (.tuple #[.int .i64 0, .int .i64 0, .int .i64 0]) /\ Below (H + 1) w0 w') := ⟨fun X hX => (lQ X (hV.below (hH ▸ b0.trans (hX.mono (by omega)))) pb cb l (hU.below (hH ▸ b0.trans (hX.mono (by omega))))).mono fun e w' h => ⟨h.1, hX.trans (h.2.mono (by have := hX.size; omega))⟩⟩
 have HW : Bx (∀ X, Below (H + 1) w0 X -> Calls Tryd.prog 21 #[.agg #[.slice (some ⟨pb, 0, none⟩) 1 1, .slice none 0 0]] X fun e w' => e = .returned (.tuple #[.int .i64 0, .int .i64 (if l = exB then 1 else 0), .int .i64 (if l = exB then 94 else 0)]) /\ Bx (Below H w w')) := ⟨fun X hX => (pU X (hV.below (hH ▸ b0.trans (hX.mono (by omega)))) pb cb l hE (hU.below (hH ▸ b0.trans (hX.mono (by omega))))).mono fun e w' h => ⟨h.1, ⟨b0.trans ((hX.mono (by omega)).trans (h.2.mono (by have := hX.size; omega)))⟩⟩⟩
 rw [hH]
 generalize (if l = exB then (1 : Int) else 0) = r1 at *
 generalize (if l = exB then (94 : Int) else 0) = r2 at *
 have B0 : Bx _ := ⟨Below.refl (H + 1) w0⟩
 have hlt0 : H < w0.heap.size := by omega
 clear hU hV q0 hE b0
 go_enter Tryd.func9, Tryd.ntmps9
 go_wp2_with (first
  | (go_at_call 19; refine (HA.out _ B0.out).mono ?_; rintro e w1 ⟨rfl, hb1⟩; have B1 : Bx _ := ⟨hb1⟩; clear hb1 c0 c1; obtain ⟨c0, c1⟩ := HC.out _ B1.out)
  | (go_at_call 20; refine (HB.out _ B1.out).mono ?_; rintro e w2 ⟨rfl, hb2⟩; have B2 : Bx _ := ⟨hb2⟩; clear hb2 c0 c1; obtain ⟨c0, c1⟩ := HC.out _ B2.out)
  | (go_at_call 21; refine (HW.out _ B2.out).mono ?_; rintro e w3 ⟨rfl, HX⟩))
 go_returns
 exact ⟨rfl, HX.out⟩
theorem BP (w : World) : (Instr.makeSlice 32 (.int .i64 3) (.int .i64 3)).run Tryd.prog w = .ok (.slice (some ⟨w.heap.size, 0, none⟩) 3 3) (w.alloc (.cells #[.int .i64 0, .int .i64 0, .int .i64 0] 3)) := by
 obtain ⟨i0, hi, hz0, hz1, hz2⟩ := info_parts AB
 have := run_make (P := Tryd.prog) w 32 3 i0 _ Tryd.underlying32 hi hz0 .i64 .i64 3 3 (by omega) (by omega) (by rw [hz2]; omega) (by omega)
 rw [hz1] at this
 have e : madeCells #[Value.int .i64 0] 3 = #[Value.int .i64 0, .int .i64 0, .int .i64 0] := by kernel_rfl
 rw [← e]
 exact this
theorem vz (w : World) (hV : VW w) (pb cb : Nat) (hU : UE w pb cb exB) : Calls Tryd.prog 11 #[unE pb, .int .i64 0] w fun e w' => e = .returned (.slice none 0 0) /\ Below w.heap.size w w' := by
 obtain ⟨H, hH⟩ : ∃ H, w.heap.size = H := ⟨_, rfl⟩
 obtain ⟨w0, hw0⟩ : ∃ w0, w.alloc (.cells #[.slice (some ⟨pb, 0, none⟩) 1 1, .slice none 0 0] 25) = w0 := ⟨_, rfl⟩
 have b0 : Below H w w0 := by rw [← hw0, ← hH]; exact ak w _
 have s0 : w0.heap.size = H + 1 := by rw [← hw0]; simp [hH]
 have q0 : w0.heap[H]? = some (.cells #[.slice (some ⟨pb, 0, none⟩) 1 1, .slice none 0 0] 25 (0, 0)) := by rw [← hw0, ← hH]; exact heap_alloc_new w _
 have c0 : w0.cell? ⟨H, 0, none⟩ = some (.slice (some ⟨pb, 0, none⟩) 1 1) := (cell_of_row w0 _ 0 _ _ _ q0).trans rfl
 have c1 : w0.cell? ⟨H, 1, none⟩ = some (.slice none 0 0) := (cell_of_row w0 _ 1 _ _ _ q0).trans rfl
 have HC : Calls Tryd.prog 9 #[.agg #[.slice (some ⟨pb, 0, none⟩) 1 1, .slice none 0 0]] w0 fun e w' => e = .returned (.tuple #[.int .i64 0, .int .i64 1, .int .i64 94]) /\ Bx (Below H w w') := (jw w0 (hV.below (hH ▸ b0)) pb cb exB (.inr (.inl rfl)) (hU.below (hH ▸ b0))).mono fun e w' h => ⟨by rw [h.1]; rfl, ⟨b0.trans (h.2.mono (by omega))⟩⟩
 have hlt0 : H < w0.heap.size := by omega
 rw [hH]
 clear hU hV q0 b0
 go_enter Tryd.func11, Tryd.ntmps11
 go_wp2_with (first
  | (go_at_call 9; refine HC.mono ?_; rintro e w1 ⟨rfl, HX⟩))
 go_ret
 exact ⟨rfl, HX.out⟩
theorem vB (w : World) (hV : VW w) (pb cb : Nat) (hU : UE w pb cb exC) : Calls Tryd.prog 11 #[unE pb, .int .i64 0] w fun e w' => ∃ hb, e = .returned (.slice (some ⟨hb, 0, none⟩) 3 3) /\ w'.cell? ⟨hb, 0, none⟩ = some (.int .i64 0) /\ w'.cell? ⟨hb, 1, none⟩ = some (.int .i64 1) /\ w'.cell? ⟨hb, 2, none⟩ = some (.int .i64 0) /\ w.heap.size <= hb /\ hb < w'.heap.size /\ Bx (Below w.heap.size w w') := by
 obtain ⟨H, hH⟩ : ∃ H, w.heap.size = H := ⟨_, rfl⟩
 have hpl : pb < H := hH ▸ hU.lt.1
 obtain ⟨w0, hw0⟩ : ∃ w0, w.alloc (.cells #[.slice (some ⟨pb, 0, none⟩) 1 1, .slice none 0 0] 25) = w0 := ⟨_, rfl⟩
 have b0 : Below H w w0 := by rw [← hw0, ← hH]; exact ak w _
 have s0 : w0.heap.size = H + 1 := by rw [← hw0]; simp [hH]
 have q0 : w0.heap[H]? = some (.cells #[.slice (some ⟨pb, 0, none⟩) 1 1, .slice none 0 0] 25 (0, 0)) := by rw [← hw0, ← hH]; exact heap_alloc_new w _
 have c0 : w0.cell? ⟨H, 0, none⟩ = some (.slice (some ⟨pb, 0, none⟩) 1 1) := (cell_of_row w0 _ 0 _ _ _ q0).trans rfl
 have c1 : w0.cell? ⟨H, 1, none⟩ = some (.slice none 0 0) := (cell_of_row w0 _ 1 _ _ _ q0).trans rfl
 have HC : Calls Tryd.prog 9 #[.agg #[.slice (some ⟨pb, 0, none⟩) 1 1, .slice none 0 0]] w0 fun e w' => e = .returned (.tuple #[.int .i64 0, .int .i64 0, .int .i64 0]) /\ w'.cell? ⟨H, 0, none⟩ = some (.slice (some ⟨pb, 0, none⟩) 1 1) /\ w'.cell? ⟨pb, 0, none⟩ = some (.int .i64 0) /\ w'.cell? ⟨pb, 1, none⟩ = some (.int .i64 1) /\ w'.cell? ⟨pb, 2, none⟩ = some (.int .i64 2) /\ w'.cell? ⟨pb, 3, none⟩ = some (.bool false) /\ w'.cell? ⟨pb, 4, none⟩ = some (.slice (some ⟨cb, 0, none⟩) 3 3) /\ pb < w'.heap.size /\ Bx (Below H w w') := (jw w0 (hV.below (hH ▸ b0)) pb cb exC (.inr (.inr rfl)) (hU.below (hH ▸ b0))).mono fun e w' h => by
  have hb : Below (H + 1) w0 w' := s0 ▸ h.2
  have hbw : Below H w w' := b0.trans (hb.mono (by omega))
  obtain ⟨p0, p1, p2, p3, p4⟩ := (hU.below (hH ▸ hbw)).prog (n := 3) rfl
  exact ⟨by rw [h.1]; rfl, (cell_of_row w' _ 0 _ _ _ ((hb.block H (by omega)).trans q0)).trans rfl, p0, p1, p2, p3, p4, by have := hb.size; omega, ⟨hbw⟩⟩
 have HN : Bx (∀ X, Below H w X -> Calls Tryd.prog 26 #[.int .i64 3] (X.alloc (.cells #[.int .i64 0, .int .i64 1, .int .i64 2, .bool false, .slice (some ⟨cb, 0, none⟩) 3 3] 40)) fun e w' => ∃ wb, e = .returned (.pointer (some ⟨wb, 0, none⟩)) /\ w'.cell? ⟨X.heap.size, 0, none⟩ = some (.int .i64 0) /\ w'.cell? ⟨X.heap.size, 1, none⟩ = some (.int .i64 1) /\ w'.cell? ⟨X.heap.size, 2, none⟩ = some (.int .i64 2) /\ w'.cell? ⟨X.heap.size, 3, none⟩ = some (.bool false) /\ w'.cell? ⟨X.heap.size, 4, none⟩ = some (.slice (some ⟨cb, 0, none⟩) 3 3) /\
   Bx (Calls Tryd.prog 27 #[.pointer (some ⟨wb, 0, none⟩), .agg #[.int .i64 0, .int .i64 1, .int .i64 2, .bool false, .slice (some ⟨cb, 0, none⟩) 3 3]] w' fun e w'' => e = .returned (.tuple #[.int .i64 0, .int .i64 0]) /\ w''.cell? ⟨X.heap.size, 4, none⟩ = some (.slice (some ⟨cb, 0, none⟩) 3 3) /\ ∃ kb, w''.cell? ⟨wb, 5, none⟩ = some (.slice (some ⟨kb, 0, none⟩) 3 3) /\ w''.cell? ⟨kb, 0, none⟩ = some (.int .i64 1) /\ w''.cell? ⟨kb, 2, none⟩ = some (.int .i64 2) /\ w''.cell? ⟨kb, 4, none⟩ = some (.int .i64 1) /\ kb < w''.heap.size /\ wb < w''.heap.size /\ H <= w''.heap.size /\ Bx (Below H w w''))) := ⟨fun X hX => by
  have hs := hX.size
  have bX := ak X (.cells #[.int .i64 0, .int .i64 1, .int .i64 2, .bool false, .slice (some ⟨cb, 0, none⟩) 3 3] 40)
  have qX : (X.alloc (.cells #[.int .i64 0, .int .i64 1, .int .i64 2, .bool false, .slice (some ⟨cb, 0, none⟩) 3 3] 40)).heap[X.heap.size]? = some (.cells #[.int .i64 0, .int .i64 1, .int .i64 2, .bool false, .slice (some ⟨cb, 0, none⟩) 3 3] 40 (0, 0)) := heap_alloc_new X _
  have sX : (X.alloc (.cells #[.int .i64 0, .int .i64 1, .int .i64 2, .bool false, .slice (some ⟨cb, 0, none⟩) 3 3] 40)).heap.size = X.heap.size + 1 := by simp
  generalize X.alloc (.cells #[.int .i64 0, .int .i64 1, .int .i64 2, .bool false, .slice (some ⟨cb, 0, none⟩) 3 3] 40) = Y at *
  have hY : Below H w Y := hX.trans (bX.mono (by omega))
  refine (iP Y 3 (by omega) (by omega)).mono ?_
  rintro e w' ⟨wb, kb, db, eb, dc, rfl, hh⟩
  obtain ⟨h1, h2, g1, g2, g3, g4⟩ := hh.out
  have q' := (h2.block X.heap.size (by omega)).trans qX
  refine ⟨wb, rfl, (cell_of_row w' _ 0 _ _ _ q').trans rfl, (cell_of_row w' _ 1 _ _ _ q').trans rfl, (cell_of_row w' _ 2 _ _ _ q').trans rfl, (cell_of_row w' _ 3 _ _ _ q').trans rfl, (cell_of_row w' _ 4 _ _ _ q').trans rfl, ⟨?_⟩⟩
  refine Calls.mono (mH (w0 := Y) (w := w') (pb := pb) (l := exC) (hU.below (hH ▸ hY)) (hV.below (hH ▸ hY)) rfl (.inr (.inr rfl)) h1 h2 g1 g2 g3 g4) ?_
  rintro e w'' ⟨rfl, hf⟩
  obtain ⟨hb, hk⟩ := hf.out
  obtain ⟨pv, mv, K, hS, hL⟩ := hk (by decide)
  obtain ⟨_, _, k5, _, _, hwl⟩ := hL.cells
  have hkl := hL.wk.lts.2.1
  have q'' := (hb.block X.heap.size (by omega)).trans qX
  have hK : K = [(1, 0), (2, 0), (1, 1)] := by
   unfold Sg at hS
   rcases hS with ⟨h, _⟩ | ⟨h, _⟩ | ⟨_, ⟨h, _⟩ | ⟨h, _⟩ | ⟨h, _⟩ | ⟨_, h, _⟩⟩
   ·exact absurd h (by decide)
   ·exact absurd h (by decide)
   ·exact absurd h (by decide)
   ·exact absurd h (by decide)
   ·exact absurd h (by decide)
   ·exact h
  subst hK
  have k0 := (hL.known 0 (by decide)).1
  have k1 := (hL.known 1 (by decide)).1
  have k2 := (hL.known 2 (by decide)).1
  have hs3 := hb.size
  exact ⟨rfl, (cell_of_row w'' _ 4 _ _ _ q'').trans rfl, kb, k5, k0, k1, k2, hkl, hwl, by omega, ⟨hY.trans (hb.mono (by omega))⟩⟩⟩
 have hm3 := BP
 have hlt0 : H < w0.heap.size := by omega
 rw [hH]
 clear hU hV q0 b0
 go_enter Tryd.func11, Tryd.ntmps11
 go_wp2_with (first
  | (go_at_call 9; refine HC.mono ?_; clear HC c0 c1; rintro e w1 ⟨rfl, c0, p0, p1, p2, p3, p4, hpl1, HB1⟩)
  | (go_at_call 26; refine (HN.out _ HB1.out).mono ?_; clear p0 p1 p2 p3 p4 c0; rintro e w2 ⟨wb, rfl, y0, y1, y2, y3, y4, HF⟩)
  | (go_at_call 27; refine HF.out.mono ?_; clear y0 y1 y2 y3 y4; rintro e w3 ⟨rfl, y4, kb, k5, k0, k1, k2, hkl, hwl, hHl, HB3⟩))
 refine wp_loop_rounds 4 ?_
 rw [rounds_succ]
 go_wp2
 rw [rounds_succ]
 go_wp2
 rw [rounds_succ]
 go_wp2
 rw [rounds_succ]
 go_wp2
 go_ret
 have hq := heap_alloc_new w3 (.cells #[.int .i64 0, .int .i64 1, .int .i64 0] 3)
 exact ⟨w3.heap.size, rfl, (cell_of_row _ _ 0 _ _ _ hq).trans rfl, (cell_of_row _ _ 1 _ _ _ hq).trans rfl, (cell_of_row _ _ 2 _ _ _ hq).trans rfl, hHl, by simp, ⟨HB3.out.alloc hHl _⟩⟩
theorem Ak (w : World) (cb n : Nat) : Calls Tryd.prog 18 #[.int .i64 1, .slice (some ⟨cb, 0, none⟩) n n] w fun e w' => ∃ pb, e = .returned (.agg #[.slice (some ⟨pb, 0, none⟩) 1 1, .slice none 0 0]) /\ Bx (w'.heap[pb]? = some (.cells #[.int .i64 0, .int .i64 1, .int .i64 2, .bool false, .slice (some ⟨cb, 0, none⟩) n n] 40 (0, 0)) /\ Below w.heap.size w w') := by
 go_enter Tryd.func18, Tryd.ntmps18
 go_wp2
 refine bodyPost_ret (v := .agg #[.slice (some ⟨w.heap.size + 1, 0, none⟩) 1 1, .slice none 0 0]) (by simp [results, Tryd.results18, go_sem]) rfl ⟨w.heap.size + 1, rfl, ⟨?_, (ak w _).alloc (by simp) _⟩⟩
 have := heap_alloc_new (w.alloc (.cells #[.slice (some ⟨w.heap.size + 1, 0, none⟩) 1 1, .slice none 0 0] 25)) (.cells #[.int .i64 0, .int .i64 1, .int .i64 2, .bool false, .slice (some ⟨cb, 0, none⟩) n n] 40)
 simpa using this
theorem rz (w : World) (a b : Nat) (a0 : w.cell? ⟨a, 0, none⟩ = some (.int .i64 0)) (a1 : w.cell? ⟨a, 1, none⟩ = some (.int .i64 1)) (a2 : w.cell? ⟨a, 2, none⟩ = some (.int .i64 0)) (b0 : w.cell? ⟨b, 0, none⟩ = some (.int .i64 0)) (b1 : w.cell? ⟨b, 1, none⟩ = some (.int .i64 1)) (b2 : w.cell? ⟨b, 2, none⟩ = some (.int .i64 0)) :
  Calls Tryd.prog 13 #[.slice (some ⟨a, 0, none⟩) 3 3, .slice (some ⟨b, 0, none⟩) 3 3] w fun e w' => e = .returned (.bool true) /\ ∃ k, w' = w.drewN k := by
 go_enter Tryd.func13, Tryd.ntmps13
 go_wp2
 refine wp_loop_rounds 4 ?_
 rw [rounds_succ]
 go_wp2
 go_quiet (fail)
 go_wp2
 rw [rounds_succ]
 go_wp2
 go_quiet (fail)
 go_wp2
 rw [rounds_succ]
 go_wp2
 go_quiet (fail)
 go_wp2
 rw [rounds_succ]
 go_wp2
 go_ret
 exact ⟨rfl, _, rfl⟩
theorem nT {H : Nat} {w X : World} (hX : Below H w X) (hs : H <= X.heap.size) (l : List (Int × Int)) (hE : l = exA ∨ l = exB ∨ l = exC) {n : Nat} (hn : l.length = n) {C : Array Value} (hC : C = cdC l) :
  Calls Tryd.prog 18 #[.int .i64 1, .slice (some ⟨X.heap.size, 0, none⟩) n n] (X.alloc (.cells C 43)) fun e w' => ∃ pb, e = .returned (.agg #[.slice (some ⟨pb, 0, none⟩) 1 1, .slice none 0 0]) /\ Bx (UE w' pb X.heap.size l /\ Below H w w') := by
 subst hC
 subst hn
 refine (Ak (X.alloc (.cells (cdC l) 43)) X.heap.size l.length).mono ?_
 rintro e w' ⟨pb, rfl, hh⟩
 obtain ⟨h1, h2⟩ := hh.out
 refine ⟨pb, rfl, ⟨⟨h1, (h2.block _ (by simp)).trans (heap_alloc_new X _), ?_, ?_, ?_⟩, (hX.alloc hs _).trans (h2.mono (by simp; omega))⟩⟩
 ·rcases hE with rfl | rfl | rfl
  ·intro p hp
   simp [exA] at hp
   subst hp
   exact ⟨0, .inr (.inr ⟨rfl, rfl, rfl⟩)⟩
  ·intro p hp
   simp [exB] at hp
   rcases hp with rfl | rfl
   ·exact ⟨1, .inl ⟨rfl, rfl, rfl⟩⟩
   ·exact ⟨0, .inr (.inr ⟨rfl, rfl, rfl⟩)⟩
  ·intro p hp
   simp [exC] at hp
   rcases hp with rfl | rfl | rfl
   ·exact ⟨1, .inl ⟨rfl, rfl, rfl⟩⟩
   ·exact ⟨12, .inr (.inl ⟨rfl, rfl, rfl⟩)⟩
   ·exact ⟨0, .inr (.inr ⟨rfl, rfl, rfl⟩)⟩
 ·rcases hE with rfl | rfl | rfl <;> decide
 ·rcases hE with rfl | rfl | rfl <;> decide
theorem vC (w : World) (hV : VW w) : Calls Tryd.prog 7 #[] w fun e w' => e = .returned (.bool true) /\ Below w.heap.size w w' := by
 obtain ⟨H, hH⟩ : ∃ H, w.heap.size = H := ⟨_, rfl⟩
 have hVX : Bx (∀ X, Below H w X -> VW X) := ⟨fun X hX => hV.below (hH ▸ hX)⟩
 have HUA : Bx (∀ X, Below H w X -> Calls Tryd.prog 18 #[.int .i64 1, .slice (some ⟨X.heap.size, 0, none⟩) 1 1] (X.alloc (.cells #[.int .i64 25, .int .i64 0, .int .i64 0, .slice none 0 0] 43)) fun e w' => ∃ pb, e = .returned (.agg #[.slice (some ⟨pb, 0, none⟩) 1 1, .slice none 0 0]) /\ Bx (UE w' pb X.heap.size exA /\ Below H w w')) := ⟨fun X hX => nT hX (by have := hX.size; omega) exA (.inl rfl) rfl (by kernel_rfl)⟩
 have HUB : Bx (∀ X, Below H w X -> Calls Tryd.prog 18 #[.int .i64 1, .slice (some ⟨X.heap.size, 0, none⟩) 2 2] (X.alloc (.cells #[.int .i64 1, .int .i64 1, .int .i64 0, .slice none 0 0, .int .i64 25, .int .i64 0, .int .i64 0, .slice none 0 0] 43)) fun e w' => ∃ pb, e = .returned (.agg #[.slice (some ⟨pb, 0, none⟩) 1 1, .slice none 0 0]) /\ Bx (UE w' pb X.heap.size exB /\ Below H w w')) := ⟨fun X hX => nT hX (by have := hX.size; omega) exB (.inr (.inl rfl)) rfl (by kernel_rfl)⟩
 have HUC : Bx (∀ X : World, Calls Tryd.prog 18 #[.int .i64 1, .slice (some ⟨X.heap.size, 0, none⟩) 3 3] (X.alloc (.cells #[.int .i64 1, .int .i64 1, .int .i64 0, .slice none 0 0, .int .i64 5, .int .i64 0, .int .i64 0, .slice none 0 0, .int .i64 25, .int .i64 0, .int .i64 0, .slice none 0 0] 43)) fun e w' => ∃ pb, e = .returned (.agg #[.slice (some ⟨pb, 0, none⟩) 1 1, .slice none 0 0]) /\ Bx (UE w' pb X.heap.size exC /\ Below X.heap.size X w')) := ⟨fun X => nT (Below.refl _ X) (Nat.le_refl _) exC (.inr (.inr rfl)) rfl (by kernel_rfl)⟩
 have HCA : Bx (∀ X pb cb, UE X pb cb exA /\ Below H w X -> Calls Tryd.prog 9 #[.agg #[.slice (some ⟨pb, 0, none⟩) 1 1, .slice none 0 0]] X fun e w' => e = .returned (.tuple #[.int .i64 0, .int .i64 0, .int .i64 0]) /\ Bx (Below H w w')) := ⟨fun X pb cb ⟨hU, hX⟩ => (jw X (hVX.out X hX) pb cb exA (.inl rfl) hU).mono fun e w' h => ⟨by rw [h.1]; rfl, ⟨hX.trans (h.2.mono (by have := hX.size; omega))⟩⟩⟩
 have HCB : Bx (∀ X pb cb, UE X pb cb exB /\ Below H w X -> Calls Tryd.prog 9 #[.agg #[.slice (some ⟨pb, 0, none⟩) 1 1, .slice none 0 0]] (X.alloc (.cells #[.slice (some ⟨pb, 0, none⟩) 1 1, .slice none 0 0] 25)) fun e w' => e = .returned (.tuple #[.int .i64 0, .int .i64 1, .int .i64 94]) /\ Bx (∀ Y, Below w'.heap.size w' Y -> Y.cell? ⟨X.heap.size, 0, none⟩ = some (.slice (some ⟨pb, 0, none⟩) 1 1) /\ Y.cell? ⟨X.heap.size, 1, none⟩ = some (.slice none 0 0) /\ Below H w Y /\ UE Y pb cb exB)) := ⟨fun X pb cb ⟨hU, hX⟩ => by
  have hs := hX.size
  have b1 := ak X (.cells #[.slice (some ⟨pb, 0, none⟩) 1 1, .slice none 0 0] 25)
  have q1 := heap_alloc_new X (.cells #[.slice (some ⟨pb, 0, none⟩) 1 1, .slice none 0 0] 25)
  have s1 : (X.alloc (.cells #[.slice (some ⟨pb, 0, none⟩) 1 1, .slice none 0 0] 25)).heap.size = X.heap.size + 1 := by simp
  generalize X.alloc (.cells #[.slice (some ⟨pb, 0, none⟩) 1 1, .slice none 0 0] 25) = Z at *
  have hZ : Below H w Z := hX.trans (b1.mono (by omega))
  refine (jw Z (hVX.out Z hZ) pb cb exB (.inr (.inl rfl)) (hU.below b1)).mono ?_
  rintro e w' ⟨rfl, h2⟩
  refine ⟨rfl, ⟨fun Y hY => ?_⟩⟩
  have hs2 := h2.size
  have hY2 : Below Z.heap.size Z Y := h2.trans (hY.mono hs2)
  have q2 := (hY2.block X.heap.size (by omega)).trans q1
  exact ⟨(cell_of_row Y _ 0 _ _ _ q2).trans rfl, (cell_of_row Y _ 1 _ _ _ q2).trans rfl, hZ.trans (hY2.mono (by omega)), (hU.below b1).below hY2⟩⟩
 have HHC : Bx (∀ X pb cb, UE X pb cb exC -> Below H w X -> Calls Tryd.prog 11 #[.agg #[.slice (some ⟨pb, 0, none⟩) 1 1, .slice none 0 0], .int .i64 0] X fun e w' => ∃ hb, e = .returned (.slice (some ⟨hb, 0, none⟩) 3 3) /\ w'.cell? ⟨hb, 0, none⟩ = some (.int .i64 0) /\ w'.cell? ⟨hb, 1, none⟩ = some (.int .i64 1) /\ w'.cell? ⟨hb, 2, none⟩ = some (.int .i64 0) /\ X.heap.size <= hb /\ hb < w'.heap.size /\ Bx (Below X.heap.size X w')) := ⟨fun X pb cb hU hX => vB X (hVX.out X hX) pb cb hU⟩
 have HHB : Bx (∀ X pb cb, UE X pb cb exB -> Below H w X -> Calls Tryd.prog 11 #[.agg #[.slice (some ⟨pb, 0, none⟩) 1 1, .slice none 0 0], .int .i64 0] X fun e w' => e = .returned (.slice none 0 0) /\ Bx (Below H w w')) := ⟨fun X pb cb hU hX => (vz X (hVX.out X hX) pb cb hU).mono fun e w' h => ⟨h.1, ⟨hX.trans (h.2.mono (by have := hX.size; omega))⟩⟩⟩
 have HNU : Bx (∀ X a, X.cell? ⟨a, 0, none⟩ = some (.int .i64 0) -> X.cell? ⟨a, 1, none⟩ = some (.int .i64 1) -> X.cell? ⟨a, 2, none⟩ = some (.int .i64 0) -> a < X.heap.size -> Calls Tryd.prog 13 #[.slice (some ⟨a, 0, none⟩) 3 3, .slice (some ⟨X.heap.size, 0, none⟩) 3 3] (X.alloc (.cells #[.int .i64 0, .int .i64 1, .int .i64 0] 3)) fun e w' => e = .returned (.bool true) /\ Bx (Below X.heap.size X w')) := ⟨fun X a h0 h1 h2 hl => by
  have b1 := ak X (.cells #[.int .i64 0, .int .i64 1, .int .i64 0] 3)
  have q1 := heap_alloc_new X (.cells #[.int .i64 0, .int .i64 1, .int .i64 0] 3)
  refine (rz (X.alloc (.cells #[.int .i64 0, .int .i64 1, .int .i64 0] 3)) a X.heap.size ((b1.cell (p := ⟨a, 0, none⟩) hl).trans h0) ((b1.cell (p := ⟨a, 1, none⟩) hl).trans h1) ((b1.cell (p := ⟨a, 2, none⟩) hl).trans h2) ((cell_of_row _ _ 0 _ _ _ q1).trans rfl) ((cell_of_row _ _ 1 _ _ _ q1).trans rfl) ((cell_of_row _ _ 2 _ _ _ q1).trans rfl)).mono ?_
  rintro e w' ⟨rfl, k, rfl⟩
  exact ⟨rfl, ⟨b1.os, b1.tape, b1.output, b1.size, b1.block⟩⟩⟩
 have B0 : Bx _ := ⟨Below.refl H w⟩
 rw [hH]
 clear hH hV hVX
 go_enter Tryd.func7, Tryd.ntmps7
 go_wp2_with (first
  | (go_at_call 18; refine (HUA.out _ B0.out).mono ?_; clear HUA; rintro e w1 ⟨pa, rfl, HA⟩)
  | (go_at_call 9; refine (HCA.out _ _ _ HA.out).mono ?_; clear HCA; rintro e w2 ⟨rfl, B2⟩)
  | (go_at_call 18; refine (HUB.out _ B2.out).mono ?_; clear HUB; rintro e w3 ⟨pb, rfl, HB⟩)
  | (go_at_call 9; refine (HCB.out _ _ _ HB.out).mono ?_; clear HCB HB HA B2; rintro e w4 ⟨rfl, T4⟩)
  | (go_at_call 18; refine (HUC.out _).mono ?_; clear HUC; rintro e w5 ⟨pc, rfl, HC⟩)
  | (go_at_call 11; refine (HHC.out _ _ _ HC.out.1 (T4.out _ HC.out.2).2.2.1).mono ?_; clear HHC; rintro e w6 ⟨hb, rfl, h0, h1, h2, hle, hlt6, B6⟩; have L6 : Bx (Below w4.heap.size w4 w6) := ⟨HC.out.2.trans (B6.out.mono HC.out.2.size)⟩; clear HC)
  | (go_at_call 13; refine (HNU.out _ _ h0 h1 h2 hlt6).mono ?_; clear HNU h0 h1 h2 hle hlt6 B6; rintro e w7 ⟨rfl, B7⟩; have L7 : Bx (Below w4.heap.size w4 w7) := ⟨L6.out.trans (B7.out.mono L6.out.size)⟩; clear L6 B7; obtain ⟨t0, t1, _, _⟩ := T4.out _ L7.out)
  | (go_at_call 11; refine (HHB.out _ _ _ (T4.out _ L7.out).2.2.2 (T4.out _ L7.out).2.2.1).mono ?_; clear HHB; rintro e w8 ⟨rfl, B8⟩))
 go_ret
 exact ⟨rfl, B8.out⟩
end Go.Proofs.YtadmpgegolmkgaaDoor
