import Derived.Test.YtadmpgegolmkgaaDoorCYU
namespace Go.Proofs.YtadmpgegolmkgaaDoor
open Go.RowKit
set_option linter.unusedVariables false
set_option linter.unusedSimpArgs false

set_option maxRecDepth 100000 in
set_option maxHeartbeats 1000000 in
theorem unit_ex (w : World) (cb n : Nat) : Calls Tryd.prog 18 #[.int .i64 1, .slice (some ⟨cb, 0, none⟩) n n] w fun e w' => ∃ pb, e = .returned (.agg #[.slice (some ⟨pb, 0, none⟩) 1 1, .slice none 0 0]) ∧ Bx (w'.heap[pb]? = some (.cells #[.int .i64 0, .int .i64 1, .int .i64 2, .bool false, .slice (some ⟨cb, 0, none⟩) n n] 40 (0, 0)) ∧ Below w.heap.size w w') := by
  go_enter Tryd.func18, Tryd.ntmps18
  go_wp2
  refine bodyPost_ret (v := .agg #[.slice (some ⟨w.heap.size + 1, 0, none⟩) 1 1, .slice none 0 0]) (by simp [results, Tryd.results18, go_sem]) rfl ⟨w.heap.size + 1, rfl, ⟨?_, (below1 w _).alloc (by simp) _⟩⟩
  have := heap_alloc_new (w.alloc (.cells #[.slice (some ⟨w.heap.size + 1, 0, none⟩) 1 1, .slice none 0 0] 25)) (.cells #[.int .i64 0, .int .i64 1, .int .i64 2, .bool false, .slice (some ⟨cb, 0, none⟩) n n] 40)
  simpa using this
set_option maxRecDepth 100000 in
set_option maxHeartbeats 1000000 in
theorem numbers_ex (w : World) (a b : Nat) (a0 : w.cell? ⟨a, 0, none⟩ = some (.int .i64 0)) (a1 : w.cell? ⟨a, 1, none⟩ = some (.int .i64 1)) (a2 : w.cell? ⟨a, 2, none⟩ = some (.int .i64 0)) (b0 : w.cell? ⟨b, 0, none⟩ = some (.int .i64 0)) (b1 : w.cell? ⟨b, 1, none⟩ = some (.int .i64 1)) (b2 : w.cell? ⟨b, 2, none⟩ = some (.int .i64 0)) :
    Calls Tryd.prog 13 #[.slice (some ⟨a, 0, none⟩) 3 3, .slice (some ⟨b, 0, none⟩) 3 3] w fun e w' => e = .returned (.bool true) ∧ ∃ k, w' = w.drewN k := by
  go_enter Tryd.func13, Tryd.ntmps13
  go_wp2
  refine wp_loop_rounds 4 ?_
  rw [rounds_succ]
  go_wp2
  go_quiet (fail)
  go_wp2
  rw [rounds_succ]
  go_wp2
  go_quiet (fail)
  go_wp2
  rw [rounds_succ]
  go_wp2
  go_quiet (fail)
  go_wp2
  rw [rounds_succ]
  go_wp2
  go_ret
  exact ⟨rfl, _, rfl⟩
theorem unit_ue {H : Nat} {w X : World} (hX : Below H w X) (hs : H ≤ X.heap.size) (l : List (Int × Int)) (hE : l = exA ∨ l = exB ∨ l = exC) {n : Nat} (hn : l.length = n) {C : Array Value} (hC : C = cdC l) :
    Calls Tryd.prog 18 #[.int .i64 1, .slice (some ⟨X.heap.size, 0, none⟩) n n] (X.alloc (.cells C 43)) fun e w' => ∃ pb, e = .returned (.agg #[.slice (some ⟨pb, 0, none⟩) 1 1, .slice none 0 0]) ∧ Bx (UE w' pb X.heap.size l ∧ Below H w w') := by
  subst hC
  subst hn
  refine (unit_ex (X.alloc (.cells (cdC l) 43)) X.heap.size l.length).mono ?_
  rintro e w' ⟨pb, rfl, hh⟩
  obtain ⟨h1, h2⟩ := hh.out
  refine ⟨pb, rfl, ⟨⟨h1, (h2.block _ (by simp)).trans (heap_alloc_new X _), ?_, ?_, ?_⟩, (hX.alloc hs _).trans (h2.mono (by simp; omega))⟩⟩
  · rcases hE with rfl | rfl | rfl
    · intro p hp
      simp [exA] at hp
      subst hp
      exact ⟨0, .inr (.inr ⟨rfl, rfl, rfl⟩)⟩
    · intro p hp
      simp [exB] at hp
      rcases hp with rfl | rfl
      · exact ⟨1, .inl ⟨rfl, rfl, rfl⟩⟩
      · exact ⟨0, .inr (.inr ⟨rfl, rfl, rfl⟩)⟩
    · intro p hp
      simp [exC] at hp
      rcases hp with rfl | rfl | rfl
      · exact ⟨1, .inl ⟨rfl, rfl, rfl⟩⟩
      · exact ⟨12, .inr (.inl ⟨rfl, rfl, rfl⟩)⟩
      · exact ⟨0, .inr (.inr ⟨rfl, rfl, rfl⟩)⟩
  · rcases hE with rfl | rfl | rfl <;> decide
  · rcases hE with rfl | rfl | rfl <;> decide
set_option maxRecDepth 100000 in
set_option maxHeartbeats 4000000 in
theorem shown_any (w : World) (hV : VW w) : Calls Tryd.prog 7 #[] w fun e w' => e = .returned (.bool true) ∧ Below w.heap.size w w' := by
  obtain ⟨H, hH⟩ : ∃ H, w.heap.size = H := ⟨_, rfl⟩
  have hVX : Bx (∀ X, Below H w X → VW X) := ⟨fun X hX => hV.below (hH ▸ hX)⟩
  have HUA : Bx (∀ X, Below H w X → Calls Tryd.prog 18 #[.int .i64 1, .slice (some ⟨X.heap.size, 0, none⟩) 1 1] (X.alloc (.cells #[.int .i64 25, .int .i64 0, .int .i64 0, .slice none 0 0] 43)) fun e w' => ∃ pb, e = .returned (.agg #[.slice (some ⟨pb, 0, none⟩) 1 1, .slice none 0 0]) ∧ Bx (UE w' pb X.heap.size exA ∧ Below H w w')) := ⟨fun X hX => unit_ue hX (by have := hX.size; omega) exA (.inl rfl) rfl (by kernel_rfl)⟩
  have HUB : Bx (∀ X, Below H w X → Calls Tryd.prog 18 #[.int .i64 1, .slice (some ⟨X.heap.size, 0, none⟩) 2 2] (X.alloc (.cells #[.int .i64 1, .int .i64 1, .int .i64 0, .slice none 0 0, .int .i64 25, .int .i64 0, .int .i64 0, .slice none 0 0] 43)) fun e w' => ∃ pb, e = .returned (.agg #[.slice (some ⟨pb, 0, none⟩) 1 1, .slice none 0 0]) ∧ Bx (UE w' pb X.heap.size exB ∧ Below H w w')) := ⟨fun X hX => unit_ue hX (by have := hX.size; omega) exB (.inr (.inl rfl)) rfl (by kernel_rfl)⟩
  have HUC : Bx (∀ X : World, Calls Tryd.prog 18 #[.int .i64 1, .slice (some ⟨X.heap.size, 0, none⟩) 3 3] (X.alloc (.cells #[.int .i64 1, .int .i64 1, .int .i64 0, .slice none 0 0, .int .i64 5, .int .i64 0, .int .i64 0, .slice none 0 0, .int .i64 25, .int .i64 0, .int .i64 0, .slice none 0 0] 43)) fun e w' => ∃ pb, e = .returned (.agg #[.slice (some ⟨pb, 0, none⟩) 1 1, .slice none 0 0]) ∧ Bx (UE w' pb X.heap.size exC ∧ Below X.heap.size X w')) := ⟨fun X => unit_ue (Below.refl _ X) (Nat.le_refl _) exC (.inr (.inr rfl)) rfl (by kernel_rfl)⟩
  have HCA : Bx (∀ X pb cb, UE X pb cb exA ∧ Below H w X → Calls Tryd.prog 9 #[.agg #[.slice (some ⟨pb, 0, none⟩) 1 1, .slice none 0 0]] X fun e w' => e = .returned (.tuple #[.int .i64 0, .int .i64 0, .int .i64 0]) ∧ Bx (Below H w w')) := ⟨fun X pb cb ⟨hU, hX⟩ => (Check_ex X (hVX.out X hX) pb cb exA (.inl rfl) hU).mono fun e w' h => ⟨by rw [h.1]; rfl, ⟨hX.trans (h.2.mono (by have := hX.size; omega))⟩⟩⟩
  have HCB : Bx (∀ X pb cb, UE X pb cb exB ∧ Below H w X → Calls Tryd.prog 9 #[.agg #[.slice (some ⟨pb, 0, none⟩) 1 1, .slice none 0 0]] (X.alloc (.cells #[.slice (some ⟨pb, 0, none⟩) 1 1, .slice none 0 0] 25)) fun e w' => e = .returned (.tuple #[.int .i64 0, .int .i64 1, .int .i64 94]) ∧ Bx (∀ Y, Below w'.heap.size w' Y → Y.cell? ⟨X.heap.size, 0, none⟩ = some (.slice (some ⟨pb, 0, none⟩) 1 1) ∧ Y.cell? ⟨X.heap.size, 1, none⟩ = some (.slice none 0 0) ∧ Below H w Y ∧ UE Y pb cb exB)) := ⟨fun X pb cb ⟨hU, hX⟩ => by
    have hs := hX.size
    have b1 := below1 X (.cells #[.slice (some ⟨pb, 0, none⟩) 1 1, .slice none 0 0] 25)
    have q1 := heap_alloc_new X (.cells #[.slice (some ⟨pb, 0, none⟩) 1 1, .slice none 0 0] 25)
    have s1 : (X.alloc (.cells #[.slice (some ⟨pb, 0, none⟩) 1 1, .slice none 0 0] 25)).heap.size = X.heap.size + 1 := by simp
    generalize X.alloc (.cells #[.slice (some ⟨pb, 0, none⟩) 1 1, .slice none 0 0] 25) = Z at *
    have hZ : Below H w Z := hX.trans (b1.mono (by omega))
    refine (Check_ex Z (hVX.out Z hZ) pb cb exB (.inr (.inl rfl)) (hU.below b1)).mono ?_
    rintro e w' ⟨rfl, h2⟩
    refine ⟨rfl, ⟨fun Y hY => ?_⟩⟩
    have hs2 := h2.size
    have hY2 : Below Z.heap.size Z Y := h2.trans (hY.mono hs2)
    have q2 := (hY2.block X.heap.size (by omega)).trans q1
    exact ⟨(cell_of_row Y _ 0 _ _ _ q2).trans rfl, (cell_of_row Y _ 1 _ _ _ q2).trans rfl, hZ.trans (hY2.mono (by omega)), (hU.below b1).below hY2⟩⟩
  have HHC : Bx (∀ X pb cb, UE X pb cb exC → Below H w X → Calls Tryd.prog 11 #[.agg #[.slice (some ⟨pb, 0, none⟩) 1 1, .slice none 0 0], .int .i64 0] X fun e w' => ∃ hb, e = .returned (.slice (some ⟨hb, 0, none⟩) 3 3) ∧ w'.cell? ⟨hb, 0, none⟩ = some (.int .i64 0) ∧ w'.cell? ⟨hb, 1, none⟩ = some (.int .i64 1) ∧ w'.cell? ⟨hb, 2, none⟩ = some (.int .i64 0) ∧ X.heap.size ≤ hb ∧ hb < w'.heap.size ∧ Bx (Below X.heap.size X w')) := ⟨fun X pb cb hU hX => Heights_C X (hVX.out X hX) pb cb hU⟩
  have HHB : Bx (∀ X pb cb, UE X pb cb exB → Below H w X → Calls Tryd.prog 11 #[.agg #[.slice (some ⟨pb, 0, none⟩) 1 1, .slice none 0 0], .int .i64 0] X fun e w' => e = .returned (.slice none 0 0) ∧ Bx (Below H w w')) := ⟨fun X pb cb hU hX => (Heights_B X (hVX.out X hX) pb cb hU).mono fun e w' h => ⟨h.1, ⟨hX.trans (h.2.mono (by have := hX.size; omega))⟩⟩⟩
  have HNU : Bx (∀ X a, X.cell? ⟨a, 0, none⟩ = some (.int .i64 0) → X.cell? ⟨a, 1, none⟩ = some (.int .i64 1) → X.cell? ⟨a, 2, none⟩ = some (.int .i64 0) → a < X.heap.size → Calls Tryd.prog 13 #[.slice (some ⟨a, 0, none⟩) 3 3, .slice (some ⟨X.heap.size, 0, none⟩) 3 3] (X.alloc (.cells #[.int .i64 0, .int .i64 1, .int .i64 0] 3)) fun e w' => e = .returned (.bool true) ∧ Bx (Below X.heap.size X w')) := ⟨fun X a h0 h1 h2 hl => by
    have b1 := below1 X (.cells #[.int .i64 0, .int .i64 1, .int .i64 0] 3)
    have q1 := heap_alloc_new X (.cells #[.int .i64 0, .int .i64 1, .int .i64 0] 3)
    refine (numbers_ex (X.alloc (.cells #[.int .i64 0, .int .i64 1, .int .i64 0] 3)) a X.heap.size ((b1.cell (p := ⟨a, 0, none⟩) hl).trans h0) ((b1.cell (p := ⟨a, 1, none⟩) hl).trans h1) ((b1.cell (p := ⟨a, 2, none⟩) hl).trans h2) ((cell_of_row _ _ 0 _ _ _ q1).trans rfl) ((cell_of_row _ _ 1 _ _ _ q1).trans rfl) ((cell_of_row _ _ 2 _ _ _ q1).trans rfl)).mono ?_
    rintro e w' ⟨rfl, k, rfl⟩
    exact ⟨rfl, ⟨b1.os, b1.tape, b1.output, b1.size, b1.block⟩⟩⟩
  have B0 : Bx _ := ⟨Below.refl H w⟩
  rw [hH]
  clear hH hV hVX
  go_enter Tryd.func7, Tryd.ntmps7
  go_wp2_with (first
    | (go_at_call 18; refine (HUA.out _ B0.out).mono ?_; clear HUA; rintro e w1 ⟨pa, rfl, HA⟩)
    | (go_at_call 9; refine (HCA.out _ _ _ HA.out).mono ?_; clear HCA; rintro e w2 ⟨rfl, B2⟩)
    | (go_at_call 18; refine (HUB.out _ B2.out).mono ?_; clear HUB; rintro e w3 ⟨pb, rfl, HB⟩)
    | (go_at_call 9; refine (HCB.out _ _ _ HB.out).mono ?_; clear HCB HB HA B2; rintro e w4 ⟨rfl, T4⟩)
    | (go_at_call 18; refine (HUC.out _).mono ?_; clear HUC; rintro e w5 ⟨pc, rfl, HC⟩)
    | (go_at_call 11; refine (HHC.out _ _ _ HC.out.1 (T4.out _ HC.out.2).2.2.1).mono ?_; clear HHC; rintro e w6 ⟨hb, rfl, h0, h1, h2, hle, hlt6, B6⟩; have L6 : Bx (Below w4.heap.size w4 w6) := ⟨HC.out.2.trans (B6.out.mono HC.out.2.size)⟩; clear HC)
    | (go_at_call 13; refine (HNU.out _ _ h0 h1 h2 hlt6).mono ?_; clear HNU h0 h1 h2 hle hlt6 B6; rintro e w7 ⟨rfl, B7⟩; have L7 : Bx (Below w4.heap.size w4 w7) := ⟨L6.out.trans (B7.out.mono L6.out.size)⟩; clear L6 B7; obtain ⟨t0, t1, _, _⟩ := T4.out _ L7.out)
    | (go_at_call 11; refine (HHB.out _ _ _ (T4.out _ L7.out).2.2.2 (T4.out _ L7.out).2.2.1).mono ?_; clear HHB; rintro e w8 ⟨rfl, B8⟩))
  go_ret
  exact ⟨rfl, B8.out⟩
end Go.Proofs.YtadmpgegolmkgaaDoor
