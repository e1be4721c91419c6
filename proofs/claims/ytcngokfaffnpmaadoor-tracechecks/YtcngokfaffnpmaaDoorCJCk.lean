import Derived.Test.YtcngokfaffnpmaaDoorCJRc
import Derived.Test.YtcngokfaffnpmaaDoorCJSh
import Derived.Deep.RegionHeld3
namespace Go.Proofs.YtcngokfaffnpmaaDoor
open Go.RowKit
set_option linter.unusedVariables false
set_option linter.unusedSimpArgs false

set_option maxRecDepth 100000 in
set_option maxHeartbeats 4000000 in
theorem checks_walk (w : World) (e : Ev) (a : Option Addr) (cap : Nat) (hw : e.Wf) (hi : IntsV w w.heap.size a cap e.list) (hL : LW w) :
    Calls Tryd.prog 3 #[evV e a cap] w fun e' w' => e' = .returned (.bool true) ∧ Below w.heap.size w w' := by
  obtain ⟨H, hH⟩ : ∃ H, w.heap.size = H := ⟨_, rfl⟩
  rw [hH] at hi ⊢
  obtain ⟨n, hn⟩ : ∃ n, n = e.list.length := ⟨_, rfl⟩
  show Calls Tryd.prog 3 #[evW8 e (.slice a e.list.length cap)] w fun e' w' => e' = .returned (.bool true) ∧ Below H w w'
  rw [← hn]
  obtain ⟨W1, hW1⟩ : ∃ W1, w.alloc (evB e (.slice a n cap)) = W1 := ⟨_, rfl⟩
  have hb1 : Below H w W1 := by rw [← hW1, ← hH]; exact below1 _ _
  have he1 : W1.heap[H]? = some (evB e (.slice a n cap)) := by rw [← hW1]; exact heap_newH w _ H hH
  have hz1 := heap_lt he1
  have HF : Bx (∀ W, Below W1.heap.size W1 W → W.cell? ⟨H, 0, none⟩ = some (.int .i64 e.kind) ∧ W.cell? ⟨H, 1, none⟩ = some (.int .i64 e.p) ∧ W.cell? ⟨H, 2, none⟩ = some (.int .i64 e.i) ∧ W.cell? ⟨H, 3, none⟩ = some (.int .i64 e.q) ∧ W.cell? ⟨H, 4, none⟩ = some (.int .i64 e.j) ∧ W.cell? ⟨H, 5, none⟩ = some (.int .i64 e.c) ∧ W.cell? ⟨H, 6, none⟩ = some (.int .i64 e.num) ∧ W.cell? ⟨H, 7, none⟩ = some (.slice a n cap)) := ⟨fun W hb => evB_cells (below_heap hb he1)⟩
  have HBW : Bx (∀ W, Below W1.heap.size W1 W → Below H w W) := ⟨fun W hb => hb1.trans (hb.mono (by omega))⟩
  have HSH : Bx (∀ W, Below W1.heap.size W1 W → Calls Tryd.prog 9 #[] W fun e' w' => e' = .returned (.bool true) ∧ Below W1.heap.size W1 w') := ⟨fun W hb => (shown_any W (hL.below (by rw [hH]; exact HBW.out W hb))).mono fun e' w' h => ⟨h.1, hb.trans (h.2.out.mono hb.size)⟩⟩
  have HIV : Bx (∀ W, Below W1.heap.size W1 W → IntsV W W.heap.size a cap e.list) := ⟨fun W hb => (hi.below (HBW.out W hb)).up (by have := (HBW.out W hb).size; omega)⟩
  have HCK : Bx (∀ W, Below W1.heap.size W1 W → Calls Tryd.prog 10 #[evW8 e (.slice a n cap)] W fun e' w' => e' = .returned (.int .i64 (chkE e)) ∧ Below W1.heap.size W1 w') := ⟨fun W hb => by
    rw [hn]
    exact (Check_any e a cap W (hL.below (by rw [hH]; exact HBW.out W hb)).shp (HIV.out W hb)).mono fun e' w' h => ⟨h.1, hb.trans (h.2.mono hb.size)⟩⟩
  have HRC : Bx (∀ W, Below W1.heap.size W1 W → Calls Tryd.prog 11 #[evW8 e (.slice a n cap)] W fun e' w' => e' = .returned (.int .i64 (chkE e)) ∧ Below W1.heap.size W1 w') := ⟨fun W hb => by
    rw [hn]
    exact (rCheck_any e a cap W (HIV.out W hb)).mono fun e' w' h => ⟨h.1, hb.trans (h.2.mono hb.size)⟩⟩
  have hbr : Below W1.heap.size W1 W1 := Below.refl _ _
  clear hi hL hb1 he1 hn hw HIV
  generalize chkE e = ck at *
  go_enter Tryd.func3, Tryd.ntmps3
  go_wp2_with fail
  go_region_held3 (fun W => W.cell? ⟨H, 0, none⟩ = some (.int .i64 e.kind) ∧ W.cell? ⟨H, 1, none⟩ = some (.int .i64 e.p) ∧ W.cell? ⟨H, 2, none⟩ = some (.int .i64 e.i) ∧ W.cell? ⟨H, 3, none⟩ = some (.int .i64 e.q) ∧ W.cell? ⟨H, 4, none⟩ = some (.int .i64 e.j) ∧ W.cell? ⟨H, 5, none⟩ = some (.int .i64 e.c) ∧ W.cell? ⟨H, 6, none⟩ = some (.int .i64 e.num) ∧ W.cell? ⟨H, 7, none⟩ = some (.slice a n cap))
    (first | exact HF.out _ hy3 | exact HF.out _ hy2 | exact HF.out _ hy1 | exact HF.out _ hbr.drew)
    (first
      | (go_at_call 9; refine Calls.mono (HSH.out _ hbr.drew) ?_; rintro e1 y1 ⟨rfl, hy1⟩)
      | (go_at_call 10; refine Calls.mono (HCK.out _ hy1) ?_; rintro e1 y2 ⟨rfl, hy2⟩)
      | (go_at_call 11; refine Calls.mono (HRC.out _ hy2) ?_; rintro e1 y3 ⟨rfl, hy3⟩))
  go_wp2
  go_ret
  exact ⟨by first | rfl | simp, HBW.out _ hy3⟩
end Go.Proofs.YtcngokfaffnpmaaDoor
