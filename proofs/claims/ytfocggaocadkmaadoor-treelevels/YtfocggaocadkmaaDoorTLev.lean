import Derived.Test.YtfocggaocadkmaaDoorTSum
namespace Go.Proofs.YtfocggaocadkmaaDoor
open Go.RowKit
set_option linter.unusedVariables false
set_option linter.unusedSimpArgs false

theorem isExprR_any (k : Int) (w : World) : Calls Tryd.prog 20 #[.int .i64 k] w fun e w' => e = .returned (.bool (exprI k)) ∧ w = w' := by
  unfold exprI
  cases h1 : decide (11 ≤ k) <;>
    (go_enter Tryd.func20, Tryd.ntmps20
     go_wp2
     go_ret
     exact ⟨by simp, rfl⟩)

set_option maxRecDepth 100000 in
set_option maxHeartbeats 2000000 in
theorem LevelR_any (ka : Option Addr) (nk kc : Nat) (k p num : Int) (nm : ByteArray) (w : World) : Calls Tryd.prog 10 #[.agg #[.int .i64 k, .int .i64 p, .slice ka nk kc, .string nm, .int .i64 num]] w fun e w' => e = .returned (.int .i64 (levelI k num)) ∧ Below w.heap.size w w' := by
  go_enter Tryd.func10, Tryd.ntmps10
  go_wp2_with (first | (go_at_call 20; refine (isExprR_any _ _).mono ?_; rintro e w' ⟨rfl, rfl⟩))
  all_goals
    go_ret
    refine ⟨ret_int ?_, below1 _ _⟩
    unfold levelI binLevelI exprI at *
    simp at *
    (repeat' split) <;> first | rfl | omega
theorem LevelV_any (ka : Option Addr) (nk kc : Nat) (k p num : Int) (nm : ByteArray) (w : World) : Calls Tryd.prog 9 #[.agg #[.int .i64 k, .int .i64 p, .slice ka nk kc, .string nm, .int .i64 num]] w fun e w' => e = .returned (.int .i64 (levelI k num)) ∧ Below w.heap.size w w' := by
  have := Level_any ka kc ⟨k, p, List.replicate nk 0, nm, num⟩ w
  unfold ndV at this
  simp only [List.length_replicate] at this
  exact this

/-- in the midst of the statement -/
theorem lev_keep {W W' w1 : World} {x : Nat} {k p num : Int} {ka : Option Addr} {nk kc : Nat} {nm : ByteArray} (hb : Below W'.heap.size W' w1) (hx : x < W.heap.size)
    (hS : W'.cell? ⟨x, 0, none⟩ = some (.int .i64 k) ∧ W'.cell? ⟨x, 1, none⟩ = some (.int .i64 p) ∧ W'.cell? ⟨x, 2, none⟩ = some (.slice ka nk kc) ∧ W'.cell? ⟨x, 3, none⟩ = some (.string nm) ∧ W'.cell? ⟨x, 4, none⟩ = some (.int .i64 num) ∧ Below W.heap.size W W') :
    w1.cell? ⟨x, 0, none⟩ = some (.int .i64 k) ∧ w1.cell? ⟨x, 1, none⟩ = some (.int .i64 p) ∧ w1.cell? ⟨x, 2, none⟩ = some (.slice ka nk kc) ∧ w1.cell? ⟨x, 3, none⟩ = some (.string nm) ∧ w1.cell? ⟨x, 4, none⟩ = some (.int .i64 num) ∧ Below W.heap.size W w1 := by
  obtain ⟨y0, y1, y2, y3, y4, hbb⟩ := hS
  have hz := hbb.size
  have d1 : ∀ i, w1.cell? ⟨x, i, none⟩ = W'.cell? ⟨x, i, none⟩ := fun i => hb.cell (p := ⟨x, i, none⟩) (by simp; omega)
  rw [d1, d1, d1, d1, d1]
  exact ⟨y0, y1, y2, y3, y4, hbb.trans (hb.mono hz)⟩
theorem lev_last {W W' : World} {x : Nat} {k p num : Int} {ka : Option Addr} {nk kc : Nat} {nm : ByteArray}
    (hS : W'.cell? ⟨x, 0, none⟩ = some (.int .i64 k) ∧ W'.cell? ⟨x, 1, none⟩ = some (.int .i64 p) ∧ W'.cell? ⟨x, 2, none⟩ = some (.slice ka nk kc) ∧ W'.cell? ⟨x, 3, none⟩ = some (.string nm) ∧ W'.cell? ⟨x, 4, none⟩ = some (.int .i64 num) ∧ Below W.heap.size W W') : Below W.heap.size W W' := hS.2.2.2.2.2

set_option maxRecDepth 100000 in
set_option maxHeartbeats 2000000 in
theorem levels_walk (ka : Option Addr) (nk kc : Nat) (k p num : Int) (nm : ByteArray) (w : World) (hL : LaidP w) : Calls Tryd.prog 3 #[.agg #[.int .i64 k, .int .i64 p, .slice ka nk kc, .string nm, .int .i64 num]] w fun e w' => e = .returned (.bool true) ∧ Below w.heap.size w w' := by
  have hb0 := below1 w (.cells #[.int .i64 k, .int .i64 p, .slice ka nk kc, .string nm, .int .i64 num] 24)
  have HS : Bx (∀ W, Below w.heap.size w W → Calls Tryd.prog 8 #[] W fun e w' => e = .returned (.bool true) ∧ Below W.heap.size W w') := ⟨fun W hb => shown_any W (hL.below hb)⟩
  obtain ⟨y0, y1, y2, y3, y4⟩ := five_new w k p ka nk kc nm num
  have HV : Bx _ := ⟨LevelV_any ka nk kc k p num nm⟩
  have HR : Bx _ := ⟨LevelR_any ka nk kc k p num nm⟩
  generalize levelI k num = lv at *
  have hWs : w.heap.size < (w.alloc (.cells #[.int .i64 k, .int .i64 p, .slice ka nk kc, .string nm, .int .i64 num] 24)).heap.size := by simp
  have HB0 : Bx (∀ W', Below (w.alloc (.cells #[.int .i64 k, .int .i64 p, .slice ka nk kc, .string nm, .int .i64 num] 24)).heap.size (w.alloc (.cells #[.int .i64 k, .int .i64 p, .slice ka nk kc, .string nm, .int .i64 num] 24)) W' → Below w.heap.size w W') := ⟨fun W' h => hb0.trans (h.mono (by simp))⟩
  have hrf : Below (w.alloc (.cells #[.int .i64 k, .int .i64 p, .slice ka nk kc, .string nm, .int .i64 num] 24)).heap.size (w.alloc (.cells #[.int .i64 k, .int .i64 p, .slice ka nk kc, .string nm, .int .i64 num] 24)) (w.alloc (.cells #[.int .i64 k, .int .i64 p, .slice ka nk kc, .string nm, .int .i64 num] 24)).drew := (Below.refl _ _).drew
  generalize hW1 : w.alloc (.cells #[.int .i64 k, .int .i64 p, .slice ka nk kc, .string nm, .int .i64 num] 24) = W1 at *
  have HW1 : Bx _ := ⟨hW1⟩
  clear hb0 hL
  go_enter Tryd.func3, Tryd.ntmps3
  go_wp2_with fail
  go_region_held (fun w' => w'.cell? ⟨w.heap.size, 0, none⟩ = some (.int .i64 k) ∧ w'.cell? ⟨w.heap.size, 1, none⟩ = some (.int .i64 p) ∧ w'.cell? ⟨w.heap.size, 2, none⟩ = some (.slice ka nk kc) ∧ w'.cell? ⟨w.heap.size, 3, none⟩ = some (.string nm) ∧ w'.cell? ⟨w.heap.size, 4, none⟩ = some (.int .i64 num) ∧ Below W1.heap.size W1 w')
    (first | exact ⟨y0, y1, y2, y3, y4, hrf⟩ | exact lev_keep hb1 hWs ‹_›)
    (first | (go_at_call 8; refine Calls.mono (HS.out _ (HB0.out _ hrf)) ?_; rintro e w1 ⟨rfl, hb1⟩) | (go_at_call 9; refine Calls.mono (HV.out _) ?_; rintro e w1 ⟨rfl, hb1⟩) | (go_at_call 10; refine Calls.mono (HR.out _) ?_; rintro e w1 ⟨rfl, hb1⟩))
  all_goals
    have hw1 := lev_last (W := W1) (W' := w1) ‹_›
    go_wp2
    go_ret
    exact ⟨by simp, HB0.out _ hw1⟩
end Go.Proofs.YtfocggaocadkmaaDoor
