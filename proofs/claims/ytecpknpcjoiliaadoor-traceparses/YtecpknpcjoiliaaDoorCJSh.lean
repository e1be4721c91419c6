import Derived.Test.YtecpknpcjoiliaaDoorCJPb
import Derived.Test.YtecpknpcjoiliaaDoorCJQ
namespace Go.Proofs.YtecpknpcjoiliaaDoor
open Go.RowKit
set_option linter.unusedVariables false
set_option linter.unusedSimpArgs false

abbrev shT : List UInt8 := [98, 111, 114, 110, 32, 48, 32, 49, 10, 109, 101, 101, 116, 32, 49, 32, 48, 32, 48, 32, 48, 32, 51, 10, 112, 114, 111, 98, 101, 32, 48, 32, 50, 10, 116, 114, 97, 112, 32, 50, 32, 105, 110, 100, 101, 120, 10, 105, 100, 108, 101, 10]
abbrev shD : List UInt8 := [101, 120, 105, 116, 32, 48, 10, 101, 120, 105, 116, 32, 48, 48, 10]
def shE : List Ev := [⟨1, 0, 0, 1, 0, 0, 0, []⟩, ⟨2, 1, 0, 0, 0, 3, 0, []⟩, ⟨9, 0, 0, 0, 0, 0, 0, [0, 2]⟩, ⟨6, 2, 0, 0, 0, 0, 2, []⟩, ⟨8, 0, 0, 0, 0, 0, 0, []⟩]
theorem i64s (n : Int) (h : (decide (-9223372036854775808 ≤ n) && decide (n ≤ 9223372036854775807)) = true) : I64 n := by
  simp only [Bool.and_eq_true, decide_eq_true_eq] at h
  exact h
theorem shE_wf : ∀ e ∈ shE, e.Wf := by
  intro e he
  simp only [shE, List.mem_cons, List.not_mem_nil, or_false] at he
  rcases he with rfl | rfl | rfl | rfl | rfl
  all_goals
    refine ⟨i64s _ (by decide), i64s _ (by decide), i64s _ (by decide), i64s _ (by decide), i64s _ (by decide), i64s _ (by decide), i64s _ (by decide), fun n hn => ?_⟩
    simp only [List.mem_cons, List.not_mem_nil, or_false] at hn
  · rcases hn with rfl | rfl <;> exact i64s _ (by decide)
theorem shE_print : printE shE = (shT, 0) := by kernel_rfl
theorem shD_read : readE shD = .no 2 := by kernel_rfl
theorem shC : chkE ⟨5, -1, 0, 0, 0, 0, 0, []⟩ = 180 := by kernel_rfl
abbrev shI : Obj := .cells #[.int .i64 0, .int .i64 2] 3 (0, 0)
abbrev shO (H : Nat) : Obj := .cells #[.int .i64 1, .int .i64 0, .int .i64 0, .int .i64 1, .int .i64 0, .int .i64 0, .int .i64 0, .slice none 0 0, .int .i64 2, .int .i64 1, .int .i64 0, .int .i64 0, .int .i64 0, .int .i64 3, .int .i64 0, .slice none 0 0, .int .i64 9, .int .i64 0, .int .i64 0, .int .i64 0, .int .i64 0, .int .i64 0, .int .i64 0, .slice (some ⟨H, 0, none⟩) 2 2, .int .i64 6, .int .i64 2, .int .i64 0, .int .i64 0, .int .i64 0, .int .i64 0, .int .i64 2, .slice none 0 0, .int .i64 8, .int .i64 0, .int .i64 0, .int .i64 0, .int .i64 0, .int .i64 0, .int .i64 0, .slice none 0 0] 24 (0, 0)
set_option maxRecDepth 100000 in
theorem shE_in {W : World} {H : Nat} (h1 : W.heap[H]? = some shI) (h2 : W.heap[H + 1]? = some (shO H)) : EvsV W W.heap.size (some ⟨H + 1, 0, none⟩) shE := by
  have hz := heap_lt h1
  have hz2 := heap_lt h2
  have hiv : IntsV W W.heap.size (some ⟨H, 0, none⟩) 2 [0, 2] := ⟨by simp, by simp [maxLen], fun _ => ⟨H, 0, rfl, hz, fun i hi => by
    match i, hi with
    | 0, _ => exact cell_blk h1 rfl
    | 1, _ => exact cell_blk h1 rfl⟩⟩
  refine ⟨by simp [shE, maxLen], fun _ => ⟨H + 1, 0, rfl, hz2, fun i hi => ?_⟩⟩
  match i, hi with
  | 0, _ => exact ⟨none, 0, cell_blk h2 rfl, cell_blk h2 rfl, cell_blk h2 rfl, cell_blk h2 rfl, cell_blk h2 rfl, cell_blk h2 rfl, cell_blk h2 rfl, cell_blk h2 rfl, intsV_nil _ _ _ _⟩
  | 1, _ => exact ⟨none, 0, cell_blk h2 rfl, cell_blk h2 rfl, cell_blk h2 rfl, cell_blk h2 rfl, cell_blk h2 rfl, cell_blk h2 rfl, cell_blk h2 rfl, cell_blk h2 rfl, intsV_nil _ _ _ _⟩
  | 2, _ => exact ⟨some ⟨H, 0, none⟩, 2, cell_blk h2 rfl, cell_blk h2 rfl, cell_blk h2 rfl, cell_blk h2 rfl, cell_blk h2 rfl, cell_blk h2 rfl, cell_blk h2 rfl, cell_blk h2 rfl, hiv⟩
  | 3, _ => exact ⟨none, 0, cell_blk h2 rfl, cell_blk h2 rfl, cell_blk h2 rfl, cell_blk h2 rfl, cell_blk h2 rfl, cell_blk h2 rfl, cell_blk h2 rfl, cell_blk h2 rfl, intsV_nil _ _ _ _⟩
  | 4, _ => exact ⟨none, 0, cell_blk h2 rfl, cell_blk h2 rfl, cell_blk h2 rfl, cell_blk h2 rfl, cell_blk h2 rfl, cell_blk h2 rfl, cell_blk h2 rfl, cell_blk h2 rfl, intsV_nil _ _ _ _⟩
set_option maxRecDepth 100000 in
set_option maxHeartbeats 8000000 in
theorem shown_any (w : World) (hL : LW w) : Calls Tryd.prog 9 #[] w fun e w' => e = .returned (.bool true) ∧ Bx (Below w.heap.size w w') := by
  obtain ⟨H, hH⟩ : ∃ H, w.heap.size = H := ⟨_, rfl⟩
  rw [hH]
  obtain ⟨W2, hW2⟩ : ∃ W2, (w.alloc shI).alloc (shO H) = W2 := ⟨_, rfl⟩
  have hb2 : Below H w W2 := by rw [← hW2, ← hH]; exact (below1 _ _).alloc (by simp) _
  have g1 : W2.heap[H]? = some shI := by
    rw [← hW2, Below.heap_alloc _ _ _ (by simp; omega)]
    exact heap_newH w _ H hH
  have g2 : W2.heap[H + 1]? = some (shO H) := by
    rw [← hW2]
    exact heap_newH _ _ _ (by simp [hH])
  have HPR : Bx (Calls Tryd.prog 14 #[.slice (some ⟨H + 1, 0, none⟩) 5 5] W2 fun e w' => e = .returned (.tuple #[strV shT, .int .i64 0]) ∧ Below H w w') := ⟨by
    have := Print_any W2 (hL.below (by rw [hH]; exact hb2)) (some ⟨H + 1, 0, none⟩) 5 shE (shE_in g1 g2) shE_wf (by decide)
    rw [shE_print] at this
    exact this.mono fun e w' h => ⟨h.1, hb2.trans (h.2.out.mono (by have := heap_lt g1; omega))⟩⟩
  have HPS : Bx (∀ W, Below H w W → Calls Tryd.prog 18 #[strV shD] W fun e w' => e = .returned (.tuple #[.slice none 0 0, .int .i64 2, .int .i64 180]) ∧ Below H w w') := ⟨fun W hb => by
    have := Parse_any shD W (hL.below (by rw [hH]; exact hb)) (by decide)
    rw [shD_read] at this
    exact this.mono fun e w' h => ⟨h.2, hb.trans (h.1.out.mono (by have := hb.size; omega))⟩⟩
  have HCK : Bx (∀ W, Below H w W → Calls Tryd.prog 10 #[.agg #[.int .i64 5, .int .i64 (-1), .int .i64 0, .int .i64 0, .int .i64 0, .int .i64 0, .int .i64 0, .slice none 0 0]] W fun e w' => e = .returned (.int .i64 180) ∧ Below H w w') := ⟨fun W hb => by
    have := Check_any ⟨5, -1, 0, 0, 0, 0, 0, []⟩ none 0 W (hL.below (by rw [hH]; exact hb)).shp (intsV_nil _ _ _ _)
    rw [shC] at this
    exact this.mono fun e w' h => ⟨h.1, hb.trans (h.2.mono (by have := hb.size; omega))⟩⟩
  clear hb2 g1 g2 hL
  go_enter Tryd.func9, Tryd.ntmps9
  go_wp2_with (first
    | (go_at_call 14; refine HPR.out.mono ?_; rintro e w3 ⟨rfl, hb3⟩; have HB3 : Bx _ := ⟨hb3⟩; clear hb3)
    | (go_at_call 18; refine (HPS.out _ HB3.out).mono ?_; rintro e w4 ⟨rfl, hb4⟩; have HB4 : Bx _ := ⟨hb4⟩; clear hb4)
    | (go_at_call 10; refine (HCK.out _ HB4.out).mono ?_; rintro e w5 ⟨rfl, hb5⟩; have HB5 : Bx _ := ⟨hb5⟩; clear hb5))
  go_ret
  exact ⟨rfl, HB5⟩
end Go.Proofs.YtecpknpcjoiliaaDoor
