import Derived.Test.YtecpknpcjoiliabDoorCUY
import Derived.Test.YtecpknpcjoiliabDoorCUPd
namespace Go.Proofs.YtecpknpcjoiliabDoor
open Go.RowKit
set_option linter.unusedVariables false
set_option linter.unusedSimpArgs false

abbrev shT : List UInt8 := [108, 105, 109, 105, 116, 115, 32, 57, 32, 57, 32, 57, 32, 57, 57, 32, 57, 57, 57, 32, 57, 32, 57, 57, 10, 114, 101, 97, 112, 10, 115, 116, 101, 112, 32, 48, 10, 105, 110, 32, 48, 32, 45, 55, 10, 112, 114, 111, 98, 101, 10]
abbrev shB : List UInt8 := [108, 105, 109, 105, 116, 115, 32, 49, 32, 50, 32, 51, 10]
def shS : Sc := ⟨⟨9, 9, 9, 99, 999, 9, 99⟩, true, [⟨1, 0, 0⟩, ⟨2, 0, -7⟩, ⟨4, 0, 0⟩]⟩
theorem i64s (n : Int) (h : (decide (-9223372036854775808 ≤ n) && decide (n ≤ 9223372036854775807)) = true) : I64 n := by
  simp only [Bool.and_eq_true, decide_eq_true_eq] at h
  exact h
theorem shS_wf : shS.Wf := by
  refine ⟨fun x hx => ?_, fun p hp => ?_⟩
  · simp only [shS, lmL, List.mem_cons, List.not_mem_nil, or_false] at hx
    rcases hx with rfl | rfl | rfl | rfl | rfl | rfl | rfl <;> exact i64s _ (by decide)
  · simp only [shS, List.mem_cons, List.not_mem_nil, or_false] at hp
    rcases hp with rfl | rfl | rfl <;> exact ⟨i64s _ (by decide), i64s _ (by decide), i64s _ (by decide)⟩
theorem shS_fit : fitS shS = true := by decide
theorem shS_text : textS shS = shT := by kernel_rfl
theorem shT_read : readS shT = .yes shS := by rw [← shS_text]; exact read_write shS_wf shS_fit
theorem shB_read : readS shB = .no (1, 171) := by kernel_rfl
theorem shS_write : writeS shS = (shT, 0) := by rw [writeS_fit shS_fit, shS_text]
/-- where picks lie -/
theorem PkO.row {w : World} {B : Nat} {a : Option Addr} {n cap : Nat} {ps : List Pk} (h : PkO w B (.slice a n cap) ps) (h0 : 0 < ps.length) : ∃ g, a = some ⟨g, 0, none⟩ ∧ B ≤ g ∧ g < w.heap.size ∧ ∀ (j : Nat) (x : Value), (pkC ps)[j]? = some x → w.cell? ⟨g, j, none⟩ = some x := by
  rcases h.own.2 with ⟨e, hn⟩ | ⟨g, c, cur, e, hB, hg, q1, q2, q3, q4⟩
  · exact absurd h0 (by omega)
  · simp only [Value.slice.injEq] at e
    obtain ⟨rfl, rfl, rfl⟩ := e
    refine ⟨g, rfl, hB, heap_lt hg, fun j x hj => cell_blk hg ?_⟩
    have hl := pkC_len ps
    have e4 := congrArg (fun L => L[j]?) q4
    have hj2 : j < ps.length * 3 := by rw [← hl]; exact (List.getElem?_eq_some_iff.1 hj).1
    simp only [hj] at e4
    rw [List.getElem?_take_of_lt hj2, Array.getElem?_toList] at e4
    exact e4
set_option maxRecDepth 100000 in
set_option maxHeartbeats 8000000 in
theorem shown_any (w : World) (hL : LW w) : Calls Tryd.prog 4 #[] w fun e w' => e = .returned (.bool true) ∧ Bx (Below w.heap.size w w') := by
  have HP1 : Bx (Calls Tryd.prog 5 #[strV shT] w fun e w' => ∃ g pc, e = .returned (.tuple #[scV ⟨9, 9, 9, 99, 999, 9, 99⟩ true (.slice (some ⟨g, 0, none⟩) 3 pc), .int .i64 0, .int .i64 0]) ∧ Bx (Below w.heap.size w w' ∧ PkV w' w'.heap.size (some ⟨g, 0, none⟩) shS.picks) ∧ ∀ o, (w'.alloc o).cell? ⟨g, 3, none⟩ = some (.int .i64 2) ∧ (w'.alloc o).cell? ⟨g, 4, none⟩ = some (.int .i64 0) ∧ (w'.alloc o).cell? ⟨g, 5, none⟩ = some (.int .i64 (-7))) := ⟨by
    refine (Parse_any w hL shT (by decide)).mono ?_
    rintro e w' ⟨v, k, c, rfl, H⟩
    have H2 := H.out
    rw [shT_read] at H2
    obtain ⟨hb, rfl, rfl, pa, pc, rfl, hp⟩ := H2
    obtain ⟨g, rfl, hB, hgl, hc⟩ := hp.row (by decide)
    refine ⟨g, pc, rfl, ⟨hb, hp.view⟩, fun o => ?_⟩
    have hk : ∀ i, (w'.alloc o).cell? ⟨g, i, none⟩ = w'.cell? ⟨g, i, none⟩ := fun i => (below1 w' o).cell (p := ⟨g, i, none⟩) hgl
    exact ⟨by rw [hk]; exact hc 3 _ rfl, by rw [hk]; exact hc 4 _ rfl, by rw [hk]; exact hc 5 _ rfl⟩⟩
  have HPR : Bx (∀ w1 g pc o, Below w.heap.size w w1 ∧ PkV w1 w1.heap.size (some ⟨g, 0, none⟩) shS.picks → Calls Tryd.prog 10 #[scV ⟨9, 9, 9, 99, 999, 9, 99⟩ true (.slice (some ⟨g, 0, none⟩) 3 pc)] (w1.alloc o) fun e w' => e = .returned (.tuple #[strV shT, .int .i64 0]) ∧ Bx (Below w.heap.size w w')) := ⟨fun w1 g pc o h => by
    have hb := below1 w1 o
    have hbw := h.1.trans (hb.mono h.1.size)
    have := Print_any (w1.alloc o) (hL.below hbw) shS shS_wf (some ⟨g, 0, none⟩) pc ((h.2.below hb).up hb.size)
    rw [shS_write] at this
    refine this.mono ?_
    rintro e w' ⟨rfl, H⟩
    exact ⟨rfl, ⟨hbw.trans (H.out.mono hbw.size)⟩⟩⟩
  have HP2 : Bx (∀ w1, Below w.heap.size w w1 → Calls Tryd.prog 5 #[strV shB] w1 fun e w' => e = .returned (.tuple #[scV zrM false (.slice none 0 0), .int .i64 1, .int .i64 171]) ∧ Bx (∀ o, Below w.heap.size w (w'.alloc o))) := ⟨fun w1 hb => by
    refine (Parse_any w1 (hL.below hb) shB (by decide)).mono ?_
    rintro e w' ⟨v, k, c, rfl, H⟩
    have H2 := H.out
    rw [shB_read] at H2
    obtain ⟨hb2, rfl, rfl, rfl⟩ := H2
    have hbw := hb.trans (hb2.mono hb.size)
    exact ⟨rfl, ⟨fun o => hbw.alloc hbw.size o⟩⟩⟩
  clear hL
  go_enter Tryd.func4, Tryd.ntmps4
  go_wp2_with (first
    | (go_at_call 5; refine (HP2.out _ H2.out).mono ?_; rintro e w3 ⟨rfl, H3⟩)
    | (go_at_call 5; refine HP1.out.mono ?_; rintro e w1 ⟨g, pc, rfl, H1, hcl⟩; obtain ⟨k3, k4, k5⟩ := hcl (.cells #[.int .i64 9, .int .i64 9, .int .i64 9, .int .i64 99, .int .i64 999, .int .i64 9, .int .i64 99, .bool true, .slice (some ⟨g, 0, none⟩) 3 pc] 31); clear hcl HP1)
    | (go_at_call 10; refine (HPR.out w1 g pc _ H1.out).mono ?_; rintro e w2 ⟨rfl, H2⟩))
  go_ret
  exact ⟨rfl, ⟨H3.out _⟩⟩
end Go.Proofs.YtecpknpcjoiliabDoor
