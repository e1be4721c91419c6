import Derived.Test.YtfocggaocadkmaaDoorTSum
namespace Go.Proofs.YtfocggaocadkmaaDoor
open Go.RowKit
set_option linter.unusedVariables false
set_option linter.unusedSimpArgs false

structure LaidP (w : World) : Prop where
  laid : Laid w
  pow : Lib.TabIs Tryd.prog w "internal/strconv.uint64pow10" .u64 Lib.pow10Tab
  size : 7 ≤ w.heap.size
theorem LaidP.below {w w' : World} (h : LaidP w) (hb : Below w.heap.size w w') : LaidP w' :=
  ⟨h.laid.below hb, var?_below hb pow_glob (by have := h.size; omega) h.pow, Nat.le_trans h.size hb.size⟩

/-- a new printer -/
theorem new_pb (w : World) (lv : Value) : PB (w.alloc (.cells #[lv, .pointer none, .slice none 0 0] 55)) w.heap.size w.heap.size lv [] :=
  ⟨⟨.pointer none, .slice none 0 0, .inl rfl, heap_alloc_new w _, World.ownsRow_nil _ _ _ _, fun _ => rfl⟩, Nat.le_refl _, by simp⟩

set_option maxRecDepth 100000 in
set_option maxHeartbeats 2000000 in
theorem Print_sum (w : World) (s : Nat) (h : SumAt w s 32) (hL : LaidP w) :
    Calls Tryd.prog 12 #[.slice (some ⟨s + 4, 0, none⟩) 7 7] w fun e w' => e = .returned (.tuple #[.string ⟨#[49, 32, 43, 32, 50, 32, 45, 32, 51, 32, 59]⟩, .int .i64 0]) ∧ Below w.heap.size w w' := by
  have hlt := h.lt
  have HC : Bx _ := ⟨Check_some w (s + 5) (s + 4) 0 7 (sumL 32) (h.nodes ⟨by omega, by omega⟩) hL.laid (by simp [sumL]) (by simp [sumL])⟩
  rw [check_sum] at HC
  have HN : Bx (∀ w1, Below w.heap.size w w1 → Calls Tryd.prog 22 #[.pointer (some ⟨w1.heap.size, 0, none⟩), .int .i64 6] (w1.alloc (.cells #[.slice (some ⟨s + 4, 0, none⟩) 7 7, .pointer none, .slice none 0 0] 55)) fun e W' => e = .returned (.tuple #[]) ∧ PB W' w1.heap.size w1.heap.size (.slice (some ⟨s + 4, 0, none⟩) 7 7) (layT [] (sumG 6)) ∧ Below w.heap.size w W') := ⟨fun w1 hb1 => by
    have hz := hb1.size
    have hb2 : Below w1.heap.size w1 (w1.alloc (.cells #[.slice (some ⟨s + 4, 0, none⟩) 7 7, .pointer none, .slice none 0 0] 55)) := below1 w1 _
    have hL2 := (hL.below hb1).below hb2
    have hS2 : SumAt _ s 32 := (h.below hb1 (by omega)).below hb2 (by omega)
    have hn := sum_nd _ w1.heap.size w1.heap.size s 1000 hS2 (by omega) ⟨hL2.laid, hL2.pow, by have := hL.size; omega⟩ (by omega) 6 (by omega)
    refine (hn _ [] ⟨new_pb w1 _, Below.refl _ _⟩ (by decide)).mono ?_
    rintro e W' ⟨rfl, q1, q2, q3⟩
    exact ⟨rfl, q1.pb, (hb1.trans (hb2.mono hz)).trans (q1.bel.mono hz)⟩⟩
  rw [sum_text] at HN
  clear h hL
  go_enter Tryd.func12, Tryd.ntmps12
  go_wp2_with (first
    | (go_at_call 14; refine Calls.mono HC.out ?_; rintro e w1 ⟨rfl, hb1⟩; have hz1 := hb1.size)
    | (go_at_call 22; refine Calls.mono (HN.out _ hb1) ?_; rintro e w2 ⟨rfl, hp2, hb2⟩; have hl2 := hp2.lt)
    | (go_at_call 23; refine Calls.mono (String_some _ _ _ _ _ hp2 (by simp)) ?_; rintro e w3 ⟨rfl, hb3⟩))
  go_ret2
  exact ⟨rfl, hb2.trans (hb3.mono hz1)⟩

theorem SumAt.mul {W : World} {s : Nat} (h : SumAt W s 32) : SumAt (W.setCell ⟨s + 4, 24, none⟩ (.int .i64 41)) s 41 := by
  refine ⟨?_, ?_, ?_, ?_, ?_⟩
  · rw [heap_setCell_other W ⟨s + 4, 24, none⟩ s _ (by simp)]; exact h.b0
  · rw [heap_setCell_other W ⟨s + 4, 24, none⟩ (s + 1) _ (by simp)]; exact h.b1
  · rw [heap_setCell_other W ⟨s + 4, 24, none⟩ (s + 2) _ (by simp)]; exact h.b2
  · rw [heap_setCell_other W ⟨s + 4, 24, none⟩ (s + 3) _ (by simp)]; exact h.b3
  · rw [heap_setCell_same W (s + 4) 24 (sumC s 32) 24 _ h.b4]
    rfl

set_option maxRecDepth 100000 in
set_option maxHeartbeats 4000000 in
theorem shown_any (w : World) (hL : LaidP w) : Calls Tryd.prog 8 #[] w fun e w' => e = .returned (.bool true) ∧ Below w.heap.size w w' := by
  have HS : Bx _ := ⟨sum_any w⟩
  have HL : Bx (∀ W, Below w.heap.size w W → LaidP W) := ⟨fun W hb => hL.below hb⟩
  have HC1 : Bx (∀ W, SumAt W w.heap.size 32 → LaidP W → Calls Tryd.prog 14 #[.slice (some ⟨w.heap.size + 4, 0, none⟩) 7 7] W fun e w' => e = .returned (.tuple #[.int .i64 0, .int .i64 0]) ∧ Below W.heap.size W w') := ⟨fun W h hl => by
    have := Check_some W (w.heap.size + 5) (w.heap.size + 4) 0 7 (sumL 32) (h.nodes ⟨by omega, by omega⟩) hl.laid (by simp [sumL]) (by simp [sumL])
    rw [check_sum] at this
    exact this⟩
  have HC2 : Bx (∀ W, SumAt W w.heap.size 41 → LaidP W → Calls Tryd.prog 14 #[.slice (some ⟨w.heap.size + 4, 0, none⟩) 7 7] W fun e w' => e = .returned (.tuple #[.int .i64 4, .int .i64 24]) ∧ Below W.heap.size W w') := ⟨fun W h hl => by
    have := Check_some W (w.heap.size + 5) (w.heap.size + 4) 0 7 (sumL 41) (h.nodes ⟨by omega, by omega⟩) hl.laid (by simp [sumL]) (by simp [sumL])
    rw [check_mul] at this
    exact this⟩
  have HH : Bx (∀ W, SumAt W w.heap.size 41 → Calls Tryd.prog 16 #[.slice (some ⟨w.heap.size + 4, 0, none⟩) 7 7] W fun e w' => e = .returned (.slice (some ⟨W.heap.size, 0, none⟩) 7 7) ∧ Below W.heap.size W w') := ⟨fun W h => (Height_some W (w.heap.size + 5) (w.heap.size + 4) 0 7 (sumL 41) (h.nodes ⟨by omega, by omega⟩) (by simp [sumL]) (by simp [sumL])).mono (fun e w' h => ⟨h.1, h.2.2⟩)⟩
  have HV : Bx (∀ W, Calls Tryd.prog 9 #[.agg #[.int .i64 22, .int .i64 0, .slice (some ⟨w.heap.size + 1, 0, none⟩) 2 2, .string ⟨#[]⟩, .int .i64 41]] W fun e w' => e = .returned (.int .i64 5) ∧ Below W.heap.size W w') := ⟨fun W => Level_any (some ⟨w.heap.size + 1, 0, none⟩) 2 ⟨22, 0, [2, 3], ⟨#[]⟩, 41⟩ W⟩
  have T1 : Bx True := ⟨trivial⟩
  have T2 : Bx True := ⟨trivial⟩
  clear hL
  go_enter Tryd.func8, Tryd.ntmps8
  go_wp2_with (first
    | (go_at_call 17; refine Calls.mono HS.out ?_; rintro e w1 ⟨rfl, hs1, hb1⟩; have HS1 : Bx _ := ⟨hs1⟩; have hz1 := hs1.lt; clear hs1)
    | (go_at_call 14; clear T1; refine Calls.mono (HC1.out _ HS1.out (HL.out _ hb1)) ?_; rintro e w2 ⟨rfl, hb2⟩; have HS2 : Bx _ := ⟨HS1.out.below hb2 (by omega)⟩; have hz2 := hb2.size; have hb02 := hb1.trans (hb2.mono (by omega)))
    | (go_at_call 12; refine Calls.mono (Print_sum _ _ HS2.out (HL.out _ hb02)) ?_; rintro e w3 ⟨rfl, hb3⟩; have HS3 : Bx _ := ⟨HS2.out.below hb3 (by omega)⟩; have hz3 := hb3.size; have hb03 := hb02.trans (hb3.mono (by omega)); have c24 := HS3.out.cell 24; have hc24 : w3.cell? ⟨w.heap.size + 4, 24, none⟩ = some (.int .i64 32) := (by rw [c24]; rfl); have hf24 : w3.frozen? ⟨w.heap.size + 4, 24, none⟩ = false := (by simp [World.frozen?, HS3.out.b4]); clear c24; have HS4 : Bx _ := ⟨HS3.out.mul⟩; have hb04 := Below.setCell (p := ⟨w.heap.size + 4, 24, none⟩) hb03 (by simp) (.int .i64 41))
    | (go_at_call 14; clear T2; refine Calls.mono (HC2.out _ HS4.out (HL.out _ hb04)) ?_; rintro e w5 ⟨rfl, hb5⟩; have hz5 := hb5.size; have HS5 : Bx _ := ⟨HS4.out.below hb5 (by simp; omega)⟩; have hb05 := hb04.trans (hb5.mono (by simp; omega)))
    | (go_at_call 14; refine Calls.mono (Check_none _ _ _) ?_; rintro e w6 ⟨rfl, hb6⟩; have hz6 := hb6.size; simp at hz5; have HS6 : Bx _ := ⟨HS5.out.below hb6 (by omega)⟩; have hb06 := hb05.trans (hb6.mono (by omega)))
    | (go_at_call 16; refine Calls.mono (HH.out _ HS6.out) ?_; rintro e w7 ⟨rfl, hb7⟩; have HS7 : Bx _ := ⟨HS6.out.below hb7 (by omega)⟩; have hb07 := hb06.trans (hb7.mono (by omega)); obtain ⟨l0, l1, l2, l3, l4⟩ : Five w7 (w.heap.size + 4) 20 22 0 (some ⟨w.heap.size + 1, 0, none⟩) 2 2 ⟨#[]⟩ 41 := ⟨(HS7.out.cell 20).trans rfl, (HS7.out.cell 21).trans rfl, (HS7.out.cell 22).trans rfl, (HS7.out.cell 23).trans rfl, (HS7.out.cell 24).trans rfl⟩)
    | (go_at_call 9; refine Calls.mono (HV.out _) ?_; rintro e w8 ⟨rfl, hb8⟩))
  go_ret
  exact ⟨rfl, hb07.trans (hb8.mono hb07.size)⟩
end Go.Proofs.YtfocggaocadkmaaDoor
