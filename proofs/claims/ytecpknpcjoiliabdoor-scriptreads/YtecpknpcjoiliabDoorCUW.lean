import Derived.Test.YtecpknpcjoiliabDoorCUR
namespace Go.Proofs.YtecpknpcjoiliabDoor
open Go.RowKit
set_option linter.unusedVariables false
set_option linter.unusedSimpArgs false

theorem Cut_last (p : List UInt8) (w : World) (h : (32 : UInt8) ∉ p) : Calls Tryd.prog 40 #[strV (joinP [p]), strV [32]] w fun e w' => e = .returned (.tuple #[strV p, strV (joinP []), .bool false]) ∧ Below w.heap.size w w' := by
  have e : joinP [p] = p := by simp [joinP]
  rw [e]
  exact Cut_any p p _ false 32 w (cut0_miss p 32 w h)
theorem Cut_more (p q : List UInt8) (r : List (List UInt8)) (w : World) (h : (32 : UInt8) ∉ p) (hm : (joinP (p :: q :: r)).length ≤ 9223372036854775806) : Calls Tryd.prog 40 #[strV (joinP (p :: q :: r)), strV [32]] w fun e w' => e = .returned (.tuple #[strV p, strV (joinP (q :: r)), .bool true]) ∧ Below w.heap.size w w' := by
  rw [joinP_two] at hm ⊢
  exact Cut_any _ p _ true 32 w (cut0_hit p (joinP (q :: r)) 32 w h hm)
theorem Cut_join (p : List UInt8) (P : List (List UInt8)) (w : World) (h : (32 : UInt8) ∉ p) (hm : (joinP (p :: P)).length ≤ 9223372036854775806) : Calls Tryd.prog 40 #[strV (joinP (p :: P)), strV [32]] w fun e w' => e = .returned (.tuple #[strV p, strV (joinP P), .bool (!P.isEmpty)]) ∧ Below w.heap.size w w' := by
  cases P with
  | nil => exact Cut_last p w h
  | cons q r => exact Cut_more p q r w h hm
theorem Cut_none (w : World) : Calls Tryd.prog 40 #[strV (joinP []), strV [32]] w fun e w' => e = .returned (.tuple #[strV [], strV (joinP []), .bool false]) ∧ Below w.heap.size w w' := Cut_any [] [] _ false 32 w (cut0_miss [] 32 w (by simp))
theorem join_le (p : List UInt8) (P : List (List UInt8)) : (joinP P).length ≤ (joinP (p :: P)).length ∧ p.length ≤ (joinP (p :: P)).length := by
  cases P with
  | nil => simp [joinP]
  | cons q r => rw [joinP_two]; simp; omega
/-- the function that takes words off a line, by what it holds: the line that is left (block lb), whether there is a word (block mb) -/
abbrev nextV (lb mb : Nat) : Value := .func (.func 46) #[] #[.pointer (some ⟨mb, 0, none⟩), .pointer (some ⟨lb, 0, none⟩)]
/-- the words that are left -/
structure Nx (w : World) (lb mb : Nat) (P : List (List UInt8)) : Prop where
  l : w.heap[lb]? = some (.cells #[strV (joinP P)] 9 (0, 0))
  m : w.heap[mb]? = some (.cells #[.bool (!P.isEmpty)] 4 (0, 0))
  no : ∀ p ∈ P, (32 : UInt8) ∉ p
  len : (joinP P).length ≤ 281474976710656
theorem Nx.ne {w : World} {lb mb : Nat} {P : List (List UInt8)} (h : Nx w lb mb P) : lb ≠ mb := fun e => by
  have h1 := h.l
  rw [e, h.m] at h1
  simp at h1
theorem Nx.on {Q : Nat → Prop} {w w' : World} {lb mb : Nat} {P : List (List UInt8)} (h : Nx w lb mb P) (hk : Kx Q w w') (h1 : ¬ Q lb) (h2 : ¬ Q mb) : Nx w' lb mb P := ⟨hk.at_ h.l h1, hk.at_ h.m h2, h.no, h.len⟩
theorem words_any (line : List UInt8) (w : World) (hl : line.length ≤ 281474976710656) :
    Calls Tryd.prog 41 #[strV line] w fun e w' => e = .returned (nextV w.heap.size (w.heap.size + 1)) ∧ Nx w' w.heap.size (w.heap.size + 1) ((pieces 32 line).1 :: (pieces 32 line).2) ∧ w'.heap.size = w.heap.size + 2 ∧ Below w.heap.size w w' := by
  go_enter Tryd.func41, Tryd.ntmps41
  go_wp2
  go_ret
  refine ⟨rfl, ⟨?_, ?_, ?_, ?_⟩, by simp, (below1 w _).alloc (by simp) _⟩
  · have hj : joinP ((pieces 32 line).1 :: (pieces 32 line).2) = line := pieces_join 32 line
    rw [hj]
    exact below_heap (below1 _ _) (heap_newH w _ _ rfl)
  · exact heap_newH _ _ _ (by simp)
  · intro p hp
    obtain ⟨hp1, hp2⟩ := pieces_no 32 line
    rcases List.mem_cons.1 hp with rfl | hp
    · exact hp1
    · exact hp2 p hp
  · have hj : joinP ((pieces 32 line).1 :: (pieces 32 line).2) = line := pieces_join 32 line
    rw [hj]; exact hl
/-- behind a word -/
theorem Nx.next {w w1 : World} {lb mb : Nat} {p : List UInt8} {P : List (List UInt8)} (h : Nx w lb mb (p :: P)) (hb : Below w.heap.size w w1) :
    Nx ((w1.setCell ⟨lb, 0, none⟩ (strV (joinP P))).setCell ⟨mb, 0, none⟩ (.bool (!P.isEmpty))) lb mb P := by
  have hne := h.ne
  have l1 := below_heap hb h.l
  have m1 := below_heap hb h.m
  refine ⟨?_, ?_, fun q hq => h.no q (List.mem_cons_of_mem _ hq), Nat.le_trans (join_le p P).1 h.len⟩
  · rw [Below.heap_setCell _ _ _ _ (by simpa using hne)]
    have := Lib.heap_setCell_same (i := 0) l1 (strV (joinP P))
    simpa using this
  · have e : (w1.setCell ⟨lb, 0, none⟩ (strV (joinP P))).heap[mb]? = some (.cells #[.bool (!(p :: P).isEmpty)] 4 (0, 0)) := by
      rw [Below.heap_setCell _ _ _ _ (by simpa using hne.symm)]; exact m1
    have := Lib.heap_setCell_same (i := 0) e (.bool (!P.isEmpty))
    simpa using this
theorem Nx.kx {w w1 : World} {lb mb : Nat} (u v : Value) (hb : Below w.heap.size w w1) : Kx (fun x => x = lb ∨ x = mb) w ((w1.setCell ⟨lb, 0, none⟩ u).setCell ⟨mb, 0, none⟩ v) :=
  ((Kx.new hb).trans (Kx.set (P := fun x => x = lb ∨ x = mb) w1 0 u (Or.inl rfl)) fun _ _ h => h).trans (Kx.set (P := fun x => x = lb ∨ x = mb) _ 0 v (Or.inr rfl)) fun _ _ h => h
set_option maxRecDepth 100000 in
set_option maxHeartbeats 2000000 in
theorem next_yes (w : World) (lb mb : Nat) (p : List UInt8) (P : List (List UInt8)) (h : Nx w lb mb (p :: P)) :
    Calls Tryd.prog 46 #[.pointer (some ⟨mb, 0, none⟩), .pointer (some ⟨lb, 0, none⟩)] w fun e w' => e = .returned (.tuple #[strV p, .bool true]) ∧ Nx w' lb mb P ∧ Kx (fun x => x = lb ∨ x = mb) w w' := by
  have HC : Bx _ := ⟨Cut_join p P w (h.no p List.mem_cons_self) (by have := h.len; omega)⟩
  have c1 : w.cell? ⟨lb, 0, none⟩ = some (strV (joinP (p :: P))) := cell_blk h.l rfl
  have c2 : w.cell? ⟨mb, 0, none⟩ = some (.bool true) := cell_blk h.m rfl
  have HD : Bx (∀ w1, Below w.heap.size w w1 → w1.cell? ⟨lb, 0, none⟩ = some (strV (joinP (p :: P))) ∧ w1.frozen? ⟨lb, 0, none⟩ = false ∧ w1.cell? ⟨mb, 0, none⟩ = some (.bool true) ∧ w1.frozen? ⟨mb, 0, none⟩ = false) := ⟨fun w1 hb => ⟨cell_blk (below_heap hb h.l) rfl, frz_blk (below_heap hb h.l), cell_blk (below_heap hb h.m) rfl, frz_blk (below_heap hb h.m)⟩⟩
  have HE : Bx (∀ w1, Below w.heap.size w w1 → Nx ((w1.setCell ⟨lb, 0, none⟩ (strV (joinP P))).setCell ⟨mb, 0, none⟩ (.bool (!P.isEmpty))) lb mb P ∧ Kx (fun x => x = lb ∨ x = mb) w ((w1.setCell ⟨lb, 0, none⟩ (strV (joinP P))).setCell ⟨mb, 0, none⟩ (.bool (!P.isEmpty)))) := ⟨fun w1 hb => ⟨h.next hb, Nx.kx _ _ hb⟩⟩
  have hne : mb ≠ lb := h.ne.symm
  clear h
  generalize joinP (p :: P) = J at *
  generalize joinP P = J1 at *
  generalize (!P.isEmpty) = b at *
  go_enter Tryd.func46, Tryd.ntmps46
  go_wp2_with (go_at_call 40; refine HC.out.mono ?_; rintro e w1 ⟨rfl, hb1⟩; obtain ⟨x1, x2, x3, x4⟩ := HD.out w1 hb1; have HB1 : Bx _ := ⟨HE.out w1 hb1⟩; clear hb1)
  go_ret2
  exact ⟨rfl, HB1.out⟩
set_option maxRecDepth 100000 in
set_option maxHeartbeats 2000000 in
theorem next_no (w : World) (lb mb : Nat) (h : Nx w lb mb []) :
    Calls Tryd.prog 46 #[.pointer (some ⟨mb, 0, none⟩), .pointer (some ⟨lb, 0, none⟩)] w fun e w' => e = .returned (.tuple #[strV [], .bool false]) ∧ Nx w' lb mb [] ∧ Kx (fun x => x = lb ∨ x = mb) w w' := by
  have HC : Bx _ := ⟨Cut_none w⟩
  have c1 : w.cell? ⟨lb, 0, none⟩ = some (strV (joinP [])) := cell_blk h.l rfl
  have c2 : w.cell? ⟨mb, 0, none⟩ = some (.bool false) := cell_blk h.m rfl
  have HD : Bx (∀ w1, Below w.heap.size w w1 → w1.cell? ⟨lb, 0, none⟩ = some (strV (joinP [])) ∧ w1.frozen? ⟨lb, 0, none⟩ = false ∧ w1.cell? ⟨mb, 0, none⟩ = some (.bool false) ∧ w1.frozen? ⟨mb, 0, none⟩ = false) := ⟨fun w1 hb => ⟨cell_blk (below_heap hb h.l) rfl, frz_blk (below_heap hb h.l), cell_blk (below_heap hb h.m) rfl, frz_blk (below_heap hb h.m)⟩⟩
  have hne : mb ≠ lb := h.ne.symm
  have HE : Bx (∀ w1, Below w.heap.size w w1 → Nx ((w1.setCell ⟨lb, 0, none⟩ (strV (joinP []))).setCell ⟨mb, 0, none⟩ (.bool false)) lb mb [] ∧ Kx (fun x => x = lb ∨ x = mb) w ((w1.setCell ⟨lb, 0, none⟩ (strV (joinP []))).setCell ⟨mb, 0, none⟩ (.bool false))) := ⟨fun w1 hb => by
    have l1 := below_heap hb h.l
    have m1 := below_heap hb h.m
    refine ⟨⟨?_, ?_, h.no, h.len⟩, Nx.kx _ _ hb⟩
    · rw [Below.heap_setCell _ _ _ _ (by simpa using hne.symm)]
      have := Lib.heap_setCell_same (i := 0) l1 (strV (joinP []))
      simpa using this
    · have e : (w1.setCell ⟨lb, 0, none⟩ (strV (joinP []))).heap[mb]? = some (.cells #[.bool false] 4 (0, 0)) := by
        rw [Below.heap_setCell _ _ _ _ (by simpa using hne)]; exact m1
      have := Lib.heap_setCell_same (i := 0) e (.bool false)
      simpa using this⟩
  clear h
  generalize joinP [] = J at *
  go_enter Tryd.func46, Tryd.ntmps46
  go_wp2_with (go_at_call 40; refine HC.out.mono ?_; rintro e w1 ⟨rfl, hb1⟩; obtain ⟨x1, x2, x3, x4⟩ := HD.out w1 hb1; have HB1 : Bx _ := ⟨HE.out w1 hb1⟩; clear hb1)
  go_ret2
  exact ⟨rfl, HB1.out⟩
end Go.Proofs.YtecpknpcjoiliabDoor
