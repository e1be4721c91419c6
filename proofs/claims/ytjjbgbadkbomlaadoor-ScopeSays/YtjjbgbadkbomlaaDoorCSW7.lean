import Derived.Test.YtjjbgbadkbomlaaDoorCSW5
namespace Go.Proofs.YtjjbgbadkbomlaaDoor
open Go.RowKit Go.Maps
set_option linter.unusedVariables false
set_option linter.unusedSimpArgs false

theorem ST.rebase {B nb no nc : Nat} {l : List Nd} {W0 W W2 W4 : World} {s s4 : SSt} {G0 G G4 : WG} (h : ST B nb no nc l W0 G0 W s G) (hb : Below W.heap.size W W2) (h4 : ST B nb no nc l W2 G W4 s4 G4) : ST B nb no nc l W0 G0 W4 s4 G4 :=
  ⟨h4.rel, h4.nds, (h.fr.trans (Fr.below hb (Nat.le_of_lt h.rel.Bs))).trans h4.fr⟩
theorem ST.wbs {B nb no nc : Nat} {l : List Nd} {W0 W W' : World} {s s' : SSt} {G0 G G' : WG} (h : ST B nb no nc l W0 G0 W s G) (h' : ST B nb no nc l W0 G0 W' s' G') : G'.wb = G.wb := h'.fr.wb.trans h.fr.wb.symm
theorem SRel.new_out {B : Nat} {lv : Value} {N : Nat} {W : World} {s : SSt} {G : WG} (h : SRel B lv N W s G) {b : Nat} (hb : W.heap.size ≤ b) : G.lab b = .out := by
  cases e : G.lab b with
  | out => rfl
  | _ => have := (h.lo b (by rw [e]; simp)).2; omega
/-- a cell of another's: it stays -/
theorem ST.cell_far {B nb no nc : Nat} {l : List Nd} {W0 W : World} {s : SSt} {G0 G : WG} (h : ST B nb no nc l W0 G0 W s G) {b j : Nat} {v : Value} (hl : G0.lab b = .out) (hc : W0.cell? ⟨b, j, none⟩ = some v) : W.cell? ⟨b, j, none⟩ = some v := by
  have hlt : b < W0.heap.size := World.block_lt_of_cell? W0 _ hc
  rw [← hc]
  exact World.cell?_of_block (h.fr.keep b hlt hl).1
set_option maxHeartbeats 2000000 in
set_option maxRecDepth 100000 in
theorem visit_13 {B nb no nc : Nat} {l : List Nd} {W0 W : World} {s : SSt} {G0 G : WG} (i : Nat) (h : ST B nb no nc l W0 G0 W s G) (hi : i < l.length) (hk : kdN l i = 13)
    (HN : ∀ W2, ST B nb no nc l W2 G W2 s G → Calls Tryd.prog 24 #[.pointer (some ⟨G.wb, 0, none⟩), .int .i64 i] W2 fun e W' => e = .returned (.tuple #[]) ∧ ∃ G', ST B nb no nc l W2 G W' (nameP l i s) G') :
    Calls Tryd.prog 19 #[.pointer (some ⟨G.wb, 0, none⟩), .int .i64 i] W fun e W' => e = .returned (.tuple #[]) ∧ ∃ G', ST B nb no nc l W0 G0 W' (nameP l i s) G' := by
  have hw0 := h.rel.cw 0
  simp only [wlkC] at hw0
  simp at hw0
  obtain ⟨ka, kc, ⟨c0, c1, c2, c3, c4, hks⟩⟩ := h.nds.at_ i hi
  change W.cell? _ = some (.int .i64 (kdN l i)) at c0
  rw [hk] at c0
  have hmax := h.nds.max
  unfold maxLen at hmax
  obtain ⟨W1, hW1⟩ : ∃ W1, W.alloc (.cells #[.pointer (some ⟨G.wb, 0, none⟩)] 49) = W1 := ⟨_, rfl⟩
  have b1 : Below W.heap.size W W1 := by rw [← hW1]; exact (Below.refl _ _).alloc (Nat.le_refl _) _
  have s1 : W1.heap.size = W.heap.size + 1 := by rw [← hW1]; simp
  have z1 : W1.cell? ⟨W.heap.size, 0, none⟩ = some (.pointer (some ⟨G.wb, 0, none⟩)) := by rw [← hW1]; exact cell_of_one (heap_alloc_new W _)
  have hlw : G.wb < W.heap.size := h.rel.lt h.rel.lwb (by simp)
  have hln : nb < W.heap.size := Nat.lt_of_lt_of_le h.nds.lo h.nds.hi
  have hw0' : W1.cell? ⟨G.wb, 0, none⟩ = some (.slice (some ⟨nb, no, none⟩) l.length nc) := by rw [b1.cell (p := ⟨G.wb, 0, none⟩) hlw]; exact hw0
  rw [← b1.cell (p := ⟨nb, no + i * 5, none⟩) hln] at c0
  rw [← b1.cell (p := ⟨nb, no + i * 5 + 1, none⟩) hln] at c1
  rw [← b1.cell (p := ⟨nb, no + i * 5 + 2, none⟩) hln] at c2
  rw [← b1.cell (p := ⟨nb, no + i * 5 + 3, none⟩) hln] at c3
  rw [← b1.cell (p := ⟨nb, no + i * 5 + 4, none⟩) hln] at c4
  obtain ⟨W2, hW2⟩ : ∃ W2, W1.alloc (.cells #[.int .i64 13, .int .i64 (ndN l i).pos, .slice ka (ndN l i).kids.length kc, .string (ndN l i).name, .int .i64 (ndN l i).num] 36) = W2 := ⟨_, rfl⟩
  have b12 : Below W1.heap.size W1 W2 := by rw [← hW2]; exact (Below.refl _ _).alloc (Nat.le_refl _) _
  have b2 : Below W.heap.size W W2 := b1.trans (b12.mono (by omega))
  have z2 : W2.cell? ⟨W.heap.size, 0, none⟩ = some (.pointer (some ⟨G.wb, 0, none⟩)) := by rw [b12.cell (p := ⟨W.heap.size, 0, none⟩) (show W.heap.size < _ by omega)]; exact z1
  have y2 : W2.cell? ⟨W1.heap.size, 2, none⟩ = some (.slice ka (ndN l i).kids.length kc) := by rw [← hW2, cell_of_row _ _ 2 _ _ _ (heap_alloc_new W1 _)]; rfl
  have y0 : W2.cell? ⟨W1.heap.size, 0, none⟩ = some (.int .i64 13) := by rw [← hW2, cell_of_row _ _ 0 _ _ _ (heap_alloc_new W1 _)]; rfl
  rw [s1] at y0 y2
  have hks2 := hks.below (b2.mono h.nds.hi)
  have hst2 := ST.start (h.rel.below b2) (h.nds.below (b2.mono h.nds.hi))
  have HRB := Bx.mk fun (W4 : World) (s4 : SSt) (G4 : WG) (h4 : ST B nb no nc l W2 G W4 s4 G4) => h.rebase b2 h4
  have HC := Bx.mk (HN W2 hst2)
  clear HN
  clear h b1 hw0 hks b12 hst2 hks2
  go_enter Tryd.func19, Tryd.ntmps19
  go_wp2_with (first
    | (go_at_call 24; refine Calls.mono HC.out ?_; rintro e W4 ⟨rfl, G4, h4⟩; replace h4 := Bx.mk (HRB.out _ _ _ h4)))
  go_end0
  exact ⟨rfl, _, h4.out⟩
set_option maxHeartbeats 2000000 in
set_option maxRecDepth 100000 in
theorem visit_other {B nb no nc : Nat} {l : List Nd} {W0 W : World} {s : SSt} {G0 G : WG} (i : Nat) (h : ST B nb no nc l W0 G0 W s G) (hi : i < l.length) (hk : kdN l i ≠ 13 ∧ kdN l i ≠ 20 ∧ kdN l i ≠ 43 ∧ kdN l i ≠ 41 ∧ kdN l i ≠ 46 ∧ kdN l i ≠ 31 ∧ kdN l i ≠ 32 ∧ kdN l i ≠ 42 ∧ kdN l i ≠ 33)
    (s3 : SSt) (HN : ∀ W2 ka kc, ST B nb no nc l W2 G W2 s G → IntsV W2 B (.slice ka (ndN l i).kids.length kc) (ndN l i).kids → Calls Tryd.prog 29 #[.pointer (some ⟨G.wb, 0, none⟩), .slice ka (ndN l i).kids.length kc] W2 fun e W' => e = .returned (.tuple #[]) ∧ ∃ G', ST B nb no nc l W2 G W' s3 G') :
    Calls Tryd.prog 19 #[.pointer (some ⟨G.wb, 0, none⟩), .int .i64 i] W fun e W' => e = .returned (.tuple #[]) ∧ ∃ G', ST B nb no nc l W0 G0 W' s3 G' := by
  have hw0 := h.rel.cw 0
  simp only [wlkC] at hw0
  simp at hw0
  obtain ⟨ka, kc, ⟨c0, c1, c2, c3, c4, hks⟩⟩ := h.nds.at_ i hi
  change W.cell? _ = some (.int .i64 (kdN l i)) at c0
  have hmax := h.nds.max
  unfold maxLen at hmax
  obtain ⟨W1, hW1⟩ : ∃ W1, W.alloc (.cells #[.pointer (some ⟨G.wb, 0, none⟩)] 49) = W1 := ⟨_, rfl⟩
  have b1 : Below W.heap.size W W1 := by rw [← hW1]; exact (Below.refl _ _).alloc (Nat.le_refl _) _
  have s1 : W1.heap.size = W.heap.size + 1 := by rw [← hW1]; simp
  have z1 : W1.cell? ⟨W.heap.size, 0, none⟩ = some (.pointer (some ⟨G.wb, 0, none⟩)) := by rw [← hW1]; exact cell_of_one (heap_alloc_new W _)
  have hlw : G.wb < W.heap.size := h.rel.lt h.rel.lwb (by simp)
  have hln : nb < W.heap.size := Nat.lt_of_lt_of_le h.nds.lo h.nds.hi
  have hw0' : W1.cell? ⟨G.wb, 0, none⟩ = some (.slice (some ⟨nb, no, none⟩) l.length nc) := by rw [b1.cell (p := ⟨G.wb, 0, none⟩) hlw]; exact hw0
  rw [← b1.cell (p := ⟨nb, no + i * 5, none⟩) hln] at c0
  rw [← b1.cell (p := ⟨nb, no + i * 5 + 1, none⟩) hln] at c1
  rw [← b1.cell (p := ⟨nb, no + i * 5 + 2, none⟩) hln] at c2
  rw [← b1.cell (p := ⟨nb, no + i * 5 + 3, none⟩) hln] at c3
  rw [← b1.cell (p := ⟨nb, no + i * 5 + 4, none⟩) hln] at c4
  obtain ⟨W2, hW2⟩ : ∃ W2, W1.alloc (.cells #[.int .i64 (kdN l i), .int .i64 (ndN l i).pos, .slice ka (ndN l i).kids.length kc, .string (ndN l i).name, .int .i64 (ndN l i).num] 36) = W2 := ⟨_, rfl⟩
  have b12 : Below W1.heap.size W1 W2 := by rw [← hW2]; exact (Below.refl _ _).alloc (Nat.le_refl _) _
  have b2 : Below W.heap.size W W2 := b1.trans (b12.mono (by omega))
  have z2 : W2.cell? ⟨W.heap.size, 0, none⟩ = some (.pointer (some ⟨G.wb, 0, none⟩)) := by rw [b12.cell (p := ⟨W.heap.size, 0, none⟩) (show W.heap.size < _ by omega)]; exact z1
  have y2 : W2.cell? ⟨W1.heap.size, 2, none⟩ = some (.slice ka (ndN l i).kids.length kc) := by rw [← hW2, cell_of_row _ _ 2 _ _ _ (heap_alloc_new W1 _)]; rfl
  have y0 : W2.cell? ⟨W1.heap.size, 0, none⟩ = some (.int .i64 (kdN l i)) := by rw [← hW2, cell_of_row _ _ 0 _ _ _ (heap_alloc_new W1 _)]; rfl
  rw [s1] at y0 y2
  have hks2 := hks.below (b2.mono h.nds.hi)
  have hst2 := ST.start (h.rel.below b2) (h.nds.below (b2.mono h.nds.hi))
  have HRB := Bx.mk fun (W4 : World) (s4 : SSt) (G4 : WG) (h4 : ST B nb no nc l W2 G W4 s4 G4) => h.rebase b2 h4
  have HC := Bx.mk (HN W2 ka kc hst2 hks2)
  clear HN
  obtain ⟨q1, q2, q3, q4, q5, q6, q7, q8, q9⟩ := hk
  generalize kdN l i = kd at *
  have e1 : (kd == 13) = false := by rw [beq_eq_false_iff_ne]; exact q1
  have e2 : (kd == 20) = false := by rw [beq_eq_false_iff_ne]; exact q2
  have e3 : (kd == 43) = false := by rw [beq_eq_false_iff_ne]; exact q3
  have e4 : (kd == 41) = false := by rw [beq_eq_false_iff_ne]; exact q4
  have e5 : (kd == 46) = false := by rw [beq_eq_false_iff_ne]; exact q5
  have e6 : (kd == 31) = false := by rw [beq_eq_false_iff_ne]; exact q6
  have e7 : (kd == 32) = false := by rw [beq_eq_false_iff_ne]; exact q7
  have e8 : (kd == 42) = false := by rw [beq_eq_false_iff_ne]; exact q8
  have e9 : (kd == 33) = false := by rw [beq_eq_false_iff_ne]; exact q9
  clear h b1 hw0 hks b12 hst2 hks2
  go_enter Tryd.func19, Tryd.ntmps19
  go_wp2_with (first
    | (go_at_call 29; refine Calls.mono HC.out ?_; rintro e W4 ⟨rfl, G4, h4⟩; replace h4 := Bx.mk (HRB.out _ _ _ h4)))
  go_end0
  exact ⟨rfl, _, h4.out⟩
set_option maxHeartbeats 2000000 in
set_option maxRecDepth 100000 in
theorem visit_31 {B nb no nc : Nat} {l : List Nd} {W0 W : World} {s : SSt} {G0 G : WG} (i : Nat) (h : ST B nb no nc l W0 G0 W s G) (hi : i < l.length) (hk : kdN l i = 31)
    (s3 s4 : SSt) (HN : ∀ W2 ka kc, ST B nb no nc l W2 G W2 s G → IntsV W2 B (.slice ka (ndN l i).kids.length kc) (ndN l i).kids → Calls Tryd.prog 29 #[.pointer (some ⟨G.wb, 0, none⟩), .slice ka (ndN l i).kids.length kc] W2 fun e W' => e = .returned (.tuple #[]) ∧ ∃ G', ST B nb no nc l W2 G W' s3 G')
    (HD : ∀ W2 W3 G3, ST B nb no nc l W2 G W3 s3 G3 → Calls Tryd.prog 30 #[.pointer (some ⟨G.wb, 0, none⟩), .int .i64 i] W3 fun e W' => e = .returned (.tuple #[]) ∧ ∃ G', ST B nb no nc l W2 G W' s4 G') :
    Calls Tryd.prog 19 #[.pointer (some ⟨G.wb, 0, none⟩), .int .i64 i] W fun e W' => e = .returned (.tuple #[]) ∧ ∃ G', ST B nb no nc l W0 G0 W' s4 G' := by
  have hw0 := h.rel.cw 0
  simp only [wlkC] at hw0
  simp at hw0
  obtain ⟨ka, kc, ⟨c0, c1, c2, c3, c4, hks⟩⟩ := h.nds.at_ i hi
  change W.cell? _ = some (.int .i64 (kdN l i)) at c0
  rw [hk] at c0
  have hmax := h.nds.max
  unfold maxLen at hmax
  obtain ⟨W1, hW1⟩ : ∃ W1, W.alloc (.cells #[.pointer (some ⟨G.wb, 0, none⟩)] 49) = W1 := ⟨_, rfl⟩
  have b1 : Below W.heap.size W W1 := by rw [← hW1]; exact (Below.refl _ _).alloc (Nat.le_refl _) _
  have s1 : W1.heap.size = W.heap.size + 1 := by rw [← hW1]; simp
  have z1 : W1.cell? ⟨W.heap.size, 0, none⟩ = some (.pointer (some ⟨G.wb, 0, none⟩)) := by rw [← hW1]; exact cell_of_one (heap_alloc_new W _)
  have hlw : G.wb < W.heap.size := h.rel.lt h.rel.lwb (by simp)
  have hln : nb < W.heap.size := Nat.lt_of_lt_of_le h.nds.lo h.nds.hi
  have hw0' : W1.cell? ⟨G.wb, 0, none⟩ = some (.slice (some ⟨nb, no, none⟩) l.length nc) := by rw [b1.cell (p := ⟨G.wb, 0, none⟩) hlw]; exact hw0
  rw [← b1.cell (p := ⟨nb, no + i * 5, none⟩) hln] at c0
  rw [← b1.cell (p := ⟨nb, no + i * 5 + 1, none⟩) hln] at c1
  rw [← b1.cell (p := ⟨nb, no + i * 5 + 2, none⟩) hln] at c2
  rw [← b1.cell (p := ⟨nb, no + i * 5 + 3, none⟩) hln] at c3
  rw [← b1.cell (p := ⟨nb, no + i * 5 + 4, none⟩) hln] at c4
  obtain ⟨W2, hW2⟩ : ∃ W2, W1.alloc (.cells #[.int .i64 31, .int .i64 (ndN l i).pos, .slice ka (ndN l i).kids.length kc, .string (ndN l i).name, .int .i64 (ndN l i).num] 36) = W2 := ⟨_, rfl⟩
  have b12 : Below W1.heap.size W1 W2 := by rw [← hW2]; exact (Below.refl _ _).alloc (Nat.le_refl _) _
  have b2 : Below W.heap.size W W2 := b1.trans (b12.mono (by omega))
  have z2 : W2.cell? ⟨W.heap.size, 0, none⟩ = some (.pointer (some ⟨G.wb, 0, none⟩)) := by rw [b12.cell (p := ⟨W.heap.size, 0, none⟩) (show W.heap.size < _ by omega)]; exact z1
  have y2 : W2.cell? ⟨W1.heap.size, 2, none⟩ = some (.slice ka (ndN l i).kids.length kc) := by rw [← hW2, cell_of_row _ _ 2 _ _ _ (heap_alloc_new W1 _)]; rfl
  have y0 : W2.cell? ⟨W1.heap.size, 0, none⟩ = some (.int .i64 31) := by rw [← hW2, cell_of_row _ _ 0 _ _ _ (heap_alloc_new W1 _)]; rfl
  rw [s1] at y0 y2
  have hks2 := hks.below (b2.mono h.nds.hi)
  have hst2 := ST.start (h.rel.below b2) (h.nds.below (b2.mono h.nds.hi))
  have HRB := Bx.mk fun (W4 : World) (s4 : SSt) (G4 : WG) (h4 : ST B nb no nc l W2 G W4 s4 G4) => h.rebase b2 h4
  have HC := Bx.mk (HN W2 ka kc hst2 hks2)
  have HZ : Bx (∀ W3 G3, ST B nb no nc l W2 G W3 s3 G3 → W3.cell? ⟨W.heap.size, 0, none⟩ = some (.pointer (some ⟨G.wb, 0, none⟩))) := ⟨fun W3 G3 h3 => h3.cell_far (h.rel.new_out (Nat.le_refl _)) z2⟩
  have HD := Bx.mk HD
  clear HN
  clear h b1 hw0 hks b12 hst2 hks2
  go_enter Tryd.func19, Tryd.ntmps19
  go_wp2_with (first
    | (go_at_call 29; refine Calls.mono HC.out ?_; rintro e W3 ⟨rfl, G3, h3⟩; have z3 := HZ.out W3 G3 h3; have HC2 := Bx.mk (HD.out W2 W3 G3 h3); clear h3)
    | (go_at_call 30; refine Calls.mono HC2.out ?_; rintro e W4 ⟨rfl, G4, h4⟩; replace h4 := Bx.mk (HRB.out _ _ _ h4)))
  go_end0
  exact ⟨rfl, _, h4.out⟩
set_option maxHeartbeats 2000000 in
set_option maxRecDepth 100000 in
theorem visit_32 {B nb no nc : Nat} {l : List Nd} {W0 W : World} {s : SSt} {G0 G : WG} (i : Nat) (h : ST B nb no nc l W0 G0 W s G) (hi : i < l.length) (hk : kdN l i = 32)
    (s3 s4 : SSt) (HN : ∀ W2 ka kc, ST B nb no nc l W2 G W2 s G → IntsV W2 B (.slice ka (ndN l i).kids.length kc) (ndN l i).kids → Calls Tryd.prog 29 #[.pointer (some ⟨G.wb, 0, none⟩), .slice ka (ndN l i).kids.length kc] W2 fun e W' => e = .returned (.tuple #[]) ∧ ∃ G', ST B nb no nc l W2 G W' s3 G')
    (HD : ∀ W2 W3 G3, ST B nb no nc l W2 G W3 s3 G3 → Calls Tryd.prog 30 #[.pointer (some ⟨G.wb, 0, none⟩), .int .i64 i] W3 fun e W' => e = .returned (.tuple #[]) ∧ ∃ G', ST B nb no nc l W2 G W' s4 G') :
    Calls Tryd.prog 19 #[.pointer (some ⟨G.wb, 0, none⟩), .int .i64 i] W fun e W' => e = .returned (.tuple #[]) ∧ ∃ G', ST B nb no nc l W0 G0 W' s4 G' := by
  have hw0 := h.rel.cw 0
  simp only [wlkC] at hw0
  simp at hw0
  obtain ⟨ka, kc, ⟨c0, c1, c2, c3, c4, hks⟩⟩ := h.nds.at_ i hi
  change W.cell? _ = some (.int .i64 (kdN l i)) at c0
  rw [hk] at c0
  have hmax := h.nds.max
  unfold maxLen at hmax
  obtain ⟨W1, hW1⟩ : ∃ W1, W.alloc (.cells #[.pointer (some ⟨G.wb, 0, none⟩)] 49) = W1 := ⟨_, rfl⟩
  have b1 : Below W.heap.size W W1 := by rw [← hW1]; exact (Below.refl _ _).alloc (Nat.le_refl _) _
  have s1 : W1.heap.size = W.heap.size + 1 := by rw [← hW1]; simp
  have z1 : W1.cell? ⟨W.heap.size, 0, none⟩ = some (.pointer (some ⟨G.wb, 0, none⟩)) := by rw [← hW1]; exact cell_of_one (heap_alloc_new W _)
  have hlw : G.wb < W.heap.size := h.rel.lt h.rel.lwb (by simp)
  have hln : nb < W.heap.size := Nat.lt_of_lt_of_le h.nds.lo h.nds.hi
  have hw0' : W1.cell? ⟨G.wb, 0, none⟩ = some (.slice (some ⟨nb, no, none⟩) l.length nc) := by rw [b1.cell (p := ⟨G.wb, 0, none⟩) hlw]; exact hw0
  rw [← b1.cell (p := ⟨nb, no + i * 5, none⟩) hln] at c0
  rw [← b1.cell (p := ⟨nb, no + i * 5 + 1, none⟩) hln] at c1
  rw [← b1.cell (p := ⟨nb, no + i * 5 + 2, none⟩) hln] at c2
  rw [← b1.cell (p := ⟨nb, no + i * 5 + 3, none⟩) hln] at c3
  rw [← b1.cell (p := ⟨nb, no + i * 5 + 4, none⟩) hln] at c4
  obtain ⟨W2, hW2⟩ : ∃ W2, W1.alloc (.cells #[.int .i64 32, .int .i64 (ndN l i).pos, .slice ka (ndN l i).kids.length kc, .string (ndN l i).name, .int .i64 (ndN l i).num] 36) = W2 := ⟨_, rfl⟩
  have b12 : Below W1.heap.size W1 W2 := by rw [← hW2]; exact (Below.refl _ _).alloc (Nat.le_refl _) _
  have b2 : Below W.heap.size W W2 := b1.trans (b12.mono (by omega))
  have z2 : W2.cell? ⟨W.heap.size, 0, none⟩ = some (.pointer (some ⟨G.wb, 0, none⟩)) := by rw [b12.cell (p := ⟨W.heap.size, 0, none⟩) (show W.heap.size < _ by omega)]; exact z1
  have y2 : W2.cell? ⟨W1.heap.size, 2, none⟩ = some (.slice ka (ndN l i).kids.length kc) := by rw [← hW2, cell_of_row _ _ 2 _ _ _ (heap_alloc_new W1 _)]; rfl
  have y0 : W2.cell? ⟨W1.heap.size, 0, none⟩ = some (.int .i64 32) := by rw [← hW2, cell_of_row _ _ 0 _ _ _ (heap_alloc_new W1 _)]; rfl
  rw [s1] at y0 y2
  have hks2 := hks.below (b2.mono h.nds.hi)
  have hst2 := ST.start (h.rel.below b2) (h.nds.below (b2.mono h.nds.hi))
  have HRB := Bx.mk fun (W4 : World) (s4 : SSt) (G4 : WG) (h4 : ST B nb no nc l W2 G W4 s4 G4) => h.rebase b2 h4
  have HC := Bx.mk (HN W2 ka kc hst2 hks2)
  have HZ : Bx (∀ W3 G3, ST B nb no nc l W2 G W3 s3 G3 → W3.cell? ⟨W.heap.size, 0, none⟩ = some (.pointer (some ⟨G.wb, 0, none⟩))) := ⟨fun W3 G3 h3 => h3.cell_far (h.rel.new_out (Nat.le_refl _)) z2⟩
  have HD := Bx.mk HD
  clear HN
  clear h b1 hw0 hks b12 hst2 hks2
  go_enter Tryd.func19, Tryd.ntmps19
  go_wp2_with (first
    | (go_at_call 29; refine Calls.mono HC.out ?_; rintro e W3 ⟨rfl, G3, h3⟩; have z3 := HZ.out W3 G3 h3; have HC2 := Bx.mk (HD.out W2 W3 G3 h3); clear h3)
    | (go_at_call 30; refine Calls.mono HC2.out ?_; rintro e W4 ⟨rfl, G4, h4⟩; replace h4 := Bx.mk (HRB.out _ _ _ h4)))
  go_end0
  exact ⟨rfl, _, h4.out⟩
set_option maxHeartbeats 2000000 in
set_option maxRecDepth 100000 in
theorem visit_42 {B nb no nc : Nat} {l : List Nd} {W0 W : World} {s : SSt} {G0 G : WG} (i : Nat) (h : ST B nb no nc l W0 G0 W s G) (hi : i < l.length) (hk : kdN l i = 42)
    (s3 s4 : SSt) (HN : ∀ W2 ka kc, ST B nb no nc l W2 G W2 s G → IntsV W2 B (.slice ka (ndN l i).kids.length kc) (ndN l i).kids → Calls Tryd.prog 29 #[.pointer (some ⟨G.wb, 0, none⟩), .slice ka (ndN l i).kids.length kc] W2 fun e W' => e = .returned (.tuple #[]) ∧ ∃ G', ST B nb no nc l W2 G W' s3 G')
    (HD : ∀ W2 W3 G3, ST B nb no nc l W2 G W3 s3 G3 → Calls Tryd.prog 30 #[.pointer (some ⟨G.wb, 0, none⟩), .int .i64 i] W3 fun e W' => e = .returned (.tuple #[]) ∧ ∃ G', ST B nb no nc l W2 G W' s4 G') :
    Calls Tryd.prog 19 #[.pointer (some ⟨G.wb, 0, none⟩), .int .i64 i] W fun e W' => e = .returned (.tuple #[]) ∧ ∃ G', ST B nb no nc l W0 G0 W' s4 G' := by
  have hw0 := h.rel.cw 0
  simp only [wlkC] at hw0
  simp at hw0
  obtain ⟨ka, kc, ⟨c0, c1, c2, c3, c4, hks⟩⟩ := h.nds.at_ i hi
  change W.cell? _ = some (.int .i64 (kdN l i)) at c0
  rw [hk] at c0
  have hmax := h.nds.max
  unfold maxLen at hmax
  obtain ⟨W1, hW1⟩ : ∃ W1, W.alloc (.cells #[.pointer (some ⟨G.wb, 0, none⟩)] 49) = W1 := ⟨_, rfl⟩
  have b1 : Below W.heap.size W W1 := by rw [← hW1]; exact (Below.refl _ _).alloc (Nat.le_refl _) _
  have s1 : W1.heap.size = W.heap.size + 1 := by rw [← hW1]; simp
  have z1 : W1.cell? ⟨W.heap.size, 0, none⟩ = some (.pointer (some ⟨G.wb, 0, none⟩)) := by rw [← hW1]; exact cell_of_one (heap_alloc_new W _)
  have hlw : G.wb < W.heap.size := h.rel.lt h.rel.lwb (by simp)
  have hln : nb < W.heap.size := Nat.lt_of_lt_of_le h.nds.lo h.nds.hi
  have hw0' : W1.cell? ⟨G.wb, 0, none⟩ = some (.slice (some ⟨nb, no, none⟩) l.length nc) := by rw [b1.cell (p := ⟨G.wb, 0, none⟩) hlw]; exact hw0
  rw [← b1.cell (p := ⟨nb, no + i * 5, none⟩) hln] at c0
  rw [← b1.cell (p := ⟨nb, no + i * 5 + 1, none⟩) hln] at c1
  rw [← b1.cell (p := ⟨nb, no + i * 5 + 2, none⟩) hln] at c2
  rw [← b1.cell (p := ⟨nb, no + i * 5 + 3, none⟩) hln] at c3
  rw [← b1.cell (p := ⟨nb, no + i * 5 + 4, none⟩) hln] at c4
  obtain ⟨W2, hW2⟩ : ∃ W2, W1.alloc (.cells #[.int .i64 42, .int .i64 (ndN l i).pos, .slice ka (ndN l i).kids.length kc, .string (ndN l i).name, .int .i64 (ndN l i).num] 36) = W2 := ⟨_, rfl⟩
  have b12 : Below W1.heap.size W1 W2 := by rw [← hW2]; exact (Below.refl _ _).alloc (Nat.le_refl _) _
  have b2 : Below W.heap.size W W2 := b1.trans (b12.mono (by omega))
  have z2 : W2.cell? ⟨W.heap.size, 0, none⟩ = some (.pointer (some ⟨G.wb, 0, none⟩)) := by rw [b12.cell (p := ⟨W.heap.size, 0, none⟩) (show W.heap.size < _ by omega)]; exact z1
  have y2 : W2.cell? ⟨W1.heap.size, 2, none⟩ = some (.slice ka (ndN l i).kids.length kc) := by rw [← hW2, cell_of_row _ _ 2 _ _ _ (heap_alloc_new W1 _)]; rfl
  have y0 : W2.cell? ⟨W1.heap.size, 0, none⟩ = some (.int .i64 42) := by rw [← hW2, cell_of_row _ _ 0 _ _ _ (heap_alloc_new W1 _)]; rfl
  rw [s1] at y0 y2
  have hks2 := hks.below (b2.mono h.nds.hi)
  have hst2 := ST.start (h.rel.below b2) (h.nds.below (b2.mono h.nds.hi))
  have HRB := Bx.mk fun (W4 : World) (s4 : SSt) (G4 : WG) (h4 : ST B nb no nc l W2 G W4 s4 G4) => h.rebase b2 h4
  have HC := Bx.mk (HN W2 ka kc hst2 hks2)
  have HZ : Bx (∀ W3 G3, ST B nb no nc l W2 G W3 s3 G3 → W3.cell? ⟨W.heap.size, 0, none⟩ = some (.pointer (some ⟨G.wb, 0, none⟩))) := ⟨fun W3 G3 h3 => h3.cell_far (h.rel.new_out (Nat.le_refl _)) z2⟩
  have HD := Bx.mk HD
  clear HN
  clear h b1 hw0 hks b12 hst2 hks2
  go_enter Tryd.func19, Tryd.ntmps19
  go_wp2_with (first
    | (go_at_call 29; refine Calls.mono HC.out ?_; rintro e W3 ⟨rfl, G3, h3⟩; have z3 := HZ.out W3 G3 h3; have HC2 := Bx.mk (HD.out W2 W3 G3 h3); clear h3)
    | (go_at_call 30; refine Calls.mono HC2.out ?_; rintro e W4 ⟨rfl, G4, h4⟩; replace h4 := Bx.mk (HRB.out _ _ _ h4)))
  go_end0
  exact ⟨rfl, _, h4.out⟩
set_option maxHeartbeats 2000000 in
set_option maxRecDepth 100000 in
theorem visit_41 {B nb no nc : Nat} {l : List Nd} {W0 W : World} {s : SSt} {G0 G : WG} (i : Nat) (h : ST B nb no nc l W0 G0 W s G) (hi : i < l.length) (hk : kdN l i = 41)
    (s3 : SSt) (HN : ∀ W2 c n ka kc, ST B nb no nc l W2 G W2 s G → IntsV W2 B (.slice ka (ndN l i).kids.length kc) (ndN l i).kids → G.lab c = .out → G.lab n = .out → W2.cell? ⟨c, 0, none⟩ = some (.pointer (some ⟨G.wb, 0, none⟩)) → W2.cell? ⟨n, 2, none⟩ = some (.slice ka (ndN l i).kids.length kc) →
      Calls Tryd.prog 27 #[.pointer (some ⟨G.wb, 0, none⟩), .func (.func 28) #[] #[.pointer (some ⟨c, 0, none⟩), .pointer (some ⟨n, 0, none⟩)]] W2 fun e W' => e = .returned (.tuple #[]) ∧ ∃ G', ST B nb no nc l W2 G W' s3 G') :
    Calls Tryd.prog 19 #[.pointer (some ⟨G.wb, 0, none⟩), .int .i64 i] W fun e W' => e = .returned (.tuple #[]) ∧ ∃ G', ST B nb no nc l W0 G0 W' s3 G' := by
  have hw0 := h.rel.cw 0
  simp only [wlkC] at hw0
  simp at hw0
  obtain ⟨ka, kc, ⟨c0, c1, c2, c3, c4, hks⟩⟩ := h.nds.at_ i hi
  change W.cell? _ = some (.int .i64 (kdN l i)) at c0
  rw [hk] at c0
  have hmax := h.nds.max
  unfold maxLen at hmax
  obtain ⟨W1, hW1⟩ : ∃ W1, W.alloc (.cells #[.pointer (some ⟨G.wb, 0, none⟩)] 49) = W1 := ⟨_, rfl⟩
  have b1 : Below W.heap.size W W1 := by rw [← hW1]; exact (Below.refl _ _).alloc (Nat.le_refl _) _
  have s1 : W1.heap.size = W.heap.size + 1 := by rw [← hW1]; simp
  have z1 : W1.cell? ⟨W.heap.size, 0, none⟩ = some (.pointer (some ⟨G.wb, 0, none⟩)) := by rw [← hW1]; exact cell_of_one (heap_alloc_new W _)
  have hlw : G.wb < W.heap.size := h.rel.lt h.rel.lwb (by simp)
  have hln : nb < W.heap.size := Nat.lt_of_lt_of_le h.nds.lo h.nds.hi
  have hw0' : W1.cell? ⟨G.wb, 0, none⟩ = some (.slice (some ⟨nb, no, none⟩) l.length nc) := by rw [b1.cell (p := ⟨G.wb, 0, none⟩) hlw]; exact hw0
  rw [← b1.cell (p := ⟨nb, no + i * 5, none⟩) hln] at c0
  rw [← b1.cell (p := ⟨nb, no + i * 5 + 1, none⟩) hln] at c1
  rw [← b1.cell (p := ⟨nb, no + i * 5 + 2, none⟩) hln] at c2
  rw [← b1.cell (p := ⟨nb, no + i * 5 + 3, none⟩) hln] at c3
  rw [← b1.cell (p := ⟨nb, no + i * 5 + 4, none⟩) hln] at c4
  obtain ⟨W2, hW2⟩ : ∃ W2, W1.alloc (.cells #[.int .i64 41, .int .i64 (ndN l i).pos, .slice ka (ndN l i).kids.length kc, .string (ndN l i).name, .int .i64 (ndN l i).num] 36) = W2 := ⟨_, rfl⟩
  have b12 : Below W1.heap.size W1 W2 := by rw [← hW2]; exact (Below.refl _ _).alloc (Nat.le_refl _) _
  have b2 : Below W.heap.size W W2 := b1.trans (b12.mono (by omega))
  have z2 : W2.cell? ⟨W.heap.size, 0, none⟩ = some (.pointer (some ⟨G.wb, 0, none⟩)) := by rw [b12.cell (p := ⟨W.heap.size, 0, none⟩) (show W.heap.size < _ by omega)]; exact z1
  have y2 : W2.cell? ⟨W1.heap.size, 2, none⟩ = some (.slice ka (ndN l i).kids.length kc) := by rw [← hW2, cell_of_row _ _ 2 _ _ _ (heap_alloc_new W1 _)]; rfl
  have y0 : W2.cell? ⟨W1.heap.size, 0, none⟩ = some (.int .i64 41) := by rw [← hW2, cell_of_row _ _ 0 _ _ _ (heap_alloc_new W1 _)]; rfl
  rw [s1] at y0 y2
  have hks2 := hks.below (b2.mono h.nds.hi)
  have hst2 := ST.start (h.rel.below b2) (h.nds.below (b2.mono h.nds.hi))
  have HRB := Bx.mk fun (W4 : World) (s4 : SSt) (G4 : WG) (h4 : ST B nb no nc l W2 G W4 s4 G4) => h.rebase b2 h4
  have HC := Bx.mk (HN W2 W.heap.size (W.heap.size + 1) ka kc hst2 hks2 (h.rel.new_out (Nat.le_refl _)) (h.rel.new_out (by omega)) z2 y2)
  clear HN
  clear h b1 hw0 hks b12 hst2 hks2
  go_enter Tryd.func19, Tryd.ntmps19
  go_wp2_with (first
    | (go_at_call 27; refine Calls.mono HC.out ?_; rintro e W4 ⟨rfl, G4, h4⟩; replace h4 := Bx.mk (HRB.out _ _ _ h4)))
  go_end0
  exact ⟨rfl, _, h4.out⟩
set_option maxHeartbeats 2000000 in
set_option maxRecDepth 100000 in
theorem visit_46 {B nb no nc : Nat} {l : List Nd} {W0 W : World} {s : SSt} {G0 G : WG} (i : Nat) (h : ST B nb no nc l W0 G0 W s G) (hi : i < l.length) (hk : kdN l i = 46)
    (s3 : SSt) (HN : ∀ W2 c n ka kc, ST B nb no nc l W2 G W2 s G → IntsV W2 B (.slice ka (ndN l i).kids.length kc) (ndN l i).kids → G.lab c = .out → G.lab n = .out → W2.cell? ⟨c, 0, none⟩ = some (.pointer (some ⟨G.wb, 0, none⟩)) → W2.cell? ⟨n, 2, none⟩ = some (.slice ka (ndN l i).kids.length kc) →
      Calls Tryd.prog 27 #[.pointer (some ⟨G.wb, 0, none⟩), .func (.func 28) #[] #[.pointer (some ⟨c, 0, none⟩), .pointer (some ⟨n, 0, none⟩)]] W2 fun e W' => e = .returned (.tuple #[]) ∧ ∃ G', ST B nb no nc l W2 G W' s3 G') :
    Calls Tryd.prog 19 #[.pointer (some ⟨G.wb, 0, none⟩), .int .i64 i] W fun e W' => e = .returned (.tuple #[]) ∧ ∃ G', ST B nb no nc l W0 G0 W' s3 G' := by
  have hw0 := h.rel.cw 0
  simp only [wlkC] at hw0
  simp at hw0
  obtain ⟨ka, kc, ⟨c0, c1, c2, c3, c4, hks⟩⟩ := h.nds.at_ i hi
  change W.cell? _ = some (.int .i64 (kdN l i)) at c0
  rw [hk] at c0
  have hmax := h.nds.max
  unfold maxLen at hmax
  obtain ⟨W1, hW1⟩ : ∃ W1, W.alloc (.cells #[.pointer (some ⟨G.wb, 0, none⟩)] 49) = W1 := ⟨_, rfl⟩
  have b1 : Below W.heap.size W W1 := by rw [← hW1]; exact (Below.refl _ _).alloc (Nat.le_refl _) _
  have s1 : W1.heap.size = W.heap.size + 1 := by rw [← hW1]; simp
  have z1 : W1.cell? ⟨W.heap.size, 0, none⟩ = some (.pointer (some ⟨G.wb, 0, none⟩)) := by rw [← hW1]; exact cell_of_one (heap_alloc_new W _)
  have hlw : G.wb < W.heap.size := h.rel.lt h.rel.lwb (by simp)
  have hln : nb < W.heap.size := Nat.lt_of_lt_of_le h.nds.lo h.nds.hi
  have hw0' : W1.cell? ⟨G.wb, 0, none⟩ = some (.slice (some ⟨nb, no, none⟩) l.length nc) := by rw [b1.cell (p := ⟨G.wb, 0, none⟩) hlw]; exact hw0
  rw [← b1.cell (p := ⟨nb, no + i * 5, none⟩) hln] at c0
  rw [← b1.cell (p := ⟨nb, no + i * 5 + 1, none⟩) hln] at c1
  rw [← b1.cell (p := ⟨nb, no + i * 5 + 2, none⟩) hln] at c2
  rw [← b1.cell (p := ⟨nb, no + i * 5 + 3, none⟩) hln] at c3
  rw [← b1.cell (p := ⟨nb, no + i * 5 + 4, none⟩) hln] at c4
  obtain ⟨W2, hW2⟩ : ∃ W2, W1.alloc (.cells #[.int .i64 46, .int .i64 (ndN l i).pos, .slice ka (ndN l i).kids.length kc, .string (ndN l i).name, .int .i64 (ndN l i).num] 36) = W2 := ⟨_, rfl⟩
  have b12 : Below W1.heap.size W1 W2 := by rw [← hW2]; exact (Below.refl _ _).alloc (Nat.le_refl _) _
  have b2 : Below W.heap.size W W2 := b1.trans (b12.mono (by omega))
  have z2 : W2.cell? ⟨W.heap.size, 0, none⟩ = some (.pointer (some ⟨G.wb, 0, none⟩)) := by rw [b12.cell (p := ⟨W.heap.size, 0, none⟩) (show W.heap.size < _ by omega)]; exact z1
  have y2 : W2.cell? ⟨W1.heap.size, 2, none⟩ = some (.slice ka (ndN l i).kids.length kc) := by rw [← hW2, cell_of_row _ _ 2 _ _ _ (heap_alloc_new W1 _)]; rfl
  have y0 : W2.cell? ⟨W1.heap.size, 0, none⟩ = some (.int .i64 46) := by rw [← hW2, cell_of_row _ _ 0 _ _ _ (heap_alloc_new W1 _)]; rfl
  rw [s1] at y0 y2
  have hks2 := hks.below (b2.mono h.nds.hi)
  have hst2 := ST.start (h.rel.below b2) (h.nds.below (b2.mono h.nds.hi))
  have HRB := Bx.mk fun (W4 : World) (s4 : SSt) (G4 : WG) (h4 : ST B nb no nc l W2 G W4 s4 G4) => h.rebase b2 h4
  have HC := Bx.mk (HN W2 W.heap.size (W.heap.size + 1) ka kc hst2 hks2 (h.rel.new_out (Nat.le_refl _)) (h.rel.new_out (by omega)) z2 y2)
  clear HN
  clear h b1 hw0 hks b12 hst2 hks2
  go_enter Tryd.func19, Tryd.ntmps19
  go_wp2_with (first
    | (go_at_call 27; refine Calls.mono HC.out ?_; rintro e W4 ⟨rfl, G4, h4⟩; replace h4 := Bx.mk (HRB.out _ _ _ h4)))
  go_end0
  exact ⟨rfl, _, h4.out⟩
end Go.Proofs.YtjjbgbadkbomlaaDoor
namespace Go.Proofs.YtjjbgbadkbomlaaDoor
open Go.RowKit Go.Maps
set_option linter.unusedVariables false
set_option linter.unusedSimpArgs false

set_option maxHeartbeats 1000000 in
set_option maxRecDepth 100000 in
theorem clo_v {P : World → Prop} (W : World) (wb c n : Nat) (kv : Value) (ha : W.cell? ⟨c, 0, none⟩ = some (.pointer (some ⟨wb, 0, none⟩))) (hb : W.cell? ⟨n, 2, none⟩ = some kv) (hkv : ∃ a m k, kv = .slice a m k)
    (HN : Calls Tryd.prog 29 #[.pointer (some ⟨wb, 0, none⟩), kv] W fun e W' => e = .returned (.tuple #[]) ∧ P W') :
    Calls Tryd.prog 28 #[.pointer (some ⟨c, 0, none⟩), .pointer (some ⟨n, 0, none⟩)] W fun e W' => e = .returned (.tuple #[]) ∧ P W' := by
  obtain ⟨a, m, k, rfl⟩ := hkv
  have HN := Bx.mk HN
  go_enter Tryd.func28, Tryd.ntmps28
  go_wp2_with (first
    | (go_at_call 29; refine Calls.mono HN.out ?_; rintro e W4 ⟨rfl, h4⟩; replace h4 := Bx.mk h4))
  go_end0
  exact ⟨rfl, h4.out⟩
theorem Fr.cell {B : Nat} {W W' : World} {G G' : WG} (h : Fr B W G W' G') {b j : Nat} {v : Value} (hl : G.lab b = .out) (hc : W.cell? ⟨b, j, none⟩ = some v) : W'.cell? ⟨b, j, none⟩ = some v := by
  have hlt : b < W.heap.size := World.block_lt_of_cell? W _ hc
  rw [← hc]
  exact World.cell?_of_block (h.keep b hlt hl).1
/-- the kids of a node are visited -/
theorem kids_any {B nb no nc : Nat} {l : List Nd} (hl : LOk l) {f i j : Nat} (hji : j ≤ i) (IH : ∀ k, k < i → VisC B nb no nc l f k) {W0 W : World} {s : SSt} {G0 G : WG} (hj : j < l.length) (ka : Option Addr) (kc : Nat) (h : ST B nb no nc l W0 G0 W s G) (hks : IntsV W B (.slice ka (ndN l j).kids.length kc) (ndN l j).kids)
    (hab : ∀ k : Nat, k < j → About s k) (hpw : PW l s (cntL l f (ndN l j).kids)) (hbk : s.blocks + 2 * f < 1099511627776) (hT : TkOk B nb no nc l s.gat.length) :
    Calls Tryd.prog 29 #[.pointer (some ⟨G.wb, 0, none⟩), .slice ka (ndN l j).kids.length kc] W fun e W' => e = .returned (.tuple #[]) ∧ ∃ G', ST B nb no nc l W0 G0 W' (allP (visF l f) (ndN l j).kids s) G' := by
  refine (visitAll_any hl f (ndN l j).kids ka kc h hks (fun k hk => ?_) hpw hbk hT).mono fun e W' ⟨a, G', b, _⟩ => ⟨a, G', b⟩
  obtain ⟨m, e, hm⟩ := hl.low j k hj hk
  exact ⟨m, e, by omega, hab m hm, IH m (by omega)⟩
/-- visit, where there is neither a prog nor an arm that receives nor a place that is set -/
theorem visit_simple {B nb no nc : Nat} {l : List Nd} (hl : LOk l) (hs : ∀ i, i < l.length → kdN l i ≠ 20 ∧ kdN l i ≠ 43 ∧ kdN l i ≠ 33) : ∀ (f i : Nat), i < l.length → i < f → VisC B nb no nc l f i
  | 0, i, _, h => by omega
  | f + 1, i, hi, hf => by
    intro W0 G0 W s G h hab hpw hbk hT
    have IH : ∀ k, k < i → VisC B nb no nc l f k := fun k hk => visit_simple hl hs f k (by omega) (by omega)
    obtain ⟨n20, n43, n33⟩ := hs i hi
    have habk : ∀ k : Nat, k < i → About s k := fun k hk => hab.less (by omega)
    have hcnt : cntF l (f + 1) i = 1 + cntL l f (ndN l i).kids := by unfold cntF; rw [if_neg n20, if_neg n43]; rfl
    rw [hcnt] at hpw
    have hpk : PW l s (cntL l f (ndN l i).kids) := hpw.less (by omega)
    suffices hsuf : Calls Tryd.prog 19 #[.pointer (some ⟨G.wb, 0, none⟩), .int .i64 i] W fun e W' => e = .returned (.tuple #[]) ∧ ∃ G', ST B nb no nc l W0 G0 W' (visF l (f + 1) i s) G' from
      hsuf.mono fun e W' ⟨a, G', b⟩ => ⟨a, G', b, h.wbs b⟩
    unfold visF
    rw [if_neg n20, if_neg n43, if_neg n33]
    by_cases k13 : kdN l i = 13
    · rw [if_pos k13]
      exact visit_13 i h hi k13 fun W2 h2 => name_any i h2 (hpw.less (by omega)) hi (fun m => hT W2 G m)
    rw [if_neg k13]
    have hkids : ∀ W2 ka kc, ST B nb no nc l W2 G W2 s G → IntsV W2 B (.slice ka (ndN l i).kids.length kc) (ndN l i).kids → Calls Tryd.prog 29 #[.pointer (some ⟨G.wb, 0, none⟩), .slice ka (ndN l i).kids.length kc] W2 fun e W' => e = .returned (.tuple #[]) ∧ ∃ G', ST B nb no nc l W2 G W' (allP (visF l f) (ndN l i).kids s) G' :=
      fun W2 ka kc h2 hks => kids_any hl (Nat.le_refl _) IH hi ka kc h2 hks habk hpk (by omega) hT
    have hpart : Part l s (allP (visF l f) (ndN l i).kids s) (cntL l f (ndN l i).kids) := all_part hl.lt (fun i s => vis_part hl f i s) _ s (fun k hk => ⟨by have := hl.kid hk; omega, hab.less (by have := hl.kid hk; omega)⟩) hpk
    by_cases kb : kdN l i = 41 ∨ kdN l i = 46
    · rw [if_pos kb]
      have hins : Part l { s with dcl := [], blocks := s.blocks + 1 } (allP (visF l f) (ndN l i).kids { s with dcl := [], blocks := s.blocks + 1 }) (cntL l f (ndN l i).kids) := all_part hl.lt (fun i s => vis_part hl f i s) _ _ (fun k hk => ⟨by have := hl.kid hk; omega, hab.less (by have := hl.kid hk; omega)⟩) hpk.block
      have hpn := hpk.block.next (n' := 0) hins
      have hin2 := hins.ok.2
      have hblk : (allP (visF l f) (ndN l i).kids { s with dcl := [], blocks := s.blocks + 1 }).blocks = s.blocks + 1 := by obtain ⟨n, e, _⟩ := hin2; exact e.blocks
      have key : ∀ W2 c n ka kc, ST B nb no nc l W2 G W2 s G → IntsV W2 B (.slice ka (ndN l i).kids.length kc) (ndN l i).kids → G.lab c = .out → G.lab n = .out → W2.cell? ⟨c, 0, none⟩ = some (.pointer (some ⟨G.wb, 0, none⟩)) → W2.cell? ⟨n, 2, none⟩ = some (.slice ka (ndN l i).kids.length kc) →
          Calls Tryd.prog 27 #[.pointer (some ⟨G.wb, 0, none⟩), .func (.func 28) #[] #[.pointer (some ⟨c, 0, none⟩), .pointer (some ⟨n, 0, none⟩)]] W2 fun e W' => e = .returned (.tuple #[]) ∧ ∃ G', ST B nb no nc l W2 G W' (blockP (allP (visF l f) (ndN l i).kids) s) G' := by
        intro W2 c n ka kc h2 hks hc hn cc cn
        refine (block_v h2 (by omega) _ (allP (visF l f) (ndN l i).kids) (fun W3 h3 f3 => ?_) hins.ok.1 (by have := hpn.bud; omega) hblk (by have := hpn.dcl; have := hpn.bud; omega)).mono fun e W' ⟨a, G', b, _⟩ => ⟨a, G', b⟩
        have := kids_any hl (Nat.le_refl _) IH hi ka kc h3 (hks.below f3.bel) (fun k hk => habk k hk) hpk.block (show (s.blocks + 1) + 2 * f < _ by omega) hT
        refine (clo_v W3 G.wb c n _ (f3.cell hc cc) (f3.cell hn cn) ⟨_, _, _, rfl⟩ this).mono fun e W' ⟨a, G', b⟩ => ⟨a, G', b, b.fr.wb⟩
      rcases kb with kb | kb
      · exact visit_41 i h hi kb _ key
      · exact visit_46 i h hi kb _ key
    rw [if_neg kb]
    by_cases kd : kdN l i = 31 ∨ kdN l i = 32 ∨ kdN l i = 42
    · rw [if_pos kd]
      have hpn := (hpw.less (n' := cntL l f (ndN l i).kids + 1) (by omega)).next hpart
      have hdecl : ∀ W2 W3 G3, ST B nb no nc l W2 G W3 (allP (visF l f) (ndN l i).kids s) G3 → Calls Tryd.prog 30 #[.pointer (some ⟨G.wb, 0, none⟩), .int .i64 i] W3 fun e W' => e = .returned (.tuple #[]) ∧ ∃ G', ST B nb no nc l W2 G W' (declP l i (allP (visF l f) (ndN l i).kids s)) G' := by
        intro W2 W3 G3 h3
        have hw : G3.wb = G.wb := h3.fr.wb
        have := declare_any i h3 hpn.wf hi (by have := hpn.bud; omega) (by have := hpn.bud; have := hpn.dcl; omega)
        rw [hw] at this
        exact this
      rcases kd with kd | kd | kd
      · exact visit_31 i h hi kd _ _ hkids hdecl
      · exact visit_32 i h hi kd _ _ hkids hdecl
      · exact visit_42 i h hi kd _ _ hkids hdecl
    rw [if_neg kd]
    exact visit_other i h hi ⟨k13, n20, n43, fun e => kb (.inl e), fun e => kb (.inr e), fun e => kd (.inl e), fun e => kd (.inr (.inl e)), fun e => kd (.inr (.inr e)), n33⟩ _ hkids
end Go.Proofs.YtjjbgbadkbomlaaDoor
