import Derived.Test.YtjjbgbadkbomlaaDoorCSW7
namespace Go.Proofs.YtjjbgbadkbomlaaDoor
open Go.RowKit Go.Maps
set_option linter.unusedVariables false
set_option linter.unusedSimpArgs false

set_option maxHeartbeats 2000000 in
set_option maxRecDepth 100000 in
theorem visit_20 {B nb no nc : Nat} {l : List Nd} {W0 W : World} {s : SSt} {G0 G : WG} (i : Nat) (h : ST B nb no nc l W0 G0 W s G) (hi : i < l.length) (hk : kdN l i = 20)
    (s3 : SSt) (HN : ∀ W2, ST B nb no nc l W2 G W2 s G → Calls Tryd.prog 25 #[.pointer (some ⟨G.wb, 0, none⟩), .int .i64 i] W2 fun e W' => e = .returned (.tuple #[]) ∧ ∃ G', ST B nb no nc l W2 G W' s3 G') :
    Calls Tryd.prog 19 #[.pointer (some ⟨G.wb, 0, none⟩), .int .i64 i] W fun e W' => e = .returned (.tuple #[]) ∧ ∃ G', ST B nb no nc l W0 G0 W' s3 G' := by
  have hw0 := h.rel.cw 0
  simp only [wlkC] at hw0
  simp at hw0
  obtain ⟨ka, kc, ⟨c0, c1, c2, c3, c4, hks⟩⟩ := h.nds.at_ i hi
  change W.cell? _ = some (.int .i64 (kdN l i)) at c0
  rw [hk] at c0
  have hmax := h.nds.max
  unfold maxLen at hmax
  obtain ⟨W1, hW1⟩ : ∃ W1, W.alloc (.cells #[.pointer (some ⟨G.wb, 0, none⟩)] 49) = W1 := ⟨_, rfl⟩
  have b1 : Below W.heap.size W W1 := by rw [← hW1]; exact (Below.refl _ _).alloc (Nat.le_refl _) _
  have s1 : W1.heap.size = W.heap.size + 1 := by rw [← hW1]; simp
  have z1 : W1.cell? ⟨W.heap.size, 0, none⟩ = some (.pointer (some ⟨G.wb, 0, none⟩)) := by rw [← hW1]; exact cell_of_one (heap_alloc_new W _)
  have hlw : G.wb < W.heap.size := h.rel.lt h.rel.lwb (by simp)
  have hln : nb < W.heap.size := Nat.lt_of_lt_of_le h.nds.lo h.nds.hi
  have hw0' : W1.cell? ⟨G.wb, 0, none⟩ = some (.slice (some ⟨nb, no, none⟩) l.length nc) := by rw [b1.cell (p := ⟨G.wb, 0, none⟩) hlw]; exact hw0
  rw [← b1.cell (p := ⟨nb, no + i * 5, none⟩) hln] at c0
  rw [← b1.cell (p := ⟨nb, no + i * 5 + 1, none⟩) hln] at c1
  rw [← b1.cell (p := ⟨nb, no + i * 5 + 2, none⟩) hln] at c2
  rw [← b1.cell (p := ⟨nb, no + i * 5 + 3, none⟩) hln] at c3
  rw [← b1.cell (p := ⟨nb, no + i * 5 + 4, none⟩) hln] at c4
  obtain ⟨W2, hW2⟩ : ∃ W2, W1.alloc (.cells #[.int .i64 20, .int .i64 (ndN l i).pos, .slice ka (ndN l i).kids.length kc, .string (ndN l i).name, .int .i64 (ndN l i).num] 36) = W2 := ⟨_, rfl⟩
  have b12 : Below W1.heap.size W1 W2 := by rw [← hW2]; exact (Below.refl _ _).alloc (Nat.le_refl _) _
  have b2 : Below W.heap.size W W2 := b1.trans (b12.mono (by omega))
  have z2 : W2.cell? ⟨W.heap.size, 0, none⟩ = some (.pointer (some ⟨G.wb, 0, none⟩)) := by rw [b12.cell (p := ⟨W.heap.size, 0, none⟩) (show W.heap.size < _ by omega)]; exact z1
  have y2 : W2.cell? ⟨W1.heap.size, 2, none⟩ = some (.slice ka (ndN l i).kids.length kc) := by rw [← hW2, cell_of_row _ _ 2 _ _ _ (heap_alloc_new W1 _)]; rfl
  have y0 : W2.cell? ⟨W1.heap.size, 0, none⟩ = some (.int .i64 20) := by rw [← hW2, cell_of_row _ _ 0 _ _ _ (heap_alloc_new W1 _)]; rfl
  rw [s1] at y0 y2
  have hks2 := hks.below (b2.mono h.nds.hi)
  have hst2 := ST.start (h.rel.below b2) (h.nds.below (b2.mono h.nds.hi))
  have HRB := Bx.mk fun (W4 : World) (s4 : SSt) (G4 : WG) (h4 : ST B nb no nc l W2 G W4 s4 G4) => h.rebase b2 h4
  have HC := Bx.mk (HN W2 hst2)
  clear HN
  clear h b1 hw0 hks b12 hst2 hks2
  go_enter Tryd.func19, Tryd.ntmps19
  go_wp2_with (first
    | (go_at_call 25; refine Calls.mono HC.out ?_; rintro e W4 ⟨rfl, G4, h4⟩; replace h4 := Bx.mk (HRB.out _ _ _ h4)))
  go_end0
  exact ⟨rfl, _, h4.out⟩
set_option maxHeartbeats 2000000 in
set_option maxRecDepth 100000 in
theorem visit_43 {B nb no nc : Nat} {l : List Nd} {W0 W : World} {s : SSt} {G0 G : WG} (i : Nat) (h : ST B nb no nc l W0 G0 W s G) (hi : i < l.length) (hk : kdN l i = 43)
    (s3 : SSt) (HN : ∀ W2, ST B nb no nc l W2 G W2 s G → Calls Tryd.prog 26 #[.pointer (some ⟨G.wb, 0, none⟩), .int .i64 i] W2 fun e W' => e = .returned (.tuple #[]) ∧ ∃ G', ST B nb no nc l W2 G W' s3 G') :
    Calls Tryd.prog 19 #[.pointer (some ⟨G.wb, 0, none⟩), .int .i64 i] W fun e W' => e = .returned (.tuple #[]) ∧ ∃ G', ST B nb no nc l W0 G0 W' s3 G' := by
  have hw0 := h.rel.cw 0
  simp only [wlkC] at hw0
  simp at hw0
  obtain ⟨ka, kc, ⟨c0, c1, c2, c3, c4, hks⟩⟩ := h.nds.at_ i hi
  change W.cell? _ = some (.int .i64 (kdN l i)) at c0
  rw [hk] at c0
  have hmax := h.nds.max
  unfold maxLen at hmax
  obtain ⟨W1, hW1⟩ : ∃ W1, W.alloc (.cells #[.pointer (some ⟨G.wb, 0, none⟩)] 49) = W1 := ⟨_, rfl⟩
  have b1 : Below W.heap.size W W1 := by rw [← hW1]; exact (Below.refl _ _).alloc (Nat.le_refl _) _
  have s1 : W1.heap.size = W.heap.size + 1 := by rw [← hW1]; simp
  have z1 : W1.cell? ⟨W.heap.size, 0, none⟩ = some (.pointer (some ⟨G.wb, 0, none⟩)) := by rw [← hW1]; exact cell_of_one (heap_alloc_new W _)
  have hlw : G.wb < W.heap.size := h.rel.lt h.rel.lwb (by simp)
  have hln : nb < W.heap.size := Nat.lt_of_lt_of_le h.nds.lo h.nds.hi
  have hw0' : W1.cell? ⟨G.wb, 0, none⟩ = some (.slice (some ⟨nb, no, none⟩) l.length nc) := by rw [b1.cell (p := ⟨G.wb, 0, none⟩) hlw]; exact hw0
  rw [← b1.cell (p := ⟨nb, no + i * 5, none⟩) hln] at c0
  rw [← b1.cell (p := ⟨nb, no + i * 5 + 1, none⟩) hln] at c1
  rw [← b1.cell (p := ⟨nb, no + i * 5 + 2, none⟩) hln] at c2
  rw [← b1.cell (p := ⟨nb, no + i * 5 + 3, none⟩) hln] at c3
  rw [← b1.cell (p := ⟨nb, no + i * 5 + 4, none⟩) hln] at c4
  obtain ⟨W2, hW2⟩ : ∃ W2, W1.alloc (.cells #[.int .i64 43, .int .i64 (ndN l i).pos, .slice ka (ndN l i).kids.length kc, .string (ndN l i).name, .int .i64 (ndN l i).num] 36) = W2 := ⟨_, rfl⟩
  have b12 : Below W1.heap.size W1 W2 := by rw [← hW2]; exact (Below.refl _ _).alloc (Nat.le_refl _) _
  have b2 : Below W.heap.size W W2 := b1.trans (b12.mono (by omega))
  have z2 : W2.cell? ⟨W.heap.size, 0, none⟩ = some (.pointer (some ⟨G.wb, 0, none⟩)) := by rw [b12.cell (p := ⟨W.heap.size, 0, none⟩) (show W.heap.size < _ by omega)]; exact z1
  have y2 : W2.cell? ⟨W1.heap.size, 2, none⟩ = some (.slice ka (ndN l i).kids.length kc) := by rw [← hW2, cell_of_row _ _ 2 _ _ _ (heap_alloc_new W1 _)]; rfl
  have y0 : W2.cell? ⟨W1.heap.size, 0, none⟩ = some (.int .i64 43) := by rw [← hW2, cell_of_row _ _ 0 _ _ _ (heap_alloc_new W1 _)]; rfl
  rw [s1] at y0 y2
  have hks2 := hks.below (b2.mono h.nds.hi)
  have hst2 := ST.start (h.rel.below b2) (h.nds.below (b2.mono h.nds.hi))
  have HRB := Bx.mk fun (W4 : World) (s4 : SSt) (G4 : WG) (h4 : ST B nb no nc l W2 G W4 s4 G4) => h.rebase b2 h4
  have HC := Bx.mk (HN W2 hst2)
  clear HN
  clear h b1 hw0 hks b12 hst2 hks2
  go_enter Tryd.func19, Tryd.ntmps19
  go_wp2_with (first
    | (go_at_call 26; refine Calls.mono HC.out ?_; rintro e W4 ⟨rfl, G4, h4⟩; replace h4 := Bx.mk (HRB.out _ _ _ h4)))
  go_end0
  exact ⟨rfl, _, h4.out⟩
end Go.Proofs.YtjjbgbadkbomlaaDoor
namespace Go.Proofs.YtjjbgbadkbomlaaDoor
open Go.RowKit Go.Maps
set_option linter.unusedVariables false
set_option linter.unusedSimpArgs false

theorem ret_intS {a b : Int} (h : a = b) : Ending.returned (.int .i64 a) = Ending.returned (.int .i64 b) := by rw [h]
set_option maxHeartbeats 1000000 in
set_option maxRecDepth 100000 in
theorem placeName_any {B nb no nc : Nat} {l : List Nd} (hl : LOk l) {W : World} (wb k f : Nat) (hn : Nodes W B nb no nc l) (hw : W.cell? ⟨wb, 0, none⟩ = some (.slice (some ⟨nb, no, none⟩) l.length nc)) (hk : k < l.length) (hf : k < f) :
    Calls Tryd.prog 31 #[.pointer (some ⟨wb, 0, none⟩), .int .i64 k] W fun e W' => e = .returned (.int .i64 (placeP l f k)) ∧ Below W.heap.size W W' := by
  have hmax := hn.max
  unfold maxLen at hmax
  have hln : nb < W.heap.size := Nat.lt_of_lt_of_le hn.lo hn.hi
  have hlw : wb < W.heap.size := World.block_lt_of_cell? W _ hw
  generalize hF : placeP l f k = F
  have HS : Bx (k < f ∧ placeP l f k = F ∧ Below W.heap.size W W) := ⟨hf, hF, Below.refl _ _⟩
  have HN := Bx.mk hn
  clear hF hf hn
  go_enter Tryd.func31, Tryd.ntmps31
  go_wp2
  go_loopw [1] (fun x wr => ∃ j f : Nat, j < l.length ∧ x = .int .i64 j ∧ Bx (j < f ∧ placeP l f j = F ∧ Below W.heap.size W wr)) (fun x _ => (intOf x).toNat)
  case atStart => exact ⟨k, f, hk, rfl, HS⟩
  case round =>
    obtain ⟨j, g, hj, rfl, HR⟩ := hrel
    obtain ⟨g, rfl⟩ : ∃ g', g = g' + 1 := ⟨g - 1, by have := HR.out.1; omega⟩
    obtain ⟨hjg, hP, bw⟩ := HR.out
    obtain ⟨ka, kc, ⟨c0, c1, c2, c3, c4, hks⟩⟩ := (HN.out.below (bw.mono HN.out.hi)).at_ j hj
    have hw' : wr.cell? ⟨wb, 0, none⟩ = some (.slice (some ⟨nb, no, none⟩) l.length nc) := by rw [bw.cell (p := ⟨wb, 0, none⟩) hlw]; exact hw
    change wr.cell? _ = some (.int .i64 (kdN l j)) at c0
    obtain ⟨W2, hW2⟩ : ∃ W2, wr.alloc (.cells #[.int .i64 (kdN l j), .int .i64 (ndN l j).pos, .slice ka (ndN l j).kids.length kc, .string (ndN l j).name, .int .i64 (ndN l j).num] 36) = W2 := ⟨_, rfl⟩
    have b12 : Below wr.heap.size wr W2 := by rw [← hW2]; exact (Below.refl _ _).alloc (Nat.le_refl _) _
    have b2 : Below W.heap.size W W2 := bw.trans (b12.mono bw.size)
    have y0 : W2.cell? ⟨wr.heap.size, 0, none⟩ = some (.int .i64 (kdN l j)) := by rw [← hW2, cell_of_row _ _ 0 _ _ _ (heap_alloc_new wr _)]; rfl
    have y2 : W2.cell? ⟨wr.heap.size, 2, none⟩ = some (.slice ka (ndN l j).kids.length kc) := by rw [← hW2, cell_of_row _ _ 2 _ _ _ (heap_alloc_new wr _)]; rfl
    have HB2 := Bx.mk b2
    unfold placeP at hP
    clear HR HS
    by_cases k13 : kdN l j = 13
    · rw [if_pos k13] at hP
      have HP := Bx.mk hP
      rw [k13] at c0 y0 hW2
      clear hP hks b12 bw b2 HN hl
      go_wp2
      go_ret
      exact ⟨ret_intS HP.out, HB2.out⟩
    rw [if_neg k13] at hP
    by_cases k2 : kdN l j = 24 ∨ kdN l j = 25
    · rw [if_pos k2] at hP
      obtain ⟨a, cap, he, h1, h2, h3⟩ := hks.ex
      simp only [Value.slice.injEq, true_and] at he
      obtain ⟨rfl, rfl⟩ := he
      have hpl := hl.place j hj (.inr k2)
      obtain ⟨b, o, rfl, hbB, hcell⟩ := h3 (by omega)
      have hc0 := hcell 0 (by omega)
      simp only [Nat.add_zero] at hc0
      obtain ⟨k', hk', hlt⟩ := hl.low j (ndN l j).kids[0] hj (List.getElem_mem _)
      have hg0 : (ndN l j).kids.getD 0 0 = (k' : Int) := by rw [List.getD_eq_getElem?_getD, List.getElem?_eq_getElem (by omega)]; exact hk'
      rw [hg0] at hP
      rw [hk'] at hc0
      have hlb : b < wr.heap.size := World.block_lt_of_cell? wr _ hc0
      have y3 : W2.cell? ⟨b, o, none⟩ = some (.int .i64 k') := by rw [b12.cell (p := ⟨b, o, none⟩) hlb]; exact hc0
      have HR2 : Bx (k' < g ∧ placeP l g k' = F ∧ Below W.heap.size W W2) := ⟨by omega, hP, b2⟩
      clear h3 hcell hk' hg0
      generalize (ndN l j).kids.length = nk at *
      clear hks hP b12 bw b2 HN hl
      unfold maxLen at h2
      rcases k2 with k2 | k2 <;>
      · rw [k2] at c0 y0 hW2
        go_wp2
        go_roundw
        case rel => exact ⟨k', g, by omega, rfl, HR2⟩
        case measure => simp [intOf]; omega
    · rw [if_neg k2] at hP
      have HP := Bx.mk hP
      clear hP hks b12 bw b2 HN hl
      generalize kdN l j = kd at *
      have e1 : (kd == 13) = false := by rw [beq_eq_false_iff_ne]; omega
      have e2 : (kd == 24) = false := by rw [beq_eq_false_iff_ne]; omega
      have e3 : (kd == 25) = false := by rw [beq_eq_false_iff_ne]; omega
      go_wp2
      go_ret
      exact ⟨ret_intS HP.out, HB2.out⟩
end Go.Proofs.YtjjbgbadkbomlaaDoor
namespace Go.Proofs.YtjjbgbadkbomlaaDoor
open Go.RowKit Go.Maps
set_option linter.unusedVariables false
set_option linter.unusedSimpArgs false

theorem wlk_set {B nb no nc : Nat} {l : List Nd} {W0 W : World} {s : SSt} {G0 G : WG} (h : ST B nb no nc l W0 G0 W s G) (z : Int) : ST B nb no nc l W0 G0 (W.setCell ⟨G.wb, 9, none⟩ (.int .i64 z)) { s with set := z } G := by
  have hf : Fr B W G (W.setCell ⟨G.wb, 9, none⟩ (.int .i64 z)) G := Fr.onl h.rel.Bw (by rw [h.rel.lwb]; simp) (Onl.set _ _ _ _)
  refine h.step ?_ hf
  refine h.rel.wlk s.flt s.blocks z (Onl.set _ _ _ _) ?_
  rw [heap_setCell_same _ _ _ _ _ _ h.rel.hw]
  simp [wlkC]
set_option maxHeartbeats 2000000 in
set_option maxRecDepth 100000 in
theorem visit_33 {B nb no nc : Nat} {l : List Nd} {W0 W : World} {s : SSt} {G0 G : WG} (i : Nat) (h : ST B nb no nc l W0 G0 W s G) (hi : i < l.length) (hk : kdN l i = 33)
    (hl : LOk l) (s3 : SSt) (HN : ∀ W2 ka kc, ST B nb no nc l W2 G W2 { s with set := placeP l (l.length + 1) ((ndN l i).kids.getD 0 0).toNat } G → IntsV W2 B (.slice ka (ndN l i).kids.length kc) (ndN l i).kids → Calls Tryd.prog 29 #[.pointer (some ⟨G.wb, 0, none⟩), .slice ka (ndN l i).kids.length kc] W2 fun e W' => e = .returned (.tuple #[]) ∧ ∃ G', ST B nb no nc l W2 G W' s3 G') :
    Calls Tryd.prog 19 #[.pointer (some ⟨G.wb, 0, none⟩), .int .i64 i] W fun e W' => e = .returned (.tuple #[]) ∧ ∃ G', ST B nb no nc l W0 G0 W' s3 G' := by
  have hw0 := h.rel.cw 0
  simp only [wlkC] at hw0
  simp at hw0
  obtain ⟨ka, kc, ⟨c0, c1, c2, c3, c4, hks⟩⟩ := h.nds.at_ i hi
  change W.cell? _ = some (.int .i64 (kdN l i)) at c0
  rw [hk] at c0
  have hmax := h.nds.max
  unfold maxLen at hmax
  obtain ⟨W1, hW1⟩ : ∃ W1, W.alloc (.cells #[.pointer (some ⟨G.wb, 0, none⟩)] 49) = W1 := ⟨_, rfl⟩
  have b1 : Below W.heap.size W W1 := by rw [← hW1]; exact (Below.refl _ _).alloc (Nat.le_refl _) _
  have s1 : W1.heap.size = W.heap.size + 1 := by rw [← hW1]; simp
  have z1 : W1.cell? ⟨W.heap.size, 0, none⟩ = some (.pointer (some ⟨G.wb, 0, none⟩)) := by rw [← hW1]; exact cell_of_one (heap_alloc_new W _)
  have hlw : G.wb < W.heap.size := h.rel.lt h.rel.lwb (by simp)
  have hln : nb < W.heap.size := Nat.lt_of_lt_of_le h.nds.lo h.nds.hi
  have hw0' : W1.cell? ⟨G.wb, 0, none⟩ = some (.slice (some ⟨nb, no, none⟩) l.length nc) := by rw [b1.cell (p := ⟨G.wb, 0, none⟩) hlw]; exact hw0
  rw [← b1.cell (p := ⟨nb, no + i * 5, none⟩) hln] at c0
  rw [← b1.cell (p := ⟨nb, no + i * 5 + 1, none⟩) hln] at c1
  rw [← b1.cell (p := ⟨nb, no + i * 5 + 2, none⟩) hln] at c2
  rw [← b1.cell (p := ⟨nb, no + i * 5 + 3, none⟩) hln] at c3
  rw [← b1.cell (p := ⟨nb, no + i * 5 + 4, none⟩) hln] at c4
  obtain ⟨W2, hW2⟩ : ∃ W2, W1.alloc (.cells #[.int .i64 33, .int .i64 (ndN l i).pos, .slice ka (ndN l i).kids.length kc, .string (ndN l i).name, .int .i64 (ndN l i).num] 36) = W2 := ⟨_, rfl⟩
  have b12 : Below W1.heap.size W1 W2 := by rw [← hW2]; exact (Below.refl _ _).alloc (Nat.le_refl _) _
  have b2 : Below W.heap.size W W2 := b1.trans (b12.mono (by omega))
  have z2 : W2.cell? ⟨W.heap.size, 0, none⟩ = some (.pointer (some ⟨G.wb, 0, none⟩)) := by rw [b12.cell (p := ⟨W.heap.size, 0, none⟩) (show W.heap.size < _ by omega)]; exact z1
  have y2 : W2.cell? ⟨W1.heap.size, 2, none⟩ = some (.slice ka (ndN l i).kids.length kc) := by rw [← hW2, cell_of_row _ _ 2 _ _ _ (heap_alloc_new W1 _)]; rfl
  have y0 : W2.cell? ⟨W1.heap.size, 0, none⟩ = some (.int .i64 33) := by rw [← hW2, cell_of_row _ _ 0 _ _ _ (heap_alloc_new W1 _)]; rfl
  rw [s1] at y0 y2
  have hks2 := hks.below (b2.mono h.nds.hi)
  have hst2 := ST.start (h.rel.below b2) (h.nds.below (b2.mono h.nds.hi))
  have HRB := Bx.mk fun (W4 : World) (s4 : SSt) (G4 : WG) (h4 : ST B nb no nc l W2 G W4 s4 G4) => h.rebase b2 h4
  obtain ⟨a, cap, he, h1, h2, h3⟩ := hks2.ex
  simp only [Value.slice.injEq, true_and] at he
  obtain ⟨rfl, rfl⟩ := he
  have hpl := hl.place i hi (.inl hk)
  obtain ⟨kg, ko, rfl, hkB, hcell⟩ := h3 (by omega)
  have hc0 := hcell 0 (by omega)
  simp only [Nat.add_zero] at hc0
  obtain ⟨k', hk', hlt⟩ := hl.low i (ndN l i).kids[0] hi (List.getElem_mem _)
  have hg0 : (ndN l i).kids.getD 0 0 = (k' : Int) := by rw [List.getD_eq_getElem?_getD, List.getElem?_eq_getElem (by omega)]; exact hk'
  rw [hk'] at hc0
  rw [hg0] at HN
  change ∀ W2 ka kc, ST B nb no nc l W2 G W2 { s with set := placeP l (l.length + 1) k' } G → _ at HN
  have hlk : kg < W2.heap.size := World.block_lt_of_cell? W2 _ hc0
  have s2 : W2.heap.size = W.heap.size + 2 := by rw [← hW2]; simp [s1]
  have HC1 := Bx.mk (placeName_any hl (W := W2.drewN 1) G.wb k' (l.length + 1) (hst2.drew 1).nds ((hst2.drew 1).rel.cw 0) (by omega) (by omega))
  have hFF : ∃ F, placeP l (l.length + 1) k' = F := ⟨_, rfl⟩
  obtain ⟨F, hF⟩ := hFF
  rw [hF] at HC1 HN
  have HX : Bx (∀ W3, Below (W2.drewN 1).heap.size (W2.drewN 1) W3 → W3.cell? ⟨W.heap.size, 0, none⟩ = some (.pointer (some ⟨G.wb, 0, none⟩)) ∧ W3.cell? ⟨W.heap.size + 1, 2, none⟩ = some (.slice (some ⟨kg, ko, none⟩) (ndN l i).kids.length kc) ∧ W3.cell? ⟨kg, ko, none⟩ = some (.int .i64 k') ∧ W3.cell? ⟨G.wb, 9, none⟩ = some (.int .i64 s.set) ∧ W3.frozen? ⟨G.wb, 9, none⟩ = false) := ⟨fun W3 b3 => by
    have hs3 := (hst2.drew 1).ext b3
    refine ⟨?_, ?_, ?_, hs3.rel.cw 9, hs3.rel.fw 9⟩
    · rw [b3.cell (p := ⟨W.heap.size, 0, none⟩) (show W.heap.size < W2.heap.size by omega)]; exact z2
    · rw [b3.cell (p := ⟨W.heap.size + 1, 2, none⟩) (show W.heap.size + 1 < W2.heap.size by omega)]; exact y2
    · rw [b3.cell (p := ⟨kg, ko, none⟩) hlk]; exact hc0⟩
  have hBw := h.rel.Bw
  have HY : Bx (∀ W3, Below (W2.drewN 1).heap.size (W2.drewN 1) W3 → ∀ W4, W3.setCell ⟨G.wb, 9, none⟩ (.int .i64 F) = W4 → W4.cell? ⟨W.heap.size, 0, none⟩ = some (.pointer (some ⟨G.wb, 0, none⟩)) ∧ W4.cell? ⟨W.heap.size + 1, 2, none⟩ = some (.slice (some ⟨kg, ko, none⟩) (ndN l i).kids.length kc) ∧ Bx (Calls Tryd.prog 29 #[.pointer (some ⟨G.wb, 0, none⟩), .slice (some ⟨kg, ko, none⟩) (ndN l i).kids.length kc] W4 fun e W' => e = .returned (.tuple #[]) ∧ ∃ G', ST B nb no nc l W0 G0 W' s3 G')) := ⟨fun W3 b3 W4 e4 => by
    have hs3 := (hst2.drew 1).ext b3
    have hs4 := wlk_set hs3 F
    rw [e4] at hs4
    obtain ⟨x1, x2, _, _, _⟩ := HX.out W3 b3
    have o4 : Onl G.wb W3 W4 := by rw [← e4]; exact Onl.set _ _ _ _
    refine ⟨?_, ?_, ⟨?_⟩⟩
    · rw [← x1]; exact World.cell?_of_block (o4.block _ (show W.heap.size ≠ G.wb by omega))
    · rw [← x2]; exact World.cell?_of_block (o4.block _ (show W.heap.size + 1 ≠ G.wb by omega))
    · refine (HN W4 (some ⟨kg, ko, none⟩) kc (ST.start hs4.rel hs4.nds) (hks2.below hs4.fr.bel)).mono ?_
      rintro e W5 ⟨rfl, G5, h5⟩
      exact ⟨rfl, G5, HRB.out W5 s3 G5 ⟨h5.rel, h5.nds, hs4.fr.trans h5.fr⟩⟩⟩
  have m1 : G.wb ≠ W.heap.size := by omega
  have m2 : G.wb ≠ W.heap.size + 1 := by omega
  have m3 : G.wb ≠ kg := by omega
  have m1' := m1.symm
  have m2' := m2.symm
  have m3' := m3.symm
  clear HN h3 hcell hg0 hk' HRB hF
  generalize s.set = sz at *
  generalize (ndN l i).kids.length = nk at *
  unfold maxLen at h2
  clear h b1 hw0 b12 hst2
  go_enter Tryd.func19, Tryd.ntmps19
  go_wp2
  go_region_held (fun w' => w'.cell? ⟨W.heap.size, 0, none⟩ = some (.pointer (some ⟨G.wb, 0, none⟩)) ∧ w'.cell? ⟨W.heap.size + 1, 2, none⟩ = some (.slice (some ⟨kg, ko, none⟩) nk kc) ∧ w'.cell? ⟨kg, ko, none⟩ = some (.int .i64 k')) (first | exact ⟨p1, p2, p3⟩ | go_keep | (simp [*]))
    (first | (go_at_call 31; refine Calls.mono HC1.out ?_; rintro e W3 ⟨rfl, b3⟩; obtain ⟨p1, p2, p3, p4, p5⟩ := HX.out W3 b3; replace b3 := Bx.mk b3))
  obtain ⟨W4, hW4⟩ : ∃ W4, W3.setCell ⟨G.wb, 9, none⟩ (.int .i64 F) = W4 := ⟨_, rfl⟩
  obtain ⟨r1, r2, HC2⟩ := HY.out W3 b3.out W4 hW4
  rw [hW4]
  rename_i hheld
  clear hheld HY HX p1 p2 p3 p4 p5 hW4
  go_wp2_with (first
    | (go_at_call 29; refine Calls.mono HC2.out ?_; clear HC2; rintro e W5 ⟨rfl, h5⟩; replace h5 := Bx.mk h5))
  go_end0
  exact ⟨rfl, h5.out⟩
end Go.Proofs.YtjjbgbadkbomlaaDoor
