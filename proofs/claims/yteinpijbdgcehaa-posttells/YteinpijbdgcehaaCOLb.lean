import Derived.Test.YteinpijbdgcehaaCOLa
namespace Go.Proofs.Yteinpijbdgcehaa
open Go.RowKit Go.Shelf
set_option linter.unusedVariables false
set_option linter.unusedSimpArgs false

def armsOf (l : List OWt) (j : Nat) : List OArm := (l[j]?.map (·.arms)).getD []
theorem armsOf_at (l : List OWt) (j : Nat) (h : j < l.length) : armsOf l j = l[j].arms := by simp [armsOf, h]
def LentP (w : World) (l : List OWt) (e : Ending) (w' : World) : Prop := ∃ ab B rv, e = .returned (.tuple #[.slice (some ⟨ab, 0, none⟩) (l.length + 1) (l.length + 1), rv]) ∧ Ln w' ab B l (armsOf l) l.length ∧ w'.ownsRow (ab + 1) 36 1 rv l.length (rowC B (armsOf l) l.length) ∧ w.heap.size ≤ ab ∧ w'.cell? ⟨ab, l.length * 2, none⟩ = some (.int .i64 (-99)) ∧ Below w.heap.size w w'
/-- lent in the midst -/
structure LnI (w W : World) (ab : Nat) (B : Nat → Nat) (l : List OWt) (i : Nat) (rv : Value) : Prop where
  ln : Ln W ab B l (armsOf l) i
  row : W.ownsRow (ab + 1) 36 1 rv i (rowC B (armsOf l) i)
  bel : Below w.heap.size w W
theorem mark_set (l : List OArm) : ((armsC l ++ zA.toList).toArray.setIfInBounds (l.length * 5) (.int .i64 (-99))) = (armsC l ++ mkA).toArray := by
  have h : l.length * 5 = (armsC l).length := (armsC_len l).symm
  rw [h]
  simp [zA, mkA, List.set_append_right]
theorem tot_le (l : List OWt) (i : Nat) (h : i < l.length) : l[i].arms.length ≤ tot l := by
  induction l generalizing i with
  | nil => simp at h
  | cons x r ih =>
    cases i with
    | zero => simp [tot]
    | succ i =>
      have := ih i (by simpa using h)
      simp [tot]
      omega

set_option maxRecDepth 100000 in
set_option maxHeartbeats 8000000 in
theorem lent_any (w : World) (Pr : Nat → Prop) (hPr : ∀ b, Pr b → ∃ o : Obj, w.heap[b]? = some o ∧ o.isCells = true) (p : Option Addr) (c : Nat) (l : List OWt) (hl : WsIn w Pr p c l) (hs : l.length + tot l ≤ 4000) :
    Calls Try.prog 8 #[.slice p l.length c] w (LentP w l) := by
  obtain ⟨i0, hi, iz0, iz1, iz2⟩ := info_parts infoAs
  have hlc := hl.len
  have hcm := hl.max
  unfold maxLen at hcm
  have hmw := make_ws w (l.length + 1) (by omega)
  push_cast at hmw
  go_enter Try.func8, Try.ntmps8
  go_wp2
  clear hmw
  obtain ⟨ab, hab⟩ : ∃ ab, w.heap.size = ab := ⟨_, rfl⟩
  obtain ⟨W0, hW0⟩ : ∃ W0, (w.alloc (.cells (madeCells zW ((l.length + 1) * 2)) 38)).alloc (.cells #[] 36) = W0 := ⟨_, rfl⟩
  have HS : Bx (LnI w W0 ab (fun _ => 0) l 0 (.slice (some ⟨ab + 1, 0, none⟩) 0 0)) := ⟨by
    rw [← hW0, ← hab]
    refine ⟨⟨⟨_, (Below.heap_alloc _ _ _ (by simp)).trans (World.alloc_heap_new _ _), by rw [size_madeCells], fun j hj hji => by omega⟩, fun j hj => by omega, fun j hj => by omega, fun j j' hj => by omega, fun j hj => by rw [armsOf_at l j hj]⟩, ⟨rfl, .inr ⟨_, 0, #[], rfl, Nat.le_refl _, alloc_at _ _ _, by simp, by simp [maxLen], rfl, rfl⟩⟩, two_new _ _ _⟩⟩
  rw [hab, hW0]
  have HAB : Bx (w.heap.size = ab) := ⟨hab⟩
  clear hab hW0
  go_loopg [5, 6] (l.length + 1) (fun g v5 v6 wr => ∃ (i : Nat) (B : Nat → Nat), g = l.length + 1 - i ∧ i ≤ l.length ∧ v6 = .int .i64 i ∧ Bx (LnI w wr ab B l i v5))
  case atStart => exact ⟨0, fun _ => 0, by simp, by omega, rfl, HS⟩
  case round =>
    obtain ⟨i, B, hg, hil, rfl, HR⟩ := hrel
    clear HS
    by_cases hlt : i < l.length
    · have hkp : ∀ {X : World}, Below w.heap.size w X → WsIn X Pr p c l := fun h => hl.keep (Kpt.of_below hPr h)
      obtain ⟨b, o, q, d, rfl, hb, c0, c1, hA, _⟩ := (hkp HR.out.bel).at_ i hlt
      have hal : l[i].arms.length ≤ 4000 := by have := tot_le l i hlt; omega
      have hq1 := hA.len
      have hq2 := hA.max
      unfold maxLen at hq2
      have hbw : b < w.heap.size := by obtain ⟨o, h1, _⟩ := hPr b hb; exact (Array.getElem?_eq_some_iff.1 h1).1
      have hmk := make_arms wr (l[i].arms.length + 1) (by omega)
      push_cast at hmk
      obtain ⟨Bi, hBi⟩ : ∃ Bi, wr.heap.size = Bi := ⟨_, rfl⟩
      have hsz : w.heap.size ≤ wr.heap.size := HR.out.bel.size
      have hb1 : Below w.heap.size w (wr.alloc (.cells (madeCells zA ((l[i].arms.length + 1) * 5)) 43)) := HR.out.bel.trans ((below1 _ _).mono hsz)
      have hA1 : ArmsIn (wr.alloc (.cells (madeCells zA ((l[i].arms.length + 1) * 5)) 43)) Pr q d l[i].arms := hA.keep (fun b hb => by
        obtain ⟨o, h1, _⟩ := hPr b hb
        exact Below.heap_alloc _ _ _ (by have := (Array.getElem?_eq_some_iff.1 h1).1; omega))
      obtain ⟨W2, hcp, hW2, hg2, hz2⟩ := copy_arms _ Pr Bi q d l[i].arms hA1 (by rw [← hBi]; exact World.alloc_heap_new _ _)
      have hcp3 := hcp 3
      have e1 : (wr.alloc (.cells (madeCells zA ((l[i].arms.length + 1) * 5)) 43)).cell? ⟨b, o + i * 2 + 1, none⟩ = some (.slice q l[i].arms.length d) := by
        rw [← c1]; exact (below1 wr _).cell (p := ⟨b, o + i * 2 + 1, none⟩) (by show b < wr.heap.size; omega)
      have hb2 : Below w.heap.size w W2 := hb1.grown hg2 (by simp; omega) (fun r e => by cases e; omega)
      have e2 : W2.cell? ⟨b, o + i * 2 + 1, none⟩ = some (.slice q l[i].arms.length d) := by
        rw [← e1]; simp only [World.cell?]; rw [hg2.block b (by simp; omega) (fun e => by injection e with e; omega)]
      have hW3 := blk_set hW2 (l[i].arms.length * 5) (.int .i64 (-99))
      rw [mark_set] at hW3
      have f0 : W2.cell? ⟨Bi, l[i].arms.length * 5, none⟩ = some (.int .i64 0) := cell_of hW2 (by
        rw [List.getElem?_toArray, List.getElem?_append_right (by rw [armsC_len]; omega), armsC_len, Nat.sub_self]
        rfl)
      have f1 : W2.frozen? ⟨Bi, l[i].arms.length * 5, none⟩ = false := by simp [World.frozen?, hW2]
      have HH : Bx (LnI w wr ab B l i u5 ∧ W2.heap.size = wr.heap.size + 1 ∧ (∀ b, b < wr.heap.size → W2.heap[b]? = wr.heap[b]?)) := ⟨HR.out, by rw [hz2]; simp, fun b hb => (hg2.block b (by simp; omega) (fun e => by injection e with e; omega)).trans (Below.heap_alloc _ _ _ hb)⟩
      have hW3s : (W2.setCell ⟨Bi, l[i].arms.length * 5, none⟩ (.int .i64 (-99))).heap.size = Bi + 1 := by rw [World.size_setCell, hz2]; simp [hBi]
      obtain ⟨W4, hW4⟩ : ∃ W4, (W2.setCell ⟨Bi, l[i].arms.length * 5, none⟩ (.int .i64 (-99))).alloc (.cells #[.slice (some ⟨Bi, 0, none⟩) (l[i].arms.length + 1) (l[i].arms.length + 1)] 36) = W4 := ⟨_, rfl⟩
      have k4 : ∀ b, b < wr.heap.size → W4.heap[b]? = wr.heap[b]? := fun b hb => by
        rw [← hW4]
        refine (Below.heap_alloc _ _ _ (by omega)).trans ?_
        rw [Below.heap_setCell _ _ _ _ (by show b ≠ Bi; omega)]
        exact HH.out.2.2 b hb
      have k4b : W4.heap[Bi]? = some (.cells (armsC l[i].arms ++ mkA).toArray 43 (0, 0)) := by
        rw [← hW4]; exact (Below.heap_alloc _ _ _ (by omega)).trans hW3
      have k4l : W4.heap[Bi + 1]? = some (.cells #[.slice (some ⟨Bi, 0, none⟩) (l[i].arms.length + 1) (l[i].arms.length + 1)] 36 (0, 0)) := by
        rw [← hW4, ← hW3s]; exact World.alloc_heap_new _ _
      have hz4 : W4.heap.size = Bi + 2 := by rw [← hW4]; simp [World.size_setCell, HH.out.2.1, hBi]
      have hb4 : Below w.heap.size w W4 := by
        rw [← hW4]; exact (hb2.setCell (p := ⟨Bi, l[i].arms.length * 5, none⟩) (by show w.heap.size ≤ Bi; omega) _).trans ((below1 _ _).mono (by rw [hW3s]; omega))
      have HO : Bx (W4.ownsRow (ab + 1) 36 1 u5 i (rowC B (armsOf l) i)) := ⟨own_same HH.out.1.row (fun g o hg ho => (k4 g (Array.getElem?_eq_some_iff.1 ho).1).trans ho)⟩
      have HL4 : Bx (Ln W4 ab B l (armsOf l) i) := ⟨HH.out.1.ln.keep (fun b o _ ho => (k4 b (Array.getElem?_eq_some_iff.1 ho).1).trans ho)⟩
      have habw : ab < wr.heap.size := by obtain ⟨us, h1, _⟩ := HH.out.1.ln.us; exact (Array.getElem?_eq_some_iff.1 h1).1
      have e0 : wr.cell? ⟨b, o + i * 2, none⟩ = some (.int .i64 l[i].id) := c0
      have HF : Bx (∀ w5, W4.grownBy w5 u5.ownBlock → (w5.cell? ⟨b, o + i * 2, none⟩ = some (.int .i64 l[i].id) ∧ w5.cell? ⟨b, o + i * 2 + 1, none⟩ = some (.slice q l[i].arms.length d)) ∧ ((∃ u, w5.cell? ⟨ab, i * 2, none⟩ = some u) ∧ (∃ u, w5.cell? ⟨ab, i * 2 + 1, none⟩ = some u) ∧ w5.frozen? ⟨ab, i * 2, none⟩ = false ∧ w5.frozen? ⟨ab, i * 2 + 1, none⟩ = false) ∧ Ln w5 ab B l (armsOf l) i ∧ w5.heap[Bi]? = some (.cells (armsC l[i].arms ++ mkA).toArray 43 (0, 0)) ∧ Below w.heap.size w w5) := ⟨fun w5 hg5 => by
        have hab := HAB.out
        have kk : ∀ b o, W4.heap[b]? = some o → u5.ownBlock ≠ some b → w5.heap[b]? = some o := fun b o h1 h2 => grownBy_oth hg5 h1 h2
        have hlow : ∀ g, u5.ownBlock = some g → ab + 1 ≤ g := fun g hg => own_base HO.out g hg
        have hkind : ∀ g, u5.ownBlock = some g → ∃ cur, W4.heap[g]? = some (.cells cur 36 (0, 0)) := fun g hg => by
          rcases HO.out.2 with ⟨h1, _⟩ | ⟨g', cap, cur, h1, _, h3, _⟩
          · rw [h1] at hg; cases hg
          · rw [h1] at hg; cases hg; exact ⟨cur, h3⟩
        have hb5 : w5.heap[b]? = wr.heap[b]? := by
          obtain ⟨o', h1, _⟩ := hPr b hb
          have h2 := (k4 b (by omega)).symm
          rw [h2]
          exact hg5.block b (by omega) (fun e => by have := hlow b e.symm; omega)
        have hln : Ln w5 ab B l (armsOf l) i := HL4.out.keep (fun b' o' hb' ho' => kk b' o' ho' (fun e => by
          rcases hb' with rfl | ⟨j, hj, rfl⟩
          · have := hlow _ e; omega
          · obtain ⟨cur, h1⟩ := hkind _ e
            rw [HL4.out.vs j hj] at h1
            cases h1))
        obtain ⟨us, h1, h2, _⟩ := hln.us
        refine ⟨⟨by simp only [World.cell?, hb5]; simpa [World.cell?] using e0, by simp only [World.cell?, hb5]; simpa [World.cell?] using c1⟩, ⟨⟨us[i * 2]'(by omega), cell_of h1 (Array.getElem?_eq_getElem (by omega))⟩, ⟨us[i * 2 + 1]'(by omega), cell_of h1 (Array.getElem?_eq_getElem (by omega))⟩, by simp [World.frozen?, h1], by simp [World.frozen?, h1]⟩, hln, kk _ _ k4b (fun e => ?_), hb4.grown hg5 (by omega) (fun r e => by have := hlow r e; omega)⟩
        obtain ⟨cur, h3⟩ := hkind _ e
        rw [k4b] at h3
        cases h3⟩
      have HW4 : Bx (_ = W4) := ⟨hW4⟩
      have HBI : Bx (wr.heap.size = Bi) := ⟨hBi⟩
      clear hA hA1 hcp hg2 HR hb1 hW2 hl hW4 hW3
      go_wp2_with (first | (at_builtin; rw [HW4.out]; refine wpList_app _ rfl (.tmp 43) (.tmp 45) 29 rfl (ab + 1) 36 i0 (.slice none 0 0) 1 24 Try.underlying29 hi iz0 iz1 iz2 rfl (by decide) u5 i (rowC B (armsOf l) i) rfl HO.out ⟨Bi + 1, 0, none⟩ 1 1 [.slice (some ⟨Bi, 0, none⟩) (l[i].arms.length + 1) (l[i].arms.length + 1)] rfl rfl (block_cells _ _ #[.slice (some ⟨Bi, 0, none⟩) (l[i].arms.length + 1) (l[i].arms.length + 1)] 36 k4l) (by simp [Value.oneCell']) (by decide) (by unfold maxLen; omega) (by omega) (by omega) (Bi + 2) hz4 ?_; intro gg gcap w5 hown5 hgrow5 hgi5 hgl5; obtain ⟨⟨d0, d1⟩, ⟨⟨n0, m0⟩, ⟨n1, m1⟩, m2, m3⟩, hln5, hBi5, hb5⟩ := HF.out w5 hgrow5; have HL5 : Bx _ := ⟨hln5⟩; have HB5 : Bx _ := ⟨hBi5⟩; have HO5 : Bx _ := ⟨hown5⟩; have HBL5 : Bx _ := ⟨hb5⟩; clear hln5 hBi5 hown5 hgrow5 hb5 HF))
      have hBn : ∀ j, j < i → B j ≠ Bi := fun j hj e => by
        have h1 := HH.out.1.ln.vs j hj
        have := (Array.getElem?_eq_some_iff.1 h1).1
        have := HBI.out
        omega
      have HBN : Bx _ := ⟨hBn⟩
      clear hBn
      go_region
      go_wp2
      have hst := Ln.step (W0 := w5) hlt HL5.out (armsOf_at l i hlt) HB5.out (by have := HBI.out; omega) HBN.out
      have hoth : ∀ b, b ≠ ab → ((w5.setCell ⟨ab, i * 2, none⟩ (.int .i64 l[i].id)).setCell ⟨ab, i * 2 + 1, none⟩ (.slice (some ⟨Bi, 0, none⟩) l[i].arms.length (l[i].arms.length + 1))).heap[b]? = w5.heap[b]? := fun b hb => by
        rw [Below.heap_setCell _ _ _ _ hb, Below.heap_setCell _ _ _ _ hb]
      have hrow5 := HO5.out
      have hrC : rowC (fun j => if j = i then Bi else B j) (armsOf l) (i + 1) = rowC B (armsOf l) i ++ [.slice (some ⟨Bi, 0, none⟩) (l[i].arms.length + 1) (l[i].arms.length + 1)] := by
        rw [rowC_succ, if_pos rfl, armsOf_at l i hlt, rowC_congr (B := fun j => if j = i then Bi else B j) (B' := B) (fun j hj => if_neg (by omega))]
      rw [← hrC] at hrow5
      have hb6 := (HBL5.out.setCell (p := ⟨ab, i * 2, none⟩) (by show _ ≤ ab; rw [HAB.out]; exact Nat.le_refl _) (.int .i64 l[i].id)).setCell (p := ⟨ab, i * 2 + 1, none⟩) (by show _ ≤ ab; rw [HAB.out]; exact Nat.le_refl _) (.slice (some ⟨Bi, 0, none⟩) l[i].arms.length (l[i].arms.length + 1))
      have hrow6 := own_same (W' := ((w5.setCell ⟨ab, i * 2, none⟩ (.int .i64 l[i].id)).setCell ⟨ab, i * 2 + 1, none⟩ (.slice (some ⟨Bi, 0, none⟩) l[i].arms.length (l[i].arms.length + 1))).drew) hrow5 (fun g o hg ho => (hoth g (by have := own_base hrow5 g hg; omega)).trans ho)
      have HFI : Bx (LnI w ((w5.setCell ⟨ab, i * 2, none⟩ (.int .i64 l[i].id)).setCell ⟨ab, i * 2 + 1, none⟩ (.slice (some ⟨Bi, 0, none⟩) l[i].arms.length (l[i].arms.length + 1))).drew ab (fun j => if j = i then Bi else B j) l (i + 1) (.slice (some ⟨gg, 0, none⟩) (i + 1) gcap)) := ⟨hst.keep (fun _ _ _ h => h), hrow6, hb6.drew⟩
      clear hst hrow5 hrow6 hb6 hoth hrC
      go_roundg (l.length + 1 - (i + 1))
      case measure => omega
      case rel => exact ⟨i + 1, _, rfl, by omega, by simp, HFI⟩
    · have hie : i = l.length := by omega
      subst hie
      obtain ⟨us, h1, h2, h3⟩ := HR.out.ln.us
      have k0 : wr.cell? ⟨ab, l.length * 2, none⟩ = some (us[l.length * 2]'(by omega)) := cell_of h1 (Array.getElem?_eq_getElem (by omega))
      have k1 : wr.frozen? ⟨ab, l.length * 2, none⟩ = false := by simp [World.frozen?, h1]
      have hoth : ∀ b, b ≠ ab → (wr.setCell ⟨ab, l.length * 2, none⟩ (.int .i64 (-99))).heap[b]? = wr.heap[b]? := fun b hb => Below.heap_setCell _ _ _ _ hb
      have HF : Bx (LentP w l (.returned (.tuple #[.slice (some ⟨ab, 0, none⟩) (l.length + 1) (l.length + 1), u5])) (wr.setCell ⟨ab, l.length * 2, none⟩ (.int .i64 (-99)))) := ⟨ab, B, u5, rfl, ⟨⟨_, blk_set h1 _ _, by simpa using h2, fun j hj hji => by
          have := h3 j hj hji
          constructor
          · rw [Array.getElem?_setIfInBounds, if_neg (by omega)]; exact this.1
          · rw [Array.getElem?_setIfInBounds, if_neg (by omega)]; exact this.2⟩, fun j hj => (hoth _ (by have := HR.out.ln.lo j hj; omega)).trans (HR.out.ln.vs j hj), HR.out.ln.lo, HR.out.ln.ne, HR.out.ln.ln⟩,
        own_same HR.out.row (fun g o hg ho => (hoth g (by have := own_base HR.out.row g hg; omega)).trans ho), by rw [HAB.out]; exact Nat.le_refl _, World.cell?_setCell_same _ _ _ k0, HR.out.bel.setCell (p := ⟨ab, l.length * 2, none⟩) (by show _ ≤ ab; rw [HAB.out]; exact Nat.le_refl _) _⟩
      clear HR h1 h3
      go_wp2
      exact bodyPost_ret (v := .tuple #[.slice (some ⟨ab, 0, none⟩) (l.length + 1) (l.length + 1), u5]) (by simp [results, Try.results8, go_sem]) rfl HF.out
end Go.Proofs.Yteinpijbdgcehaa
