import Derived.Test.YtllgaholkminnaaDoorCKMean
import Derived.Test.YtllgaholkminnaaDoorCKRow
namespace Go.Proofs.YtllgaholkminnaaDoor
open Go.RowKit
set_option linter.unusedVariables false
set_option linter.unusedSimpArgs false

theorem TysO.only {W W' : World} {b0 fb : Nat} {v : Value} {T : List Ty} (h : TysO W b0 v T) (ho : Only fb W W') (hf : fb < b0) : TysO W' b0 v T := by
  obtain ⟨ks, h1, h2, h3⟩ := h.ex
  exact ⟨ks, h1, owns_same h2 fun g hg _ => ho.block g (by omega), fun j hj => ⟨(h3 j hj).1.same (ho.block _ (by have := (h3 j hj).2; omega)), (h3 j hj).2⟩⟩
/-- the cell of a fault -/
structure FltAt (W : World) (fb : Nat) : Prop where
  h : W.heap[fb]? = some (.cells #[.int .i64 0, .int .i64 0] 41 (0, 0))
theorem FltAt.cells {W : World} {fb : Nat} (h : FltAt W fb) : W.cell? ⟨fb, 0, none⟩ = some (.int .i64 0) ∧ W.cell? ⟨fb, 1, none⟩ = some (.int .i64 0) ∧ W.frozen? ⟨fb, 0, none⟩ = false ∧ W.frozen? ⟨fb, 1, none⟩ = false ∧ fb < W.heap.size :=
  ⟨cell_of_row W fb 0 _ _ (0, 0) h.h, cell_of_row W fb 1 _ _ (0, 0) h.h, by simp [World.frozen?, h.h], by simp [World.frozen?, h.h], (Array.getElem?_eq_some_iff.1 h.h).1⟩
theorem FltAt.below {W W' : World} {fb B : Nat} (h : FltAt W fb) (hb : Below B W W') (hf : fb < B) : FltAt W' fb := ⟨by rw [hb.block fb hf]; exact h.h⟩

set_option maxRecDepth 100000 in
set_option maxHeartbeats 4000000 in
theorem Table_bad (w : World) (B nb no nc i : Nat) (l : List Nd) (hn : Nodes w B nb no nc l) (hL : Laid w) (h0 : 0 < l.length) (hl31 : l.length ≤ 2147483640) (hck : checkAll l = (0, 0)) (hdk : DeclK l) (hT : ∀ j, j < l.length → twiceAt l j = false) (hi : i < l.length) (hu : unknownAt l i = true) (hf : ∀ j, j < i → unknownAt l j = false) :
    Calls Tryd.prog 18 #[.slice (some ⟨nb, no, none⟩) l.length nc] w fun e w' => e = .returned (.tuple #[.slice none 0 0, .slice none 0 0, faultV (ndN l i).pos 41]) ∧ Below w.heap.size w w' := by
  have HC : Bx (∀ o, Calls Tryd.prog 26 #[.slice (some ⟨nb, no, none⟩) l.length nc] (w.alloc o) fun e w' => e = .returned (.tuple #[.int .i64 0, .int .i64 0]) ∧ Below (w.alloc o).heap.size (w.alloc o) w') := ⟨fun o => by
    have := Check_some (w.alloc o) B nb no nc l (hn.below ((below1 w o).mono hn.hi)) (hL.below (below1 w o)) (by omega) h0
    rw [hck] at this
    exact this⟩
  have HM : Bx (∀ W, Below w.heap.size w W → Calls Tryd.prog 27 #[.slice (some ⟨nb, no, none⟩) l.length nc] W fun e w' => e = .returned (.tuple #[.slice none 0 0, faultV (ndN l i).pos 41]) ∧ Below W.heap.size W w') := ⟨fun W hb => by
    refine Calls.mono (meanings_ok W B nb no nc l (hn.below (hb.mono hn.hi)) h0 (by omega) hdk hT) ?_
    rintro e w' ⟨hb', ⟨j, hj, q1, q2, q3⟩ | ⟨q1, _⟩⟩
    · have : j = i := by
        rcases Nat.lt_trichotomy j i with h | h | h
        · rw [hf j h] at q1; cases q1
        · exact h
        · rw [q2 i h] at hu; cases hu
      subst this
      exact ⟨q3, hb'⟩
    · rw [q1 i hi] at hu; cases hu⟩
  have HF : Bx (∀ W, Below (w.alloc (.cells #[.int .i64 0, .int .i64 0] 41)).heap.size (w.alloc (.cells #[.int .i64 0, .int .i64 0] 41)) W → FltAt W w.heap.size) := ⟨fun W hb => FltAt.below (⟨heap_alloc_new w _⟩ : FltAt (w.alloc (.cells #[.int .i64 0, .int .i64 0] 41)) w.heap.size) hb (by simp)⟩
  clear hn hL hck hdk hT hu hf
  generalize (ndN l i).pos = ps at *
  unfold faultV at *
  go_enter Tryd.func18, Tryd.ntmps18
  go_wp2_with (first | (go_at_call 26; refine Calls.mono (HC.out _) ?_; rintro e w2 ⟨rfl, hb2⟩; have HB2 : Bx _ := ⟨hb2⟩; have hs2 := hb2.size; simp at hs2; clear hb2) | (go_at_call 27; refine Calls.mono (HM.out _ ((below1 w _).trans (HB2.out.mono (by simp)))) ?_; rintro e w3 ⟨rfl, hb3⟩; have HB3 : Bx _ := ⟨hb3⟩; have hs3 := hb3.size; obtain ⟨f0, f1, f2, f3, f4⟩ := (HF.out _ HB2.out).below hb3 (by omega) |>.cells; clear hb3))
  have HB : Bx (∀ o, Below w.heap.size w (((w3.setCell ⟨w.heap.size, 0, none⟩ (.int .i64 ps)).setCell ⟨w.heap.size, 1, none⟩ (.int .i64 41)).alloc o).drew) := ⟨fun o => ((((Only.set _ _ _ _).trans (Only.set _ _ _ _)).bel _ _ (Nat.le_refl _) (((below1 w _).trans (HB2.out.mono (by simp))).trans (HB3.out.mono (by omega)))).trans ((below1 _ _).mono (by simp; omega))).drew⟩
  go_region
  all_goals
    go_wp2
    refine bodyPost_ret (v := .tuple #[.slice none 0 0, .slice none 0 0, .agg #[.int .i64 ps, .int .i64 41]]) (by simp [results, Tryd.results18, go_sem, f0, f1, f4]) rfl ⟨rfl, ?_⟩
    exact HB.out _
end Go.Proofs.YtllgaholkminnaaDoor
namespace Go.Proofs.YtllgaholkminnaaDoor
open Go.RowKit
set_option linter.unusedVariables false
set_option linter.unusedSimpArgs false

/-- what Table hands back -/
structure TabR (W : World) (n : Nat) (v : Value) (ob : Nat) (b0 : Nat) (T : List Ty) (of : List Int) : Prop where
  tys : TysO W b0 v T
  row : IRow W ob of
  len : of.length = n
set_option maxRecDepth 100000 in
set_option maxHeartbeats 4000000 in
theorem Table_ok (w : World) (B nb no nc : Nat) (l : List Nd) (ρ d : Nat → Nat) (hn : Nodes w B nb no nc l) (hL : Laid w) (h0 : 0 < l.length) (hl31 : l.length ≤ 2147483640) (hck : checkAll l = (0, 0)) (hdk : DeclK l) (hT : ∀ j, j < l.length → twiceAt l j = false) (hU : ∀ j, j < l.length → unknownAt l j = false)
    (hu : UF ((List.range l.length).map (meantAt l)) ρ d) (hki : KidsIn l) (hkl : ∀ i, i < l.length → (ndN l i).kids.length ≤ 2147483647)
    (hfo : ∀ W, Below w.heap.size w W → ∀ mb mn mc, Calls Tryd.prog 28 #[.slice (some ⟨nb, no, none⟩) l.length nc, .slice (some ⟨mb, 0, none⟩) mn mc] W fun e w' => e = .returned (.int .i64 (-1)) ∧ Below W.heap.size W w') :
    Calls Tryd.prog 18 #[.slice (some ⟨nb, no, none⟩) l.length nc] w fun e w' => ∃ v ob b0, e = .returned (.tuple #[v, .slice (some ⟨ob, 0, none⟩) l.length l.length, faultV 0 0]) ∧ Bx (TabR w' l.length v ob b0 (rowsGo l (fun i => ownOf l (ρ i)) l.length) (tabL l.length fun i => ownOf l (ρ i)) ∧ w.heap.size ≤ b0 ∧ w.heap.size ≤ ob ∧ Below w.heap.size w w') := by
  have HC : Bx (∀ o, Calls Tryd.prog 26 #[.slice (some ⟨nb, no, none⟩) l.length nc] (w.alloc o) fun e w' => e = .returned (.tuple #[.int .i64 0, .int .i64 0]) ∧ Below (w.alloc o).heap.size (w.alloc o) w') := ⟨fun o => by
    have := Check_some (w.alloc o) B nb no nc l (hn.below ((below1 w o).mono hn.hi)) (hL.below (below1 w o)) (by omega) h0
    rw [hck] at this
    exact this⟩
  have HM : Bx (∀ W, Below w.heap.size w W → Calls Tryd.prog 27 #[.slice (some ⟨nb, no, none⟩) l.length nc] W fun e w' => ∃ mb, e = .returned (.tuple #[.slice (some ⟨mb, 0, none⟩) l.length l.length, faultV 0 0]) ∧ Bx (W.heap.size ≤ mb ∧ NRow w' mb ((List.range l.length).map (meantAt l)) ∧ Below W.heap.size W w')) := ⟨fun W hb => by
    refine Calls.mono (meanings_ok W B nb no nc l (hn.below (hb.mono hn.hi)) h0 (by omega) hdk hT) ?_
    rintro e w' ⟨hb', ⟨j, hj, q1, q2, q3⟩ | ⟨q1, mb, q2, q3, q4⟩⟩
    · rw [hU j hj] at q1; cases q1
    · exact ⟨mb, q3, q2, q4, hb'⟩⟩
  have HRN : Bx (∀ W mb, Below w.heap.size w W → w.heap.size ≤ mb → NRow W mb ((List.range l.length).map (meantAt l)) → Calls Tryd.prog 29 #[.slice (some ⟨nb, no, none⟩) l.length nc, .slice (some ⟨mb, 0, none⟩) l.length l.length] W fun e w' => e = .returned (.slice (some ⟨W.heap.size, 0, none⟩) l.length l.length) ∧ Bx (IRow w' W.heap.size (tabL l.length fun i => ownOf l (ρ i)) ∧ Below mb W w')) := ⟨fun W mb hb hm hr => rowNumbers_any W B nb no nc mb l _ ρ d (hn.below (hb.mono hn.hi)) (Nat.le_trans hn.hi hm) hr (by simp) hu (by omega)⟩
  have HRW : Bx (∀ W ob, Below w.heap.size w W → IRow W ob (tabL l.length fun i => ownOf l (ρ i)) → Calls Tryd.prog 30 #[.slice (some ⟨nb, no, none⟩) l.length nc, .slice (some ⟨ob, 0, none⟩) l.length l.length] W fun e w' => ∃ v, e = .returned v ∧ Bx (TysO w' W.heap.size v (rowsGo l (fun i => ownOf l (ρ i)) l.length) ∧ Below W.heap.size W w')) := ⟨fun W ob hb hr => rows_any W B nb no nc ob l _ (hn.below (hb.mono hn.hi)) hr hki (by omega) hkl⟩
  have HFO : Bx _ := ⟨hfo⟩
  have HF : Bx (∀ W, Below (w.alloc (.cells #[.int .i64 0, .int .i64 0] 41)).heap.size (w.alloc (.cells #[.int .i64 0, .int .i64 0] 41)) W → FltAt W w.heap.size) := ⟨fun W hb => FltAt.below (⟨heap_alloc_new w _⟩ : FltAt (w.alloc (.cells #[.int .i64 0, .int .i64 0] 41)) w.heap.size) hb (by simp)⟩
  clear hn hL hck hdk hT hU hu hki hkl hfo
  unfold faultV at *
  generalize rowsGo l (fun i => ownOf l (ρ i)) l.length = T at *
  have hTL := tabL_len l.length fun i => ownOf l (ρ i)
  generalize tabL l.length (fun i => ownOf l (ρ i)) = OF at *
  have HTL : Bx _ := ⟨hTL⟩
  clear hTL
  go_enter Tryd.func18, Tryd.ntmps18
  go_wp2_with (first
    | (go_at_call 26; refine Calls.mono (HC.out _) ?_; rintro e w2 ⟨rfl, hb2⟩; have HB2 : Bx _ := ⟨hb2⟩; have hs2 := hb2.size; simp at hs2; have BW2 : Bx (Below w.heap.size w w2) := ⟨(below1 w _).trans (hb2.mono (by simp))⟩; have F2 : Bx _ := ⟨HF.out _ hb2⟩; clear hb2)
    | (go_at_call 27; refine Calls.mono (HM.out _ BW2.out) ?_; rintro e w3 ⟨mb, rfl, ⟨hmb, hnr, hb3⟩⟩; have hs3 := hb3.size; have N3 : Bx (∀ o, NRow (w3.alloc o) mb ((List.range l.length).map (meantAt l))) := ⟨fun o => hnr.below (below1 _ _)⟩; have BW3 : Bx (∀ o, Below w.heap.size w (w3.alloc o)) := ⟨fun o => (BW2.out.trans (hb3.mono (by omega))).trans ((below1 _ _).mono (by omega))⟩; have F3 : Bx (∀ o, FltAt (w3.alloc o) w.heap.size) := ⟨fun o => (F2.out.below hb3 (by omega)).below (below1 _ _) (by omega)⟩; clear hb3 hnr)
    | (go_at_call 28; refine Calls.mono (HFO.out _ (BW3.out _) _ _ _) ?_; rintro e w4 ⟨rfl, hb4⟩; have hs4 := hb4.size; simp at hs4; have N4 : Bx _ := ⟨(N3.out _).below hb4⟩; have BW4 : Bx (Below w.heap.size w w4) := ⟨(BW3.out _).trans (hb4.mono (by simp; omega))⟩; have F4 : Bx _ := ⟨(F3.out _).below hb4 (by simp; omega)⟩; clear hb4 N3 F3 BW3)
    | (go_at_call 29; refine Calls.mono (HRN.out _ _ BW4.out (by omega) N4.out) ?_; rintro e w5 ⟨rfl, ⟨hir, hb5⟩⟩; have hs5 := hb5.size; have BW5 : Bx (Below w.heap.size w w5) := ⟨BW4.out.trans (hb5.mono (by omega))⟩; have I5 : Bx _ := ⟨hir⟩; have F5 : Bx _ := ⟨F4.out.below hb5 (by omega)⟩; clear hb5 hir N4 F4)
    | (go_at_call 30; refine Calls.mono (HRW.out _ _ BW5.out I5.out) ?_; rintro e w6 ⟨v, rfl, ⟨hty, hb6⟩⟩; have hs6 := hb6.size; have T6 : Bx _ := ⟨hty⟩; have I6 : Bx _ := ⟨I5.out.below hb6⟩; have BW6 : Bx (Below w.heap.size w w6) := ⟨BW5.out.trans (hb6.mono (by omega))⟩; obtain ⟨f0, f1, f2, f3, f4⟩ := (F5.out.below hb6 (by omega)).cells; clear hb6 hty))
  have HO : Bx (Only w.heap.size w6 ((w6.setCell ⟨w.heap.size, 0, none⟩ (.int .i64 0)).setCell ⟨w.heap.size, 1, none⟩ (.int .i64 0))) := ⟨(Only.set _ _ _ _).trans (Only.set _ _ _ _)⟩
  refine bodyPost_ret (v := .tuple #[v, .slice (some ⟨w4.heap.size, 0, none⟩) l.length l.length, .agg #[.int .i64 0, .int .i64 0]]) (by simp [results, Tryd.results18, go_sem, f0, f1, f4]) rfl ?_
  exact ⟨v, w4.heap.size, w5.heap.size, rfl, ⟨⟨T6.out.only HO.out (by omega), I6.out.same (HO.out.block _ (by omega)), HTL.out⟩, by omega, by omega, HO.out.bel _ _ (Nat.le_refl _) BW6.out⟩⟩
end Go.Proofs.YtllgaholkminnaaDoor
