import Derived.Test.YtadmpgegolmkgaaDoorCYL
namespace Go.Proofs.YtadmpgegolmkgaaDoor
open Go.RowKit
set_option linter.unusedVariables false
set_option linter.unusedSimpArgs false

set_option maxRecDepth 100000 in
set_option maxHeartbeats 4000000 in
theorem look_bad {w0 w : World} {wb kb db eb dc cb pb n : Nat} {pv mv : Value} {K l : List (Int × Int)} (h : LK w0 w wb kb db eb dc cb n pv mv K 0) (hU : UE w0 pb cb l) (hV : VW w0) (hl : l.length = n) (i : Nat) (hi : i < l.length) (hk : i < K.length) (ho : l[i] = (25, 0)) (hab : K[i].1 = 2) :
    Calls Tryd.prog 44 #[.pointer (some ⟨wb, 0, none⟩), .int .i64 i] w fun e w' => e = .returned (.int .i64 94) ∧ Bx (LK w0 w' wb kb db eb dc cb n pv mv K 0) := by
  obtain ⟨c3, c4, c5, c6, c7, hwl⟩ := h.cells
  obtain ⟨u0, u1, u2, u3⟩ := (hU.below h.bel).cell i hi
  obtain ⟨v0, v1⟩ := h.known i hk
  have hcl := (hU.below h.bel).lt.2
  have hkl := h.wk.lts.2.1
  have hn3 : n ≤ 3 := hl ▸ hU.len
  rw [ho] at u0 u1
  rw [hab] at v0
  simp only [] at u0 u1
  generalize K[i].2 = s at *
  rw [hl] at hi
  have HP : Bx (∀ X ib yb, LC w X ib yb 25 0 2 s → Calls Tryd.prog 16 #[.agg #[.int .i64 25, .int .i64 0, .int .i64 0, .slice none 0 0]] X fun e w' => e = .returned (.int .i64 0) ∧ LC w w' ib yb 25 0 2 s) := ⟨fun X ib yb hX => pops_c (pu := 0) (ab' := 0) (s' := 0) hV h.bel hX (.inl ⟨rfl, rfl, rfl⟩)⟩
  have HR : Bx (∀ X, Below w.heap.size w X → Calls Tryd.prog 65 #[.pointer (some ⟨wb, 0, none⟩)] X fun e w' => e = .returned (.int .i64 0) ∧ X = w') := ⟨fun X hX => results_ex X wb (h.below hX).cells.1⟩
  have HE : Bx (∀ X, Below w.heap.size w X → LK w0 X wb kb db eb dc cb n pv mv K 0) := ⟨fun X hX => h.below hX⟩
  have H1 : Bx _ := ⟨LC.one w 25 0 2 s⟩
  have H2 : Bx _ := ⟨LC.two w 25 0 2 s⟩
  clear h hU hV
  go_enter Tryd.func44, Tryd.ntmps44
  go_wp2
  go_region
  · clear c3 c4 c5 c6 c7 u0 u1 u2 u3 v0 v1
    go_wp2_with (first
      | (go_at_call 16; refine (HP.out _ _ _ H1.out).mono ?_; rintro e w2 ⟨rfl, hc2⟩; have HC2 : Bx _ := ⟨hc2⟩; clear hc2))
    have HF : Bx (∀ X, LC w X w.heap.size (w.heap.size + 1) 25 0 2 s → X.cell? ⟨w.heap.size, 0, none⟩ = some (.int .i64 25) ∧ X.cell? ⟨(w.heap.size + 1), 0, none⟩ = some (.int .i64 2)) := ⟨fun X hX => ⟨hX.cells.1, hX.cells.2.2.2.2.1⟩⟩
    have hcr := HC2.out.drewN 1
    go_region_held3 (fun w' => w'.cell? ⟨w.heap.size, 0, none⟩ = some (.int .i64 25) ∧ w'.cell? ⟨(w.heap.size + 1), 0, none⟩ = some (.int .i64 2))
      (exact HF.out _ hcr)
      (first | (go_at_call 65; refine Calls.mono (HR.out _ hcr.bel) ?_; rintro e z1 ⟨rfl, rfl⟩))
    go_wp2
    go_ret
    exact ⟨rfl, ⟨HE.out _ hcr.bel⟩⟩
  · clear c3 c4 c5 c6 c7 u0 u1 u2 u3 v0 v1
    go_wp2_with (first
      | (go_at_call 16; refine (HP.out _ _ _ H2.out).mono ?_; rintro e w2 ⟨rfl, hc2⟩; have HC2 : Bx _ := ⟨hc2⟩; clear hc2))
    have HF : Bx (∀ X, LC w X (w.heap.size + 1) w.heap.size 25 0 2 s → X.cell? ⟨(w.heap.size + 1), 0, none⟩ = some (.int .i64 25) ∧ X.cell? ⟨w.heap.size, 0, none⟩ = some (.int .i64 2)) := ⟨fun X hX => ⟨hX.cells.1, hX.cells.2.2.2.2.1⟩⟩
    have hcr := HC2.out.drewN 1
    go_region_held3 (fun w' => w'.cell? ⟨(w.heap.size + 1), 0, none⟩ = some (.int .i64 25) ∧ w'.cell? ⟨w.heap.size, 0, none⟩ = some (.int .i64 2))
      (exact HF.out _ hcr)
      (first | (go_at_call 65; refine Calls.mono (HR.out _ hcr.bel) ?_; rintro e z1 ⟨rfl, rfl⟩))
    go_wp2
    go_ret
    exact ⟨rfl, ⟨HE.out _ hcr.bel⟩⟩
end Go.Proofs.YtadmpgegolmkgaaDoor
