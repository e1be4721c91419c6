import Derived.Test.YtadmpgegolmkgaaDoorBYM
set_option linter.unusedVariables false
set_option linter.unusedSimpArgs false
set_option maxHeartbeats 4000000
set_option maxRecDepth 100000
namespace Go.Proofs.YtadmpgegolmkgaaDoor
open Go.RowKit
theorem Bz {w0 w : World} {wb kb db eb dc cb pb n : Nat} {pv mv : Value} {K l : List (Int × Int)} (h : LK w0 w wb kb db eb dc cb n pv mv K 0) (hU : UE w0 pb cb l) (hV : VW w0) (hl : l.length = n) (i : Nat) (hi : i < l.length) (hk : i < K.length) (ho : l[i] = (5, 0)) (hab : K[i] = (2, 0)) (hi2 : i + 1 < n) (hz : ∀ h : i + 1 < K.length, K[i + 1].1 = 0) :
  Calls Tryd.prog 44 #[.pointer (some ⟨wb, 0, none⟩), .int .i64 i] w fun e w' => e = .returned (.int .i64 0) /\ Bx (LK w0 w' wb kb db eb dc cb n pv mv (K.set (i + 1) (1, 1)) ((2 ^ (i + 1) : Nat) : Int)) := by
 obtain ⟨c3, c4, c5, c6, c7, hwl⟩ := h.cells
 obtain ⟨u0, u1, u2, u3⟩ := (hU.below h.bel).cell i hi
 obtain ⟨v0, v1⟩ := h.known i hk
 have hcl := (hU.below h.bel).lt.2
 have hkl := h.wk.lts.2.1
 have hn3 : n <= 3 := hl ▸ hU.len
 have HG : Bx (∀ X, Below w.heap.size w X -> Calls Tryd.prog 70 #[.pointer (some ⟨wb, 0, none⟩), .int .i64 i, .agg #[.int .i64 1, .int .u64 1]] X fun e w' => e = .returned (.bool true) /\ Bx (LK w0 w' wb kb db eb dc cb n pv mv (K.set (i + 1) (1, 1)) ((2 ^ (i + 1) : Nat) : Int))) := ⟨fun X hX => sI (h.below hX) hU hl i hi (by rw [ho]; simp) hi2 hz 1 1⟩
 rw [ho] at u0 u1
 rw [hab] at v0 v1
 simp only [] at u0 u1 v0 v1
 rw [hl] at hi
 have HP : Bx (∀ X ib yb, LC w X ib yb 5 0 2 0 -> Calls Tryd.prog 16 #[.agg #[.int .i64 5, .int .i64 0, .int .i64 0, .slice none 0 0]] X fun e w' => e = .returned (.int .i64 1) /\ LC w w' ib yb 5 0 2 0) := ⟨fun X ib yb hX => nS (pu := 0) (ab' := 0) (s' := 0) hV h.bel hX (.inr (.inr ⟨rfl, rfl, rfl⟩))⟩
 have HQ : Bx (∀ X ib yb, LC w X ib yb 5 0 2 0 -> Calls Tryd.prog 30 #[.agg #[.int .i64 5, .int .i64 0, .int .i64 0, .slice none 0 0]] X fun e w' => e = .returned (.int .i64 0) /\ LC w w' ib yb 5 0 2 0) := ⟨fun X ib yb hX => lG hV h.bel hX (.inr (.inr ⟨rfl, rfl, rfl⟩))⟩
 have HR : Bx (∀ X, Below w.heap.size w X -> Calls Tryd.prog 65 #[.pointer (some ⟨wb, 0, none⟩)] X fun e w' => e = .returned (.int .i64 0) /\ X = w') := ⟨fun X hX => gX X wb (h.below hX).cells.1⟩
 have HS : Bx (∀ X, Below w.heap.size w X -> Calls Tryd.prog 69 #[.pointer (some ⟨wb, 0, none⟩), .agg #[.int .i64 5, .int .i64 0, .int .i64 0, .slice none 0 0], .int .u64 0] X fun e w' => e = .returned (.int .u64 1) /\ Below X.heap.size X w') := ⟨fun X hX => gY 5 0 0 1 (.inr (.inl ⟨rfl, rfl, rfl, rfl⟩)) X wb (h.below hX).cells.2.2.2.2.1⟩
 have HN : Bx (∀ X, _) := ⟨fun X => gB 5 (by decide) X⟩
 have HB : Bx (∀ X, _) := ⟨fun X => gD 5 (by decide) X⟩
 have H4 : Bx (∀ X, Below w.heap.size w X -> X.cell? ⟨wb, 4, none⟩ = some (.slice (some ⟨cb, 0, none⟩) n n)) := ⟨fun X hX => (h.below hX).cells.2.1⟩
 have H1 : Bx _ := ⟨LC.one w 5 0 2 0⟩
 have H2 : Bx _ := ⟨LC.two w 5 0 2 0⟩
 have hne : ((i : Int) == (n : Int) - 1) = false := by simp; omega
 have hw1 : IntKind.i64.wrap (-1) = -1 := by kernel_rfl
 have hw2 : IntKind.i64.wrap (2 + -1) = 1 := by kernel_rfl
 have hw3 : IntKind.i64.wrap 1 = 1 := by kernel_rfl
 clear h hU hV ho hab hz
 go_enter Tryd.func44, Tryd.ntmps44
 go_wp2
 go_region
 ·clear c3 c4 c5 c6 c7 u0 u1 u2 u3 v0 v1
  go_wp2_with (first
   | (go_at_call 16; refine (HP.out _ _ _ H1.out).mono ?_; rintro e w2 ⟨rfl, hc2⟩; have HC2 : Bx _ := ⟨hc2⟩; clear hc2))
  obtain ⟨z0, _, _, _, z4, _, _, _⟩ := HC2.out.cells
  go_quiet (first | (go_at_call 65; exact Calls.quiet_of_same ((HR.out _ (HC2.out.drewN _).bel).mono fun e w' h => ⟨h.1, h.2.symm⟩)))
  clear z0 z4
  have HC3 : Bx _ := ⟨HC2.out.drewN nq⟩
  clear HC2
  generalize w2.drewN nq = X2 at HC3 ⊢
  have HC2 : Bx _ := ⟨HC3.out⟩
  clear HC3
  obtain ⟨y0, y1, y2, y3, y4, y5, y6, y7⟩ := HC2.out.cells
  have y8 := H4.out _ HC2.out.bel
  go_wp2
  go_quiet (first | (go_at_call 66; exact Calls.quiet_of_same ((HN.out _).mono fun e w' h => ⟨h.1, h.2.symm⟩)))
  all_goals
   go_wp2_with (first
    | (go_at_call 68; refine (HB.out _).mono ?_; rintro e z3 ⟨rfl, rfl⟩))
   go_region_with (first
    | (go_at_call 30; refine (HQ.out _ _ _ (HC2.out.drewN _)).mono ?_; rintro e w3 ⟨rfl, hc3⟩; have HC3 : Bx _ := ⟨hc3⟩; clear hc3; obtain ⟨x0, x1, x2, x3, x4, x5, x6, x7⟩ := HC3.out.cells))
   all_goals
    clear y0 y1 y2 y3 y4 y5 y6 y7 y8
    go_wp2_with (first
     | (go_at_call 69; refine (HS.out _ (HC3.out.set0 1).bel).mono ?_; rintro e w5 ⟨rfl, hb5⟩; have HC5 : Bx _ := ⟨(HC3.out.set0 1).below hb5⟩; clear hb5 x0 x1 x2 x3 x4 x5 x6 x7; obtain ⟨x0, x1, x2, x3, x4, x5, x6, x7⟩ := HC5.out.cells)
     | (go_at_call 70; refine (HG.out _ (HC5.out.set1 1).bel).mono ?_; rintro e w7 ⟨rfl, HX⟩))
    go_ret
    exact ⟨rfl, HX⟩
 ·clear c3 c4 c5 c6 c7 u0 u1 u2 u3 v0 v1
  go_wp2_with (first
   | (go_at_call 16; refine (HP.out _ _ _ H2.out).mono ?_; rintro e w2 ⟨rfl, hc2⟩; have HC2 : Bx _ := ⟨hc2⟩; clear hc2))
  obtain ⟨z0, _, _, _, z4, _, _, _⟩ := HC2.out.cells
  go_quiet (first | (go_at_call 65; exact Calls.quiet_of_same ((HR.out _ (HC2.out.drewN _).bel).mono fun e w' h => ⟨h.1, h.2.symm⟩)))
  clear z0 z4
  have HC3 : Bx _ := ⟨HC2.out.drewN nq⟩
  clear HC2
  generalize w2.drewN nq = X2 at HC3 ⊢
  have HC2 : Bx _ := ⟨HC3.out⟩
  clear HC3
  obtain ⟨y0, y1, y2, y3, y4, y5, y6, y7⟩ := HC2.out.cells
  have y8 := H4.out _ HC2.out.bel
  go_wp2
  go_quiet (first | (go_at_call 66; exact Calls.quiet_of_same ((HN.out _).mono fun e w' h => ⟨h.1, h.2.symm⟩)))
  all_goals
   go_wp2_with (first
    | (go_at_call 68; refine (HB.out _).mono ?_; rintro e z3 ⟨rfl, rfl⟩))
   go_region_with (first
    | (go_at_call 30; refine (HQ.out _ _ _ (HC2.out.drewN _)).mono ?_; rintro e w3 ⟨rfl, hc3⟩; have HC3 : Bx _ := ⟨hc3⟩; clear hc3; obtain ⟨x0, x1, x2, x3, x4, x5, x6, x7⟩ := HC3.out.cells))
   all_goals
    clear y0 y1 y2 y3 y4 y5 y6 y7 y8
    go_wp2_with (first
     | (go_at_call 69; refine (HS.out _ (HC3.out.set0 1).bel).mono ?_; rintro e w5 ⟨rfl, hb5⟩; have HC5 : Bx _ := ⟨(HC3.out.set0 1).below hb5⟩; clear hb5 x0 x1 x2 x3 x4 x5 x6 x7; obtain ⟨x0, x1, x2, x3, x4, x5, x6, x7⟩ := HC5.out.cells)
     | (go_at_call 70; refine (HG.out _ (HC5.out.set1 1).bel).mono ?_; rintro e w7 ⟨rfl, HX⟩))
    go_ret
    exact ⟨rfl, HX⟩
end Go.Proofs.YtadmpgegolmkgaaDoor
