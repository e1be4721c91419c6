import Derived.Test.YtadmpgegolmkgaaDoorCYP
import Derived.Test.YtadmpgegolmkgaaDoorCYQa
import Derived.Test.YtadmpgegolmkgaaDoorCYQb
import Derived.Test.YtadmpgegolmkgaaDoorCYQc
import Derived.ScopeJumps
import Derived.WalkMore
namespace Go.Proofs.YtadmpgegolmkgaaDoor
open Go.RowKit
set_option linter.unusedVariables false
set_option linter.unusedSimpArgs false

def exA : List (Int × Int) := [(25, 0)]
def exB : List (Int × Int) := [(1, 1), (25, 0)]
def exC : List (Int × Int) := [(1, 1), (5, 0), (25, 0)]
/-- how far the ways of an example have been followed -/
def Sg (l : List (Int × Int)) (j : Nat) (K : List (Int × Int)) (x : Int) : Prop :=
  (l = exA ∧ ((j = 0 ∧ K = [(1, 0)] ∧ x = 1) ∨ (j = 1 ∧ K = [(1, 0)] ∧ x = 0))) ∨
  (l = exB ∧ ((j = 0 ∧ K = [(1, 0), (0, 0)] ∧ x = 1) ∨ (j = 1 ∧ K = [(1, 0), (2, 0)] ∧ x = 2))) ∨
  (l = exC ∧ ((j = 0 ∧ K = [(1, 0), (0, 0), (0, 0)] ∧ x = 1) ∨ (j = 1 ∧ K = [(1, 0), (2, 0), (0, 0)] ∧ x = 2) ∨ (j = 2 ∧ K = [(1, 0), (2, 0), (1, 1)] ∧ x = 4) ∨ (j = 3 ∧ K = [(1, 0), (2, 0), (1, 1)] ∧ x = 0)))
theorem Sg.lt {l K : List (Int × Int)} {j : Nat} {x : Int} (h : Sg l j K x) : (x = 0 ∧ j = l.length ∧ l ≠ exB ∧ 0 < j) ∨ (x = ((2 ^ j : Nat) : Int) ∧ j < 3 ∧ j < l.length) := by
  unfold Sg at h
  rcases h with ⟨rfl, ⟨rfl, _, rfl⟩ | ⟨rfl, _, rfl⟩⟩ | ⟨rfl, ⟨rfl, _, rfl⟩ | ⟨rfl, _, rfl⟩⟩ | ⟨rfl, ⟨rfl, _, rfl⟩ | ⟨rfl, _, rfl⟩ | ⟨rfl, _, rfl⟩ | ⟨rfl, _, rfl⟩⟩ <;> decide
theorem take_lk {w0 w : World} {wb kb db eb dc cb n : Nat} {pv mv : Value} {K : List (Int × Int)} (hV : VW w0) (j : Nat) (hj : j < 3) (h : LK w0 w wb kb db eb dc cb n pv mv K ((2 ^ j : Nat) : Int)) :
    Calls Tryd.prog 43 #[.slice (some ⟨db, 0, none⟩) 1 dc] w fun e w' => e = .returned (.tuple #[.int .i64 j, .bool true]) ∧ Bx (LK w0 w' wb kb db eb dc cb n pv mv K 0) :=
  (take_yes j hj w (hV.below h.bel) db eb dc h.wk.du).mono fun e w' hh => by
    obtain ⟨h1, h2⟩ := hh.2.out
    have hs := h.bel.size
    have hg4 := h.g4
    obtain ⟨l1, l2, l3, l4⟩ := h.wk.lts
    refine ⟨hh.1, ⟨⟨(h2.block wb l1 h.wk.n3).trans h.wk.wk, (h2.block kb l2 h.wk.n5).trans h.wk.kn, h1, h.wk.n1, h.wk.n2, h.wk.n3, h.wk.n4, h.wk.n5⟩, h.bel.trans (h2.bel hs (fun k hk e => by omega)), h.g1, h.g2, h.g3, h.g4, h.kl⟩⟩
theorem look_good {w0 w : World} {wb kb db eb dc cb pb n : Nat} {pv mv : Value} {K l : List (Int × Int)} {j : Nat} (h : LK w0 w wb kb db eb dc cb n pv mv K 0) (hU : UE w0 pb cb l) (hV : VW w0) (hl : l.length = n) (hS : Sg l j K ((2 ^ j : Nat) : Int)) (hb : ¬ (l = exB ∧ j = 1)) :
    Calls Tryd.prog 44 #[.pointer (some ⟨wb, 0, none⟩), .int .i64 j] w fun e w' => e = .returned (.int .i64 0) ∧ Bx (∃ K' x', LK w0 w' wb kb db eb dc cb n pv mv K' x' ∧ Sg l (j + 1) K' x') := by
  unfold Sg at hS
  rcases hS with ⟨rfl, ⟨rfl, rfl, hx⟩ | ⟨rfl, rfl, hx⟩⟩ | ⟨rfl, ⟨rfl, rfl, hx⟩ | ⟨rfl, rfl, hx⟩⟩ | ⟨rfl, ⟨rfl, rfl, hx⟩ | ⟨rfl, rfl, hx⟩ | ⟨rfl, rfl, hx⟩ | ⟨rfl, rfl, hx⟩⟩
  · exact (look_25 h hU hV hl 0 (by decide) (by decide) rfl 0 rfl).mono fun e w' hh => ⟨hh.1, ⟨_, _, hh.2.out, .inl ⟨rfl, .inr ⟨rfl, rfl, rfl⟩⟩⟩⟩
  · simp at hx
  · exact (look_1 h hU hV hl 0 (by decide) (by decide) rfl rfl (by rw [← hl]; decide) (fun _ => rfl)).mono fun e w' hh => ⟨hh.1, ⟨_, _, hh.2.out, .inr (.inl ⟨rfl, .inr ⟨rfl, rfl, rfl⟩⟩)⟩⟩
  · exact absurd ⟨rfl, rfl⟩ hb
  · exact (look_1 h hU hV hl 0 (by decide) (by decide) rfl rfl (by rw [← hl]; decide) (fun _ => rfl)).mono fun e w' hh => ⟨hh.1, ⟨_, _, hh.2.out, .inr (.inr ⟨rfl, .inr (.inl ⟨rfl, rfl, rfl⟩)⟩)⟩⟩
  · exact (look_5 h hU hV hl 1 (by decide) (by decide) rfl rfl (by rw [← hl]; decide) (fun _ => rfl)).mono fun e w' hh => ⟨hh.1, ⟨_, _, hh.2.out, .inr (.inr ⟨rfl, .inr (.inr (.inl ⟨rfl, rfl, rfl⟩))⟩)⟩⟩
  · exact (look_25 h hU hV hl 2 (by decide) (by decide) rfl 1 rfl).mono fun e w' hh => ⟨hh.1, ⟨_, _, hh.2.out, .inr (.inr ⟨rfl, .inr (.inr (.inr ⟨rfl, rfl, rfl⟩))⟩)⟩⟩
  · simp at hx
theorem look_worse {w0 w : World} {wb kb db eb dc cb pb n : Nat} {pv mv : Value} {K l : List (Int × Int)} {j : Nat} (h : LK w0 w wb kb db eb dc cb n pv mv K 0) (hU : UE w0 pb cb l) (hV : VW w0) (hl : l.length = n) (hS : Sg l j K ((2 ^ j : Nat) : Int)) (hb : l = exB ∧ j = 1) :
    Calls Tryd.prog 44 #[.pointer (some ⟨wb, 0, none⟩), .int .i64 j] w fun e w' => e = .returned (.int .i64 94) ∧ Bx (Below w0.heap.size w0 w') := by
  obtain ⟨rfl, rfl⟩ := hb
  unfold Sg at hS
  rcases hS with ⟨h', _⟩ | ⟨_, ⟨h', _⟩ | ⟨_, rfl, _⟩⟩ | ⟨h', _⟩
  · exact absurd h' (by decide)
  · omega
  · exact (look_bad h hU hV hl 1 (by decide) (by decide) rfl rfl).mono fun e w' hh => ⟨hh.1, ⟨hh.2.out.bel⟩⟩
  · exact absurd h' (by decide)
end Go.Proofs.YtadmpgegolmkgaaDoor
namespace Go.Proofs.YtadmpgegolmkgaaDoor
open Go.RowKit
set_option linter.unusedVariables false
set_option linter.unusedSimpArgs false

/-- the copy of the prog that follow was handed -/
structure LP (w0 w : World) (wb kb db eb dc cb n P : Nat) (pv mv : Value) (K : List (Int × Int)) (x : Int) : Prop where
  lk : LK w0 w wb kb db eb dc cb n pv mv K x
  ph : w.heap[P]? = some (.cells #[.int .i64 0, .int .i64 1, .int .i64 2, .bool false, .slice (some ⟨cb, 0, none⟩) n n] 40 (0, 0))
  m1 : P ≠ wb
  m2 : P ≠ kb
  m4 : P ≠ eb
theorem LP.below {w0 w w' : World} {wb kb db eb dc cb n P : Nat} {pv mv : Value} {K : List (Int × Int)} {x : Int} (h : LP w0 w wb kb db eb dc cb n P pv mv K x) (hb : Below w.heap.size w w') : LP w0 w' wb kb db eb dc cb n P pv mv K x :=
  ⟨h.lk.below hb, (hb.block _ (Array.getElem?_eq_some_iff.1 h.ph).1).trans h.ph, h.m1, h.m2, h.m4⟩
theorem LP.drewN {w0 w : World} {wb kb db eb dc cb n P : Nat} {pv mv : Value} {K : List (Int × Int)} {x : Int} (h : LP w0 w wb kb db eb dc cb n P pv mv K x) (k : Nat) : LP w0 (w.drewN k) wb kb db eb dc cb n P pv mv K x := h.below ⟨rfl, rfl, rfl, Nat.le_refl _, fun _ _ => rfl⟩
theorem LP.cells {w0 w : World} {wb kb db eb dc cb n P : Nat} {pv mv : Value} {K : List (Int × Int)} {x : Int} (h : LP w0 w wb kb db eb dc cb n P pv mv K x) : w.cell? ⟨P, 0, none⟩ = some (.int .i64 0) ∧ w.cell? ⟨P, 1, none⟩ = some (.int .i64 1) ∧ w.cell? ⟨P, 4, none⟩ = some (.slice (some ⟨cb, 0, none⟩) n n) :=
  ⟨(cell_of_row w _ 0 _ _ _ h.ph).trans rfl, (cell_of_row w _ 1 _ _ _ h.ph).trans rfl, (cell_of_row w _ 4 _ _ _ h.ph).trans rfl⟩
/-- the walker, with a prog handed to it -/
def wS (w : World) (wb cb n : Nat) : World := ((((w.setCell ⟨wb, 0, none⟩ (.int .i64 0)).setCell ⟨wb, 1, none⟩ (.int .i64 1)).setCell ⟨wb, 2, none⟩ (.int .i64 2)).setCell ⟨wb, 3, none⟩ (.bool false)).setCell ⟨wb, 4, none⟩ (.slice (some ⟨cb, 0, none⟩) n n)
theorem begin_lp {w0 w : World} {wb kb db eb dc cb n : Nat} (hW : WK w wb kb db eb dc (wkO 0 0 0 false (.slice none 0 0) kb n db dc 0 (.slice none 0 0) (.map none)) (List.replicate n (0, 0)) 0) (hb : Below w0.heap.size w0 w) (g1 : w0.heap.size ≤ wb) (g2 : w0.heap.size ≤ kb) (g3 : w0.heap.size ≤ db) (g4 : w0.heap.size ≤ eb) (k : Nat) :
    Calls Tryd.prog 40 #[.pointer (some ⟨wb, 7, none⟩), .int .i64 1] (((wS w wb cb n).alloc (.cells #[.int .i64 0, .int .i64 1, .int .i64 2, .bool false, .slice (some ⟨cb, 0, none⟩) n n] 40)).drewN k) fun e w' => e = .returned (.tuple #[]) ∧ ∃ pv mv, Bx (LP w0 w' wb kb db eb dc cb n w.heap.size pv mv (List.replicate n (0, 0)) 0) := by
  obtain ⟨l1, l2, l3, l4⟩ := hW.lts
  have q := hW.wk
  unfold wkO at q
  have x0 := wk_set (i := 4) (v := .slice (some ⟨cb, 0, none⟩) n n) (wk_set (i := 3) (v := .bool false) (wk_set (i := 2) (v := .int .i64 2) (wk_set (i := 1) (v := .int .i64 1) (wk_set (i := 0) (v := .int .i64 0) q))))
  have qs : (wS w wb cb n).heap[wb]? = some (wkO 0 1 2 false (.slice (some ⟨cb, 0, none⟩) n n) kb n db dc 0 (.slice none 0 0) (.map none)) := x0
  have fx : Fx (· = wb) w (wS w wb cb n) := by
    unfold wS
    exact Fx.set (P := (· = wb)) (p := ⟨wb, 4, none⟩) (Fx.set (P := (· = wb)) (p := ⟨wb, 3, none⟩) (Fx.set (P := (· = wb)) (p := ⟨wb, 2, none⟩) (Fx.set (P := (· = wb)) (p := ⟨wb, 1, none⟩) (Fx.set (P := (· = wb)) (p := ⟨wb, 0, none⟩) (Fx.refl _ w) (.inl rfl) _) (.inl rfl) _) (.inl rfl) _) (.inl rfl) _) (.inl rfl) _
  have ss : (wS w wb cb n).heap.size = w.heap.size := by unfold wS; simp
  generalize wS w wb cb n = Y at *
  obtain ⟨Z, hZ⟩ : ∃ Z, (Y.alloc (.cells #[.int .i64 0, .int .i64 1, .int .i64 2, .bool false, .slice (some ⟨cb, 0, none⟩) n n] 40)).drewN k = Z := ⟨_, rfl⟩
  have bZ : Below Y.heap.size Y Z := by rw [← hZ]; exact ⟨rfl, rfl, rfl, by simp, fun j hj => (below1 Y _).block j hj⟩
  have pZ : Z.heap[w.heap.size]? = some (.cells #[.int .i64 0, .int .i64 1, .int .i64 2, .bool false, .slice (some ⟨cb, 0, none⟩) n n] 40 (0, 0)) := by rw [← hZ, ← ss]; exact heap_alloc_new Y _
  have wZ := (bZ.block wb (by omega)).trans qs
  rw [hZ]
  refine (begin_ex Z wb 0 1 2 false _ kb n db dc wZ).mono ?_
  rintro e w' ⟨rfl, pv, mv, hh⟩
  obtain ⟨h1, h2⟩ := hh.out
  have f2 : Fx (· = wb) w w' := (fx.trans (Fx.of bZ)).trans h2
  have hs := hb.size
  have sZ := (Array.getElem?_eq_some_iff.1 pZ).1
  refine ⟨rfl, pv, mv, ⟨⟨⟨h1, (f2.block kb l2 (fun e => hW.n1 e.symm)).trans hW.kn, hW.du.fx f2 (fun e => hW.n2 e.symm) (fun e => hW.n3 e.symm), hW.n1, hW.n2, hW.n3, hW.n4, hW.n5⟩, hb.trans (f2.bel hs (fun k hk e => by omega)), g1, g2, g3, g4, by simp⟩, (h2.block _ sZ (by omega)).trans pZ, by omega, by omega, by omega⟩⟩
theorem clear_lp {w0 w : World} {wb kb db eb dc cb n P : Nat} {pv mv : Value} (h0 : 0 < n) (hn : n ≤ 3) (h : LP w0 w wb kb db eb dc cb n P pv mv (List.replicate n (0, 0)) 0) :
    ∃ W, (∀ ty, (Builtin.clear_ #[67] ty #[.slice (some ⟨kb, 0, none⟩) n n]).run Tryd.prog w = .ok (.tuple #[]) W) ∧ Bx (LP w0 W wb kb db eb dc cb n P pv mv (List.replicate n (0, 0)) 0) := by
  obtain ⟨W, h1, h2, h3⟩ := clear_ways w kb n h0 hn h.lk.wk.kn
  obtain ⟨l1, l2, l3, l4⟩ := h.lk.wk.lts
  have hs := h.lk.bel.size
  have hg := h.lk.g2
  refine ⟨W, h1, ⟨⟨⟨(h3.block wb l1 h.lk.wk.n1).trans h.lk.wk.wk, h2, h.lk.wk.du.fx h3 (fun e => h.lk.wk.n4 e.symm) (fun e => h.lk.wk.n5 e.symm), h.lk.wk.n1, h.lk.wk.n2, h.lk.wk.n3, h.lk.wk.n4, h.lk.wk.n5⟩, h.lk.bel.trans (h3.bel hs (fun k hk e => by omega)), h.lk.g1, h.lk.g2, h.lk.g3, h.lk.g4, h.lk.kl⟩, (h3.block _ (Array.getElem?_eq_some_iff.1 h.ph).1 h.m2).trans h.ph, h.m1, h.m2, h.m4⟩⟩
def exK (l : List (Int × Int)) : List (Int × Int) := (List.replicate l.length (0, 0)).set 0 (1, 0)
theorem exK_sg {l : List (Int × Int)} (h : l = exA ∨ l = exB ∨ l = exC) : Sg l 0 (exK l) ((2 ^ 0 : Nat) : Int) := by
  rcases h with rfl | rfl | rfl
  · exact .inl ⟨rfl, .inl ⟨rfl, rfl, rfl⟩⟩
  · exact .inr (.inl ⟨rfl, .inl ⟨rfl, rfl, rfl⟩⟩)
  · exact .inr (.inr ⟨rfl, .inl ⟨rfl, rfl, rfl⟩⟩)
end Go.Proofs.YtadmpgegolmkgaaDoor
