import Derived.Test.YtadmpgegolmkgaaDoorBYM
import Derived.Test.YtadmpgegolmkgaaDoorBYQa
import Derived.Test.YtadmpgegolmkgaaDoorBYQb
import Derived.Test.YtadmpgegolmkgaaDoorBYQc
import Derived.ScopeJumps
import Derived.WalkMore
set_option linter.unusedVariables false
set_option linter.unusedSimpArgs false
set_option maxHeartbeats 4000000
set_option maxRecDepth 100000
namespace Go.Proofs.YtadmpgegolmkgaaDoor
open Go.RowKit
def exA : List (Int × Int) := [(25, 0)]
def exB : List (Int × Int) := [(1, 1), (25, 0)]
def exC : List (Int × Int) := [(1, 1), (5, 0), (25, 0)]
def Sg (l : List (Int × Int)) (j : Nat) (K : List (Int × Int)) (x : Int) : Prop :=
 (l = exA /\ ((j = 0 /\ K = [(1, 0)] /\ x = 1) ∨ (j = 1 /\ K = [(1, 0)] /\ x = 0))) ∨
 (l = exB /\ ((j = 0 /\ K = [(1, 0), (0, 0)] /\ x = 1) ∨ (j = 1 /\ K = [(1, 0), (2, 0)] /\ x = 2))) ∨
 (l = exC /\ ((j = 0 /\ K = [(1, 0), (0, 0), (0, 0)] /\ x = 1) ∨ (j = 1 /\ K = [(1, 0), (2, 0), (0, 0)] /\ x = 2) ∨ (j = 2 /\ K = [(1, 0), (2, 0), (1, 1)] /\ x = 4) ∨ (j = 3 /\ K = [(1, 0), (2, 0), (1, 1)] /\ x = 0)))
theorem Sg.lt {l K : List (Int × Int)} {j : Nat} {x : Int} (h : Sg l j K x) : (x = 0 /\ j = l.length /\ l ≠ exB /\ 0 < j) ∨ (x = ((2 ^ j : Nat) : Int) /\ j < 3 /\ j < l.length) := by
 unfold Sg at h
 rcases h with ⟨rfl, ⟨rfl, _, rfl⟩ | ⟨rfl, _, rfl⟩⟩ | ⟨rfl, ⟨rfl, _, rfl⟩ | ⟨rfl, _, rfl⟩⟩ | ⟨rfl, ⟨rfl, _, rfl⟩ | ⟨rfl, _, rfl⟩ | ⟨rfl, _, rfl⟩ | ⟨rfl, _, rfl⟩⟩ <;> decide
theorem Ai {w0 w : World} {wb kb db eb dc cb n : Nat} {pv mv : Value} {K : List (Int × Int)} (hV : VW w0) (j : Nat) (hj : j < 3) (h : LK w0 w wb kb db eb dc cb n pv mv K ((2 ^ j : Nat) : Int)) :
  Calls Tryd.prog 43 #[.slice (some ⟨db, 0, none⟩) 1 dc] w fun e w' => e = .returned (.tuple #[.int .i64 j, .bool true]) /\ Bx (LK w0 w' wb kb db eb dc cb n pv mv K 0) :=
 (wK j hj w (hV.below h.bel) db eb dc h.wk.du).mono fun e w' hh => by
  obtain ⟨h1, h2⟩ := hh.2.out
  have hs := h.bel.size
  have hg4 := h.g4
  obtain ⟨l1, l2, l3, l4⟩ := h.wk.lts
  refine ⟨hh.1, ⟨⟨(h2.block wb l1 h.wk.n3).trans h.wk.wk, (h2.block kb l2 h.wk.n5).trans h.wk.kn, h1, h.wk.n1, h.wk.n2, h.wk.n3, h.wk.n4, h.wk.n5⟩, h.bel.trans (h2.bel hs (fun k hk e => by omega)), h.g1, h.g2, h.g3, h.g4, h.kl⟩⟩
theorem vw {w0 w : World} {wb kb db eb dc cb pb n : Nat} {pv mv : Value} {K l : List (Int × Int)} {j : Nat} (h : LK w0 w wb kb db eb dc cb n pv mv K 0) (hU : UE w0 pb cb l) (hV : VW w0) (hl : l.length = n) (hS : Sg l j K ((2 ^ j : Nat) : Int)) (hb : ¬ (l = exB /\ j = 1)) :
  Calls Tryd.prog 44 #[.pointer (some ⟨wb, 0, none⟩), .int .i64 j] w fun e w' => e = .returned (.int .i64 0) /\ Bx (∃ K' x', LK w0 w' wb kb db eb dc cb n pv mv K' x' /\ Sg l (j + 1) K' x') := by
 unfold Sg at hS
 rcases hS with ⟨rfl, ⟨rfl, rfl, hx⟩ | ⟨rfl, rfl, hx⟩⟩ | ⟨rfl, ⟨rfl, rfl, hx⟩ | ⟨rfl, rfl, hx⟩⟩ | ⟨rfl, ⟨rfl, rfl, hx⟩ | ⟨rfl, rfl, hx⟩ | ⟨rfl, rfl, hx⟩ | ⟨rfl, rfl, hx⟩⟩
 ·exact (sK h hU hV hl 0 (by decide) (by decide) rfl 0 rfl).mono fun e w' hh => ⟨hh.1, ⟨_, _, hh.2.out, .inl ⟨rfl, .inr ⟨rfl, rfl, rfl⟩⟩⟩⟩
 ·simp at hx
 ·exact (yJ h hU hV hl 0 (by decide) (by decide) rfl rfl (by rw [← hl]; decide) (fun _ => rfl)).mono fun e w' hh => ⟨hh.1, ⟨_, _, hh.2.out, .inr (.inl ⟨rfl, .inr ⟨rfl, rfl, rfl⟩⟩)⟩⟩
 ·exact absurd ⟨rfl, rfl⟩ hb
 ·exact (yJ h hU hV hl 0 (by decide) (by decide) rfl rfl (by rw [← hl]; decide) (fun _ => rfl)).mono fun e w' hh => ⟨hh.1, ⟨_, _, hh.2.out, .inr (.inr ⟨rfl, .inr (.inl ⟨rfl, rfl, rfl⟩)⟩)⟩⟩
 ·exact (Bz h hU hV hl 1 (by decide) (by decide) rfl rfl (by rw [← hl]; decide) (fun _ => rfl)).mono fun e w' hh => ⟨hh.1, ⟨_, _, hh.2.out, .inr (.inr ⟨rfl, .inr (.inr (.inl ⟨rfl, rfl, rfl⟩))⟩)⟩⟩
 ·exact (sK h hU hV hl 2 (by decide) (by decide) rfl 1 rfl).mono fun e w' hh => ⟨hh.1, ⟨_, _, hh.2.out, .inr (.inr ⟨rfl, .inr (.inr (.inr ⟨rfl, rfl, rfl⟩))⟩)⟩⟩
 ·simp at hx
theorem ry {w0 w : World} {wb kb db eb dc cb pb n : Nat} {pv mv : Value} {K l : List (Int × Int)} {j : Nat} (h : LK w0 w wb kb db eb dc cb n pv mv K 0) (hU : UE w0 pb cb l) (hV : VW w0) (hl : l.length = n) (hS : Sg l j K ((2 ^ j : Nat) : Int)) (hb : l = exB /\ j = 1) :
  Calls Tryd.prog 44 #[.pointer (some ⟨wb, 0, none⟩), .int .i64 j] w fun e w' => e = .returned (.int .i64 94) /\ Bx (Below w0.heap.size w0 w') := by
 obtain ⟨rfl, rfl⟩ := hb
 unfold Sg at hS
 rcases hS with ⟨h', _⟩ | ⟨_, ⟨h', _⟩ | ⟨_, rfl, _⟩⟩ | ⟨h', _⟩
 ·exact absurd h' (by decide)
 ·omega
 ·exact (yI h hU hV hl 1 (by decide) (by decide) rfl rfl).mono fun e w' hh => ⟨hh.1, ⟨hh.2.out.bel⟩⟩
 ·exact absurd h' (by decide)
structure LP (w0 w : World) (wb kb db eb dc cb n P : Nat) (pv mv : Value) (K : List (Int × Int)) (x : Int) : Prop where
 lk : LK w0 w wb kb db eb dc cb n pv mv K x
 ph : w.heap[P]? = some (.cells #[.int .i64 0, .int .i64 1, .int .i64 2, .bool false, .slice (some ⟨cb, 0, none⟩) n n] 40 (0, 0))
 m1 : P ≠ wb
 m2 : P ≠ kb
 m4 : P ≠ eb
theorem LP.below {w0 w w' : World} {wb kb db eb dc cb n P : Nat} {pv mv : Value} {K : List (Int × Int)} {x : Int} (h : LP w0 w wb kb db eb dc cb n P pv mv K x) (hb : Below w.heap.size w w') : LP w0 w' wb kb db eb dc cb n P pv mv K x :=
 ⟨h.lk.below hb, (hb.block _ (Array.getElem?_eq_some_iff.1 h.ph).1).trans h.ph, h.m1, h.m2, h.m4⟩
theorem LP.drewN {w0 w : World} {wb kb db eb dc cb n P : Nat} {pv mv : Value} {K : List (Int × Int)} {x : Int} (h : LP w0 w wb kb db eb dc cb n P pv mv K x) (k : Nat) : LP w0 (w.drewN k) wb kb db eb dc cb n P pv mv K x := h.below ⟨rfl, rfl, rfl, Nat.le_refl _, fun _ _ => rfl⟩
theorem LP.cells {w0 w : World} {wb kb db eb dc cb n P : Nat} {pv mv : Value} {K : List (Int × Int)} {x : Int} (h : LP w0 w wb kb db eb dc cb n P pv mv K x) : w.cell? ⟨P, 0, none⟩ = some (.int .i64 0) /\ w.cell? ⟨P, 1, none⟩ = some (.int .i64 1) /\ w.cell? ⟨P, 4, none⟩ = some (.slice (some ⟨cb, 0, none⟩) n n) :=
 ⟨(cell_of_row w _ 0 _ _ _ h.ph).trans rfl, (cell_of_row w _ 1 _ _ _ h.ph).trans rfl, (cell_of_row w _ 4 _ _ _ h.ph).trans rfl⟩
def wS (w : World) (wb cb n : Nat) : World := ((((w.setCell ⟨wb, 0, none⟩ (.int .i64 0)).setCell ⟨wb, 1, none⟩ (.int .i64 1)).setCell ⟨wb, 2, none⟩ (.int .i64 2)).setCell ⟨wb, 3, none⟩ (.bool false)).setCell ⟨wb, 4, none⟩ (.slice (some ⟨cb, 0, none⟩) n n)
theorem yK {w0 w : World} {wb kb db eb dc cb n : Nat} (hW : WK w wb kb db eb dc (wkO 0 0 0 false (.slice none 0 0) kb n db dc 0 (.slice none 0 0) (.map none)) (List.replicate n (0, 0)) 0) (hb : Below w0.heap.size w0 w) (g1 : w0.heap.size <= wb) (g2 : w0.heap.size <= kb) (g3 : w0.heap.size <= db) (g4 : w0.heap.size <= eb) (k : Nat) :
  Calls Tryd.prog 40 #[.pointer (some ⟨wb, 7, none⟩), .int .i64 1] (((wS w wb cb n).alloc (.cells #[.int .i64 0, .int .i64 1, .int .i64 2, .bool false, .slice (some ⟨cb, 0, none⟩) n n] 40)).drewN k) fun e w' => e = .returned (.tuple #[]) /\ ∃ pv mv, Bx (LP w0 w' wb kb db eb dc cb n w.heap.size pv mv (List.replicate n (0, 0)) 0) := by
 obtain ⟨l1, l2, l3, l4⟩ := hW.lts
 have q := hW.wk
 unfold wkO at q
 have x0 := iE (i := 4) (v := .slice (some ⟨cb, 0, none⟩) n n) (iE (i := 3) (v := .bool false) (iE (i := 2) (v := .int .i64 2) (iE (i := 1) (v := .int .i64 1) (iE (i := 0) (v := .int .i64 0) q))))
 have qs : (wS w wb cb n).heap[wb]? = some (wkO 0 1 2 false (.slice (some ⟨cb, 0, none⟩) n n) kb n db dc 0 (.slice none 0 0) (.map none)) := x0
 have fx : Fx (· = wb) w (wS w wb cb n) := by
  unfold wS
  exact Fx.set (P := (· = wb)) (p := ⟨wb, 4, none⟩) (Fx.set (P := (· = wb)) (p := ⟨wb, 3, none⟩) (Fx.set (P := (· = wb)) (p := ⟨wb, 2, none⟩) (Fx.set (P := (· = wb)) (p := ⟨wb, 1, none⟩) (Fx.set (P := (· = wb)) (p := ⟨wb, 0, none⟩) (Fx.refl _ w) (.inl rfl) _) (.inl rfl) _) (.inl rfl) _) (.inl rfl) _) (.inl rfl) _
 have ss : (wS w wb cb n).heap.size = w.heap.size := by unfold wS; simp
 generalize wS w wb cb n = Y at *
 obtain ⟨Z, hZ⟩ : ∃ Z, (Y.alloc (.cells #[.int .i64 0, .int .i64 1, .int .i64 2, .bool false, .slice (some ⟨cb, 0, none⟩) n n] 40)).drewN k = Z := ⟨_, rfl⟩
 have bZ : Below Y.heap.size Y Z := by rw [← hZ]; exact ⟨rfl, rfl, rfl, by simp, fun j hj => (ak Y _).block j hj⟩
 have pZ : Z.heap[w.heap.size]? = some (.cells #[.int .i64 0, .int .i64 1, .int .i64 2, .bool false, .slice (some ⟨cb, 0, none⟩) n n] 40 (0, 0)) := by rw [← hZ, ← ss]; exact heap_alloc_new Y _
 have wZ := (bZ.block wb (by omega)).trans qs
 rw [hZ]
 refine (yE Z wb 0 1 2 false _ kb n db dc wZ).mono ?_
 rintro e w' ⟨rfl, pv, mv, hh⟩
 obtain ⟨h1, h2⟩ := hh.out
 have f2 : Fx (· = wb) w w' := (fx.trans (Fx.of bZ)).trans h2
 have hs := hb.size
 have sZ := (Array.getElem?_eq_some_iff.1 pZ).1
 refine ⟨rfl, pv, mv, ⟨⟨⟨h1, (f2.block kb l2 (fun e => hW.n1 e.symm)).trans hW.kn, hW.du.fx f2 (fun e => hW.n2 e.symm) (fun e => hW.n3 e.symm), hW.n1, hW.n2, hW.n3, hW.n4, hW.n5⟩, hb.trans (f2.bel hs (fun k hk e => by omega)), g1, g2, g3, g4, by simp⟩, (h2.block _ sZ (by omega)).trans pZ, by omega, by omega, by omega⟩⟩
theorem yL {w0 w : World} {wb kb db eb dc cb n P : Nat} {pv mv : Value} (h0 : 0 < n) (hn : n <= 3) (h : LP w0 w wb kb db eb dc cb n P pv mv (List.replicate n (0, 0)) 0) :
  ∃ W, (∀ ty, (Builtin.clear_ #[67] ty #[.slice (some ⟨kb, 0, none⟩) n n]).run Tryd.prog w = .ok (.tuple #[]) W) /\ Bx (LP w0 W wb kb db eb dc cb n P pv mv (List.replicate n (0, 0)) 0) := by
 obtain ⟨W, h1, h2, h3⟩ := qH w kb n h0 hn h.lk.wk.kn
 obtain ⟨l1, l2, l3, l4⟩ := h.lk.wk.lts
 have hs := h.lk.bel.size
 have hg := h.lk.g2
 refine ⟨W, h1, ⟨⟨⟨(h3.block wb l1 h.lk.wk.n1).trans h.lk.wk.wk, h2, h.lk.wk.du.fx h3 (fun e => h.lk.wk.n4 e.symm) (fun e => h.lk.wk.n5 e.symm), h.lk.wk.n1, h.lk.wk.n2, h.lk.wk.n3, h.lk.wk.n4, h.lk.wk.n5⟩, h.lk.bel.trans (h3.bel hs (fun k hk e => by omega)), h.lk.g1, h.lk.g2, h.lk.g3, h.lk.g4, h.lk.kl⟩, (h3.block _ (Array.getElem?_eq_some_iff.1 h.ph).1 h.m2).trans h.ph, h.m1, h.m2, h.m4⟩⟩
def exK (l : List (Int × Int)) : List (Int × Int) := (List.replicate l.length (0, 0)).set 0 (1, 0)
theorem BA {l : List (Int × Int)} (h : l = exA ∨ l = exB ∨ l = exC) : Sg l 0 (exK l) ((2 ^ 0 : Nat) : Int) := by
 rcases h with rfl | rfl | rfl
 ·exact .inl ⟨rfl, .inl ⟨rfl, rfl, rfl⟩⟩
 ·exact .inr (.inl ⟨rfl, .inl ⟨rfl, rfl, rfl⟩⟩)
 ·exact .inr (.inr ⟨rfl, .inl ⟨rfl, rfl, rfl⟩⟩)
theorem Aj {w0 w : World} {wb kb db eb dc cb n P : Nat} {pv mv : Value} (h0 : 0 < n) (hn3 : n <= 3) (h : LP w0 w wb kb db eb dc cb n P pv mv (List.replicate n (0, 0)) 0) :
  Calls Tryd.prog 41 #[.pointer (some ⟨wb, 0, none⟩), .int .i64 0, .agg #[.int .i64 1, .int .u64 0]] w fun e w' => e = .returned (.bool true) /\ Bx (LP w0 w' wb kb db eb dc cb n P pv mv ((List.replicate n (0, 0)).set 0 (1, 0)) ((2 ^ 0 : Nat) : Int)) :=
 (sH w wb kb db eb dc 0 1 2 false _ n 0 pv mv _ h.lk.wk h.lk.kl 0 h0 (by omega) hn3 (fun _ => by simp) 1 0).mono fun e w' hh => by
  obtain ⟨h1, h2⟩ := hh.2.out
  have hs := h.lk.bel.size
  have hg2 := h.lk.g2
  have hg4 := h.lk.g4
  have m2 := h.m2
  have m4 := h.m4
  exact ⟨hh.1, ⟨⟨h1, h.lk.bel.trans (h2.bel hs (fun k hk e => by rcases e with e | e <;> omega)), h.lk.g1, h.lk.g2, h.lk.g3, h.lk.g4, by simp⟩, (h2.block _ (Array.getElem?_eq_some_iff.1 h.ph).1 (fun e => by rcases e with e | e <;> omega)).trans h.ph, h.m1, h.m2, h.m4⟩⟩
def yM (w0 : World) (l : List (Int × Int)) (wb kb db eb dc cb n : Nat) (e : Ending) (w' : World) : Prop :=
 e = .returned (.tuple #[.int .i64 (if l = exB then 1 else 0), .int .i64 (if l = exB then 94 else 0)]) /\ Bx (Below w0.heap.size w0 w' /\ (l ≠ exB -> ∃ pv mv K, Sg l n K 0 /\ LK w0 w' wb kb db eb dc cb n pv mv K 0))
theorem mH {w0 w : World} {wb kb db eb dc cb pb n : Nat} {l : List (Int × Int)} (hU : UE w0 pb cb l) (hV : VW w0) (hl : l.length = n) (hE : l = exA ∨ l = exB ∨ l = exC) (hW : WK w wb kb db eb dc (wkO 0 0 0 false (.slice none 0 0) kb n db dc 0 (.slice none 0 0) (.map none)) (List.replicate n (0, 0)) 0) (hb : Below w0.heap.size w0 w) (g1 : w0.heap.size <= wb) (g2 : w0.heap.size <= kb) (g3 : w0.heap.size <= db) (g4 : w0.heap.size <= eb) :
  Calls Tryd.prog 27 #[.pointer (some ⟨wb, 0, none⟩), .agg #[.int .i64 0, .int .i64 1, .int .i64 2, .bool false, .slice (some ⟨cb, 0, none⟩) n n]] w (yM w0 l wb kb db eb dc cb n) := by
 obtain ⟨P, hP⟩ : ∃ P, w.heap.size = P := ⟨_, rfl⟩
 have hn0 : 0 < n := hl ▸ hU.pos
 have hn3 : n <= 3 := hl ▸ hU.len
 obtain ⟨l1, l2, l3, l4⟩ := hW.lts
 rw [hP] at l1 l2 l3 l4
 have q := hW.wk
 unfold wkO at q
 have c0 : w.cell? ⟨wb, 0, none⟩ = some (.int .i64 0) := (cell_of_row w _ 0 _ _ _ q).trans rfl
 have c1 : w.cell? ⟨wb, 1, none⟩ = some (.int .i64 0) := (cell_of_row w _ 1 _ _ _ q).trans rfl
 have c2 : w.cell? ⟨wb, 2, none⟩ = some (.int .i64 0) := (cell_of_row w _ 2 _ _ _ q).trans rfl
 have c3 : w.cell? ⟨wb, 3, none⟩ = some (.bool false) := (cell_of_row w _ 3 _ _ _ q).trans rfl
 have c4 : w.cell? ⟨wb, 4, none⟩ = some (.slice none 0 0) := (cell_of_row w _ 4 _ _ _ q).trans rfl
 have fz : ∀ k, w.frozen? ⟨wb, k, none⟩ = false := fun k => by simp [World.frozen?, q]
 have HBG : Bx (∀ k, _) := ⟨fun k => yK (cb := cb) hW hb g1 g2 g3 g4 k⟩
 rw [hP] at HBG
 have HG : Bx (∀ X pv mv K (j : Nat), LK w0 X wb kb db eb dc cb n pv mv K 0 -> Sg l j K ((2 ^ j : Nat) : Int) -> ¬ (l = exB /\ j = 1) -> Calls Tryd.prog 44 #[.pointer (some ⟨wb, 0, none⟩), .int .i64 j] X fun e w' => e = .returned (.int .i64 0) /\ Bx (∃ K' x', LK w0 w' wb kb db eb dc cb n pv mv K' x' /\ Sg l (j + 1) K' x')) := ⟨fun X pv mv K j h1 h2 h3 => vw h1 hU hV hl h2 h3⟩
 have HBD : Bx (∀ X pv mv K (j : Nat), LK w0 X wb kb db eb dc cb n pv mv K 0 -> Sg l j K ((2 ^ j : Nat) : Int) -> l = exB /\ j = 1 -> Calls Tryd.prog 44 #[.pointer (some ⟨wb, 0, none⟩), .int .i64 j] X fun e w' => e = .returned (.int .i64 94) /\ Bx (Below w0.heap.size w0 w')) := ⟨fun X pv mv K j h1 h2 h3 => ry h1 hU hV hl h2 h3⟩
 have HT : Bx (∀ X pv mv K (j : Nat), j < 3 -> LK w0 X wb kb db eb dc cb n pv mv K ((2 ^ j : Nat) : Int) -> Calls Tryd.prog 43 #[.slice (some ⟨db, 0, none⟩) 1 dc] X fun e w' => e = .returned (.tuple #[.int .i64 j, .bool true]) /\ Bx (LK w0 w' wb kb db eb dc cb n pv mv K 0)) := ⟨fun X pv mv K j hj h1 => Ai hV j hj h1⟩
 have HSG : Bx (Sg l 0 (exK l) ((2 ^ 0 : Nat) : Int)) := ⟨BA hE⟩
 have HK : exK l = (List.replicate n (0, 0)).set 0 (1, 0) := by unfold exK; rw [hl]
 rw [HK] at HSG
 clear HK hW q hb hU hV
 go_enter Tryd.func27, Tryd.ntmps27
 go_wp2
 simp only [wS] at HBG
 refine wp_scope_jumps 0 (fun a' W => ∃ (i : Nat) (u1 u2 u3 u4 u5 u7 u8 u9 u10 u11 u12 u13 u14 u15 u16 u17 u18 u19 u20 u21 u22 u23 u24 u25 u26 u27 u28 u29 u30 u31 u32 u33 u34 u35 u36 u37 u38 u39 u40 u41 u42 u43 u44 u45 u46 u47 u48 u49 u50 u51 u52 : Value), a' = { tmps := #[.pointer (some ⟨wb, 0, none⟩), u1, u2, u3, u4, u5, .int .i64 (i : Int), u7, u8, u9, u10, u11, u12, u13, u14, u15, u16, u17, u18, u19, u20, u21, u22, u23, u24, u25, u26, u27, u28, u29, u30, u31, u32, u33, u34, u35, u36, u37, u38, u39, u40, u41, u42, u43, u44, u45, u46, u47, u48, u49, u50, u51, u52], defers := [] } /\ i < 3 /\ Bx (∃ pv mv K x, LK w0 W wb kb db eb dc cb n pv mv K x /\ Sg l (i + 1) K x)) (fun a' _ => 3 - (intOf (a'.tmps.getD 6 undef)).toNat) (by rfl) ?_ ?_
 ·obtain ⟨W1, hW1⟩ : ∃ W1, (((((w.setCell ⟨wb, 0, none⟩ (.int .i64 0)).setCell ⟨wb, 1, none⟩ (.int .i64 1)).setCell ⟨wb, 2, none⟩ (.int .i64 2)).setCell ⟨wb, 3, none⟩ (.bool false)).setCell ⟨wb, 4, none⟩ (.slice (some ⟨cb, 0, none⟩) n n)).alloc (.cells #[.int .i64 0, .int .i64 1, .int .i64 2, .bool false, .slice (some ⟨cb, 0, none⟩) n n] 40) = W1 := ⟨_, rfl⟩
  have hp1 : W1.heap[P]? = some (.cells #[.int .i64 0, .int .i64 1, .int .i64 2, .bool false, .slice (some ⟨cb, 0, none⟩) n n] 40 (0, 0)) := by
   have := heap_alloc_new (wS w wb cb n) (.cells #[.int .i64 0, .int .i64 1, .int .i64 2, .bool false, .slice (some ⟨cb, 0, none⟩) n n] 40)
   have hs : (wS w wb cb n).heap.size = P := by unfold wS; simpa using hP
   rw [hs] at this
   rw [← hW1]
   exact this
  have hpp : W1.cell? ⟨P, 1, none⟩ = some (.int .i64 1) := (cell_of_row W1 _ 1 _ _ _ hp1).trans rfl
  rw [hW1] at HBG
  go_wp2
  clear hp1 hW1 c0 c1 c2 c3 c4 fz
  go_region_held3 (fun w' => w'.cell? ⟨P, 1, none⟩ = some (.int .i64 1))
   (first | exact HX.out.cells.2.1 | exact hpp)
   (first | (go_at_call 40; refine Calls.mono (HBG.out 1) ?_; rintro e z1 ⟨rfl, pv, mv, HX⟩))
  obtain ⟨_, _, p4⟩ := HX.out.cells
  obtain ⟨_, _, k5, _, _, hwz⟩ := HX.out.lk.cells
  obtain ⟨W3, run3, HX3⟩ := yL hn0 hn3 (HX.out.drewN 1)
  have run3' : ∀ ty, (Builtin.clear_ #[67] ty #[.slice (some ⟨kb, 0, none⟩) n n]).run Tryd.prog z1.drew = .ok (.tuple #[]) W3 := run3
  clear run3 hpp HBG
  go_wp2
  go_region
  go_wp2
  have hq3 := HX3.out.drewN 1
  have HFI : Bx (∀ X, LP w0 X wb kb db eb dc cb n P pv mv (List.replicate n (0, 0)) 0 -> Calls Tryd.prog 42 #[.pointer (some ⟨wb, 7, none⟩), .int .i64 0] X fun e w' => e = .returned (.int .u64 0) /\ LP w0 w' wb kb db eb dc cb n P pv mv (List.replicate n (0, 0)) 0) := ⟨fun X hX => (yF X wb hX.lk.cells.2.2.2.2.1).mono fun e w' hh => ⟨hh.1, by obtain ⟨k, rfl⟩ := hh.2; exact hX.drewN k⟩⟩
  have HCO : Bx (∀ X, LP w0 X wb kb db eb dc cb n P pv mv (List.replicate n (0, 0)) 0 -> _) := ⟨fun X hX => Aj hn0 hn3 hX⟩
  clear p4 k5 run3'
  go_region_held3 (fun w' => w'.cell? ⟨P, 0, none⟩ = some (.int .i64 0))
   (first | exact HX5.out.cells.1 | exact hq4.cells.1 | exact hq3.cells.1)
   (first
    | (go_at_call 42; refine Calls.mono (HFI.out _ hq3) ?_; rintro e z4 ⟨rfl, hq4⟩)
    | (go_at_call 41; refine Calls.mono (HCO.out _ hq4) ?_; rintro e z5 ⟨rfl, HX5⟩))
  have HLK : Bx _ := ⟨HX5.out.lk⟩
  obtain ⟨_, _, _, k6, _, hwl5⟩ := HX5.out.lk.cells
  clear HX HX3 hq3 hq4 HFI HCO HX5
  go_wp2
  go_step3
  go_wp2_with (first
   | (go_at_call 43; refine (HT.out _ _ _ _ 0 (by omega) HLK.out).mono ?_; rintro e z6 ⟨rfl, HL6⟩)
   | (go_at_call 44; refine (HG.out _ _ _ _ 0 HL6.out HSG.out (fun h => by omega)).mono ?_; rintro e z7 ⟨rfl, HL7⟩))
  go_step3
  refine ⟨rfl, 0, _, _, _, _, _, _, _, _, _, _, _, _, _, _, _, _, _, _, _, _, _, _, _, _, _, _, _, _, _, _, _, _, _, _, _, _, _, _, _, _, _, _, _, _, _, _, _, _, _, _, _, rfl, by omega, ⟨?_⟩⟩
  obtain ⟨K', x', h1, h2⟩ := HL7.out
  exact ⟨_, _, K', x', h1, h2⟩
 ·clear HBG c0 c1 c2 c3 c4 fz HSG
  rintro a' W ⟨i, u1, u2, u3, u4, u5, u7, u8, u9, u10, u11, u12, u13, u14, u15, u16, u17, u18, u19, u20, u21, u22, u23, u24, u25, u26, u27, u28, u29, u30, u31, u32, u33, u34, u35, u36, u37, u38, u39, u40, u41, u42, u43, u44, u45, u46, u47, u48, u49, u50, u51, u52, rfl, hi3, HJ⟩
  obtain ⟨pv, mv, K, x, hLK, hSg⟩ := HJ.out
  clear HJ
  obtain ⟨_, _, _, k6, _, hwl5⟩ := hLK.cells
  rcases hSg.lt with ⟨rfl, hjn, hnB, _⟩ | ⟨rfl, hj3, hjl⟩
  ·have HT0 := zy W db eb dc hLK.wk.du
   have HF : Bx (Below w0.heap.size w0 W /\ (l ≠ exB -> ∃ pv mv K, Sg l n K 0 /\ LK w0 W wb kb db eb dc cb n pv mv K 0)) := ⟨hLK.bel, fun _ => ⟨pv, mv, K, by rw [← hl, ← hjn]; exact hSg, hLK⟩⟩
   clear hLK hSg
   go_wp2_with (first
    | (go_at_call 43; refine HT0.mono ?_; rintro e z6 ⟨rfl, rfl⟩))
   simp only [Exit.jump]
   go_returns
   unfold yM
   rw [if_neg hnB, if_neg hnB]
   exact ⟨rfl, HF⟩
  ·have HLK : Bx _ := ⟨hLK⟩
   have HSg : Bx _ := ⟨hSg⟩
   have hc1 : ((i + 1 : Nat) : Int) = (i : Int) + 1 := by omega
   clear hLK hSg
   by_cases hbad : l = exB /\ i + 1 = 1
   ·obtain ⟨hB, hi0⟩ := hbad
    obtain rfl : i = 0 := by omega
    have HT1 := HT.out _ _ _ _ 1 (by omega) HLK.out
    have HB1 : Bx (∀ X, LK w0 X wb kb db eb dc cb n pv mv K 0 -> _) := ⟨fun X hX => HBD.out X _ _ _ 1 hX HSg.out ⟨hB, rfl⟩⟩
    try simp only [Int.natCast_one] at HT1 HB1
    unfold yM
    rw [if_pos hB, if_pos hB]
    clear HT HBD HG HSg HLK hc1
    go_wp2_with (first
     | (go_at_call 43; refine HT1.mono ?_; clear HT1; rintro e z6 ⟨rfl, HL6⟩)
     | (go_at_call 44; refine (HB1.out _ HL6.out).mono ?_; clear HB1; rintro e z7 ⟨rfl, HL7⟩))
    simp only [Exit.jump]
    go_returns
    first | exact ⟨rfl, ⟨HL7.out, fun h => absurd hB h⟩⟩ | exact ⟨rfl, ⟨HL7.out⟩⟩ | exact ⟨rfl, HL7⟩
   ·go_wp2_with (first
     | (go_at_call 43; refine (HT.out _ _ _ _ (i + 1) hj3 HLK.out).mono ?_; rintro e z6 ⟨rfl, HL6⟩)
     | (go_at_call 44; refine (HG.out _ _ _ _ (i + 1) HL6.out HSg.out hbad).mono ?_; rintro e z7 ⟨rfl, HL7⟩))
    go_step3
    refine ⟨rfl, ⟨i + 1, _, _, _, _, _, _, _, _, _, _, _, _, _, _, _, _, _, _, _, _, _, _, _, _, _, _, _, _, _, _, _, _, _, _, _, _, _, _, _, _, _, _, _, _, _, _, _, _, _, _, _, rfl, hj3, ⟨?_⟩⟩, ?_⟩
    ·obtain ⟨K', x', h1, h2⟩ := HL7.out
     exact ⟨_, _, K', x', h1, h2⟩
    ·simp [intOf]
     omega
theorem pU (w : World) (hV : VW w) (pb cb : Nat) (l : List (Int × Int)) (hE : l = exA ∨ l = exB ∨ l = exC) (hU : UE w pb cb l) : Calls Tryd.prog 21 #[unE pb] w fun e w' => e = .returned (.tuple #[.int .i64 0, .int .i64 (if l = exB then 1 else 0), .int .i64 (if l = exB then 94 else 0)]) /\ Below w.heap.size w w' := by
 obtain ⟨n, hn⟩ : ∃ n, l.length = n := ⟨_, rfl⟩
 obtain ⟨H, hH⟩ : ∃ H, w.heap.size = H := ⟨_, rfl⟩
 have hn3 : n <= 3 := hn ▸ hU.len
 have hn0 : 0 < n := hn ▸ hU.pos
 have hpl : pb < H := hH ▸ hU.lt.1
 obtain ⟨w0, hw0⟩ : ∃ w0, w.alloc (.cells #[.slice (some ⟨pb, 0, none⟩) 1 1, .slice none 0 0] 25) = w0 := ⟨_, rfl⟩
 have b0 : Below H w w0 := by rw [← hw0, ← hH]; exact ak w _
 have s0 : w0.heap.size = H + 1 := by rw [← hw0]; simp [hH]
 have q0 : w0.heap[H]? = some (.cells #[.slice (some ⟨pb, 0, none⟩) 1 1, .slice none 0 0] 25 (0, 0)) := by rw [← hw0, ← hH]; exact heap_alloc_new w _
 have e0 : w0.cell? ⟨H, 0, none⟩ = some (.slice (some ⟨pb, 0, none⟩) 1 1) := (cell_of_row w0 _ 0 _ _ _ q0).trans rfl
 have hlt0 : H < w0.heap.size := by omega
 obtain ⟨p0, p1, p2, p3, p4⟩ := (hU.below (hH ▸ b0)).prog hn
 have hpl0 : pb < w0.heap.size := by omega
 have HN : Bx (∀ o, Calls Tryd.prog 26 #[.int .i64 n] (w0.alloc o) fun e w' => ∃ wb kb db eb dc, e = .returned (.pointer (some ⟨wb, 0, none⟩)) /\ w'.cell? ⟨H, 0, none⟩ = some (.slice (some ⟨pb, 0, none⟩) 1 1) /\ w'.cell? ⟨pb, 0, none⟩ = some (.int .i64 0) /\ w'.cell? ⟨pb, 1, none⟩ = some (.int .i64 1) /\ w'.cell? ⟨pb, 2, none⟩ = some (.int .i64 2) /\ w'.cell? ⟨pb, 3, none⟩ = some (.bool false) /\ w'.cell? ⟨pb, 4, none⟩ = some (.slice (some ⟨cb, 0, none⟩) n n) /\ pb < w'.heap.size /\ Bx (∀ o2, Calls Tryd.prog 27 #[.pointer (some ⟨wb, 0, none⟩), .agg #[.int .i64 0, .int .i64 1, .int .i64 2, .bool false, .slice (some ⟨cb, 0, none⟩) n n]] (w'.alloc o2) fun e w'' => e = .returned (.tuple #[.int .i64 (if l = exB then 1 else 0), .int .i64 (if l = exB then 94 else 0)]) /\ Bx (Below H w w''))) := ⟨fun o => by
  refine (iP (w0.alloc o) n hn0 hn3).mono ?_
  rintro e w' ⟨wb, kb, db, eb, dc, rfl, hh⟩
  obtain ⟨h1, h2, g1, g2, g3, g4⟩ := hh.out
  have sa : (w0.alloc o).heap.size = H + 2 := by simp [s0]
  rw [sa] at h2 g1 g2 g3 g4
  have b1 : Below (H + 1) w0 (w0.alloc o) := s0 ▸ ak w0 o
  have hbw : Below H w w' := b0.trans ((b1.mono (by omega)).trans (h2.mono (by omega)))
  obtain ⟨y0, y1, y2, y3, y4⟩ := (hU.below (hH ▸ hbw)).prog hn
  have hs := hbw.size
  have hq := ((h2.block H (by omega)).trans (b1.block H (by omega))).trans q0
  refine ⟨wb, kb, db, eb, dc, rfl, (cell_of_row w' _ 0 _ _ _ hq).trans rfl, y0, y1, y2, y3, y4, by omega, ⟨fun o2 => ?_⟩⟩
  have b9 := ak w' o2
  refine Calls.mono (mH (w0 := w) (w := w'.alloc o2) (pb := pb) hU hV hn hE (h1.fx (Fx.no b9) id id id id) (hH ▸ hbw.trans (b9.mono (by omega))) (by omega) (by omega) (by omega) (by omega)) ?_
  rintro e w'' ⟨rfl, hf⟩
  exact ⟨rfl, ⟨hH ▸ hf.out.1⟩⟩⟩
 rw [hH]
 clear hU hV q0 hn
 go_enter Tryd.func21, Tryd.ntmps21
 go_wp2
 refine wp_loop_rounds 2 ?_
 rw [rounds_succ]
 go_wp2
 rw [rounds_succ]
 go_wp2_with (first
  | (go_at_call 26; refine (HN.out _).mono ?_; rintro e w2 ⟨wb, kb, db, eb, dc, rfl, k0, y0, y1, y2, y3, y4, hpl2, HFO⟩))
 refine wp_loop_rounds 2 ?_
 rw [rounds_succ]
 by_cases hB : l = exB
 ·simp only [if_pos hB] at HFO ⊢
  clear p0 p1 p2 p3 p4 e0 HN hE
  go_wp2_with (first
   | (go_at_call 27; refine (HFO.out _).mono ?_; rintro e w3 ⟨rfl, HB3⟩))
  go_returns
  exact ⟨rfl, HB3.out⟩
 ·simp only [if_neg hB] at HFO ⊢
  clear p0 p1 p2 p3 p4 e0 HN hE
  go_wp2_with (first
   | (go_at_call 27; refine (HFO.out _).mono ?_; rintro e w3 ⟨rfl, HB3⟩))
  rw [rounds_succ]
  go_wp2
  go_returns
  exact ⟨rfl, HB3.out⟩
end Go.Proofs.YtadmpgegolmkgaaDoor
