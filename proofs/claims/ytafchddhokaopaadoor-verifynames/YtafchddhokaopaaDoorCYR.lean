import Derived.Test.YtafchddhokaopaaDoorCYP
import Derived.Test.YtafchddhokaopaaDoorCYQa
import Derived.Test.YtafchddhokaopaaDoorCYQb
import Derived.Test.YtafchddhokaopaaDoorCYQc
namespace Go.Proofs.YtafchddhokaopaaDoor
open Go.RowKit
set_option linter.unusedVariables false
set_option linter.unusedSimpArgs false

def exA : List (Int × Int) := [(25, 0)]
def exB : List (Int × Int) := [(1, 1), (25, 0)]
def exC : List (Int × Int) := [(1, 1), (5, 0), (25, 0)]
/-- how far the ways of an example have been followed -/
def Sg (l : List (Int × Int)) (j : Nat) (K : List (Int × Int)) (x : Int) : Prop :=
  (l = exA ∧ ((j = 0 ∧ K = [(1, 0)] ∧ x = 1) ∨ (j = 1 ∧ K = [(1, 0)] ∧ x = 0))) ∨
  (l = exB ∧ ((j = 0 ∧ K = [(1, 0), (0, 0)] ∧ x = 1) ∨ (j = 1 ∧ K = [(1, 0), (2, 0)] ∧ x = 2))) ∨
  (l = exC ∧ ((j = 0 ∧ K = [(1, 0), (0, 0), (0, 0)] ∧ x = 1) ∨ (j = 1 ∧ K = [(1, 0), (2, 0), (0, 0)] ∧ x = 2) ∨ (j = 2 ∧ K = [(1, 0), (2, 0), (1, 1)] ∧ x = 4) ∨ (j = 3 ∧ K = [(1, 0), (2, 0), (1, 1)] ∧ x = 0)))
theorem Sg.lt {l K : List (Int × Int)} {j : Nat} {x : Int} (h : Sg l j K x) : (x = 0 ∧ j = l.length ∧ l ≠ exB ∧ 0 < j) ∨ (x = ((2 ^ j : Nat) : Int) ∧ j < 3 ∧ j < l.length) := by
  unfold Sg at h
  rcases h with ⟨rfl, ⟨rfl, _, rfl⟩ | ⟨rfl, _, rfl⟩⟩ | ⟨rfl, ⟨rfl, _, rfl⟩ | ⟨rfl, _, rfl⟩⟩ | ⟨rfl, ⟨rfl, _, rfl⟩ | ⟨rfl, _, rfl⟩ | ⟨rfl, _, rfl⟩ | ⟨rfl, _, rfl⟩⟩ <;> decide
theorem take_lk {w0 w : World} {wb kb db eb dc cb n : Nat} {pv mv : Value} {K : List (Int × Int)} (hV : VW w0) (j : Nat) (hj : j < 3) (h : LK w0 w wb kb db eb dc cb n pv mv K ((2 ^ j : Nat) : Int)) :
    Calls Tryd.prog 44 #[.slice (some ⟨db, 0, none⟩) 1 dc] w fun e w' => e = .returned (.tuple #[.int .i64 j, .bool true]) ∧ Bx (LK w0 w' wb kb db eb dc cb n pv mv K 0) :=
  (take_yes j hj w (hV.below h.bel) db eb dc h.wk.du).mono fun e w' hh => by
    obtain ⟨h1, h2⟩ := hh.2.out
    have hs := h.bel.size
    have hg4 := h.g4
    obtain ⟨l1, l2, l3, l4⟩ := h.wk.lts
    refine ⟨hh.1, ⟨⟨(h2.block wb l1 h.wk.n3).trans h.wk.wk, (h2.block kb l2 h.wk.n5).trans h.wk.kn, h1, h.wk.n1, h.wk.n2, h.wk.n3, h.wk.n4, h.wk.n5⟩, h.bel.trans (h2.bel hs (fun k hk e => by omega)), h.g1, h.g2, h.g3, h.g4, h.kl⟩⟩
theorem look_good {w0 w : World} {wb kb db eb dc cb pb n : Nat} {pv mv : Value} {K l : List (Int × Int)} {j : Nat} (h : LK w0 w wb kb db eb dc cb n pv mv K 0) (hU : UE w0 pb cb l) (hV : VW w0) (hl : l.length = n) (hS : Sg l j K ((2 ^ j : Nat) : Int)) (hb : ¬ (l = exB ∧ j = 1)) :
    Calls Tryd.prog 45 #[.pointer (some ⟨wb, 0, none⟩), .int .i64 j] w fun e w' => e = .returned (.int .i64 0) ∧ Bx (∃ K' x', LK w0 w' wb kb db eb dc cb n pv mv K' x' ∧ Sg l (j + 1) K' x') := by
  unfold Sg at hS
  rcases hS with ⟨rfl, ⟨rfl, rfl, hx⟩ | ⟨rfl, rfl, hx⟩⟩ | ⟨rfl, ⟨rfl, rfl, hx⟩ | ⟨rfl, rfl, hx⟩⟩ | ⟨rfl, ⟨rfl, rfl, hx⟩ | ⟨rfl, rfl, hx⟩ | ⟨rfl, rfl, hx⟩ | ⟨rfl, rfl, hx⟩⟩
  · exact (look_25 h hU hV hl 0 (by decide) (by decide) rfl 0 rfl).mono fun e w' hh => ⟨hh.1, ⟨_, _, hh.2.out, .inl ⟨rfl, .inr ⟨rfl, rfl, rfl⟩⟩⟩⟩
  · simp at hx
  · exact (look_1 h hU hV hl 0 (by decide) (by decide) rfl rfl (by rw [← hl]; decide) (fun _ => rfl)).mono fun e w' hh => ⟨hh.1, ⟨_, _, hh.2.out, .inr (.inl ⟨rfl, .inr ⟨rfl, rfl, rfl⟩⟩)⟩⟩
  · exact absurd ⟨rfl, rfl⟩ hb
  · exact (look_1 h hU hV hl 0 (by decide) (by decide) rfl rfl (by rw [← hl]; decide) (fun _ => rfl)).mono fun e w' hh => ⟨hh.1, ⟨_, _, hh.2.out, .inr (.inr ⟨rfl, .inr (.inl ⟨rfl, rfl, rfl⟩)⟩)⟩⟩
  · exact (look_5 h hU hV hl 1 (by decide) (by decide) rfl rfl (by rw [← hl]; decide) (fun _ => rfl)).mono fun e w' hh => ⟨hh.1, ⟨_, _, hh.2.out, .inr (.inr ⟨rfl, .inr (.inr (.inl ⟨rfl, rfl, rfl⟩))⟩)⟩⟩
  · exact (look_25 h hU hV hl 2 (by decide) (by decide) rfl 1 rfl).mono fun e w' hh => ⟨hh.1, ⟨_, _, hh.2.out, .inr (.inr ⟨rfl, .inr (.inr (.inr ⟨rfl, rfl, rfl⟩))⟩)⟩⟩
  · simp at hx
theorem look_worse {w0 w : World} {wb kb db eb dc cb pb n : Nat} {pv mv : Value} {K l : List (Int × Int)} {j : Nat} (h : LK w0 w wb kb db eb dc cb n pv mv K 0) (hU : UE w0 pb cb l) (hV : VW w0) (hl : l.length = n) (hS : Sg l j K ((2 ^ j : Nat) : Int)) (hb : l = exB ∧ j = 1) :
    Calls Tryd.prog 45 #[.pointer (some ⟨wb, 0, none⟩), .int .i64 j] w fun e w' => e = .returned (.int .i64 94) ∧ Bx (Below w0.heap.size w0 w') := by
  obtain ⟨rfl, rfl⟩ := hb
  unfold Sg at hS
  rcases hS with ⟨h', _⟩ | ⟨_, ⟨h', _⟩ | ⟨_, rfl, _⟩⟩ | ⟨h', _⟩
  · exact absurd h' (by decide)
  · omega
  · exact (look_bad h hU hV hl 1 (by decide) (by decide) rfl rfl).mono fun e w' hh => ⟨hh.1, ⟨hh.2.out.bel⟩⟩
  · exact absurd h' (by decide)
end Go.Proofs.YtafchddhokaopaaDoor
