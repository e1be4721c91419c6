import Derived.Test.YtecpknpcjoiliaaDoorCJRa
import Derived.Test.YtecpknpcjoiliaaDoorCJG
namespace Go.Proofs.YtecpknpcjoiliaaDoor
open Go.RowKit
set_option linter.unusedVariables false
set_option linter.unusedSimpArgs false

/-- the number of a letter -/
def fldE (e : Ev) (c : UInt8) : Int := if c = 80 then e.p else if c = 73 then e.i else if c = 81 then e.q else if c = 74 then e.j else if c = 67 then e.c else e.num
def okL (c : UInt8) (n : Int) : Bool := if c = 78 then true else if c = 84 then decide (1 ≤ n) && decide (n ≤ 5) else if c = 83 then decide (1 ≤ n) && decide (n ≤ 6) else decide (0 ≤ n)
def zer1 (e : Ev) (c : UInt8) : Ev := if c = 76 then e else if c = 80 then { e with p := 0 } else if c = 73 then { e with i := 0 } else if c = 81 then { e with q := 0 } else if c = 74 then { e with j := 0 } else if c = 67 then { e with c := 0 } else { e with num := 0 }
def zer (e : Ev) (cs : List UInt8) : Ev := cs.foldl zer1 e
def okC (e : Ev) (c : UInt8) : Bool := decide (c = 76) || okL c (fldE e c)
def zeroE (e : Ev) : Bool := decide (e.p = 0) && decide (e.i = 0) && decide (e.q = 0) && decide (e.j = 0) && decide (e.c = 0) && decide (e.num = 0)
def refOk (e : Ev) : Bool := (shS e.kind).all (okC e) && zeroE (zer e (shS e.kind)) && ((shS e.kind).any (· == 76) || e.list.isEmpty) && risF (-1) e.list
theorem b0 (a : Int) : (decide (0 ≤ a) && decide (a ≤ 0)) = decide (a = 0) := by
  by_cases h : a = 0
  · subst h; decide
  · rw [decide_eq_false h]
    by_cases h1 : 0 ≤ a
    · rw [decide_eq_true h1, decide_eq_false (by omega)]; rfl
    · rw [decide_eq_false h1]; rfl
set_option maxHeartbeats 2000000 in
theorem ref_eq {e : Ev} (h : 1 ≤ e.kind ∧ e.kind ≤ 11) : refOk e = evOk e := by
  obtain ⟨kind, p, i, q, j, c, num, list⟩ := e
  simp only [] at h
  have hnw2 : ((nwords 2).length : Int) = 5 := rfl
  have hnw3 : ((nwords 3).length : Int) = 6 := rfl
  rcases kind11 h with rfl | rfl | rfl | rfl | rfl | rfl | rfl | rfl | rfl | rfl | rfl
  all_goals
    rw [Bool.eq_iff_iff]
    cases list with
    | nil => simp [refOk, evOk, shS, shpL', tsh, tshT, okC, okL, fldE, zer, zer1, zeroE, plOk, plL, tlOk, hasB, Nat.testBit, risF, hnw2, hnw3] <;> omega
    | cons x r => simp [refOk, evOk, shS, shpL', tsh, tshT, okC, okL, fldE, zer, zer1, zeroE, plOk, plL, tlOk, hasB, Nat.testBit, risF, hnw2, hnw3] <;> first | omega | (generalize risF x r = R; constructor <;> intro h <;> simp_all <;> omega)
end Go.Proofs.YtecpknpcjoiliaaDoor
