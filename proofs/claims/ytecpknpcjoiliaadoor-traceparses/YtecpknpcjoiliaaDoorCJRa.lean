import Derived.Test.YtecpknpcjoiliaaDoorCJR
import Derived.Test.YtecpknpcjoiliaaDoorCJD
import Derived.Test.YtecpknpcjoiliaaDoorCJG
namespace Go.Proofs.YtecpknpcjoiliaaDoor
open Go.RowKit
set_option linter.unusedVariables false
set_option linter.unusedSimpArgs false

def shpL' : List (List UInt8) := [[80, 81], [80, 73, 81, 74, 67], [81, 74, 78], [80, 73, 78], [80], [80, 84], [], [], [76], [80], [80, 83]]
/-- the letters of a kind -/
def shS (k : Int) : List UInt8 := shpL'.getD (k.toNat - 1) []
abbrev wdB : Obj := .cells #[strV [98, 111, 114, 110], strV [109, 101, 101, 116], strV [105, 110], strV [111, 117, 116], strV [101, 120, 105, 116], strV [116, 114, 97, 112], strV [115, 107, 105, 112], strV [105, 100, 108, 101], strV [112, 114, 111, 98, 101], strV [114, 101, 97, 112], strV [115, 112, 101, 110, 116]] 9 (0, 0)
abbrev spB : Obj := .cells #[strV [80, 81], strV [80, 73, 81, 74, 67], strV [81, 74, 78], strV [80, 73, 78], strV [80], strV [80, 84], strV [], strV [], strV [76], strV [80], strV [80, 83]] 9 (0, 0)
theorem wd_cell {w : World} {H : Nat} (hH : w.heap.size = H) {j : Nat} (hj : j < 11) : (w.alloc wdB).cell? ⟨H, j, none⟩ = some (strV (tshT.getD j noTsh).1) := by
  refine cell_blk (heap_newH w _ H hH) ?_
  match j, hj with
  | 0, _ => rfl
  | 1, _ => rfl
  | 2, _ => rfl
  | 3, _ => rfl
  | 4, _ => rfl
  | 5, _ => rfl
  | 6, _ => rfl
  | 7, _ => rfl
  | 8, _ => rfl
  | 9, _ => rfl
  | 10, _ => rfl
theorem sp_cell {w : World} {H : Nat} (hH : w.heap.size = H) {j : Nat} (hj : j < 11) : (w.alloc spB).cell? ⟨H, j, none⟩ = some (strV (shpL'.getD j [])) := by
  refine cell_blk (heap_newH w _ H hH) ?_
  match j, hj with
  | 0, _ => rfl
  | 1, _ => rfl
  | 2, _ => rfl
  | 3, _ => rfl
  | 4, _ => rfl
  | 5, _ => rfl
  | 6, _ => rfl
  | 7, _ => rfl
  | 8, _ => rfl
  | 9, _ => rfl
  | 10, _ => rfl
set_option maxRecDepth 100000 in
set_option maxHeartbeats 1000000 in
theorem rword_no (k : Int) (w : World) (h : k < 1 ∨ 11 < k) : Calls Tryd.prog 26 #[.int .i64 k] w fun e w' => e = .returned (strV []) ∧ Below w.heap.size w w' := by
  by_cases h0 : k < 1
  · go_enter Tryd.func26, Tryd.ntmps26
    go_wp2
    go_ret
    exact ⟨rfl, below1 _ _⟩
  · have h1 : 11 < k := by omega
    go_enter Tryd.func26, Tryd.ntmps26
    go_wp2
    go_ret
    exact ⟨rfl, below1 _ _⟩
set_option maxRecDepth 100000 in
set_option maxHeartbeats 1000000 in
theorem rword_yes (k : Int) (w : World) (h : 1 ≤ k ∧ k ≤ 11) : Calls Tryd.prog 26 #[.int .i64 k] w fun e w' => e = .returned (strV (tsh k).1) ∧ Below w.heap.size w w' := by
  obtain ⟨j, rfl⟩ : ∃ j : Nat, k = (j : Int) + 1 := ⟨(k - 1).toNat, by omega⟩
  have hj : j < 11 := by omega
  obtain ⟨H, hH⟩ : ∃ H, w.heap.size = H := ⟨_, rfl⟩
  have hc := wd_cell hH hj
  have e : tsh ((j : Int) + 1) = tshT.getD j noTsh := by
    unfold tsh
    have : ((j : Int) + 1).toNat - 1 = j := by omega
    rw [this]
  rw [e]
  generalize (tshT.getD j noTsh).1 = s at *
  have hb : Below H w (w.alloc wdB) := by rw [← hH]; exact below1 _ _
  obtain ⟨K, hK⟩ : ∃ K : Int, K = (j : Int) + 1 := ⟨_, rfl⟩
  have k1 : 1 ≤ K := by omega
  have k2 : K ≤ 11 := by omega
  have k3 : K - 1 = (j : Int) := by omega
  have k4 : (j : Int) < 11 := by omega
  rw [← hK, hH]
  have HB : Bx _ := ⟨hb⟩
  clear hK h e hb
  go_enter Tryd.func26, Tryd.ntmps26
  go_wp2
  go_ret
  exact ⟨rfl, HB.out⟩
set_option maxRecDepth 100000 in
set_option maxHeartbeats 1000000 in
theorem rshape_yes (k : Int) (w : World) (h : 1 ≤ k ∧ k ≤ 11) : Calls Tryd.prog 27 #[.int .i64 k] w fun e w' => e = .returned (strV (shS k)) ∧ Below w.heap.size w w' := by
  obtain ⟨j, rfl⟩ : ∃ j : Nat, k = (j : Int) + 1 := ⟨(k - 1).toNat, by omega⟩
  have hj : j < 11 := by omega
  obtain ⟨H, hH⟩ : ∃ H, w.heap.size = H := ⟨_, rfl⟩
  have hc := sp_cell hH hj
  have e : shS ((j : Int) + 1) = shpL'.getD j [] := by
    unfold shS
    have : ((j : Int) + 1).toNat - 1 = j := by omega
    rw [this]
  rw [e]
  generalize shpL'.getD j [] = s at *
  have hb : Below H w (w.alloc spB) := by rw [← hH]; exact below1 _ _
  obtain ⟨K, hK⟩ : ∃ K : Int, K = (j : Int) + 1 := ⟨_, rfl⟩
  have k1 : 1 ≤ K := by omega
  have k2 : K ≤ 11 := by omega
  have k3 : K - 1 = (j : Int) := by omega
  have k4 : (j : Int) < 11 := by omega
  rw [← hK, hH]
  have HB : Bx _ := ⟨hb⟩
  clear hK h e hb
  go_enter Tryd.func27, Tryd.ntmps27
  go_wp2
  go_ret
  exact ⟨rfl, HB.out⟩
/-- where a letter's number stands -/
def fiL (c : UInt8) : Nat := if c = 80 then 1 else if c = 73 then 2 else if c = 81 then 3 else if c = 74 then 4 else if c = 67 then 5 else 6
theorem u8_ne {c d : UInt8} (h : c ≠ d) : ((c.toNat : Int) == (d.toNat : Int)) = false := by
  simp only [beq_eq_false_iff_ne, ne_eq]
  intro e
  exact h (UInt8.toNat_inj.1 (by omega))
set_option maxHeartbeats 1000000 in
theorem rfield_any (w : World) (b : Nat) (c : UInt8) : Calls Tryd.prog 28 #[.pointer (some ⟨b, 0, none⟩), .int .u8 c.toNat] w fun e w' => e = .returned (.pointer (some ⟨b, fiL c, none⟩)) ∧ w' = w := by
  unfold fiL
  by_cases h1 : c = 80
  · subst h1
    go_enter Tryd.func28, Tryd.ntmps28
    go_wp2
    go_ret
    exact ⟨rfl, rfl⟩
  · rw [if_neg h1]
    by_cases h2 : c = 73
    · subst h2
      go_enter Tryd.func28, Tryd.ntmps28
      go_wp2
      go_ret
      exact ⟨rfl, rfl⟩
    · rw [if_neg h2]
      by_cases h3 : c = 81
      · subst h3
        go_enter Tryd.func28, Tryd.ntmps28
        go_wp2
        go_ret
        exact ⟨rfl, rfl⟩
      · rw [if_neg h3]
        by_cases h4 : c = 74
        · subst h4
          go_enter Tryd.func28, Tryd.ntmps28
          go_wp2
          go_ret
          exact ⟨rfl, rfl⟩
        · rw [if_neg h4]
          by_cases h5 : c = 67
          · subst h5
            go_enter Tryd.func28, Tryd.ntmps28
            go_wp2
            go_ret
            exact ⟨rfl, rfl⟩
          · rw [if_neg h5]
            have g1 : ((c.toNat : Int) == 80) = false := u8_ne h1
            have g2 : ((c.toNat : Int) == 73) = false := u8_ne h2
            have g3 : ((c.toNat : Int) == 81) = false := u8_ne h3
            have g4 : ((c.toNat : Int) == 74) = false := u8_ne h4
            have g5 : ((c.toNat : Int) == 67) = false := u8_ne h5
            have i1 : ¬ (c.toNat : Int) = 80 := by simpa using g1
            have i2 : ¬ (c.toNat : Int) = 73 := by simpa using g2
            have i3 : ¬ (c.toNat : Int) = 81 := by simpa using g3
            have i4 : ¬ (c.toNat : Int) = 74 := by simpa using g4
            have i5 : ¬ (c.toNat : Int) = 67 := by simpa using g5
            clear h1 h2 h3 h4 h5
            go_enter Tryd.func28, Tryd.ntmps28
            go_wp2
            go_ret
            exact ⟨rfl, rfl⟩
set_option maxHeartbeats 1000000 in
theorem rtraps_any (w : World) : Calls Tryd.prog 29 #[] w fun e w' => ∃ a c, e = .returned (.slice a 5 c) ∧ Below w.heap.size w w' := by
  go_enter Tryd.func29, Tryd.ntmps29
  go_wp2
  go_ret
  exact ⟨_, _, rfl, below1 _ _⟩
set_option maxHeartbeats 1000000 in
theorem rcounters_any (w : World) : Calls Tryd.prog 30 #[] w fun e w' => ∃ a c, e = .returned (.slice a 6 c) ∧ Below w.heap.size w w' := by
  go_enter Tryd.func30, Tryd.ntmps30
  go_wp2
  go_ret
  exact ⟨_, _, rfl, below1 _ _⟩
end Go.Proofs.YtecpknpcjoiliaaDoor
namespace Go.Proofs.YtecpknpcjoiliaaDoor
open Go.RowKit
set_option linter.unusedVariables false
set_option linter.unusedSimpArgs false

/-- the number of a letter -/
def fldE (e : Ev) (c : UInt8) : Int := if c = 80 then e.p else if c = 73 then e.i else if c = 81 then e.q else if c = 74 then e.j else if c = 67 then e.c else e.num
def okL (c : UInt8) (n : Int) : Bool := if c = 78 then true else if c = 84 then decide (1 ≤ n) && decide (n ≤ 5) else if c = 83 then decide (1 ≤ n) && decide (n ≤ 6) else decide (0 ≤ n)
def zer1 (e : Ev) (c : UInt8) : Ev := if c = 76 then e else if c = 80 then { e with p := 0 } else if c = 73 then { e with i := 0 } else if c = 81 then { e with q := 0 } else if c = 74 then { e with j := 0 } else if c = 67 then { e with c := 0 } else { e with num := 0 }
def zer (e : Ev) (cs : List UInt8) : Ev := cs.foldl zer1 e
def okC (e : Ev) (c : UInt8) : Bool := decide (c = 76) || okL c (fldE e c)
def zeroE (e : Ev) : Bool := decide (e.p = 0) && decide (e.i = 0) && decide (e.q = 0) && decide (e.j = 0) && decide (e.c = 0) && decide (e.num = 0)
def refOk (e : Ev) : Bool := (shS e.kind).all (okC e) && zeroE (zer e (shS e.kind)) && ((shS e.kind).any (· == 76) || e.list.isEmpty) && risF (-1) e.list
theorem b0 (a : Int) : (decide (0 ≤ a) && decide (a ≤ 0)) = decide (a = 0) := by
  by_cases h : a = 0
  · subst h; decide
  · rw [decide_eq_false h]
    by_cases h1 : 0 ≤ a
    · rw [decide_eq_true h1, decide_eq_false (by omega)]; rfl
    · rw [decide_eq_false h1]; rfl
set_option maxHeartbeats 2000000 in
theorem ref_eq {e : Ev} (h : 1 ≤ e.kind ∧ e.kind ≤ 11) : refOk e = evOk e := by
  obtain ⟨kind, p, i, q, j, c, num, list⟩ := e
  simp only [] at h
  have hnw2 : ((nwords 2).length : Int) = 5 := rfl
  have hnw3 : ((nwords 3).length : Int) = 6 := rfl
  rcases kind11 h with rfl | rfl | rfl | rfl | rfl | rfl | rfl | rfl | rfl | rfl | rfl
  all_goals
    rw [Bool.eq_iff_iff]
    cases list with
    | nil => simp [refOk, evOk, shS, shpL', tsh, tshT, okC, okL, fldE, zer, zer1, zeroE, plOk, plL, tlOk, hasB, Nat.testBit, risF, hnw2, hnw3] <;> omega
    | cons x r => simp [refOk, evOk, shS, shpL', tsh, tshT, okC, okL, fldE, zer, zer1, zeroE, plOk, plL, tlOk, hasB, Nat.testBit, risF, hnw2, hnw3] <;> first | omega | (generalize risF x r = R; constructor <;> intro h <;> simp_all <;> omega)
end Go.Proofs.YtecpknpcjoiliaaDoor
