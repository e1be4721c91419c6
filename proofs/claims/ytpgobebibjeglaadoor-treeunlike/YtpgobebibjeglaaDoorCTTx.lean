import Derived.Test.YtpgobebibjeglaaDoorCTH
import Derived.Test.YtpgobebibjeglaaDoorCTB
import Derived.Test.YtpgobebibjeglaaDoorCTNum
import Derived.Lib.ItoaNum
import Derived.Lib.Small
import Derived.Test.YtpgobebibjeglaaDoorCCovQ
namespace Go.Proofs.YtpgobebibjeglaaDoor
open Go.RowKit
set_option linter.unusedVariables false
set_option linter.unusedSimpArgs false

/-- THE TOKENS OF A NODE, by those of its kids -/
def nodeT (G : Nat → List (List UInt8)) (kd num : Int) (nm : List UInt8) (ks : List Nat) : List (List UInt8) :=
  if kd = 1 then [[105, 110, 116]]
  else if kd = 2 then [[98, 111, 111, 108]]
  else if kd = 3 then [nm]
  else if kd = 4 then [[97, 114, 114, 97, 121], [111, 102]] ++ rowT G ks
  else if kd = 5 then ([[40]] ++ innerT G ks ++ [[41]])
  else if kd = 6 then [[99, 104, 97, 110], [111, 102]] ++ rowT G ks
  else if kd = 7 then [[112, 114, 111, 103]] ++ ([[40]] ++ innerT G (ks.take (ks.length - num.toNat)) ++ [[41]]) ++ resT G (ks.drop (ks.length - num.toNat))
  else if kd = 11 then [Lib.itoa num]
  else if kd = 12 then [Lib.formatBool (num == 1)]
  else if kd = 13 then [nm]
  else if kd = 14 then ([[40]] ++ innerT G ks ++ [[41]])
  else if kd = 15 then ([[40]] ++ innerT G ks ++ [[41]])
  else if kd = 16 then ([[91]] ++ innerT G ks ++ [[93]])
  else if kd = 17 then [[102, 105, 108, 108]] ++ ([[40]] ++ innerT G ks ++ [[41]])
  else if kd = 18 then [[108, 101, 110]] ++ ([[40]] ++ innerT G ks ++ [[41]])
  else if kd = 19 then [[109, 97, 107, 101]] ++ rowT G ks
  else if kd = 20 then [[112, 114, 111, 103]] ++ (if nm = [] then [] else [nm]) ++ ([[40]] ++ innerT G (ks.take (ks.length - 1 - num.toNat)) ++ [[41]]) ++ resT G ((ks.take (ks.length - 1)).drop (ks.length - 1 - num.toNat)) ++ rowT G (ks.drop (ks.length - 1))
  else if kd = 21 then [opT num] ++ rowT G ks
  else if kd = 22 then rowT G (ks.take 1) ++ [opT num] ++ rowT G (ks.drop 1)
  else if kd = 23 then rowT G (ks.take 1) ++ ([[40]] ++ innerT G (ks.drop 1) ++ [[41]])
  else if kd = 24 then rowT G (ks.take 1) ++ ([[91]] ++ innerT G (ks.drop 1) ++ [[93]])
  else if kd = 25 then rowT G (ks.take 1) ++ [[46], Lib.itoa num]
  else if kd = 31 then [[118, 97, 108], nm, [61]] ++ rowT G ks ++ [[59]]
  else if kd = 32 then [[118, 97, 114], nm, [58]] ++ rowT G (ks.take 1) ++ (if ks.length ≤ 1 then [] else [[61]] ++ rowT G (ks.drop 1)) ++ [[59]]
  else if kd = 33 then rowT G (ks.take 1) ++ [[61]] ++ rowT G (ks.drop 1) ++ [[59]]
  else if kd = 34 then rowT G (ks.take 1) ++ [[60, 45, 61]] ++ rowT G (ks.drop 1) ++ [[59]]
  else if kd = 35 then rowT G ks ++ [[59]]
  else if kd = 36 then [[105, 102]] ++ rowT G (ks.take 2) ++ (if ks.length ≤ 2 then [] else [[101, 108, 115, 101]] ++ rowT G (ks.drop 2))
  else if kd = 37 then [[119, 104, 105, 108, 101]] ++ rowT G ks
  else if kd = 38 then [[114, 101, 116, 117, 114, 110]] ++ rowT G ks ++ [[59]]
  else if kd = 39 then [[98, 101, 103, 105, 110]] ++ rowT G ks ++ [[59]]
  else if kd = 40 then [[115, 101, 108, 101, 99, 116], [123]] ++ rowT G ks ++ [[125]]
  else if kd = 41 then [[123]] ++ rowT G ks ++ [[125]]
  else if kd = 42 then [nm, [58]] ++ rowT G ks
  else if kd = 43 then [[99, 97, 115, 101]] ++ (if nm = [] then [] else [nm, [61]]) ++ [[60, 45]] ++ rowT G ks
  else if kd = 44 then [[99, 97, 115, 101]] ++ rowT G (ks.take 1) ++ [[60, 45, 61]] ++ rowT G (ks.drop 1)
  else if kd = 45 then [[116, 121, 112, 101], nm, [61]] ++ rowT G ks ++ [[59]]
  else if kd = 46 then rowT G ks
  else []
theorem nodeT_1 (G : Nat → List (List UInt8)) (num : Int) (nm : List UInt8) (ks : List Nat) : nodeT G 1 num nm ks = [[105, 110, 116]] := rfl
theorem nodeT_2 (G : Nat → List (List UInt8)) (num : Int) (nm : List UInt8) (ks : List Nat) : nodeT G 2 num nm ks = [[98, 111, 111, 108]] := rfl
theorem nodeT_3 (G : Nat → List (List UInt8)) (num : Int) (nm : List UInt8) (ks : List Nat) : nodeT G 3 num nm ks = [nm] := rfl
theorem nodeT_4 (G : Nat → List (List UInt8)) (num : Int) (nm : List UInt8) (ks : List Nat) : nodeT G 4 num nm ks = [[97, 114, 114, 97, 121], [111, 102]] ++ rowT G ks := rfl
theorem nodeT_5 (G : Nat → List (List UInt8)) (num : Int) (nm : List UInt8) (ks : List Nat) : nodeT G 5 num nm ks = ([[40]] ++ innerT G ks ++ [[41]]) := rfl
theorem nodeT_6 (G : Nat → List (List UInt8)) (num : Int) (nm : List UInt8) (ks : List Nat) : nodeT G 6 num nm ks = [[99, 104, 97, 110], [111, 102]] ++ rowT G ks := rfl
theorem nodeT_7 (G : Nat → List (List UInt8)) (num : Int) (nm : List UInt8) (ks : List Nat) : nodeT G 7 num nm ks = [[112, 114, 111, 103]] ++ ([[40]] ++ innerT G (ks.take (ks.length - num.toNat)) ++ [[41]]) ++ resT G (ks.drop (ks.length - num.toNat)) := rfl
theorem nodeT_11 (G : Nat → List (List UInt8)) (num : Int) (nm : List UInt8) (ks : List Nat) : nodeT G 11 num nm ks = [Lib.itoa num] := rfl
theorem nodeT_12 (G : Nat → List (List UInt8)) (num : Int) (nm : List UInt8) (ks : List Nat) : nodeT G 12 num nm ks = [Lib.formatBool (num == 1)] := rfl
theorem nodeT_13 (G : Nat → List (List UInt8)) (num : Int) (nm : List UInt8) (ks : List Nat) : nodeT G 13 num nm ks = [nm] := rfl
theorem nodeT_14 (G : Nat → List (List UInt8)) (num : Int) (nm : List UInt8) (ks : List Nat) : nodeT G 14 num nm ks = ([[40]] ++ innerT G ks ++ [[41]]) := rfl
theorem nodeT_15 (G : Nat → List (List UInt8)) (num : Int) (nm : List UInt8) (ks : List Nat) : nodeT G 15 num nm ks = ([[40]] ++ innerT G ks ++ [[41]]) := rfl
theorem nodeT_16 (G : Nat → List (List UInt8)) (num : Int) (nm : List UInt8) (ks : List Nat) : nodeT G 16 num nm ks = ([[91]] ++ innerT G ks ++ [[93]]) := rfl
theorem nodeT_17 (G : Nat → List (List UInt8)) (num : Int) (nm : List UInt8) (ks : List Nat) : nodeT G 17 num nm ks = [[102, 105, 108, 108]] ++ ([[40]] ++ innerT G ks ++ [[41]]) := rfl
theorem nodeT_18 (G : Nat → List (List UInt8)) (num : Int) (nm : List UInt8) (ks : List Nat) : nodeT G 18 num nm ks = [[108, 101, 110]] ++ ([[40]] ++ innerT G ks ++ [[41]]) := rfl
theorem nodeT_19 (G : Nat → List (List UInt8)) (num : Int) (nm : List UInt8) (ks : List Nat) : nodeT G 19 num nm ks = [[109, 97, 107, 101]] ++ rowT G ks := rfl
theorem nodeT_20 (G : Nat → List (List UInt8)) (num : Int) (nm : List UInt8) (ks : List Nat) : nodeT G 20 num nm ks = [[112, 114, 111, 103]] ++ (if nm = [] then [] else [nm]) ++ ([[40]] ++ innerT G (ks.take (ks.length - 1 - num.toNat)) ++ [[41]]) ++ resT G ((ks.take (ks.length - 1)).drop (ks.length - 1 - num.toNat)) ++ rowT G (ks.drop (ks.length - 1)) := rfl
theorem nodeT_21 (G : Nat → List (List UInt8)) (num : Int) (nm : List UInt8) (ks : List Nat) : nodeT G 21 num nm ks = [opT num] ++ rowT G ks := rfl
theorem nodeT_22 (G : Nat → List (List UInt8)) (num : Int) (nm : List UInt8) (ks : List Nat) : nodeT G 22 num nm ks = rowT G (ks.take 1) ++ [opT num] ++ rowT G (ks.drop 1) := rfl
theorem nodeT_23 (G : Nat → List (List UInt8)) (num : Int) (nm : List UInt8) (ks : List Nat) : nodeT G 23 num nm ks = rowT G (ks.take 1) ++ ([[40]] ++ innerT G (ks.drop 1) ++ [[41]]) := rfl
theorem nodeT_24 (G : Nat → List (List UInt8)) (num : Int) (nm : List UInt8) (ks : List Nat) : nodeT G 24 num nm ks = rowT G (ks.take 1) ++ ([[91]] ++ innerT G (ks.drop 1) ++ [[93]]) := rfl
theorem nodeT_25 (G : Nat → List (List UInt8)) (num : Int) (nm : List UInt8) (ks : List Nat) : nodeT G 25 num nm ks = rowT G (ks.take 1) ++ [[46], Lib.itoa num] := rfl
theorem nodeT_31 (G : Nat → List (List UInt8)) (num : Int) (nm : List UInt8) (ks : List Nat) : nodeT G 31 num nm ks = [[118, 97, 108], nm, [61]] ++ rowT G ks ++ [[59]] := rfl
theorem nodeT_32 (G : Nat → List (List UInt8)) (num : Int) (nm : List UInt8) (ks : List Nat) : nodeT G 32 num nm ks = [[118, 97, 114], nm, [58]] ++ rowT G (ks.take 1) ++ (if ks.length ≤ 1 then [] else [[61]] ++ rowT G (ks.drop 1)) ++ [[59]] := rfl
theorem nodeT_33 (G : Nat → List (List UInt8)) (num : Int) (nm : List UInt8) (ks : List Nat) : nodeT G 33 num nm ks = rowT G (ks.take 1) ++ [[61]] ++ rowT G (ks.drop 1) ++ [[59]] := rfl
theorem nodeT_34 (G : Nat → List (List UInt8)) (num : Int) (nm : List UInt8) (ks : List Nat) : nodeT G 34 num nm ks = rowT G (ks.take 1) ++ [[60, 45, 61]] ++ rowT G (ks.drop 1) ++ [[59]] := rfl
theorem nodeT_35 (G : Nat → List (List UInt8)) (num : Int) (nm : List UInt8) (ks : List Nat) : nodeT G 35 num nm ks = rowT G ks ++ [[59]] := rfl
theorem nodeT_36 (G : Nat → List (List UInt8)) (num : Int) (nm : List UInt8) (ks : List Nat) : nodeT G 36 num nm ks = [[105, 102]] ++ rowT G (ks.take 2) ++ (if ks.length ≤ 2 then [] else [[101, 108, 115, 101]] ++ rowT G (ks.drop 2)) := rfl
theorem nodeT_37 (G : Nat → List (List UInt8)) (num : Int) (nm : List UInt8) (ks : List Nat) : nodeT G 37 num nm ks = [[119, 104, 105, 108, 101]] ++ rowT G ks := rfl
theorem nodeT_38 (G : Nat → List (List UInt8)) (num : Int) (nm : List UInt8) (ks : List Nat) : nodeT G 38 num nm ks = [[114, 101, 116, 117, 114, 110]] ++ rowT G ks ++ [[59]] := rfl
theorem nodeT_39 (G : Nat → List (List UInt8)) (num : Int) (nm : List UInt8) (ks : List Nat) : nodeT G 39 num nm ks = [[98, 101, 103, 105, 110]] ++ rowT G ks ++ [[59]] := rfl
theorem nodeT_40 (G : Nat → List (List UInt8)) (num : Int) (nm : List UInt8) (ks : List Nat) : nodeT G 40 num nm ks = [[115, 101, 108, 101, 99, 116], [123]] ++ rowT G ks ++ [[125]] := rfl
theorem nodeT_41 (G : Nat → List (List UInt8)) (num : Int) (nm : List UInt8) (ks : List Nat) : nodeT G 41 num nm ks = [[123]] ++ rowT G ks ++ [[125]] := rfl
theorem nodeT_42 (G : Nat → List (List UInt8)) (num : Int) (nm : List UInt8) (ks : List Nat) : nodeT G 42 num nm ks = [nm, [58]] ++ rowT G ks := rfl
theorem nodeT_43 (G : Nat → List (List UInt8)) (num : Int) (nm : List UInt8) (ks : List Nat) : nodeT G 43 num nm ks = [[99, 97, 115, 101]] ++ (if nm = [] then [] else [nm, [61]]) ++ [[60, 45]] ++ rowT G ks := rfl
theorem nodeT_44 (G : Nat → List (List UInt8)) (num : Int) (nm : List UInt8) (ks : List Nat) : nodeT G 44 num nm ks = [[99, 97, 115, 101]] ++ rowT G (ks.take 1) ++ [[60, 45, 61]] ++ rowT G (ks.drop 1) := rfl
theorem nodeT_45 (G : Nat → List (List UInt8)) (num : Int) (nm : List UInt8) (ks : List Nat) : nodeT G 45 num nm ks = [[116, 121, 112, 101], nm, [61]] ++ rowT G ks ++ [[59]] := rfl
theorem nodeT_46 (G : Nat → List (List UInt8)) (num : Int) (nm : List UInt8) (ks : List Nat) : nodeT G 46 num nm ks = rowT G ks := rfl

theorem rowT_congr {G G' : Nat → List (List UInt8)} : ∀ {ks : List Nat}, (∀ k ∈ ks, G k = G' k) → rowT G ks = rowT G' ks
  | [], _ => rfl
  | k :: r, h => by
    unfold rowT
    rw [List.flatMap_cons, List.flatMap_cons, h k List.mem_cons_self]
    have := rowT_congr (ks := r) (fun j hj => h j (List.mem_cons_of_mem _ hj))
    unfold rowT at this
    rw [this]
theorem tail_congr {G G' : Nat → List (List UInt8)} : ∀ {ks : List Nat}, (∀ k ∈ ks, G k = G' k) → (ks.flatMap fun j => [44] :: G j) = ks.flatMap fun j => [44] :: G' j
  | [], _ => rfl
  | k :: r, h => by
    rw [List.flatMap_cons, List.flatMap_cons, h k List.mem_cons_self, tail_congr (ks := r) (fun j hj => h j (List.mem_cons_of_mem _ hj))]
theorem innerT_congr {G G' : Nat → List (List UInt8)} {ks : List Nat} (h : ∀ k ∈ ks, G k = G' k) : innerT G ks = innerT G' ks := by
  match ks, h with
  | [], _ => rfl
  | k :: r, h =>
    show G k ++ _ = G' k ++ _
    rw [h k List.mem_cons_self, tail_congr (ks := r) (fun j hj => h j (List.mem_cons_of_mem _ hj))]
theorem resT_congr {G G' : Nat → List (List UInt8)} {ks : List Nat} (h : ∀ k ∈ ks, G k = G' k) : resT G ks = resT G' ks := by
  unfold resT
  rw [rowT_congr h]
theorem nodeT_congr {G G' : Nat → List (List UInt8)} {kd num : Int} {nm : List UInt8} {ks : List Nat} (h : ∀ k ∈ ks, G k = G' k) : nodeT G kd num nm ks = nodeT G' kd num nm ks := by
  have t : ∀ n, ∀ k ∈ ks.take n, G k = G' k := fun n k hk => h k (List.mem_of_mem_take hk)
  have d : ∀ n, ∀ k ∈ ks.drop n, G k = G' k := fun n k hk => h k (List.mem_of_mem_drop hk)
  have td : ∀ n m, ∀ k ∈ (ks.take n).drop m, G k = G' k := fun n m k hk => h k (List.mem_of_mem_take (List.mem_of_mem_drop hk))
  have r0 := rowT_congr h
  have r1 := fun n => rowT_congr (t n)
  have r2 := fun n => rowT_congr (d n)
  have i0 := innerT_congr h
  have i1 := fun n => innerT_congr (t n)
  have i2 := fun n => innerT_congr (d n)
  have q2 := fun n => resT_congr (d n)
  have q3 := fun n m => resT_congr (td n m)
  unfold nodeT
  simp only [r0, r1, r2, i0, i1, i2, q2, q3]

/-- the kids as numbers -/
def kidsN (l : List Nd) (j : Nat) : List Nat := (ndN l j).kids.map Int.toNat
def textF (l : List Nd) : Nat → Nat → List (List UInt8)
  | 0, _ => []
  | f + 1, j => nodeT (textF l f) (ndN l j).kind (ndN l j).num (ndN l j).name.data.toList (kidsN l j)
/-- the tokens of the node j's text -/
def textG (l : List Nd) (j : Nat) : List (List UInt8) := textF l (j + 1) j
theorem textF_fuel {l : List Nd} {n : Nat} (hk : ∀ j, j < n → ∀ k ∈ kidsN l j, k < j) : ∀ (f f' j : Nat), j < n → j < f → j < f' → textF l f j = textF l f' j
  | 0, _, j, _, h, _ => by omega
  | f + 1, 0, j, _, _, h => by omega
  | f + 1, f' + 1, j, hn, h1, h2 => by
    rw [textF, textF]
    apply nodeT_congr
    intro k hm
    have := hk j hn k hm
    exact textF_fuel hk f f' k (by omega) (by omega) (by omega)
theorem textG_eq {l : List Nd} {n : Nat} (hk : ∀ j, j < n → ∀ k ∈ kidsN l j, k < j) {j : Nat} (hj : j < n) :
    textG l j = nodeT (textG l) (ndN l j).kind (ndN l j).num (ndN l j).name.data.toList (kidsN l j) := by
  unfold textG
  rw [textF]
  apply nodeT_congr
  intro k hm
  have := hk j hj k hm
  exact textF_fuel hk j (k + 1) k (by omega) (by omega) (by omega)

/-! ### how much is laid down -/
def costS (G : Nat → List (List UInt8)) (ks : List Nat) : Nat := (ks.map fun k => cost (G k) + 2).sum
theorem costS_append (G : Nat → List (List UInt8)) (a b : List Nat) : costS G (a ++ b) = costS G a + costS G b := by simp [costS]
theorem costS_reverse (G : Nat → List (List UInt8)) : ∀ a : List Nat, costS G a.reverse = costS G a
  | [] => rfl
  | k :: r => by
    rw [List.reverse_cons, costS_append, costS_reverse G r]
    simp [costS]
    omega
theorem costS_split (G : Nat → List (List UInt8)) (a : List Nat) (n : Nat) : costS G (a.take n) + costS G (a.drop n) = costS G a := by
  rw [← costS_append, List.take_append_drop]
theorem row_le (G : Nat → List (List UInt8)) : ∀ ks : List Nat, cost (rowT G ks) ≤ costS G ks
  | [] => by simp [rowT]
  | k :: r => by
    have := row_le G r
    unfold rowT at this ⊢
    rw [List.flatMap_cons, cost_append]
    simp only [costS, List.map_cons, List.sum_cons] at this ⊢
    omega
theorem tail_le (G : Nat → List (List UInt8)) : ∀ ks : List Nat, cost (ks.flatMap fun j => [44] :: G j) ≤ costS G ks
  | [] => by simp
  | k :: r => by
    have := tail_le G r
    rw [List.flatMap_cons, cost_append, cost_cons]
    simp only [costS, List.map_cons, List.sum_cons, List.length_cons, List.length_nil] at this ⊢
    omega
theorem inner_le (G : Nat → List (List UInt8)) : ∀ ks : List Nat, cost (innerT G ks) ≤ costS G ks
  | [] => by simp [innerT]
  | k :: r => by
    have := tail_le G r
    show cost (G k ++ _) ≤ _
    rw [cost_append]
    simp only [costS, List.map_cons, List.sum_cons] at this ⊢
    omega
theorem res_le (G : Nat → List (List UInt8)) (ks : List Nat) : cost (resT G ks) ≤ costS G ks + 2 := by
  have := row_le G ks
  unfold resT
  split
  · simp
  · rw [cost_append, cost_cons]
    simp only [List.length_cons, List.length_nil, cost_nil]
    omega
theorem ite_len {p : Prop} [Decidable p] {a b : List UInt8} {n : Nat} (h1 : a.length ≤ n) (h2 : b.length ≤ n) : (if p then a else b).length ≤ n := by split <;> assumption
theorem opT_len (n : Int) : (opT n).length ≤ 2 := by
  unfold opT
  repeat (refine ite_len (by simp) ?_)
  simp
theorem bool_len (b : Bool) : (Lib.formatBool b).length ≤ 5 := by cases b <;> decide +kernel
theorem opt_len (nm : List UInt8) : cost (if nm = [] then [] else [nm]) ≤ nm.length + 1 := by
  split <;> simp
theorem opt_len2 (nm : List UInt8) : cost (if nm = [] then [] else [nm, [61]]) ≤ nm.length + 3 := by
  split <;> simp
theorem ite_le {p : Prop} [Decidable p] {a b : List (List UInt8)} {n : Nat} (h1 : cost a ≤ n) (h2 : cost b ≤ n) : cost (if p then a else b) ≤ n := by split <;> assumption
set_option maxHeartbeats 1000000 in
theorem cost_node (G : Nat → List (List UInt8)) (kd num : Int) (nm : List UInt8) (ks : List Nat) (h1 : nm.length ≤ 32) (h2 : (Lib.itoa num).length ≤ 20) : cost (nodeT G kd num nm ks) ≤ 46 + costS G ks := by
  have r := row_le G
  have i := inner_le G
  have s := costS_split G ks
  have q := res_le G
  have o := opT_len num
  have b := bool_len (num == 1)
  have n1 := opt_len nm
  have n2 := opt_len2 nm
  have r0 := r ks
  have i0 := i ks
  have r1 := r (ks.take 1)
  have r2 := r (ks.drop 1)
  have i2 := i (ks.drop 1)
  have s1 := s 1
  have r3 := r (ks.take 2)
  have r4 := r (ks.drop 2)
  have s2 := s 2
  have i5 := i (ks.take (ks.length - num.toNat))
  have q5 := q (ks.drop (ks.length - num.toNat))
  have s5 := s (ks.length - num.toNat)
  have i6 := i (ks.take (ks.length - 1 - num.toNat))
  have q6 := q ((ks.take (ks.length - 1)).drop (ks.length - 1 - num.toNat))
  have r6 := r (ks.drop (ks.length - 1))
  have s6 := costS_split G (ks.take (ks.length - 1)) (ks.length - 1 - num.toNat)
  rw [List.take_take, Nat.min_eq_left (by omega)] at s6
  have s7 := s (ks.length - 1)
  have z1 : cost (if ks.length ≤ 1 then [] else [[61]] ++ rowT G (ks.drop 1)) ≤ 2 + cost (rowT G (ks.drop 1)) := by split <;> simp
  have z2 : cost (if ks.length ≤ 2 then [] else [[101, 108, 115, 101]] ++ rowT G (ks.drop 2)) ≤ 5 + cost (rowT G (ks.drop 2)) := by split <;> simp
  unfold nodeT
  iterate 38 (refine ite_le ?_ ?_; (try simp only [cost_append, cost_cons, cost_nil, List.length_cons, List.length_nil]); omega)
  simp

theorem digits_len {u : Nat} : ∀ k : Nat, u < 10 ^ (k + 1) → Lib.nDigits u ≤ k + 1
  | 0, h => by rw [Lib.nDigits_small (by simpa using h)]; omega
  | k + 1, h => by
    by_cases h10 : u < 10
    · rw [Lib.nDigits_small h10]; omega
    · rw [Lib.nDigits_big h10]
      have := digits_len (u := u / 10) k (by rw [Nat.pow_succ] at h; omega)
      omega
theorem itoa_len {n : Int} (h : I64 n) : (Lib.itoa n).length ≤ 20 := by
  obtain ⟨h1, h2⟩ := h
  unfold Lib.itoa
  split
  · rw [List.length_cons, Lib.decDigits_length]
    have := digits_len (u := n.natAbs) 18 (by have : n.natAbs ≤ 9223372036854775808 := by omega
                                              exact Nat.lt_of_le_of_lt this (by decide +kernel))
    omega
  · rw [Lib.decDigits_length]
    have := digits_len (u := n.toNat) 18 (by have : n.toNat ≤ 9223372036854775808 := by omega
                                             exact Nat.lt_of_le_of_lt this (by decide +kernel))
    omega
/-- the kids that the order wants cost no more than what stands between -/
theorem sum_order {G : Nat → List (List UInt8)} {fs : List Nat} (hle : ∀ j, j < fs.length → fs.getD j 0 ≤ j) (hc : ∀ i, i < fs.length → cost (G i) + 2 ≤ 64 * (i + 1 - fs.getD i 0)) :
    ∀ (ks : List Int) (nx : Nat), nx ≤ fs.length → orderGo fs nx ks = true → costS G (ks.map Int.toNat) + 64 * endOf fs nx ks ≤ 64 * nx
  | [], nx, _, _ => by simp [costS, endOf]
  | x :: r, nx, hnx, h => by
    rw [orderGo] at h
    split at h
    · rename_i hx
      obtain ⟨y, rfl⟩ : ∃ y : Nat, x = (y : Int) := ⟨x.toNat, by omega⟩
      have hy : y < fs.length := by omega
      rw [Int.toNat_natCast] at h
      have h1 := hle y hy
      have h2 := hc y hy
      have ih := sum_order hle hc r (fs.getD y 0) (by omega) h
      simp only [costS, endOf, List.map_cons, List.sum_cons, Int.toNat_natCast] at ih ⊢
      omega
    · cases h
theorem cost_go {l : List Nd} (hn : ∀ j, j < l.length → (ndN l j).name.data.toList.length ≤ 32 ∧ I64 (ndN l j).num) (hk : ∀ j, j < l.length → ∀ k ∈ kidsN l j, k < j) : ∀ (m : Nat) (fs : List Nat), fs.length + m = l.length → (∀ i, i < fs.length → fs.getD i 0 ≤ i) →
    (∀ i, i < fs.length → cost (textG l i) + 2 ≤ 64 * (i + 1 - fs.getD i 0)) → (checkGo l m fs).2 = 0 → ∀ i, i < l.length → cost (textG l i) ≤ 64 * (i + 1)
  | 0, fs, hm, hle, hc, _, i, hi => by
    have := hc i (by omega)
    omega
  | m + 1, fs, hm, hle, hc, h, i, hi => by
    rw [checkGo] at h
    split at h
    · rename_i hz
      obtain ⟨_, _, _, _, ho, _, _⟩ := node_zero hz
      have hfl := first_le hle ho
      refine cost_go hn hk m _ (by simp; omega) (first_ok hle hz) (fun j hj => ?_) h i hi
      simp only [List.length_append, List.length_cons, List.length_nil] at hj
      by_cases hj2 : j < fs.length
      · have := hc j hj2
        simp only [List.getD_eq_getElem?_getD] at this ⊢
        rw [List.getElem?_append_left hj2]
        exact this
      · have : j = fs.length := by omega
        subst this
        have e : (fs ++ [firstOf fs (ndN l fs.length) fs.length]).getD fs.length 0 = firstOf fs (ndN l fs.length) fs.length := by simp [List.getD_eq_getElem?_getD]
        rw [e, firstOf_end]
        have hs := sum_order (G := textG l) hle hc (ndN l fs.length).kids.reverse fs.length (Nat.le_refl _) ho
        rw [List.map_reverse, costS_reverse] at hs
        rw [firstOf_end] at hfl
        obtain ⟨n1, n2⟩ := hn fs.length (by omega)
        rw [textG_eq hk (by omega)]
        have := cost_node (textG l) (ndN l fs.length).kind (ndN l fs.length).num (ndN l fs.length).name.data.toList (kidsN l fs.length) n1 (itoa_len n2)
        unfold kidsN at this ⊢
        omega
    · rename_i hz
      exact absurd h hz
theorem cost_all {l : List Nd} (hn : ∀ j, j < l.length → (ndN l j).name.data.toList.length ≤ 32 ∧ I64 (ndN l j).num) (h : (checkAll l).2 = 0) (i : Nat) (hi : i < l.length) : cost (textG l i) ≤ 64 * (i + 1) :=
  cost_go hn (fun j hj => (ok_all h |>.1 j hj).low) l.length [] (by simp) (fun i hi => by cases hi) (fun i hi => by cases hi) h i hi
end Go.Proofs.YtpgobebibjeglaaDoor
namespace Go.Proofs.YtpgobebibjeglaaDoor
open Go.RowKit
set_option linter.unusedVariables false
set_option linter.unusedSimpArgs false

theorem ends32 : Ends 32 := ⟨rfl, rfl, rfl, by decide⟩

/-- a text that is one token, from its first byte to its last, and has no blank -/
structure OneTok (t : List UInt8) : Prop where
  pos : 0 < t.length
  skip : ∀ z, skipL false (t ++ z) = 0
  next : nextR t 0 = (⟨(nextR t 0).1.kind, 0, t.length, (nextR t 0).1.num⟩, 0)
  blank : 32 ∉ t
def oneB : List UInt8 → Bool
  | [] => false
  | c :: r => !blankI c.toNat && !((c.toNat : Int) == 35) && (nextR (c :: r) 0).2 == 0 && (nextR (c :: r) 0).1.place == 0 && (nextR (c :: r) 0).1.len == (c :: r).length && !(c :: r).contains 32
theorem one_of {t : List UInt8} (h : oneB t = true) : OneTok t := by
  match t, h with
  | c :: r, h =>
    simp only [oneB, Bool.and_eq_true, Bool.not_eq_true', beq_iff_eq] at h
    obtain ⟨⟨⟨⟨⟨h1, h2⟩, h3⟩, h4⟩, h5⟩, h6⟩ := h
    refine ⟨by simp, fun z => ?_, ?_, ?_⟩
    · simp only [List.cons_append, skipL]
      rw [if_neg (by rw [h1]; simp), if_neg (by rw [h2]; simp)]
    · generalize nextR (c :: r) 0 = x at *
      obtain ⟨⟨k, p, n, m⟩, e⟩ := x
      simp only at h3 h4 h5 ⊢
      rw [h3, h4, h5]
    · intro hm
      rw [← List.contains_iff_mem] at hm
      rw [hm] at h6
      cases h6

/-! ### names -/
theorem kindFrom_ge : ∀ (T : List (List UInt8)) (n : Nat) (t : List UInt8), kindFrom T n t ≠ 0 → n ≤ kindFrom T n t
  | [], n, t, h => absurd rfl h
  | x :: r, n, t, h => by
    simp only [kindFrom] at h ⊢
    split
    · omega
    · rename_i hx
      rw [if_neg hx] at h
      have := kindFrom_ge r (n + 1) t h
      omega
theorem wordK_ge (t : List UInt8) (h : wordK t ≠ 0) : 10 ≤ wordK t := kindFrom_ge _ _ _ h
theorem best_ge (l : List UInt8) (h : ¬ (bestS l).2 = 0) : 40 ≤ (bestS l).1 := by
  rcases (bestFrom_spec l signsT 40 (0, 0)).2.2 with h3 | ⟨i, a1, a2, a3, a4⟩
  · have : bestS l = (0, 0) := h3
    rw [this] at h
    simp at h
  · have e : (bestS l).1 = 40 + i := a2
    omega
theorem nameOk_next {xs : List UInt8} (h : nameOk xs = true) : nextR xs 0 = (⟨1, 0, xs.length, 0⟩, 0) ∧ xs.length ≤ 32 ∧ spanTo wbI xs 0 = xs.length ∧ 0 < xs.length ∧ wsI ((xs.getD 0 0).toNat : Int) = true ∧ wordK xs = 0 := by
  unfold nameOk at h
  have hc : (scanAll xs).2.2 = 0 := by
    by_cases e : (scanAll xs).2.2 = 0
    · exact e
    · rw [(scan_fault xs e).1] at h
      simp [nameToks] at h
  have hcov := (scan_covers xs hc).1
  match ht : (scanAll xs).1, h with
  | [t], h =>
    rw [ht] at hcov
    simp only [nameToks, Bool.and_eq_true, beq_iff_eq] at h
    obtain ⟨q1, q2, q3, _⟩ := hcov
    have hlen := nextR_len xs t.place q2 (by rw [q3])
    rw [q3] at hlen
    simp only at hlen
    have hp : t.place = 0 := by omega
    have hl : t.len = xs.length := by omega
    have hk : t.kind = 1 := by omega
    rw [hp] at q3
    have q4 := q3
    unfold nextR at q3
    split at q3
    · rename_i hw
      unfold wordR at q3
      split at q3
      · rename_i n1
        have e := (Prod.mk.inj q3).1
        have := wordK_ge _ n1
        rw [← e] at hk
        simp only at hk
        omega
      · rename_i n1
        split at q3
        · simp at q3
        · rename_i n2
          have e := (Prod.mk.inj q3).1
          rw [← e] at hl
          simp only [Nat.sub_zero] at hl
          rw [Nat.sub_zero] at n2
          refine ⟨?_, by omega, hl, by omega, hw, ?_⟩
          · rw [q4, ← e]
            simp [hl]
          · have n1' := Classical.not_not.1 n1
            rw [List.drop_zero, Nat.sub_zero, hl, List.take_length] at n1'
            exact n1'
    · split at q3
      · unfold numR at q3
        repeat' split at q3
        all_goals first
          | (simp at q3; done)
          | (have e := (Prod.mk.inj q3).1
             rw [← e] at hk
             simp at hk)
      · unfold signR at q3
        split at q3
        · simp at q3
        · rename_i n1
          have e := (Prod.mk.inj q3).1
          have := best_ge _ n1
          rw [← e] at hk
          simp only at hk
          omega
  | [], h => simp [nameToks] at h
  | _ :: _ :: _, h => simp [nameToks] at h
theorem span_all {p : Int → Bool} : ∀ {l : List UInt8}, spanL p l = l.length → ∀ c ∈ l, p c.toNat = true
  | [], _, c, hc => by cases hc
  | b :: r, h, c, hc => by
    simp only [spanL] at h
    split at h
    · rename_i hb
      rcases List.mem_cons.1 hc with rfl | hc
      · exact hb
      · exact span_all (by simpa using h) c hc
    · simp at h
theorem nameOk_one {xs : List UInt8} (h : nameOk xs = true) : OneTok xs := by
  obtain ⟨h1, h2, h3, h4, h5, _⟩ := nameOk_next h
  unfold spanTo at h3
  rw [List.drop_zero, Nat.zero_add] at h3
  refine ⟨h4, fun z => ?_, by rw [h1], fun hm => ?_⟩
  · match xs, h4, h5 with
    | c :: r, _, h5 =>
      have h5 : wsI (c.toNat : Int) = true := h5
      simp only [List.cons_append, skipL]
      have hb : blankI (c.toNat : Int) = false := by
        unfold wsI at h5
        unfold blankI
        simp only [Bool.or_eq_true, Bool.and_eq_true, decide_eq_true_eq, beq_iff_eq] at h5
        simp only [Bool.or_eq_false_iff, beq_eq_false_iff_ne]
        omega
      have hr : ((c.toNat : Int) == 35) = false := by
        unfold wsI at h5
        simp only [Bool.or_eq_true, Bool.and_eq_true, decide_eq_true_eq, beq_iff_eq] at h5
        rw [beq_eq_false_iff_ne]
        omega
      rw [if_neg (by rw [hb]; simp), if_neg (by rw [hr]; simp)]
  · have := span_all h3 32 hm
    exact absurd this (by decide)

/-! ### numbers -/
theorem numFrom_snoc (c : UInt8) : ∀ (l : List UInt8) (acc : Nat), numFrom acc (l ++ [c]) = numFrom acc l * 10 + (c.toNat - 48)
  | [], acc => rfl
  | b :: r, acc => by
    show numFrom (acc * 10 + (b.toNat - 48)) (r ++ [c]) = numFrom (acc * 10 + (b.toNat - 48)) r * 10 + (c.toNat - 48)
    exact numFrom_snoc c r _
theorem digit_byte {u : Nat} (h : u < 10) : (UInt8.ofNat (48 + u)).toNat = 48 + u := by
  rw [UInt8.toNat_ofNat']
  omega
theorem dec_big {u : Nat} (h : ¬ u < 10) : Lib.decDigits u = Lib.decDigits (u / 10) ++ [UInt8.ofNat (48 + u % 10)] := by
  conv => lhs; rw [Lib.decDigits, dif_neg h]
theorem dec_val (u : Nat) : numVal (Lib.decDigits u) = u := by
  induction u using Nat.strongRecOn with
  | _ u ih =>
    by_cases h : u < 10
    · rw [Lib.decDigits_one h]
      show 0 * 10 + ((UInt8.ofNat (48 + u)).toNat - 48) = u
      rw [digit_byte h]
      omega
    · rw [dec_big h]
      have := ih (u / 10) (by omega)
      unfold numVal at this ⊢
      rw [numFrom_snoc, this, digit_byte (by omega)]
      omega
theorem dig_digit {u : Nat} (h : u < 10) : digI ((UInt8.ofNat (48 + u)).toNat : Int) = true := by
  rw [digit_byte h]
  unfold digI
  simp only [Bool.and_eq_true, decide_eq_true_eq]
  omega
theorem dec_dig (u : Nat) : ∀ c ∈ Lib.decDigits u, digI c.toNat = true := by
  induction u using Nat.strongRecOn with
  | _ u ih =>
    intro c hc
    by_cases h : u < 10
    · rw [Lib.decDigits_one h, List.mem_singleton] at hc
      subst hc
      exact dig_digit h
    · rw [dec_big h] at hc
      rcases List.mem_append.1 hc with hc | hc
      · exact ih (u / 10) (by omega) c hc
      · rw [List.mem_singleton] at hc
        subst hc
        exact dig_digit (by omega)
theorem dec_head (u : Nat) (h0 : 0 < u) : ∃ c r, Lib.decDigits u = c :: r ∧ c.toNat ≠ 48 := by
  induction u using Nat.strongRecOn with
  | _ u ih =>
    by_cases h : u < 10
    · rw [Lib.decDigits_one h]
      exact ⟨_, _, rfl, by rw [digit_byte h]; omega⟩
    · rw [dec_big h]
      obtain ⟨c, r, e, hc⟩ := ih (u / 10) (by omega) (by omega)
      exact ⟨c, r ++ [UInt8.ofNat (48 + u % 10)], by rw [e]; rfl, hc⟩
theorem span_full {p : Int → Bool} : ∀ {l : List UInt8}, (∀ c ∈ l, p c.toNat = true) → spanL p l = l.length
  | [], _ => rfl
  | b :: r, h => by
    simp only [spanL, h b List.mem_cons_self, if_true, List.length_cons]
    rw [span_full (fun c hc => h c (List.mem_cons_of_mem _ hc))]
theorem dec_next {u : Nat} (hu : u < 9223372036854775808) : nextR (Lib.decDigits u) 0 = (⟨2, 0, (Lib.decDigits u).length, u⟩, 0) := by
  have hl : 0 < (Lib.decDigits u).length := by
    rw [Lib.decDigits_length]
    exact Lib.nDigits_pos u
  have hd := dec_dig u
  have hv := dec_val u
  have hh : ¬ (((Lib.decDigits u).getD 0 0).toNat : Int) = 48 ∨ (Lib.decDigits u).length = 1 := by
    by_cases h0 : 0 < u
    · obtain ⟨c, r, e, hc⟩ := dec_head u h0
      left
      rw [e]
      simp only [List.getD_cons_zero]
      omega
    · right
      rw [Lib.decDigits_one (by omega)]
      rfl
  generalize Lib.decDigits u = t at *
  have hs : spanTo digI t 0 = t.length := by
    unfold spanTo
    rw [List.drop_zero, span_full hd, Nat.zero_add]
  match t, hl with
  | c :: r, hl =>
    have hc := hd c List.mem_cons_self
    have hw : ¬ wsI (((c :: r).getD 0 0).toNat : Int) = true := by
      unfold digI at hc
      unfold wsI
      simp only [Bool.and_eq_true, decide_eq_true_eq] at hc
      simp only [List.getD_cons_zero, Bool.or_eq_true, Bool.and_eq_true, decide_eq_true_eq, beq_iff_eq]
      omega
    have hdc : digI (((c :: r).getD 0 0).toNat : Int) = true := hc
    unfold nextR
    rw [if_neg hw, if_pos hdc]
    unfold numR
    rw [hs, if_neg (fun h => absurd h.1 (by omega)), if_neg (fun h => by
      rcases hh with hh | hh
      · exact hh h.1
      · omega)]
    have hcut : cut (c :: r) 0 (c :: r).length = c :: r := by
      unfold cut
      rw [List.drop_zero, Nat.sub_zero, List.take_length]
    rw [hcut, hv, if_pos hu, Nat.sub_zero]
theorem itoa_next {n : Int} (h0 : 0 ≤ n) (h : I64 n) : nextR (Lib.itoa n) 0 = (⟨2, 0, (Lib.itoa n).length, n.toNat⟩, 0) := by
  obtain ⟨h1, h2⟩ := h
  unfold Lib.itoa
  rw [if_neg (by omega)]
  exact dec_next (by omega)
theorem itoa_one {n : Int} (h0 : 0 ≤ n) (h : I64 n) : OneTok (Lib.itoa n) := by
  have hn := itoa_next h0 h
  unfold Lib.itoa at *
  rw [if_neg (by omega)] at *
  have hl : 0 < (Lib.decDigits n.toNat).length := by
    rw [Lib.decDigits_length]
    exact Lib.nDigits_pos _
  have hd := dec_dig n.toNat
  refine ⟨hl, fun z => ?_, by rw [hn], fun hm => absurd (hd 32 hm) (by decide)⟩
  generalize Lib.decDigits n.toNat = t at *
  match t, hl with
  | c :: r, _ =>
    have hc := hd c List.mem_cons_self
    unfold digI at hc
    simp only [Bool.and_eq_true, decide_eq_true_eq] at hc
    simp only [List.cons_append, skipL]
    have hb : blankI (c.toNat : Int) = false := by
      unfold blankI
      simp only [Bool.or_eq_false_iff, beq_eq_false_iff_ne]
      omega
    have hr : ((c.toNat : Int) == 35) = false := by
      rw [beq_eq_false_iff_ne]
      omega
    rw [if_neg (by rw [hb]; simp), if_neg (by rw [hr]; simp)]
end Go.Proofs.YtpgobebibjeglaaDoor
namespace Go.Proofs.YtpgobebibjeglaaDoor
open Go.RowKit
set_option linter.unusedVariables false
set_option linter.unusedSimpArgs false

theorem one_101_108_115_101 : OneTok [101, 108, 115, 101] := one_of (by kernel_rfl)
theorem one_102_105_108_108 : OneTok [102, 105, 108, 108] := one_of (by kernel_rfl)
theorem one_105_102 : OneTok [105, 102] := one_of (by kernel_rfl)
theorem one_105_110_116 : OneTok [105, 110, 116] := one_of (by kernel_rfl)
theorem one_108_101_110 : OneTok [108, 101, 110] := one_of (by kernel_rfl)
theorem one_109_97_107_101 : OneTok [109, 97, 107, 101] := one_of (by kernel_rfl)
theorem one_111_102 : OneTok [111, 102] := one_of (by kernel_rfl)
theorem one_112_114_111_103 : OneTok [112, 114, 111, 103] := one_of (by kernel_rfl)
theorem one_114_101_116_117_114_110 : OneTok [114, 101, 116, 117, 114, 110] := one_of (by kernel_rfl)
theorem one_115_101_108_101_99_116 : OneTok [115, 101, 108, 101, 99, 116] := one_of (by kernel_rfl)
theorem one_116_121_112_101 : OneTok [116, 121, 112, 101] := one_of (by kernel_rfl)
theorem one_118_97_108 : OneTok [118, 97, 108] := one_of (by kernel_rfl)
theorem one_118_97_114 : OneTok [118, 97, 114] := one_of (by kernel_rfl)
theorem one_119_104_105_108_101 : OneTok [119, 104, 105, 108, 101] := one_of (by kernel_rfl)
theorem one_123 : OneTok [123] := one_of (by kernel_rfl)
theorem one_125 : OneTok [125] := one_of (by kernel_rfl)
theorem one_40 : OneTok [40] := one_of (by kernel_rfl)
theorem one_41 : OneTok [41] := one_of (by kernel_rfl)
theorem one_44 : OneTok [44] := one_of (by kernel_rfl)
theorem one_46 : OneTok [46] := one_of (by kernel_rfl)
theorem one_58 : OneTok [58] := one_of (by kernel_rfl)
theorem one_59 : OneTok [59] := one_of (by kernel_rfl)
theorem one_60_45 : OneTok [60, 45] := one_of (by kernel_rfl)
theorem one_60_45_61 : OneTok [60, 45, 61] := one_of (by kernel_rfl)
theorem one_61 : OneTok [61] := one_of (by kernel_rfl)
theorem one_91 : OneTok [91] := one_of (by kernel_rfl)
theorem one_93 : OneTok [93] := one_of (by kernel_rfl)
theorem one_97_114_114_97_121 : OneTok [97, 114, 114, 97, 121] := one_of (by kernel_rfl)
theorem one_98_101_103_105_110 : OneTok [98, 101, 103, 105, 110] := one_of (by kernel_rfl)
theorem one_98_111_111_108 : OneTok [98, 111, 111, 108] := one_of (by kernel_rfl)
theorem one_99_104_97_110 : OneTok [99, 104, 97, 110] := one_of (by kernel_rfl)
theorem one_99_97_115_101 : OneTok [99, 97, 115, 101] := one_of (by kernel_rfl)
theorem ite_one {p : Prop} [Decidable p] {a b : List UInt8} (h1 : OneTok a) (h2 : OneTok b) : OneTok (if p then a else b) := by split <;> assumption
theorem one_op (n : Int) : OneTok (opT n) := by
  unfold opT
  repeat (refine ite_one (one_of (by kernel_rfl)) ?_)
  exact one_of (by kernel_rfl)
theorem one_bool (b : Bool) : OneTok (Lib.formatBool b) := by
  cases b
  · exact one_of (by kernel_rfl)
  · exact one_of (by kernel_rfl)
def AllT (ts : List (List UInt8)) : Prop := ∀ t ∈ ts, OneTok t
theorem all_nil : AllT [] := fun t h => by cases h
theorem all_cons {t : List UInt8} {r : List (List UInt8)} : AllT (t :: r) ↔ OneTok t ∧ AllT r := by simp [AllT]
theorem all_append {a b : List (List UInt8)} : AllT (a ++ b) ↔ AllT a ∧ AllT b := by
  unfold AllT
  constructor
  · intro h; exact ⟨fun t ht => h t (List.mem_append_left _ ht), fun t ht => h t (List.mem_append_right _ ht)⟩
  · rintro ⟨h1, h2⟩ t ht
    rcases List.mem_append.1 ht with ht | ht
    · exact h1 t ht
    · exact h2 t ht
theorem all_row {G : Nat → List (List UInt8)} {ks : List Nat} (h : ∀ k ∈ ks, AllT (G k)) : AllT (rowT G ks) := by
  intro t ht
  unfold rowT at ht
  obtain ⟨k, hk, ht⟩ := List.mem_flatMap.1 ht
  exact h k hk t ht
theorem all_inner {G : Nat → List (List UInt8)} {ks : List Nat} (h : ∀ k ∈ ks, AllT (G k)) : AllT (innerT G ks) := by
  match ks, h with
  | [], _ => exact all_nil
  | k :: r, h =>
    show AllT (G k ++ _)
    refine all_append.2 ⟨h k List.mem_cons_self, fun t ht => ?_⟩
    obtain ⟨j, hj, ht⟩ := List.mem_flatMap.1 ht
    rcases List.mem_cons.1 ht with rfl | ht
    · exact one_44
    · exact h j (List.mem_cons_of_mem _ hj) t ht
theorem all_res {G : Nat → List (List UInt8)} {ks : List Nat} (h : ∀ k ∈ ks, AllT (G k)) : AllT (resT G ks) := by
  unfold resT
  split
  · exact all_nil
  · exact all_append.2 ⟨all_cons.2 ⟨one_58, all_nil⟩, all_row h⟩
theorem all_ite {p : Prop} [Decidable p] {a b : List (List UInt8)} (h1 : p → AllT a) (h2 : ¬ p → AllT b) : AllT (if p then a else b) := by
  split
  · exact h1 ‹_›
  · exact h2 ‹_›
theorem all_iff {ts : List (List UInt8)} (h : AllT ts) : AllT ts = True := by simp [h]
set_option maxHeartbeats 1000000 in
theorem node_toks (G : Nat → List (List UInt8)) (kd num : Int) (nm : ByteArray) (ks : List Nat) (h : ∀ k ∈ ks, AllT (G k)) (hkind : kindI kd = true) (hnum : numFitsI kd num ks.length = true) (hname : nameFitsI kd nm = true) (hi : I64 num) : AllT (nodeT G kd num nm.data.toList ks) := by
  have t : ∀ n, ∀ k ∈ ks.take n, AllT (G k) := fun n k hk => h k (List.mem_of_mem_take hk)
  have d : ∀ n, ∀ k ∈ ks.drop n, AllT (G k) := fun n k hk => h k (List.mem_of_mem_drop hk)
  have td : ∀ n m, ∀ k ∈ (ks.take n).drop m, AllT (G k) := fun n m k hk => h k (List.mem_of_mem_take (List.mem_of_mem_drop hk))
  have r0 := all_row h
  have r1 := fun n => all_row (t n)
  have r2 := fun n => all_row (d n)
  have i0 := all_inner h
  have i1 := fun n => all_inner (t n)
  have i2 := fun n => all_inner (d n)
  have q2 := fun n => all_res (d n)
  have q3 := fun n m => all_res (td n m)
  have y1 := one_op num
  have y2 := one_bool (num == 1)
  rcases kind_cases _ hkind with rfl | rfl | rfl | rfl | rfl | rfl | rfl | rfl | rfl | rfl | rfl | rfl | rfl | rfl | rfl | rfl | rfl | rfl | rfl | rfl | rfl | rfl | rfl | rfl | rfl | rfl | rfl | rfl | rfl | rfl | rfl | rfl | rfl | rfl | rfl | rfl | rfl | rfl
  · rw [nodeT_1]; simp only [all_append, all_cons, all_nil, r0, r1, r2, i0, i1, i2, q2, q3, y1, y2, one_101_108_115_101, one_102_105_108_108, one_105_102, one_105_110_116, one_108_101_110, one_109_97_107_101, one_111_102, one_112_114_111_103, one_114_101_116_117_114_110, one_115_101_108_101_99_116, one_116_121_112_101, one_118_97_108, one_118_97_114, one_119_104_105_108_101, one_123, one_125, one_40, one_41, one_44, one_46, one_58, one_59, one_60_45, one_60_45_61, one_61, one_91, one_93, one_97_114_114_97_121, one_98_101_103_105_110, one_98_111_111_108, one_99_104_97_110, one_99_97_115_101, and_self, true_and, and_true]
  · rw [nodeT_2]; simp only [all_append, all_cons, all_nil, r0, r1, r2, i0, i1, i2, q2, q3, y1, y2, one_101_108_115_101, one_102_105_108_108, one_105_102, one_105_110_116, one_108_101_110, one_109_97_107_101, one_111_102, one_112_114_111_103, one_114_101_116_117_114_110, one_115_101_108_101_99_116, one_116_121_112_101, one_118_97_108, one_118_97_114, one_119_104_105_108_101, one_123, one_125, one_40, one_41, one_44, one_46, one_58, one_59, one_60_45, one_60_45_61, one_61, one_91, one_93, one_97_114_114_97_121, one_98_101_103_105_110, one_98_111_111_108, one_99_104_97_110, one_99_97_115_101, and_self, true_and, and_true]
  · rw [nodeT_3]; have y3 := nameOk_one (show nameOk nm.data.toList = true from hname); simp only [all_append, all_cons, all_nil, r0, r1, r2, i0, i1, i2, q2, q3, y1, y2, y3, one_101_108_115_101, one_102_105_108_108, one_105_102, one_105_110_116, one_108_101_110, one_109_97_107_101, one_111_102, one_112_114_111_103, one_114_101_116_117_114_110, one_115_101_108_101_99_116, one_116_121_112_101, one_118_97_108, one_118_97_114, one_119_104_105_108_101, one_123, one_125, one_40, one_41, one_44, one_46, one_58, one_59, one_60_45, one_60_45_61, one_61, one_91, one_93, one_97_114_114_97_121, one_98_101_103_105_110, one_98_111_111_108, one_99_104_97_110, one_99_97_115_101, and_self, true_and, and_true]
  · rw [nodeT_4]; simp only [all_append, all_cons, all_nil, r0, r1, r2, i0, i1, i2, q2, q3, y1, y2, one_101_108_115_101, one_102_105_108_108, one_105_102, one_105_110_116, one_108_101_110, one_109_97_107_101, one_111_102, one_112_114_111_103, one_114_101_116_117_114_110, one_115_101_108_101_99_116, one_116_121_112_101, one_118_97_108, one_118_97_114, one_119_104_105_108_101, one_123, one_125, one_40, one_41, one_44, one_46, one_58, one_59, one_60_45, one_60_45_61, one_61, one_91, one_93, one_97_114_114_97_121, one_98_101_103_105_110, one_98_111_111_108, one_99_104_97_110, one_99_97_115_101, and_self, true_and, and_true]
  · rw [nodeT_5]; simp only [all_append, all_cons, all_nil, r0, r1, r2, i0, i1, i2, q2, q3, y1, y2, one_101_108_115_101, one_102_105_108_108, one_105_102, one_105_110_116, one_108_101_110, one_109_97_107_101, one_111_102, one_112_114_111_103, one_114_101_116_117_114_110, one_115_101_108_101_99_116, one_116_121_112_101, one_118_97_108, one_118_97_114, one_119_104_105_108_101, one_123, one_125, one_40, one_41, one_44, one_46, one_58, one_59, one_60_45, one_60_45_61, one_61, one_91, one_93, one_97_114_114_97_121, one_98_101_103_105_110, one_98_111_111_108, one_99_104_97_110, one_99_97_115_101, and_self, true_and, and_true]
  · rw [nodeT_6]; simp only [all_append, all_cons, all_nil, r0, r1, r2, i0, i1, i2, q2, q3, y1, y2, one_101_108_115_101, one_102_105_108_108, one_105_102, one_105_110_116, one_108_101_110, one_109_97_107_101, one_111_102, one_112_114_111_103, one_114_101_116_117_114_110, one_115_101_108_101_99_116, one_116_121_112_101, one_118_97_108, one_118_97_114, one_119_104_105_108_101, one_123, one_125, one_40, one_41, one_44, one_46, one_58, one_59, one_60_45, one_60_45_61, one_61, one_91, one_93, one_97_114_114_97_121, one_98_101_103_105_110, one_98_111_111_108, one_99_104_97_110, one_99_97_115_101, and_self, true_and, and_true]
  · rw [nodeT_7]; simp only [all_append, all_cons, all_nil, r0, r1, r2, i0, i1, i2, q2, q3, y1, y2, one_101_108_115_101, one_102_105_108_108, one_105_102, one_105_110_116, one_108_101_110, one_109_97_107_101, one_111_102, one_112_114_111_103, one_114_101_116_117_114_110, one_115_101_108_101_99_116, one_116_121_112_101, one_118_97_108, one_118_97_114, one_119_104_105_108_101, one_123, one_125, one_40, one_41, one_44, one_46, one_58, one_59, one_60_45, one_60_45_61, one_61, one_91, one_93, one_97_114_114_97_121, one_98_101_103_105_110, one_98_111_111_108, one_99_104_97_110, one_99_97_115_101, and_self, true_and, and_true]
  · rw [nodeT_11]; have y3 := itoa_one (of_decide_eq_true (show decide (0 ≤ num) = true from hnum)) hi; simp only [all_append, all_cons, all_nil, r0, r1, r2, i0, i1, i2, q2, q3, y1, y2, y3, one_101_108_115_101, one_102_105_108_108, one_105_102, one_105_110_116, one_108_101_110, one_109_97_107_101, one_111_102, one_112_114_111_103, one_114_101_116_117_114_110, one_115_101_108_101_99_116, one_116_121_112_101, one_118_97_108, one_118_97_114, one_119_104_105_108_101, one_123, one_125, one_40, one_41, one_44, one_46, one_58, one_59, one_60_45, one_60_45_61, one_61, one_91, one_93, one_97_114_114_97_121, one_98_101_103_105_110, one_98_111_111_108, one_99_104_97_110, one_99_97_115_101, and_self, true_and, and_true]
  · rw [nodeT_12]; simp only [all_append, all_cons, all_nil, r0, r1, r2, i0, i1, i2, q2, q3, y1, y2, one_101_108_115_101, one_102_105_108_108, one_105_102, one_105_110_116, one_108_101_110, one_109_97_107_101, one_111_102, one_112_114_111_103, one_114_101_116_117_114_110, one_115_101_108_101_99_116, one_116_121_112_101, one_118_97_108, one_118_97_114, one_119_104_105_108_101, one_123, one_125, one_40, one_41, one_44, one_46, one_58, one_59, one_60_45, one_60_45_61, one_61, one_91, one_93, one_97_114_114_97_121, one_98_101_103_105_110, one_98_111_111_108, one_99_104_97_110, one_99_97_115_101, and_self, true_and, and_true]
  · rw [nodeT_13]; have y3 := nameOk_one (show nameOk nm.data.toList = true from hname); simp only [all_append, all_cons, all_nil, r0, r1, r2, i0, i1, i2, q2, q3, y1, y2, y3, one_101_108_115_101, one_102_105_108_108, one_105_102, one_105_110_116, one_108_101_110, one_109_97_107_101, one_111_102, one_112_114_111_103, one_114_101_116_117_114_110, one_115_101_108_101_99_116, one_116_121_112_101, one_118_97_108, one_118_97_114, one_119_104_105_108_101, one_123, one_125, one_40, one_41, one_44, one_46, one_58, one_59, one_60_45, one_60_45_61, one_61, one_91, one_93, one_97_114_114_97_121, one_98_101_103_105_110, one_98_111_111_108, one_99_104_97_110, one_99_97_115_101, and_self, true_and, and_true]
  · rw [nodeT_14]; simp only [all_append, all_cons, all_nil, r0, r1, r2, i0, i1, i2, q2, q3, y1, y2, one_101_108_115_101, one_102_105_108_108, one_105_102, one_105_110_116, one_108_101_110, one_109_97_107_101, one_111_102, one_112_114_111_103, one_114_101_116_117_114_110, one_115_101_108_101_99_116, one_116_121_112_101, one_118_97_108, one_118_97_114, one_119_104_105_108_101, one_123, one_125, one_40, one_41, one_44, one_46, one_58, one_59, one_60_45, one_60_45_61, one_61, one_91, one_93, one_97_114_114_97_121, one_98_101_103_105_110, one_98_111_111_108, one_99_104_97_110, one_99_97_115_101, and_self, true_and, and_true]
  · rw [nodeT_15]; simp only [all_append, all_cons, all_nil, r0, r1, r2, i0, i1, i2, q2, q3, y1, y2, one_101_108_115_101, one_102_105_108_108, one_105_102, one_105_110_116, one_108_101_110, one_109_97_107_101, one_111_102, one_112_114_111_103, one_114_101_116_117_114_110, one_115_101_108_101_99_116, one_116_121_112_101, one_118_97_108, one_118_97_114, one_119_104_105_108_101, one_123, one_125, one_40, one_41, one_44, one_46, one_58, one_59, one_60_45, one_60_45_61, one_61, one_91, one_93, one_97_114_114_97_121, one_98_101_103_105_110, one_98_111_111_108, one_99_104_97_110, one_99_97_115_101, and_self, true_and, and_true]
  · rw [nodeT_16]; simp only [all_append, all_cons, all_nil, r0, r1, r2, i0, i1, i2, q2, q3, y1, y2, one_101_108_115_101, one_102_105_108_108, one_105_102, one_105_110_116, one_108_101_110, one_109_97_107_101, one_111_102, one_112_114_111_103, one_114_101_116_117_114_110, one_115_101_108_101_99_116, one_116_121_112_101, one_118_97_108, one_118_97_114, one_119_104_105_108_101, one_123, one_125, one_40, one_41, one_44, one_46, one_58, one_59, one_60_45, one_60_45_61, one_61, one_91, one_93, one_97_114_114_97_121, one_98_101_103_105_110, one_98_111_111_108, one_99_104_97_110, one_99_97_115_101, and_self, true_and, and_true]
  · rw [nodeT_17]; simp only [all_append, all_cons, all_nil, r0, r1, r2, i0, i1, i2, q2, q3, y1, y2, one_101_108_115_101, one_102_105_108_108, one_105_102, one_105_110_116, one_108_101_110, one_109_97_107_101, one_111_102, one_112_114_111_103, one_114_101_116_117_114_110, one_115_101_108_101_99_116, one_116_121_112_101, one_118_97_108, one_118_97_114, one_119_104_105_108_101, one_123, one_125, one_40, one_41, one_44, one_46, one_58, one_59, one_60_45, one_60_45_61, one_61, one_91, one_93, one_97_114_114_97_121, one_98_101_103_105_110, one_98_111_111_108, one_99_104_97_110, one_99_97_115_101, and_self, true_and, and_true]
  · rw [nodeT_18]; simp only [all_append, all_cons, all_nil, r0, r1, r2, i0, i1, i2, q2, q3, y1, y2, one_101_108_115_101, one_102_105_108_108, one_105_102, one_105_110_116, one_108_101_110, one_109_97_107_101, one_111_102, one_112_114_111_103, one_114_101_116_117_114_110, one_115_101_108_101_99_116, one_116_121_112_101, one_118_97_108, one_118_97_114, one_119_104_105_108_101, one_123, one_125, one_40, one_41, one_44, one_46, one_58, one_59, one_60_45, one_60_45_61, one_61, one_91, one_93, one_97_114_114_97_121, one_98_101_103_105_110, one_98_111_111_108, one_99_104_97_110, one_99_97_115_101, and_self, true_and, and_true]
  · rw [nodeT_19]; simp only [all_append, all_cons, all_nil, r0, r1, r2, i0, i1, i2, q2, q3, y1, y2, one_101_108_115_101, one_102_105_108_108, one_105_102, one_105_110_116, one_108_101_110, one_109_97_107_101, one_111_102, one_112_114_111_103, one_114_101_116_117_114_110, one_115_101_108_101_99_116, one_116_121_112_101, one_118_97_108, one_118_97_114, one_119_104_105_108_101, one_123, one_125, one_40, one_41, one_44, one_46, one_58, one_59, one_60_45, one_60_45_61, one_61, one_91, one_93, one_97_114_114_97_121, one_98_101_103_105_110, one_98_111_111_108, one_99_104_97_110, one_99_97_115_101, and_self, true_and, and_true]
  · rw [nodeT_20]
    have y4 : AllT (if nm.data.toList = [] then [] else [nm.data.toList]) := by
      refine all_ite (fun _ => all_nil) (fun h0 => ?_)
      have y3 : OneTok nm.data.toList := by
        have hname : (emptyB nm || nameOk nm.data.toList) = true := hname
        rw [Bool.or_eq_true] at hname
        rcases hname with he | he
        · unfold emptyB at he
          rw [ByteArray.toList_eq] at he
          exact absurd (List.isEmpty_iff.1 he) h0
        · exact nameOk_one he
      simp only [all_append, all_cons, all_nil, r0, r1, r2, i0, i1, i2, q2, q3, y1, y2, y3, one_101_108_115_101, one_102_105_108_108, one_105_102, one_105_110_116, one_108_101_110, one_109_97_107_101, one_111_102, one_112_114_111_103, one_114_101_116_117_114_110, one_115_101_108_101_99_116, one_116_121_112_101, one_118_97_108, one_118_97_114, one_119_104_105_108_101, one_123, one_125, one_40, one_41, one_44, one_46, one_58, one_59, one_60_45, one_60_45_61, one_61, one_91, one_93, one_97_114_114_97_121, one_98_101_103_105_110, one_98_111_111_108, one_99_104_97_110, one_99_97_115_101, and_self, true_and, and_true]
    simp only [all_append, all_cons, all_nil, r0, r1, r2, i0, i1, i2, q2, q3, y1, y2, y4, one_101_108_115_101, one_102_105_108_108, one_105_102, one_105_110_116, one_108_101_110, one_109_97_107_101, one_111_102, one_112_114_111_103, one_114_101_116_117_114_110, one_115_101_108_101_99_116, one_116_121_112_101, one_118_97_108, one_118_97_114, one_119_104_105_108_101, one_123, one_125, one_40, one_41, one_44, one_46, one_58, one_59, one_60_45, one_60_45_61, one_61, one_91, one_93, one_97_114_114_97_121, one_98_101_103_105_110, one_98_111_111_108, one_99_104_97_110, one_99_97_115_101, and_self, true_and, and_true]
  · rw [nodeT_21]; simp only [all_append, all_cons, all_nil, r0, r1, r2, i0, i1, i2, q2, q3, y1, y2, one_101_108_115_101, one_102_105_108_108, one_105_102, one_105_110_116, one_108_101_110, one_109_97_107_101, one_111_102, one_112_114_111_103, one_114_101_116_117_114_110, one_115_101_108_101_99_116, one_116_121_112_101, one_118_97_108, one_118_97_114, one_119_104_105_108_101, one_123, one_125, one_40, one_41, one_44, one_46, one_58, one_59, one_60_45, one_60_45_61, one_61, one_91, one_93, one_97_114_114_97_121, one_98_101_103_105_110, one_98_111_111_108, one_99_104_97_110, one_99_97_115_101, and_self, true_and, and_true]
  · rw [nodeT_22]; simp only [all_append, all_cons, all_nil, r0, r1, r2, i0, i1, i2, q2, q3, y1, y2, one_101_108_115_101, one_102_105_108_108, one_105_102, one_105_110_116, one_108_101_110, one_109_97_107_101, one_111_102, one_112_114_111_103, one_114_101_116_117_114_110, one_115_101_108_101_99_116, one_116_121_112_101, one_118_97_108, one_118_97_114, one_119_104_105_108_101, one_123, one_125, one_40, one_41, one_44, one_46, one_58, one_59, one_60_45, one_60_45_61, one_61, one_91, one_93, one_97_114_114_97_121, one_98_101_103_105_110, one_98_111_111_108, one_99_104_97_110, one_99_97_115_101, and_self, true_and, and_true]
  · rw [nodeT_23]; simp only [all_append, all_cons, all_nil, r0, r1, r2, i0, i1, i2, q2, q3, y1, y2, one_101_108_115_101, one_102_105_108_108, one_105_102, one_105_110_116, one_108_101_110, one_109_97_107_101, one_111_102, one_112_114_111_103, one_114_101_116_117_114_110, one_115_101_108_101_99_116, one_116_121_112_101, one_118_97_108, one_118_97_114, one_119_104_105_108_101, one_123, one_125, one_40, one_41, one_44, one_46, one_58, one_59, one_60_45, one_60_45_61, one_61, one_91, one_93, one_97_114_114_97_121, one_98_101_103_105_110, one_98_111_111_108, one_99_104_97_110, one_99_97_115_101, and_self, true_and, and_true]
  · rw [nodeT_24]; simp only [all_append, all_cons, all_nil, r0, r1, r2, i0, i1, i2, q2, q3, y1, y2, one_101_108_115_101, one_102_105_108_108, one_105_102, one_105_110_116, one_108_101_110, one_109_97_107_101, one_111_102, one_112_114_111_103, one_114_101_116_117_114_110, one_115_101_108_101_99_116, one_116_121_112_101, one_118_97_108, one_118_97_114, one_119_104_105_108_101, one_123, one_125, one_40, one_41, one_44, one_46, one_58, one_59, one_60_45, one_60_45_61, one_61, one_91, one_93, one_97_114_114_97_121, one_98_101_103_105_110, one_98_111_111_108, one_99_104_97_110, one_99_97_115_101, and_self, true_and, and_true]
  · rw [nodeT_25]; have y3 := itoa_one (of_decide_eq_true (show decide (0 ≤ num) = true from hnum)) hi; simp only [all_append, all_cons, all_nil, r0, r1, r2, i0, i1, i2, q2, q3, y1, y2, y3, one_101_108_115_101, one_102_105_108_108, one_105_102, one_105_110_116, one_108_101_110, one_109_97_107_101, one_111_102, one_112_114_111_103, one_114_101_116_117_114_110, one_115_101_108_101_99_116, one_116_121_112_101, one_118_97_108, one_118_97_114, one_119_104_105_108_101, one_123, one_125, one_40, one_41, one_44, one_46, one_58, one_59, one_60_45, one_60_45_61, one_61, one_91, one_93, one_97_114_114_97_121, one_98_101_103_105_110, one_98_111_111_108, one_99_104_97_110, one_99_97_115_101, and_self, true_and, and_true]
  · rw [nodeT_31]; have y3 := nameOk_one (show nameOk nm.data.toList = true from hname); simp only [all_append, all_cons, all_nil, r0, r1, r2, i0, i1, i2, q2, q3, y1, y2, y3, one_101_108_115_101, one_102_105_108_108, one_105_102, one_105_110_116, one_108_101_110, one_109_97_107_101, one_111_102, one_112_114_111_103, one_114_101_116_117_114_110, one_115_101_108_101_99_116, one_116_121_112_101, one_118_97_108, one_118_97_114, one_119_104_105_108_101, one_123, one_125, one_40, one_41, one_44, one_46, one_58, one_59, one_60_45, one_60_45_61, one_61, one_91, one_93, one_97_114_114_97_121, one_98_101_103_105_110, one_98_111_111_108, one_99_104_97_110, one_99_97_115_101, and_self, true_and, and_true]
  · rw [nodeT_32]
    have y3 := nameOk_one (show nameOk nm.data.toList = true from hname)
    have y4 : AllT (if ks.length ≤ 1 then [] else [[61]] ++ rowT G (ks.drop 1)) := all_ite (fun _ => all_nil) (fun _ => by simp only [all_append, all_cons, all_nil, r0, r1, r2, i0, i1, i2, q2, q3, y1, y2, one_101_108_115_101, one_102_105_108_108, one_105_102, one_105_110_116, one_108_101_110, one_109_97_107_101, one_111_102, one_112_114_111_103, one_114_101_116_117_114_110, one_115_101_108_101_99_116, one_116_121_112_101, one_118_97_108, one_118_97_114, one_119_104_105_108_101, one_123, one_125, one_40, one_41, one_44, one_46, one_58, one_59, one_60_45, one_60_45_61, one_61, one_91, one_93, one_97_114_114_97_121, one_98_101_103_105_110, one_98_111_111_108, one_99_104_97_110, one_99_97_115_101, and_self, true_and, and_true])
    simp only [all_append, all_cons, all_nil, r0, r1, r2, i0, i1, i2, q2, q3, y1, y2, y3, y4, one_101_108_115_101, one_102_105_108_108, one_105_102, one_105_110_116, one_108_101_110, one_109_97_107_101, one_111_102, one_112_114_111_103, one_114_101_116_117_114_110, one_115_101_108_101_99_116, one_116_121_112_101, one_118_97_108, one_118_97_114, one_119_104_105_108_101, one_123, one_125, one_40, one_41, one_44, one_46, one_58, one_59, one_60_45, one_60_45_61, one_61, one_91, one_93, one_97_114_114_97_121, one_98_101_103_105_110, one_98_111_111_108, one_99_104_97_110, one_99_97_115_101, and_self, true_and, and_true]
  · rw [nodeT_33]; simp only [all_append, all_cons, all_nil, r0, r1, r2, i0, i1, i2, q2, q3, y1, y2, one_101_108_115_101, one_102_105_108_108, one_105_102, one_105_110_116, one_108_101_110, one_109_97_107_101, one_111_102, one_112_114_111_103, one_114_101_116_117_114_110, one_115_101_108_101_99_116, one_116_121_112_101, one_118_97_108, one_118_97_114, one_119_104_105_108_101, one_123, one_125, one_40, one_41, one_44, one_46, one_58, one_59, one_60_45, one_60_45_61, one_61, one_91, one_93, one_97_114_114_97_121, one_98_101_103_105_110, one_98_111_111_108, one_99_104_97_110, one_99_97_115_101, and_self, true_and, and_true]
  · rw [nodeT_34]; simp only [all_append, all_cons, all_nil, r0, r1, r2, i0, i1, i2, q2, q3, y1, y2, one_101_108_115_101, one_102_105_108_108, one_105_102, one_105_110_116, one_108_101_110, one_109_97_107_101, one_111_102, one_112_114_111_103, one_114_101_116_117_114_110, one_115_101_108_101_99_116, one_116_121_112_101, one_118_97_108, one_118_97_114, one_119_104_105_108_101, one_123, one_125, one_40, one_41, one_44, one_46, one_58, one_59, one_60_45, one_60_45_61, one_61, one_91, one_93, one_97_114_114_97_121, one_98_101_103_105_110, one_98_111_111_108, one_99_104_97_110, one_99_97_115_101, and_self, true_and, and_true]
  · rw [nodeT_35]; simp only [all_append, all_cons, all_nil, r0, r1, r2, i0, i1, i2, q2, q3, y1, y2, one_101_108_115_101, one_102_105_108_108, one_105_102, one_105_110_116, one_108_101_110, one_109_97_107_101, one_111_102, one_112_114_111_103, one_114_101_116_117_114_110, one_115_101_108_101_99_116, one_116_121_112_101, one_118_97_108, one_118_97_114, one_119_104_105_108_101, one_123, one_125, one_40, one_41, one_44, one_46, one_58, one_59, one_60_45, one_60_45_61, one_61, one_91, one_93, one_97_114_114_97_121, one_98_101_103_105_110, one_98_111_111_108, one_99_104_97_110, one_99_97_115_101, and_self, true_and, and_true]
  · rw [nodeT_36]
    have y4 : AllT (if ks.length ≤ 2 then [] else [[101, 108, 115, 101]] ++ rowT G (ks.drop 2)) := all_ite (fun _ => all_nil) (fun _ => by simp only [all_append, all_cons, all_nil, r0, r1, r2, i0, i1, i2, q2, q3, y1, y2, one_101_108_115_101, one_102_105_108_108, one_105_102, one_105_110_116, one_108_101_110, one_109_97_107_101, one_111_102, one_112_114_111_103, one_114_101_116_117_114_110, one_115_101_108_101_99_116, one_116_121_112_101, one_118_97_108, one_118_97_114, one_119_104_105_108_101, one_123, one_125, one_40, one_41, one_44, one_46, one_58, one_59, one_60_45, one_60_45_61, one_61, one_91, one_93, one_97_114_114_97_121, one_98_101_103_105_110, one_98_111_111_108, one_99_104_97_110, one_99_97_115_101, and_self, true_and, and_true])
    simp only [all_append, all_cons, all_nil, r0, r1, r2, i0, i1, i2, q2, q3, y1, y2, y4, one_101_108_115_101, one_102_105_108_108, one_105_102, one_105_110_116, one_108_101_110, one_109_97_107_101, one_111_102, one_112_114_111_103, one_114_101_116_117_114_110, one_115_101_108_101_99_116, one_116_121_112_101, one_118_97_108, one_118_97_114, one_119_104_105_108_101, one_123, one_125, one_40, one_41, one_44, one_46, one_58, one_59, one_60_45, one_60_45_61, one_61, one_91, one_93, one_97_114_114_97_121, one_98_101_103_105_110, one_98_111_111_108, one_99_104_97_110, one_99_97_115_101, and_self, true_and, and_true]
  · rw [nodeT_37]; simp only [all_append, all_cons, all_nil, r0, r1, r2, i0, i1, i2, q2, q3, y1, y2, one_101_108_115_101, one_102_105_108_108, one_105_102, one_105_110_116, one_108_101_110, one_109_97_107_101, one_111_102, one_112_114_111_103, one_114_101_116_117_114_110, one_115_101_108_101_99_116, one_116_121_112_101, one_118_97_108, one_118_97_114, one_119_104_105_108_101, one_123, one_125, one_40, one_41, one_44, one_46, one_58, one_59, one_60_45, one_60_45_61, one_61, one_91, one_93, one_97_114_114_97_121, one_98_101_103_105_110, one_98_111_111_108, one_99_104_97_110, one_99_97_115_101, and_self, true_and, and_true]
  · rw [nodeT_38]; simp only [all_append, all_cons, all_nil, r0, r1, r2, i0, i1, i2, q2, q3, y1, y2, one_101_108_115_101, one_102_105_108_108, one_105_102, one_105_110_116, one_108_101_110, one_109_97_107_101, one_111_102, one_112_114_111_103, one_114_101_116_117_114_110, one_115_101_108_101_99_116, one_116_121_112_101, one_118_97_108, one_118_97_114, one_119_104_105_108_101, one_123, one_125, one_40, one_41, one_44, one_46, one_58, one_59, one_60_45, one_60_45_61, one_61, one_91, one_93, one_97_114_114_97_121, one_98_101_103_105_110, one_98_111_111_108, one_99_104_97_110, one_99_97_115_101, and_self, true_and, and_true]
  · rw [nodeT_39]; simp only [all_append, all_cons, all_nil, r0, r1, r2, i0, i1, i2, q2, q3, y1, y2, one_101_108_115_101, one_102_105_108_108, one_105_102, one_105_110_116, one_108_101_110, one_109_97_107_101, one_111_102, one_112_114_111_103, one_114_101_116_117_114_110, one_115_101_108_101_99_116, one_116_121_112_101, one_118_97_108, one_118_97_114, one_119_104_105_108_101, one_123, one_125, one_40, one_41, one_44, one_46, one_58, one_59, one_60_45, one_60_45_61, one_61, one_91, one_93, one_97_114_114_97_121, one_98_101_103_105_110, one_98_111_111_108, one_99_104_97_110, one_99_97_115_101, and_self, true_and, and_true]
  · rw [nodeT_40]; simp only [all_append, all_cons, all_nil, r0, r1, r2, i0, i1, i2, q2, q3, y1, y2, one_101_108_115_101, one_102_105_108_108, one_105_102, one_105_110_116, one_108_101_110, one_109_97_107_101, one_111_102, one_112_114_111_103, one_114_101_116_117_114_110, one_115_101_108_101_99_116, one_116_121_112_101, one_118_97_108, one_118_97_114, one_119_104_105_108_101, one_123, one_125, one_40, one_41, one_44, one_46, one_58, one_59, one_60_45, one_60_45_61, one_61, one_91, one_93, one_97_114_114_97_121, one_98_101_103_105_110, one_98_111_111_108, one_99_104_97_110, one_99_97_115_101, and_self, true_and, and_true]
  · rw [nodeT_41]; simp only [all_append, all_cons, all_nil, r0, r1, r2, i0, i1, i2, q2, q3, y1, y2, one_101_108_115_101, one_102_105_108_108, one_105_102, one_105_110_116, one_108_101_110, one_109_97_107_101, one_111_102, one_112_114_111_103, one_114_101_116_117_114_110, one_115_101_108_101_99_116, one_116_121_112_101, one_118_97_108, one_118_97_114, one_119_104_105_108_101, one_123, one_125, one_40, one_41, one_44, one_46, one_58, one_59, one_60_45, one_60_45_61, one_61, one_91, one_93, one_97_114_114_97_121, one_98_101_103_105_110, one_98_111_111_108, one_99_104_97_110, one_99_97_115_101, and_self, true_and, and_true]
  · rw [nodeT_42]; have y3 := nameOk_one (show nameOk nm.data.toList = true from hname); simp only [all_append, all_cons, all_nil, r0, r1, r2, i0, i1, i2, q2, q3, y1, y2, y3, one_101_108_115_101, one_102_105_108_108, one_105_102, one_105_110_116, one_108_101_110, one_109_97_107_101, one_111_102, one_112_114_111_103, one_114_101_116_117_114_110, one_115_101_108_101_99_116, one_116_121_112_101, one_118_97_108, one_118_97_114, one_119_104_105_108_101, one_123, one_125, one_40, one_41, one_44, one_46, one_58, one_59, one_60_45, one_60_45_61, one_61, one_91, one_93, one_97_114_114_97_121, one_98_101_103_105_110, one_98_111_111_108, one_99_104_97_110, one_99_97_115_101, and_self, true_and, and_true]
  · rw [nodeT_43]
    have y4 : AllT (if nm.data.toList = [] then [] else [nm.data.toList, [61]]) := by
      refine all_ite (fun _ => all_nil) (fun h0 => ?_)
      have y3 : OneTok nm.data.toList := by
        have hname : (emptyB nm || nameOk nm.data.toList) = true := hname
        rw [Bool.or_eq_true] at hname
        rcases hname with he | he
        · unfold emptyB at he
          rw [ByteArray.toList_eq] at he
          exact absurd (List.isEmpty_iff.1 he) h0
        · exact nameOk_one he
      simp only [all_append, all_cons, all_nil, r0, r1, r2, i0, i1, i2, q2, q3, y1, y2, y3, one_101_108_115_101, one_102_105_108_108, one_105_102, one_105_110_116, one_108_101_110, one_109_97_107_101, one_111_102, one_112_114_111_103, one_114_101_116_117_114_110, one_115_101_108_101_99_116, one_116_121_112_101, one_118_97_108, one_118_97_114, one_119_104_105_108_101, one_123, one_125, one_40, one_41, one_44, one_46, one_58, one_59, one_60_45, one_60_45_61, one_61, one_91, one_93, one_97_114_114_97_121, one_98_101_103_105_110, one_98_111_111_108, one_99_104_97_110, one_99_97_115_101, and_self, true_and, and_true]
    simp only [all_append, all_cons, all_nil, r0, r1, r2, i0, i1, i2, q2, q3, y1, y2, y4, one_101_108_115_101, one_102_105_108_108, one_105_102, one_105_110_116, one_108_101_110, one_109_97_107_101, one_111_102, one_112_114_111_103, one_114_101_116_117_114_110, one_115_101_108_101_99_116, one_116_121_112_101, one_118_97_108, one_118_97_114, one_119_104_105_108_101, one_123, one_125, one_40, one_41, one_44, one_46, one_58, one_59, one_60_45, one_60_45_61, one_61, one_91, one_93, one_97_114_114_97_121, one_98_101_103_105_110, one_98_111_111_108, one_99_104_97_110, one_99_97_115_101, and_self, true_and, and_true]
  · rw [nodeT_44]; simp only [all_append, all_cons, all_nil, r0, r1, r2, i0, i1, i2, q2, q3, y1, y2, one_101_108_115_101, one_102_105_108_108, one_105_102, one_105_110_116, one_108_101_110, one_109_97_107_101, one_111_102, one_112_114_111_103, one_114_101_116_117_114_110, one_115_101_108_101_99_116, one_116_121_112_101, one_118_97_108, one_118_97_114, one_119_104_105_108_101, one_123, one_125, one_40, one_41, one_44, one_46, one_58, one_59, one_60_45, one_60_45_61, one_61, one_91, one_93, one_97_114_114_97_121, one_98_101_103_105_110, one_98_111_111_108, one_99_104_97_110, one_99_97_115_101, and_self, true_and, and_true]
  · rw [nodeT_45]; have y3 := nameOk_one (show nameOk nm.data.toList = true from hname); simp only [all_append, all_cons, all_nil, r0, r1, r2, i0, i1, i2, q2, q3, y1, y2, y3, one_101_108_115_101, one_102_105_108_108, one_105_102, one_105_110_116, one_108_101_110, one_109_97_107_101, one_111_102, one_112_114_111_103, one_114_101_116_117_114_110, one_115_101_108_101_99_116, one_116_121_112_101, one_118_97_108, one_118_97_114, one_119_104_105_108_101, one_123, one_125, one_40, one_41, one_44, one_46, one_58, one_59, one_60_45, one_60_45_61, one_61, one_91, one_93, one_97_114_114_97_121, one_98_101_103_105_110, one_98_111_111_108, one_99_104_97_110, one_99_97_115_101, and_self, true_and, and_true]
  · rw [nodeT_46]; simp only [all_append, all_cons, all_nil, r0, r1, r2, i0, i1, i2, q2, q3, y1, y2, one_101_108_115_101, one_102_105_108_108, one_105_102, one_105_110_116, one_108_101_110, one_109_97_107_101, one_111_102, one_112_114_111_103, one_114_101_116_117_114_110, one_115_101_108_101_99_116, one_116_121_112_101, one_118_97_108, one_118_97_114, one_119_104_105_108_101, one_123, one_125, one_40, one_41, one_44, one_46, one_58, one_59, one_60_45, one_60_45_61, one_61, one_91, one_93, one_97_114_114_97_121, one_98_101_103_105_110, one_98_111_111_108, one_99_104_97_110, one_99_97_115_101, and_self, true_and, and_true]

theorem toks_all {l : List Nd} (hok : (checkAll l).2 = 0) (hw : ∀ j, j < l.length → I64 (ndN l j).num) : ∀ j, j < l.length → AllT (textG l j) := by
  obtain ⟨hall, _, _⟩ := ok_all hok
  have hlow : ∀ j, j < l.length → ∀ k ∈ kidsN l j, k < j := fun j hj => (hall j hj).low
  intro j
  induction j using Nat.strongRecOn with
  | _ j ih =>
    intro hj
    have h := hall j hj
    rw [textG_eq hlow hj]
    have hnum := h.num
    rw [show (ndN l j).kids.length = (kidsN l j).length by simp [kidsN]] at hnum
    exact node_toks (textG l) _ _ _ _ (fun k hk => by have := hlow j hj k hk; exact ih k this (by omega)) h.kind hnum h.name (hw j hj)
theorem name_len {kd : Int} {nm : ByteArray} (h : nameFitsI kd nm = true) : nm.data.toList.length ≤ 32 := by
  unfold nameFitsI at h
  have he : ∀ {nm : ByteArray}, emptyB nm = true → nm.data.toList.length ≤ 32 := fun {nm} he => by
    unfold emptyB at he
    rw [ByteArray.toList_eq] at he
    rw [List.isEmpty_iff.1 he]
    simp
  split at h
  · rw [Bool.or_eq_true] at h
    rcases h with h | h
    · exact he h
    · exact (nameOk_next h).2.1
  · split at h
    · exact (nameOk_next h).2.1
    · exact he h
/-- the whole text is short enough -/
theorem cost_text {l : List Nd} (hok : (checkAll l).2 = 0) (hw : ∀ j, j < l.length → I64 (ndN l j).num) (i : Nat) (hi : i < l.length) : cost (textG l i) ≤ 64 * (i + 1) :=
  cost_all (fun j hj => ⟨name_len ((ok_all hok).1 j hj).name, hw j hj⟩) hok i hi

/-! ### the text is scanned as its tokens -/
def tailT (ts : List (List UInt8)) : List UInt8 := ts.flatMap fun t => 32 :: t
theorem layT_tail : ∀ (ts : List (List UInt8)) (bs : List UInt8), bs ≠ [] → layT bs ts = bs ++ tailT ts
  | [], bs, _ => by simp [layT_nil, tailT]
  | t :: r, bs, h => by
    have hl : ¬ bs.length = 0 := fun e => h (List.eq_nil_of_length_eq_zero e)
    rw [layT_cons]
    unfold putT
    rw [if_neg hl, layT_tail r _ (by simp)]
    simp [tailT]
theorem layT_first (t : List UInt8) (r : List (List UInt8)) (ht : 0 < t.length) : layT [] (t :: r) = t ++ tailT r := by
  rw [layT_cons]
  have e : putT [] t = t := by simp [putT]
  rw [e]
  exact layT_tail r t (by intro e; rw [e] at ht; simp at ht)
def tokAt (n : Nat) (t : List UInt8) : Tok := ⟨(nextR t 0).1.kind, n, t.length, (nextR t 0).1.num⟩
def toksAt : Nat → List (List UInt8) → List Tok
  | _, [] => []
  | n, t :: r => tokAt n t :: toksAt (n + t.length + 1) r
theorem next_one {t : List UInt8} (h : OneTok t) (r : List (List UInt8)) : nextR (t ++ tailT r) 0 = (tokAt 0 t, 0) := by
  have e : nextR (t ++ tailT r) 0 = nextR t 0 := by
    match r with
    | [] => simp [tailT]
    | u :: r => 
      have : tailT (u :: r) = 32 :: (u ++ tailT r) := by simp [tailT]
      rw [this]
      exact next_ends 32 ends32 _ t 0 h.pos
  rw [e]
  exact h.next
theorem covers_tail : ∀ (ts : List (List UInt8)), AllT ts → ∀ pre : List UInt8, Covers (pre ++ tailT ts) pre.length (toksAt (pre.length + 1) ts)
  | [], _, pre => by
    show skipTo (pre ++ tailT []) pre.length = _
    rw [skipTo_end _ _ (by simp [tailT])]
    simp [tailT]
  | t :: r, h, pre => by
    obtain ⟨h1, h2⟩ := all_cons.1 h
    have ih := covers_tail r h2 (pre ++ 32 :: t)
    have eA : pre ++ tailT (t :: r) = (pre ++ [32]) ++ (t ++ tailT r) := by simp [tailT]
    have eB : pre ++ tailT (t :: r) = (pre ++ 32 :: t) ++ tailT r := by simp [tailT]
    have eC : pre ++ tailT (t :: r) = pre ++ (32 :: (t ++ tailT r)) := by simp [tailT]
    have e1 : (pre ++ [(32 : UInt8)]).length = pre.length + 1 := by simp
    refine ⟨?_, ?_, ?_, ?_⟩
    · show skipTo _ _ = pre.length + 1
      have := skipTo_pre pre (32 :: (t ++ tailT r)) 0
      rw [Nat.add_zero] at this
      rw [eC, this]
      unfold skipTo
      have hb : blankI ((32 : UInt8).toNat : Int) = true := rfl
      simp only [List.drop_zero, skipL, hb, if_true, h1.skip (tailT r)]
    · show pre.length + 1 < _
      have := h1.pos
      rw [eA]
      simp
      omega
    · show nextR _ (pre.length + 1) = _
      have := next_pre (pre ++ [32]) (t ++ tailT r) 0 _ (next_one h1 r)
      rw [Nat.add_zero, e1] at this
      rw [eA, this]
      simp [shiftT, tokAt]
    · show Covers _ (pre.length + 1 + t.length) (toksAt (pre.length + 1 + t.length + 1) r)
      rw [eB]
      have : (pre ++ 32 :: t).length = pre.length + 1 + t.length := by simp; omega
      rw [this] at ih
      exact ih
theorem covers_lay : ∀ (ts : List (List UInt8)), AllT ts → Covers (layT [] ts) 0 (toksAt 0 ts)
  | [], _ => rfl
  | t :: r, h => by
    obtain ⟨h1, h2⟩ := all_cons.1 h
    rw [layT_first t r h1.pos]
    have hp := h1.pos
    refine ⟨?_, ?_, next_one h1 r, ?_⟩
    · show skipTo _ 0 = 0
      unfold skipTo
      rw [List.drop_zero, h1.skip, Nat.zero_add]
    · show 0 < _
      simp
      omega
    · show Covers _ (0 + t.length) (toksAt (0 + t.length + 1) r)
      rw [Nat.zero_add]
      exact covers_tail r h2 t
/-- P2.6 -/
theorem scan_lay {ts : List (List UInt8)} (h : AllT ts) (hl : (layT [] ts).length ≤ 65536) : scanAll (layT [] ts) = (toksAt 0 ts, 0, 0) :=
  covers_scan _ _ (covers_lay ts h) hl
end Go.Proofs.YtpgobebibjeglaaDoor
namespace Go.Proofs.YtpgobebibjeglaaDoor
open Go.RowKit
set_option linter.unusedVariables false
set_option linter.unusedSimpArgs false

/-- the tokens, each with a blank behind it -/
def shutT (ts : List (List UInt8)) : List UInt8 := ts.flatMap fun t => t ++ [32]
theorem tail_shut : ∀ ts : List (List UInt8), tailT ts ++ [32] = 32 :: shutT ts
  | [] => rfl
  | t :: r => by
    have ih := tail_shut r
    unfold tailT shutT at *
    rw [List.flatMap_cons, List.flatMap_cons, List.append_assoc, ih]
    simp
theorem lay_shut {ts : List (List UInt8)} (h : AllT ts) (h0 : ts ≠ []) : layT [] ts ++ [32] = shutT ts := by
  match ts, h, h0 with
  | t :: r, h, _ =>
    rw [layT_first t r (all_cons.1 h).1.pos, List.append_assoc, tail_shut]
    simp [shutT]
theorem shut_len : ∀ ts : List (List UInt8), (shutT ts).length = cost ts
  | [] => rfl
  | t :: r => by
    have ih := shut_len r
    unfold shutT at *
    rw [List.flatMap_cons, List.length_append, ih, cost_cons]
    simp
theorem lay_len {ts : List (List UInt8)} (h : AllT ts) (h0 : ts ≠ []) : (layT [] ts).length + 1 = cost ts := by
  rw [← shut_len, ← lay_shut h h0]
  simp
theorem cost_take {ts : List (List UInt8)} {j : Nat} (hj : j < ts.length) : cost (ts.take (j + 1)) = cost (ts.take j) + (ts[j].length + 1) := by
  rw [List.take_succ_eq_append_getElem hj, cost_append, cost_cons, cost_nil]
theorem cost_take_le (ts : List (List UInt8)) (j : Nat) : cost (ts.take j) ≤ cost ts := by
  conv => rhs; rw [← List.take_append_drop j ts]
  rw [cost_append]
  omega
theorem shut_at {ts : List (List UInt8)} {j q : Nat} (hj : j < ts.length) (hq : q ≤ ts[j].length) : (shutT ts)[cost (ts.take j) + q]? = some (if h : q < ts[j].length then ts[j][q] else 32) := by
  have e : shutT ts = shutT (ts.take j) ++ ((ts[j] ++ [32]) ++ shutT (ts.drop (j + 1))) := by
    have e0 : ts = ts.take j ++ ts[j] :: ts.drop (j + 1) := by rw [← List.drop_eq_getElem_cons hj, List.take_append_drop]
    unfold shutT
    conv => lhs; rw [e0, List.flatMap_append, List.flatMap_cons]
  rw [e, List.getElem?_append_right (by rw [shut_len]; omega), shut_len, Nat.add_sub_cancel_left, List.getElem?_append_left (by simp; omega)]
  split
  · rename_i h
    rw [List.getElem?_append_left h, List.getElem?_eq_getElem h]
  · rw [List.getElem?_append_right (by omega)]
    have : q - ts[j].length = 0 := by omega
    rw [this]
    rfl
/-- what stands in the text at a token, and behind it -/
theorem lay_in {ts : List (List UInt8)} (h : AllT ts) {j q : Nat} (hj : j < ts.length) (hq : q < ts[j].length) : ∃ c, (layT [] ts)[cost (ts.take j) + q]? = some c ∧ c ≠ 32 := by
  have h0 : ts ≠ [] := by intro e; rw [e] at hj; simp at hj
  have hs := shut_at hj (Nat.le_of_lt hq)
  rw [dif_pos hq, ← lay_shut h h0] at hs
  have hl := lay_len h h0
  have h1 := cost_take hj
  have h2 := cost_take_le ts (j + 1)
  rw [List.getElem?_append_left (by omega)] at hs
  refine ⟨_, hs, fun e => (h _ (List.getElem_mem hj)).blank ?_⟩
  rw [← e]
  exact List.getElem_mem hq
theorem lay_behind {ts : List (List UInt8)} (h : AllT ts) {j : Nat} (hj : j < ts.length) : cost (ts.take j) + ts[j].length = (layT [] ts).length ∨ (layT [] ts)[cost (ts.take j) + ts[j].length]? = some 32 := by
  have h0 : ts ≠ [] := by intro e; rw [e] at hj; simp at hj
  have hs := shut_at hj (Nat.le_refl _)
  rw [dif_neg (by omega), ← lay_shut h h0] at hs
  have hl := lay_len h h0
  have h1 := cost_take hj
  have h2 := cost_take_le ts (j + 1)
  by_cases e : cost (ts.take j) + ts[j].length = (layT [] ts).length
  · exact .inl e
  · right
    rw [List.getElem?_append_left (by omega)] at hs
    exact hs
theorem toksAt_len : ∀ (ts : List (List UInt8)) (n : Nat), (toksAt n ts).length = ts.length
  | [], n => rfl
  | t :: r, n => by simp [toksAt, toksAt_len r]
theorem toksAt_at : ∀ (ts : List (List UInt8)) (n j : Nat) (hj : j < ts.length), (toksAt n ts)[j]? = some (tokAt (n + cost (ts.take j)) ts[j])
  | t :: r, n, 0, hj => by simp [toksAt]
  | t :: r, n, j + 1, hj => by
    have ih := toksAt_at r (n + t.length + 1) j (by simpa using hj)
    simp only [toksAt, List.getElem?_cons_succ, ih, List.take_succ_cons, cost_cons, List.getElem_cons_succ]
    congr 2
    omega
end Go.Proofs.YtpgobebibjeglaaDoor
