import Derived.Test.YtecodpdfckjalaaGreatDoorBTKidP
import Derived.Test.YtecodpdfckjalaaGreatDoorBTNum
import Derived.Lib.ItoaNum
import Derived.Lib.Small
import Derived.Test.YtecodpdfckjalaaGreatDoorBCovQ
import Derived.Test.YtecodpdfckjalaaGreatDoorBTCurA
import Derived.Test.YtecodpdfckjalaaGreatDoorBRNum
set_option linter.unusedVariables false
set_option linter.unusedSimpArgs false
set_option maxHeartbeats 4000000
set_option maxRecDepth 100000
namespace Go.Proofs.YtecodpdfckjalaaGreatDoor
open Go.RowKit
def bA (G : Nat -> List (List UInt8)) (kd num : Int) (nm : List UInt8) (ks : List Nat) : List (List UInt8) :=
  if kd = 1 then [[105, 110, 116]]
  else if kd = 2 then [[98, 111, 111, 108]]
  else if kd = 3 then [nm]
  else if kd = 4 then [[97, 114, 114, 97, 121], [111, 102]] ++ aX G ks
  else if kd = 5 then ([[40]] ++ aU G ks ++ [[41]])
  else if kd = 6 then [[99, 104, 97, 110], [111, 102]] ++ aX G ks
  else if kd = 7 then [[112, 114, 111, 103]] ++ ([[40]] ++ aU G (ks.take (ks.length - num.toNat)) ++ [[41]]) ++ fZ G (ks.drop (ks.length - num.toNat))
  else if kd = 11 then [Lib.itoa num]
  else if kd = 12 then [Lib.formatBool (num == 1)]
  else if kd = 13 then [nm]
  else if kd = 14 then ([[40]] ++ aU G ks ++ [[41]])
  else if kd = 15 then ([[40]] ++ aU G ks ++ [[41]])
  else if kd = 16 then ([[91]] ++ aU G ks ++ [[93]])
  else if kd = 17 then [[102, 105, 108, 108]] ++ ([[40]] ++ aU G ks ++ [[41]])
  else if kd = 18 then [[108, 101, 110]] ++ ([[40]] ++ aU G ks ++ [[41]])
  else if kd = 19 then [[109, 97, 107, 101]] ++ aX G ks
  else if kd = 20 then [[112, 114, 111, 103]] ++ (if nm = [] then [] else [nm]) ++ ([[40]] ++ aU G (ks.take (ks.length - 1 - num.toNat)) ++ [[41]]) ++ fZ G ((ks.take (ks.length - 1)).drop (ks.length - 1 - num.toNat)) ++ aX G (ks.drop (ks.length - 1))
  else if kd = 21 then [opT num] ++ aX G ks
  else if kd = 22 then aX G (ks.take 1) ++ [opT num] ++ aX G (ks.drop 1)
  else if kd = 23 then aX G (ks.take 1) ++ ([[40]] ++ aU G (ks.drop 1) ++ [[41]])
  else if kd = 24 then aX G (ks.take 1) ++ ([[91]] ++ aU G (ks.drop 1) ++ [[93]])
  else if kd = 25 then aX G (ks.take 1) ++ [[46], Lib.itoa num]
  else if kd = 31 then [[118, 97, 108], nm, [61]] ++ aX G ks ++ [[59]]
  else if kd = 32 then [[118, 97, 114], nm, [58]] ++ aX G (ks.take 1) ++ (if ks.length <= 1 then [] else [[61]] ++ aX G (ks.drop 1)) ++ [[59]]
  else if kd = 33 then aX G (ks.take 1) ++ [[61]] ++ aX G (ks.drop 1) ++ [[59]]
  else if kd = 34 then aX G (ks.take 1) ++ [[60, 45, 61]] ++ aX G (ks.drop 1) ++ [[59]]
  else if kd = 35 then aX G ks ++ [[59]]
  else if kd = 36 then [[105, 102]] ++ aX G (ks.take 2) ++ (if ks.length <= 2 then [] else [[101, 108, 115, 101]] ++ aX G (ks.drop 2))
  else if kd = 37 then [[119, 104, 105, 108, 101]] ++ aX G ks
  else if kd = 38 then [[114, 101, 116, 117, 114, 110]] ++ aX G ks ++ [[59]]
  else if kd = 39 then [[98, 101, 103, 105, 110]] ++ aX G ks ++ [[59]]
  else if kd = 40 then [[115, 101, 108, 101, 99, 116], [123]] ++ aX G ks ++ [[125]]
  else if kd = 41 then [[123]] ++ aX G ks ++ [[125]]
  else if kd = 42 then [nm, [58]] ++ aX G ks
  else if kd = 43 then [[99, 97, 115, 101]] ++ (if nm = [] then [] else [nm, [61]]) ++ [[60, 45]] ++ aX G ks
  else if kd = 44 then [[99, 97, 115, 101]] ++ aX G (ks.take 1) ++ [[60, 45, 61]] ++ aX G (ks.drop 1)
  else if kd = 45 then [[116, 121, 112, 101], nm, [61]] ++ aX G ks ++ [[59]]
  else if kd = 46 then aX G ks
  else []
theorem vS (G : Nat -> List (List UInt8)) (num : Int) (nm : List UInt8) (ks : List Nat) : bA G 1 num nm ks = [[105, 110, 116]] := rfl
theorem vT (G : Nat -> List (List UInt8)) (num : Int) (nm : List UInt8) (ks : List Nat) : bA G 2 num nm ks = [[98, 111, 111, 108]] := rfl
theorem vU (G : Nat -> List (List UInt8)) (num : Int) (nm : List UInt8) (ks : List Nat) : bA G 3 num nm ks = [nm] := rfl
theorem vV (G : Nat -> List (List UInt8)) (num : Int) (nm : List UInt8) (ks : List Nat) : bA G 4 num nm ks = [[97, 114, 114, 97, 121], [111, 102]] ++ aX G ks := rfl
theorem vW (G : Nat -> List (List UInt8)) (num : Int) (nm : List UInt8) (ks : List Nat) : bA G 5 num nm ks = ([[40]] ++ aU G ks ++ [[41]]) := rfl
theorem vX (G : Nat -> List (List UInt8)) (num : Int) (nm : List UInt8) (ks : List Nat) : bA G 6 num nm ks = [[99, 104, 97, 110], [111, 102]] ++ aX G ks := rfl
theorem nO (G : Nat -> List (List UInt8)) (num : Int) (nm : List UInt8) (ks : List Nat) : bA G 7 num nm ks = [[112, 114, 111, 103]] ++ ([[40]] ++ aU G (ks.take (ks.length - num.toNat)) ++ [[41]]) ++ fZ G (ks.drop (ks.length - num.toNat)) := rfl
theorem rz (G : Nat -> List (List UInt8)) (num : Int) (nm : List UInt8) (ks : List Nat) : bA G 11 num nm ks = [Lib.itoa num] := rfl
theorem nP (G : Nat -> List (List UInt8)) (num : Int) (nm : List UInt8) (ks : List Nat) : bA G 12 num nm ks = [Lib.formatBool (num == 1)] := rfl
theorem rA (G : Nat -> List (List UInt8)) (num : Int) (nm : List UInt8) (ks : List Nat) : bA G 13 num nm ks = [nm] := rfl
theorem rC (G : Nat -> List (List UInt8)) (num : Int) (nm : List UInt8) (ks : List Nat) : bA G 14 num nm ks = ([[40]] ++ aU G ks ++ [[41]]) := rfl
theorem rD (G : Nat -> List (List UInt8)) (num : Int) (nm : List UInt8) (ks : List Nat) : bA G 15 num nm ks = ([[40]] ++ aU G ks ++ [[41]]) := rfl
theorem rE (G : Nat -> List (List UInt8)) (num : Int) (nm : List UInt8) (ks : List Nat) : bA G 16 num nm ks = ([[91]] ++ aU G ks ++ [[93]]) := rfl
theorem rF (G : Nat -> List (List UInt8)) (num : Int) (nm : List UInt8) (ks : List Nat) : bA G 17 num nm ks = [[102, 105, 108, 108]] ++ ([[40]] ++ aU G ks ++ [[41]]) := rfl
theorem rG (G : Nat -> List (List UInt8)) (num : Int) (nm : List UInt8) (ks : List Nat) : bA G 18 num nm ks = [[108, 101, 110]] ++ ([[40]] ++ aU G ks ++ [[41]]) := rfl
theorem rH (G : Nat -> List (List UInt8)) (num : Int) (nm : List UInt8) (ks : List Nat) : bA G 19 num nm ks = [[109, 97, 107, 101]] ++ aX G ks := rfl
theorem jq (G : Nat -> List (List UInt8)) (num : Int) (nm : List UInt8) (ks : List Nat) : bA G 20 num nm ks = [[112, 114, 111, 103]] ++ (if nm = [] then [] else [nm]) ++ ([[40]] ++ aU G (ks.take (ks.length - 1 - num.toNat)) ++ [[41]]) ++ fZ G ((ks.take (ks.length - 1)).drop (ks.length - 1 - num.toNat)) ++ aX G (ks.drop (ks.length - 1)) := rfl
theorem rJ (G : Nat -> List (List UInt8)) (num : Int) (nm : List UInt8) (ks : List Nat) : bA G 21 num nm ks = [opT num] ++ aX G ks := rfl
theorem rM (G : Nat -> List (List UInt8)) (num : Int) (nm : List UInt8) (ks : List Nat) : bA G 22 num nm ks = aX G (ks.take 1) ++ [opT num] ++ aX G (ks.drop 1) := rfl
theorem rO (G : Nat -> List (List UInt8)) (num : Int) (nm : List UInt8) (ks : List Nat) : bA G 23 num nm ks = aX G (ks.take 1) ++ ([[40]] ++ aU G (ks.drop 1) ++ [[41]]) := rfl
theorem rP (G : Nat -> List (List UInt8)) (num : Int) (nm : List UInt8) (ks : List Nat) : bA G 24 num nm ks = aX G (ks.take 1) ++ ([[91]] ++ aU G (ks.drop 1) ++ [[93]]) := rfl
theorem rQ (G : Nat -> List (List UInt8)) (num : Int) (nm : List UInt8) (ks : List Nat) : bA G 25 num nm ks = aX G (ks.take 1) ++ [[46], Lib.itoa num] := rfl
theorem rR (G : Nat -> List (List UInt8)) (num : Int) (nm : List UInt8) (ks : List Nat) : bA G 31 num nm ks = [[118, 97, 108], nm, [61]] ++ aX G ks ++ [[59]] := rfl
theorem lh (G : Nat -> List (List UInt8)) (num : Int) (nm : List UInt8) (ks : List Nat) : bA G 32 num nm ks = [[118, 97, 114], nm, [58]] ++ aX G (ks.take 1) ++ (if ks.length <= 1 then [] else [[61]] ++ aX G (ks.drop 1)) ++ [[59]] := rfl
theorem rT (G : Nat -> List (List UInt8)) (num : Int) (nm : List UInt8) (ks : List Nat) : bA G 33 num nm ks = aX G (ks.take 1) ++ [[61]] ++ aX G (ks.drop 1) ++ [[59]] := rfl
theorem rU (G : Nat -> List (List UInt8)) (num : Int) (nm : List UInt8) (ks : List Nat) : bA G 34 num nm ks = aX G (ks.take 1) ++ [[60, 45, 61]] ++ aX G (ks.drop 1) ++ [[59]] := rfl
theorem rV (G : Nat -> List (List UInt8)) (num : Int) (nm : List UInt8) (ks : List Nat) : bA G 35 num nm ks = aX G ks ++ [[59]] := rfl
theorem ll (G : Nat -> List (List UInt8)) (num : Int) (nm : List UInt8) (ks : List Nat) : bA G 36 num nm ks = [[105, 102]] ++ aX G (ks.take 2) ++ (if ks.length <= 2 then [] else [[101, 108, 115, 101]] ++ aX G (ks.drop 2)) := rfl
theorem rW (G : Nat -> List (List UInt8)) (num : Int) (nm : List UInt8) (ks : List Nat) : bA G 37 num nm ks = [[119, 104, 105, 108, 101]] ++ aX G ks := rfl
theorem nQ (G : Nat -> List (List UInt8)) (num : Int) (nm : List UInt8) (ks : List Nat) : bA G 38 num nm ks = [[114, 101, 116, 117, 114, 110]] ++ aX G ks ++ [[59]] := rfl
theorem rX (G : Nat -> List (List UInt8)) (num : Int) (nm : List UInt8) (ks : List Nat) : bA G 39 num nm ks = [[98, 101, 103, 105, 110]] ++ aX G ks ++ [[59]] := rfl
theorem rY (G : Nat -> List (List UInt8)) (num : Int) (nm : List UInt8) (ks : List Nat) : bA G 40 num nm ks = [[115, 101, 108, 101, 99, 116], [123]] ++ aX G ks ++ [[125]] := rfl
theorem rZ (G : Nat -> List (List UInt8)) (num : Int) (nm : List UInt8) (ks : List Nat) : bA G 41 num nm ks = [[123]] ++ aX G ks ++ [[125]] := rfl
theorem si (G : Nat -> List (List UInt8)) (num : Int) (nm : List UInt8) (ks : List Nat) : bA G 42 num nm ks = [nm, [58]] ++ aX G ks := rfl
theorem lm (G : Nat -> List (List UInt8)) (num : Int) (nm : List UInt8) (ks : List Nat) : bA G 43 num nm ks = [[99, 97, 115, 101]] ++ (if nm = [] then [] else [nm, [61]]) ++ [[60, 45]] ++ aX G ks := rfl
theorem sj (G : Nat -> List (List UInt8)) (num : Int) (nm : List UInt8) (ks : List Nat) : bA G 44 num nm ks = [[99, 97, 115, 101]] ++ aX G (ks.take 1) ++ [[60, 45, 61]] ++ aX G (ks.drop 1) := rfl
theorem su (G : Nat -> List (List UInt8)) (num : Int) (nm : List UInt8) (ks : List Nat) : bA G 45 num nm ks = [[116, 121, 112, 101], nm, [61]] ++ aX G ks ++ [[59]] := rfl
theorem sw (G : Nat -> List (List UInt8)) (num : Int) (nm : List UInt8) (ks : List Nat) : bA G 46 num nm ks = aX G ks := rfl
theorem jr {G G' : Nat -> List (List UInt8)} : ∀ {ks : List Nat}, (∀ k ∈ ks, G k = G' k) -> aX G ks = aX G' ks
  | [], _ => rfl
  | k :: r, h => by
    unfold aX
    rw [List.flatMap_cons, List.flatMap_cons, h k List.mem_cons_self]
    have := jr (ks := r) (fun j hj => h j (List.mem_cons_of_mem _ hj))
    unfold aX at this
    rw [this]
theorem sD {G G' : Nat -> List (List UInt8)} : ∀ {ks : List Nat}, (∀ k ∈ ks, G k = G' k) -> (ks.flatMap fun j => [44] :: G j) = ks.flatMap fun j => [44] :: G' j
  | [], _ => rfl
  | k :: r, h => by
    rw [List.flatMap_cons, List.flatMap_cons, h k List.mem_cons_self, sD (ks := r) (fun j hj => h j (List.mem_cons_of_mem _ hj))]
theorem ku {G G' : Nat -> List (List UInt8)} {ks : List Nat} (h : ∀ k ∈ ks, G k = G' k) : aU G ks = aU G' ks := by
  match ks, h with
  | [], _ => rfl
  | k :: r, h =>
    show G k ++ _ = G' k ++ _
    rw [h k List.mem_cons_self, sD (ks := r) (fun j hj => h j (List.mem_cons_of_mem _ hj))]
theorem sF {G G' : Nat -> List (List UInt8)} {ks : List Nat} (h : ∀ k ∈ ks, G k = G' k) : fZ G ks = fZ G' ks := by
  unfold fZ
  rw [jr h]
theorem o7 {G G' : Nat -> List (List UInt8)} {kd num : Int} {nm : List UInt8} {ks : List Nat} (h : ∀ k ∈ ks, G k = G' k) : bA G kd num nm ks = bA G' kd num nm ks := by
  have t : ∀ n, ∀ k ∈ ks.take n, G k = G' k := fun n k hk => h k (List.mem_of_mem_take hk)
  have d : ∀ n, ∀ k ∈ ks.drop n, G k = G' k := fun n k hk => h k (List.mem_of_mem_drop hk)
  have td : ∀ n m, ∀ k ∈ (ks.take n).drop m, G k = G' k := fun n m k hk => h k (List.mem_of_mem_take (List.mem_of_mem_drop hk))
  have r0 := jr h
  have r1 := fun n => jr (t n)
  have r2 := fun n => jr (d n)
  have i0 := ku h
  have i1 := fun n => ku (t n)
  have i2 := fun n => ku (d n)
  have q2 := fun n => sF (d n)
  have q3 := fun n m => sF (td n m)
  unfold bA
  simp only [r0, r1, r2, i0, i1, i2, q2, q3]
def dS (l : List Nd) (j : Nat) : List Nat := (ndN l j).kids.map Int.toNat
def sG (l : List Nd) : Nat -> Nat -> List (List UInt8)
  | 0, _ => []
  | f + 1, j => bA (sG l f) (ndN l j).kind (ndN l j).num (ndN l j).name.data.toList (dS l j)
def dF (l : List Nd) (j : Nat) : List (List UInt8) := sG l (j + 1) j
theorem sH {l : List Nd} {n : Nat} (hk : ∀ j, j < n -> ∀ k ∈ dS l j, k < j) : ∀ (f f' j : Nat), j < n -> j < f -> j < f' -> sG l f j = sG l f' j
  | 0, _, j, _, h, _ => by omega
  | f + 1, 0, j, _, _, h => by omega
  | f + 1, f' + 1, j, hn, h1, h2 => by
    rw [sG, sG]
    apply o7
    intro k hm
    have := hk j hn k hm
    exact sH hk f f' k (by omega) (by omega) (by omega)
theorem nR {l : List Nd} {n : Nat} (hk : ∀ j, j < n -> ∀ k ∈ dS l j, k < j) {j : Nat} (hj : j < n) :
    dF l j = bA (dF l) (ndN l j).kind (ndN l j).num (ndN l j).name.data.toList (dS l j) := by
  unfold dF
  rw [sG]
  apply o7
  intro k hm
  have := hk j hj k hm
  exact sH hk j (k + 1) k (by omega) (by omega) (by omega)
def gV (G : Nat -> List (List UInt8)) (ks : List Nat) : Nat := (ks.map fun k => cost (G k) + 2).sum
theorem nS (G : Nat -> List (List UInt8)) (a b : List Nat) : gV G (a ++ b) = gV G a + gV G b := by simp [gV]
theorem lY (G : Nat -> List (List UInt8)) : ∀ a : List Nat, gV G a.reverse = gV G a
  | [] => rfl
  | k :: r => by
    rw [List.reverse_cons, nS, lY G r]
    simp [gV]
    omega
theorem o8 (G : Nat -> List (List UInt8)) (a : List Nat) (n : Nat) : gV G (a.take n) + gV G (a.drop n) = gV G a := by
  rw [← nS, List.take_append_drop]
theorem Ao (G : Nat -> List (List UInt8)) : ∀ ks : List Nat, cost (aX G ks) <= gV G ks
  | [] => by simp [aX]
  | k :: r => by
    have := Ao G r
    unfold aX at this ⊢
    rw [List.flatMap_cons, cost_append]
    simp only [gV, List.map_cons, List.sum_cons] at this ⊢
    omega
theorem Bc (G : Nat -> List (List UInt8)) : ∀ ks : List Nat, cost (ks.flatMap fun j => [44] :: G j) <= gV G ks
  | [] => by simp
  | k :: r => by
    have := Bc G r
    rw [List.flatMap_cons, cost_append, cost_cons]
    simp only [gV, List.map_cons, List.sum_cons, List.length_cons, List.length_nil] at this ⊢
    omega
theorem EN (G : Nat -> List (List UInt8)) : ∀ ks : List Nat, cost (aU G ks) <= gV G ks
  | [] => by simp [aU]
  | k :: r => by
    have := Bc G r
    show cost (G k ++ _) <= _
    rw [cost_append]
    simp only [gV, List.map_cons, List.sum_cons] at this ⊢
    omega
theorem Kk (G : Nat -> List (List UInt8)) (ks : List Nat) : cost (fZ G ks) <= gV G ks + 2 := by
  have := Ao G ks
  unfold fZ
  split
  · simp
  · rw [cost_append, cost_cons]
    simp only [List.length_cons, List.length_nil, cost_nil]
    omega
theorem Hw {p : Prop} [Decidable p] {a b : List UInt8} {n : Nat} (h1 : a.length <= n) (h2 : b.length <= n) : (if p then a else b).length <= n := by split <;> assumption
theorem Hy (n : Int) : (opT n).length <= 2 := by
  unfold opT
  repeat (refine Hw (by simp) ?_)
  simp
theorem EO (b : Bool) : (Lib.formatBool b).length <= 5 := by cases b <;> decide +kernel
theorem Hz (nm : List UInt8) : cost (if nm = [] then [] else [nm]) <= nm.length + 1 := by
  split <;> simp
theorem EP (nm : List UInt8) : cost (if nm = [] then [] else [nm, [61]]) <= nm.length + 3 := by
  split <;> simp
theorem Kl {p : Prop} [Decidable p] {a b : List (List UInt8)} {n : Nat} (h1 : cost a <= n) (h2 : cost b <= n) : cost (if p then a else b) <= n := by split <;> assumption
theorem Db (G : Nat -> List (List UInt8)) (kd num : Int) (nm : List UInt8) (ks : List Nat) (h1 : nm.length <= 32) (h2 : (Lib.itoa num).length <= 20) : cost (bA G kd num nm ks) <= 46 + gV G ks := by
  have r := Ao G
  have i := EN G
  have s := o8 G ks
  have q := Kk G
  have o := Hy num
  have b := EO (num == 1)
  have n1 := Hz nm
  have n2 := EP nm
  have r0 := r ks
  have i0 := i ks
  have r1 := r (ks.take 1)
  have r2 := r (ks.drop 1)
  have i2 := i (ks.drop 1)
  have s1 := s 1
  have r3 := r (ks.take 2)
  have r4 := r (ks.drop 2)
  have s2 := s 2
  have i5 := i (ks.take (ks.length - num.toNat))
  have q5 := q (ks.drop (ks.length - num.toNat))
  have s5 := s (ks.length - num.toNat)
  have i6 := i (ks.take (ks.length - 1 - num.toNat))
  have q6 := q ((ks.take (ks.length - 1)).drop (ks.length - 1 - num.toNat))
  have r6 := r (ks.drop (ks.length - 1))
  have s6 := o8 G (ks.take (ks.length - 1)) (ks.length - 1 - num.toNat)
  rw [List.take_take, Nat.min_eq_left (by omega)] at s6
  have s7 := s (ks.length - 1)
  have z1 : cost (if ks.length <= 1 then [] else [[61]] ++ aX G (ks.drop 1)) <= 2 + cost (aX G (ks.drop 1)) := by split <;> simp
  have z2 : cost (if ks.length <= 2 then [] else [[101, 108, 115, 101]] ++ aX G (ks.drop 2)) <= 5 + cost (aX G (ks.drop 2)) := by split <;> simp
  unfold bA
  iterate 38 (refine Kl ?_ ?_; (try simp only [cost_append, cost_cons, cost_nil, List.length_cons, List.length_nil]); omega)
  simp
theorem mO {u : Nat} : ∀ k : Nat, u < 10 ^ (k + 1) -> Lib.nDigits u <= k + 1
  | 0, h => by rw [Lib.nDigits_small (by simpa using h)]; omega
  | k + 1, h => by
    by_cases h10 : u < 10
    · rw [Lib.nDigits_small h10]; omega
    · rw [Lib.nDigits_big h10]
      have := mO (u := u / 10) k (by rw [Nat.pow_succ] at h; omega)
      omega
theorem EQ {n : Int} (h : I64 n) : (Lib.itoa n).length <= 20 := by
  obtain ⟨h1, h2⟩ := h
  unfold Lib.itoa
  split
  · rw [List.length_cons, Lib.decDigits_length]
    have := mO (u := n.natAbs) 18 (Nat.lt_of_le_of_lt (show n.natAbs <= 9223372036854775808 by omega) (by decide +kernel))
    omega
  · rw [Lib.decDigits_length]
    have := mO (u := n.toNat) 18 (Nat.lt_of_le_of_lt (show n.toNat <= 9223372036854775808 by omega) (by decide +kernel))
    omega
theorem uA {G : Nat -> List (List UInt8)} {fs : List Nat} (hle : ∀ j, j < fs.length -> fs.getD j 0 <= j) (hc : ∀ i, i < fs.length -> cost (G i) + 2 <= 64 * (i + 1 - fs.getD i 0)) :
    ∀ (ks : List Int) (nx : Nat), nx <= fs.length -> fM fs nx ks = true -> gV G (ks.map Int.toNat) + 64 * iF fs nx ks <= 64 * nx
  | [], nx, _, _ => by simp [gV, iF]
  | x :: r, nx, hnx, h => by
    rw [fM] at h
    split at h
    · rename_i hx
      obtain ⟨y, rfl⟩ : ∃ y : Nat, x = (y : Int) := ⟨x.toNat, by omega⟩
      have hy : y < fs.length := by omega
      rw [Int.toNat_natCast] at h
      have h1 := hle y hy
      have h2 := hc y hy
      have ih := uA hle hc r (fs.getD y 0) (by omega) h
      simp only [gV, iF, List.map_cons, List.sum_cons, Int.toNat_natCast] at ih ⊢
      omega
    · cases h
theorem Bd {l : List Nd} (hn : ∀ j, j < l.length -> (ndN l j).name.data.toList.length <= 32 /\ I64 (ndN l j).num) (hk : ∀ j, j < l.length -> ∀ k ∈ dS l j, k < j) : ∀ (m : Nat) (fs : List Nat), fs.length + m = l.length -> (∀ i, i < fs.length -> fs.getD i 0 <= i) ->
    (∀ i, i < fs.length -> cost (dF l i) + 2 <= 64 * (i + 1 - fs.getD i 0)) -> (gK l m fs).2 = 0 -> ∀ i, i < l.length -> cost (dF l i) <= 64 * (i + 1)
  | 0, fs, hm, hle, hc, _, i, hi => by
    have := hc i (by omega)
    omega
  | m + 1, fs, hm, hle, hc, h, i, hi => by
    rw [gK] at h
    split at h
    · rename_i hz
      obtain ⟨_, _, _, _, ho, _, _⟩ := ic hz
      have hfl := nI hle ho
      refine Bd hn hk m _ (by simp; omega) (ru hle hz) (fun j hj => ?_) h i hi
      simp only [List.length_append, List.length_cons, List.length_nil] at hj
      by_cases hj2 : j < fs.length
      · have := hc j hj2
        simp only [List.getD_eq_getElem?_getD] at this ⊢
        rw [List.getElem?_append_left hj2]
        exact this
      · have : j = fs.length := by omega
        subst this
        have e : (fs ++ [dQ fs (ndN l fs.length) fs.length]).getD fs.length 0 = dQ fs (ndN l fs.length) fs.length := by simp [List.getD_eq_getElem?_getD]
        rw [e, jA]
        have hs := uA (G := dF l) hle hc (ndN l fs.length).kids.reverse fs.length (Nat.le_refl _) ho
        rw [List.map_reverse, lY] at hs
        rw [jA] at hfl
        obtain ⟨n1, n2⟩ := hn fs.length (by omega)
        rw [nR hk (by omega)]
        have := Db (dF l) (ndN l fs.length).kind (ndN l fs.length).num (ndN l fs.length).name.data.toList (dS l fs.length) n1 (EQ n2)
        unfold dS at this ⊢
        omega
    · rename_i hz
      exact absurd h hz
theorem ER {l : List Nd} (hn : ∀ j, j < l.length -> (ndN l j).name.data.toList.length <= 32 /\ I64 (ndN l j).num) (h : (bG l).2 = 0) (i : Nat) (hi : i < l.length) : cost (dF l i) <= 64 * (i + 1) :=
  Bd hn (fun j hj => (iY h |>.1 j hj).low) l.length [] (by simp) (fun i hi => by cases hi) (fun i hi => by cases hi) h i hi
theorem Km : Ends 32 := ⟨rfl, rfl, rfl, by decide⟩
structure bK (t : List UInt8) : Prop where
  pos : 0 < t.length
  skip : ∀ z, gz false (t ++ z) = 0
  next : bR t 0 = (⟨(bR t 0).1.kind, 0, t.length, (bR t 0).1.num⟩, 0)
  blank : 32 ∉ t
def L8 : List UInt8 -> Bool
  | [] => false
  | c :: r => !il c.toNat && !((c.toNat : Int) == 35) && (bR (c :: r) 0).2 == 0 && (bR (c :: r) 0).1.place == 0 && (bR (c :: r) 0).1.len == (c :: r).length && !(c :: r).contains 32
theorem bZ {t : List UInt8} (h : L8 t = true) : bK t := by
  match t, h with
  | c :: r, h =>
    simp only [L8, Bool.and_eq_true, Bool.not_eq_true', beq_iff_eq] at h
    obtain ⟨⟨⟨⟨⟨h1, h2⟩, h3⟩, h4⟩, h5⟩, h6⟩ := h
    refine ⟨by simp, fun z => ?_, ?_, ?_⟩
    · simp only [List.cons_append, gz]
      rw [if_neg (by rw [h1]; simp), if_neg (by rw [h2]; simp)]
    · generalize bR (c :: r) 0 = x at *
      obtain ⟨⟨k, p, n, m⟩, e⟩ := x
      simp only at h3 h4 h5 ⊢
      rw [h3, h4, h5]
    · intro hm
      rw [← List.contains_iff_mem] at hm
      rw [hm] at h6
      cases h6
theorem o9 : ∀ (T : List (List UInt8)) (n : Nat) (t : List UInt8), dx T n t ≠ 0 -> n <= dx T n t
  | [], n, t, h => absurd rfl h
  | x :: r, n, t, h => by
    simp only [dx] at h ⊢
    split
    · omega
    · rename_i hx
      rw [if_neg hx] at h
      have := o9 r (n + 1) t h
      omega
theorem ES (t : List UInt8) (h : iE t ≠ 0) : 10 <= iE t := o9 _ _ _ h
theorem H7 (l : List UInt8) (h : ¬ (jm l).2 = 0) : 40 <= (jm l).1 := by
  rcases (iN l dL 40 (0, 0)).2.2 with h3 | ⟨i, a1, a2, a3, a4⟩
  · have : jm l = (0, 0) := h3
    rw [this] at h
    simp at h
  · have e : (jm l).1 = 40 + i := a2
    omega
theorem ik {xs : List UInt8} (h : bQ xs = true) : bR xs 0 = (⟨1, 0, xs.length, 0⟩, 0) /\ xs.length <= 32 /\ aJ wbI xs 0 = xs.length /\ 0 < xs.length /\ wsI ((xs.getD 0 0).toNat : Int) = true /\ iE xs = 0 := by
  unfold bQ at h
  have hc : (aB xs).2.2 = 0 := by
    by_cases e : (aB xs).2.2 = 0
    · exact e
    · rw [(yx xs e).1] at h
      simp [jo] at h
  have hcov := (kM xs hc).1
  match ht : (aB xs).1, h with
  | [t], h =>
    rw [ht] at hcov
    simp only [jo, Bool.and_eq_true, beq_iff_eq] at h
    obtain ⟨q1, q2, q3, _⟩ := hcov
    have hlen := jg xs t.place q2 (by rw [q3])
    rw [q3] at hlen
    simp only at hlen
    have hp : t.place = 0 := by omega
    have hl : t.len = xs.length := by omega
    have hk : t.kind = 1 := by omega
    rw [hp] at q3
    have q4 := q3
    unfold bR at q3
    split at q3
    · rename_i hw
      unfold iZ at q3
      split at q3
      · rename_i n1
        have e := (Prod.mk.inj q3).1
        have := ES _ n1
        rw [← e] at hk
        simp only at hk
        omega
      · rename_i n1
        split at q3
        · simp at q3
        · rename_i n2
          have e := (Prod.mk.inj q3).1
          rw [← e] at hl
          simp only [Nat.sub_zero] at hl
          rw [Nat.sub_zero] at n2
          refine ⟨?_, by omega, hl, by omega, hw, ?_⟩
          · rw [q4, ← e]
            simp [hl]
          · have n1' := Classical.not_not.1 n1
            rw [List.drop_zero, Nat.sub_zero, hl, List.take_length] at n1'
            exact n1'
    · split at q3
      · unfold kJ at q3
        repeat' split at q3
        all_goals first
          | (simp at q3; done)
          | (have e := (Prod.mk.inj q3).1
             rw [← e] at hk
             simp at hk)
      · unfold iq at q3
        split at q3
        · simp at q3
        · rename_i n1
          have e := (Prod.mk.inj q3).1
          have := H7 _ n1
          rw [← e] at hk
          simp only at hk
          omega
  | [], h => simp [jo] at h
  | _ :: _ :: _, h => simp [jo] at h
theorem xM {p : Int -> Bool} : ∀ {l : List UInt8}, gy p l = l.length -> ∀ c ∈ l, p c.toNat = true
  | [], _, c, hc => by cases hc
  | b :: r, h, c, hc => by
    simp only [gy] at h
    split at h
    · rename_i hb
      rcases List.mem_cons.1 hc with rfl | hc
      · exact hb
      · exact xM (by simpa using h) c hc
    · simp at h
theorem gH {xs : List UInt8} (h : bQ xs = true) : bK xs := by
  obtain ⟨h1, h2, h3, h4, h5, _⟩ := ik h
  unfold aJ at h3
  rw [List.drop_zero, Nat.zero_add] at h3
  refine ⟨h4, fun z => ?_, by rw [h1], fun hm => ?_⟩
  · match xs, h4, h5 with
    | c :: r, _, h5 =>
      have h5 : wsI (c.toNat : Int) = true := h5
      simp only [List.cons_append, gz]
      have hb : il (c.toNat : Int) = false := by
        unfold wsI at h5
        unfold il
        simp only [Bool.or_eq_true, Bool.and_eq_true, decide_eq_true_eq, beq_iff_eq] at h5
        simp only [Bool.or_eq_false_iff, beq_eq_false_iff_ne]
        omega
      have hr : ((c.toNat : Int) == 35) = false := by
        unfold wsI at h5
        simp only [Bool.or_eq_true, Bool.and_eq_true, decide_eq_true_eq, beq_iff_eq] at h5
        rw [beq_eq_false_iff_ne]
        omega
      rw [if_neg (by rw [hb]; simp), if_neg (by rw [hr]; simp)]
  · have := xM h3 32 hm
    exact absurd this (by decide)
theorem nT (c : UInt8) : ∀ (l : List UInt8) (acc : Nat), eY acc (l ++ [c]) = eY acc l * 10 + (c.toNat - 48)
  | [], acc => rfl
  | b :: r, acc => by
    show eY (acc * 10 + (b.toNat - 48)) (r ++ [c]) = eY (acc * 10 + (b.toNat - 48)) r * 10 + (c.toNat - 48)
    exact nT c r _
theorem kw {u : Nat} (h : u < 10) : (UInt8.ofNat (48 + u)).toNat = 48 + u := by
  rw [UInt8.toNat_ofNat']
  omega
theorem vY {u : Nat} (h : ¬ u < 10) : Lib.decDigits u = Lib.decDigits (u / 10) ++ [UInt8.ofNat (48 + u % 10)] := by
  conv => lhs; rw [Lib.decDigits, dif_neg h]
theorem H8 (u : Nat) : fq (Lib.decDigits u) = u := by
  induction u using Nat.strongRecOn with
  | _ u ih =>
    by_cases h : u < 10
    · rw [Lib.decDigits_one h]
      show 0 * 10 + ((UInt8.ofNat (48 + u)).toNat - 48) = u
      rw [kw h]
      omega
    · rw [vY h]
      have := ih (u / 10) (by omega)
      unfold fq at this ⊢
      rw [nT, this, kw (by omega)]
      omega
theorem uB {u : Nat} (h : u < 10) : cO ((UInt8.ofNat (48 + u)).toNat : Int) = true := by
  rw [kw h]
  unfold cO
  simp only [Bool.and_eq_true, decide_eq_true_eq]
  omega
theorem Be (u : Nat) : ∀ c ∈ Lib.decDigits u, cO c.toNat = true := by
  induction u using Nat.strongRecOn with
  | _ u ih =>
    intro c hc
    by_cases h : u < 10
    · rw [Lib.decDigits_one h, List.mem_singleton] at hc
      subst hc
      exact uB h
    · rw [vY h] at hc
      rcases List.mem_append.1 hc with hc | hc
      · exact ih (u / 10) (by omega) c hc
      · rw [List.mem_singleton] at hc
        subst hc
        exact uB (by omega)
theorem ET (u : Nat) (h0 : 0 < u) : ∃ c r, Lib.decDigits u = c :: r /\ c.toNat ≠ 48 := by
  induction u using Nat.strongRecOn with
  | _ u ih =>
    by_cases h : u < 10
    · rw [Lib.decDigits_one h]
      exact ⟨_, _, rfl, by rw [kw h]; omega⟩
    · rw [vY h]
      obtain ⟨c, r, e, hc⟩ := ih (u / 10) (by omega) (by omega)
      exact ⟨c, r ++ [UInt8.ofNat (48 + u % 10)], by rw [e]; rfl, hc⟩
theorem uC {p : Int -> Bool} : ∀ {l : List UInt8}, (∀ c ∈ l, p c.toNat = true) -> gy p l = l.length
  | [], _ => rfl
  | b :: r, h => by
    simp only [gy, h b List.mem_cons_self, if_true, List.length_cons]
    rw [uC (fun c hc => h c (List.mem_cons_of_mem _ hc))]
theorem EU {u : Nat} (hu : u < 9223372036854775808) : bR (Lib.decDigits u) 0 = (⟨2, 0, (Lib.decDigits u).length, u⟩, 0) := by
  have hl : 0 < (Lib.decDigits u).length := by
    rw [Lib.decDigits_length]
    exact Lib.nDigits_pos u
  have hd := Be u
  have hv := H8 u
  have hh : ¬ (((Lib.decDigits u).getD 0 0).toNat : Int) = 48 ∨ (Lib.decDigits u).length = 1 := by
    by_cases h0 : 0 < u
    · obtain ⟨c, r, e, hc⟩ := ET u h0
      left
      rw [e]
      simp only [List.getD_cons_zero]
      omega
    · right
      rw [Lib.decDigits_one (by omega)]
      rfl
  generalize Lib.decDigits u = t at *
  have hs : aJ cO t 0 = t.length := by
    unfold aJ
    rw [List.drop_zero, uC hd, Nat.zero_add]
  match t, hl with
  | c :: r, hl =>
    have hc := hd c List.mem_cons_self
    have hw : ¬ wsI (((c :: r).getD 0 0).toNat : Int) = true := by
      unfold cO at hc
      unfold wsI
      simp only [Bool.and_eq_true, decide_eq_true_eq] at hc
      simp only [List.getD_cons_zero, Bool.or_eq_true, Bool.and_eq_true, decide_eq_true_eq, beq_iff_eq]
      omega
    have hdc : cO (((c :: r).getD 0 0).toNat : Int) = true := hc
    unfold bR
    rw [if_neg hw, if_pos hdc]
    unfold kJ
    rw [hs, if_neg (fun h => absurd h.1 (by omega)), if_neg (fun h => by
      rcases hh with hh | hh
      · exact hh h.1
      · omega)]
    have hcut : cut (c :: r) 0 (c :: r).length = c :: r := by
      unfold cut
      rw [List.drop_zero, Nat.sub_zero, List.take_length]
    rw [hcut, hv, if_pos hu, Nat.sub_zero]
theorem uD {n : Int} (h0 : 0 <= n) (h : I64 n) : bR (Lib.itoa n) 0 = (⟨2, 0, (Lib.itoa n).length, n.toNat⟩, 0) := by
  obtain ⟨h1, h2⟩ := h
  unfold Lib.itoa
  rw [if_neg (by omega)]
  exact EU (by omega)
theorem xN {n : Int} (h0 : 0 <= n) (h : I64 n) : bK (Lib.itoa n) := by
  have hn := uD h0 h
  unfold Lib.itoa at *
  rw [if_neg (by omega)] at *
  have hl : 0 < (Lib.decDigits n.toNat).length := by
    rw [Lib.decDigits_length]
    exact Lib.nDigits_pos _
  have hd := Be n.toNat
  refine ⟨hl, fun z => ?_, by rw [hn], fun hm => absurd (hd 32 hm) (by decide)⟩
  generalize Lib.decDigits n.toNat = t at *
  match t, hl with
  | c :: r, _ =>
    have hc := hd c List.mem_cons_self
    unfold cO at hc
    simp only [Bool.and_eq_true, decide_eq_true_eq] at hc
    simp only [List.cons_append, gz]
    have hb : il (c.toNat : Int) = false := by
      unfold il
      simp only [Bool.or_eq_false_iff, beq_eq_false_iff_ne]
      omega
    have hr : ((c.toNat : Int) == 35) = false := by
      rw [beq_eq_false_iff_ne]
      omega
    rw [if_neg (by rw [hb]; simp), if_neg (by rw [hr]; simp)]
theorem lM : bK [101, 108, 115, 101] := bZ (by kernel_rfl)
theorem lN : bK [102, 105, 108, 108] := bZ (by kernel_rfl)
theorem xO : bK [105, 102] := bZ (by kernel_rfl)
theorem pJ : bK [105, 110, 116] := bZ (by kernel_rfl)
theorem pK : bK [108, 101, 110] := bZ (by kernel_rfl)
theorem mP : bK [109, 97, 107, 101] := bZ (by kernel_rfl)
theorem xP : bK [111, 102] := bZ (by kernel_rfl)
theorem lQ : bK [112, 114, 111, 103] := bZ (by kernel_rfl)
theorem jf : bK [114, 101, 116, 117, 114, 110] := bZ (by kernel_rfl)
theorem jv : bK [115, 101, 108, 101, 99, 116] := bZ (by kernel_rfl)
theorem lS : bK [116, 121, 112, 101] := bZ (by kernel_rfl)
theorem sI : bK [118, 97, 108] := bZ (by kernel_rfl)
theorem sJ : bK [118, 97, 114] := bZ (by kernel_rfl)
theorem jN : bK [119, 104, 105, 108, 101] := bZ (by kernel_rfl)
theorem H9 : bK [123] := bZ (by kernel_rfl)
theorem Ia : bK [125] := bZ (by kernel_rfl)
theorem Kn : bK [40] := bZ (by kernel_rfl)
theorem Ko : bK [41] := bZ (by kernel_rfl)
theorem EW : bK [44] := bZ (by kernel_rfl)
theorem Kq : bK [46] := bZ (by kernel_rfl)
theorem EY : bK [58] := bZ (by kernel_rfl)
theorem Kr : bK [59] := bZ (by kernel_rfl)
theorem Dc : bK [60, 45] := bZ (by kernel_rfl)
theorem vZ : bK [60, 45, 61] := bZ (by kernel_rfl)
theorem Kt : bK [61] := bZ (by kernel_rfl)
theorem Ku : bK [91] := bZ (by kernel_rfl)
theorem Kv : bK [93] := bZ (by kernel_rfl)
theorem kF : bK [97, 114, 114, 97, 121] := bZ (by kernel_rfl)
theorem ky : bK [98, 101, 103, 105, 110] := bZ (by kernel_rfl)
theorem mQ : bK [98, 111, 111, 108] := bZ (by kernel_rfl)
theorem nU : bK [99, 104, 97, 110] := bZ (by kernel_rfl)
theorem nV : bK [99, 97, 115, 101] := bZ (by kernel_rfl)
theorem Ib {p : Prop} [Decidable p] {a b : List UInt8} (h1 : bK a) (h2 : bK b) : bK (if p then a else b) := by split <;> assumption
theorem Kw (n : Int) : bK (opT n) := by
 unfold opT
 repeat (refine Ib (bZ (by kernel_rfl)) ?_)
 exact bZ (by kernel_rfl)
theorem EZ (b : Bool) : bK (Lib.formatBool b) := by
 cases b
 ·exact bZ (by kernel_rfl)
 ·exact bZ (by kernel_rfl)
def gI (ts : List (List UInt8)) : Prop := ∀ t ∈ ts, bK t
theorem all_nil : gI [] := fun t h => by cases h
theorem all_cons {t : List UInt8} {r : List (List UInt8)} : gI (t :: r) ↔ bK t /\ gI r := by simp [gI]
theorem all_append {a b : List (List UInt8)} : gI (a ++ b) ↔ gI a /\ gI b := by
 unfold gI
 constructor
 ·intro h; exact ⟨fun t ht => h t (List.mem_append_left _ ht), fun t ht => h t (List.mem_append_right _ ht)⟩
 ·rintro ⟨h1, h2⟩ t ht
  rcases List.mem_append.1 ht with ht | ht
  ·exact h1 t ht
  ·exact h2 t ht
theorem pR {G : Nat -> List (List UInt8)} {ks : List Nat} (h : ∀ k ∈ ks, gI (G k)) : gI (aX G ks) := by
 intro t ht
 unfold aX at ht
 obtain ⟨k, hk, ht⟩ := List.mem_flatMap.1 ht
 exact h k hk t ht
theorem oG {G : Nat -> List (List UInt8)} {ks : List Nat} (h : ∀ k ∈ ks, gI (G k)) : gI (aU G ks) := by
 match ks, h with
 | [], _ => exact all_nil
 | k :: r, h =>
  show gI (G k ++ _)
  refine all_append.2 ⟨h k List.mem_cons_self, fun t ht => ?_⟩
  obtain ⟨j, hj, ht⟩ := List.mem_flatMap.1 ht
  rcases List.mem_cons.1 ht with rfl | ht
  ·exact EW
  ·exact h j (List.mem_cons_of_mem _ hj) t ht
theorem Bf {G : Nat -> List (List UInt8)} {ks : List Nat} (h : ∀ k ∈ ks, gI (G k)) : gI (fZ G ks) := by
 unfold fZ
 split
 ·exact all_nil
 ·exact all_append.2 ⟨all_cons.2 ⟨EY, all_nil⟩, pR h⟩
theorem pU {p : Prop} [Decidable p] {a b : List (List UInt8)} (h1 : p -> gI a) (h2 : ¬ p -> gI b) : gI (if p then a else b) := by
 split
 ·exact h1 ‹_›
 ·exact h2 ‹_›
theorem De (G : Nat -> List (List UInt8)) (kd num : Int) (nm : ByteArray) (ks : List Nat) (h : ∀ k ∈ ks, gI (G k)) (hkind : gP kd = true) (hnum : cu kd num ks.length = true) (hname : bN kd nm = true) (hi : I64 num) : gI (bA G kd num nm.data.toList ks) := by
 have t : ∀ n, ∀ k ∈ ks.take n, gI (G k) := fun n k hk => h k (List.mem_of_mem_take hk)
 have d : ∀ n, ∀ k ∈ ks.drop n, gI (G k) := fun n k hk => h k (List.mem_of_mem_drop hk)
 have td : ∀ n m, ∀ k ∈ (ks.take n).drop m, gI (G k) := fun n m k hk => h k (List.mem_of_mem_take (List.mem_of_mem_drop hk))
 have r0 := pR h
 have r1 := fun n => pR (t n)
 have r2 := fun n => pR (d n)
 have i0 := oG h
 have i1 := fun n => oG (t n)
 have i2 := fun n => oG (d n)
 have q2 := fun n => Bf (d n)
 have q3 := fun n m => Bf (td n m)
 have y1 := Kw num
 have y2 := EZ (num == 1)
 have c0 := lM
 have c1 := lN
 have c2 := xO
 have c3 := pJ
 have c4 := pK
 have c5 := mP
 have c6 := xP
 have c7 := lQ
 have c8 := jf
 have c9 := jv
 have c10 := lS
 have c11 := sI
 have c12 := sJ
 have c13 := jN
 have c14 := H9
 have c15 := Ia
 have c16 := Kn
 have c17 := Ko
 have c18 := EW
 have c19 := Kq
 have c20 := EY
 have c21 := Kr
 have c22 := Dc
 have c23 := vZ
 have c24 := Kt
 have c25 := Ku
 have c26 := Kv
 have c27 := kF
 have c28 := ky
 have c29 := mQ
 have c30 := nU
 have c31 := nV
 rcases j5 _ hkind with rfl | rfl | rfl | rfl | rfl | rfl | rfl | rfl | rfl | rfl | rfl | rfl | rfl | rfl | rfl | rfl | rfl | rfl | rfl | rfl | rfl | rfl | rfl | rfl | rfl | rfl | rfl | rfl | rfl | rfl | rfl | rfl | rfl | rfl | rfl | rfl | rfl | rfl
 ·rw [vS]; simp only [all_append, all_cons, all_nil, and_self, *]
 ·rw [vT]; simp only [all_append, all_cons, all_nil, and_self, *]
 ·rw [vU]; have y3 := gH (show bQ nm.data.toList = true from hname); simp only [all_append, all_cons, all_nil, and_self, *]
 ·rw [vV]; simp only [all_append, all_cons, all_nil, and_self, *]
 ·rw [vW]; simp only [all_append, all_cons, all_nil, and_self, *]
 ·rw [vX]; simp only [all_append, all_cons, all_nil, and_self, *]
 ·rw [nO]; simp only [all_append, all_cons, all_nil, and_self, *]
 ·rw [rz]; have y3 := xN (of_decide_eq_true (show decide (0 <= num) = true from hnum)) hi; simp only [all_append, all_cons, all_nil, and_self, *]
 ·rw [nP]; simp only [all_append, all_cons, all_nil, and_self, *]
 ·rw [rA]; have y3 := gH (show bQ nm.data.toList = true from hname); simp only [all_append, all_cons, all_nil, and_self, *]
 ·rw [rC]; simp only [all_append, all_cons, all_nil, and_self, *]
 ·rw [rD]; simp only [all_append, all_cons, all_nil, and_self, *]
 ·rw [rE]; simp only [all_append, all_cons, all_nil, and_self, *]
 ·rw [rF]; simp only [all_append, all_cons, all_nil, and_self, *]
 ·rw [rG]; simp only [all_append, all_cons, all_nil, and_self, *]
 ·rw [rH]; simp only [all_append, all_cons, all_nil, and_self, *]
 ·rw [jq]
  have y4 : gI (if nm.data.toList = [] then [] else [nm.data.toList]) := by
   refine pU (fun _ => all_nil) (fun h0 => ?_)
   have y3 : bK nm.data.toList := by
    have hname : (iV nm || bQ nm.data.toList) = true := hname
    rw [Bool.or_eq_true] at hname
    rcases hname with he | he
    ·unfold iV at he
     rw [ByteArray.toList_eq] at he
     exact absurd (List.isEmpty_iff.1 he) h0
    ·exact gH he
   simp only [all_append, all_cons, all_nil, and_self, *]
  simp only [all_append, all_cons, all_nil, and_self, *]
 ·rw [rJ]; simp only [all_append, all_cons, all_nil, and_self, *]
 ·rw [rM]; simp only [all_append, all_cons, all_nil, and_self, *]
 ·rw [rO]; simp only [all_append, all_cons, all_nil, and_self, *]
 ·rw [rP]; simp only [all_append, all_cons, all_nil, and_self, *]
 ·rw [rQ]; have y3 := xN (of_decide_eq_true (show decide (0 <= num) = true from hnum)) hi; simp only [all_append, all_cons, all_nil, and_self, *]
 ·rw [rR]; have y3 := gH (show bQ nm.data.toList = true from hname); simp only [all_append, all_cons, all_nil, and_self, *]
 ·rw [lh]
  have y3 := gH (show bQ nm.data.toList = true from hname)
  have y4 : gI (if ks.length <= 1 then [] else [[61]] ++ aX G (ks.drop 1)) := pU (fun _ => all_nil) (fun _ => by simp only [all_append, all_cons, all_nil, and_self, *])
  simp only [all_append, all_cons, all_nil, and_self, *]
 ·rw [rT]; simp only [all_append, all_cons, all_nil, and_self, *]
 ·rw [rU]; simp only [all_append, all_cons, all_nil, and_self, *]
 ·rw [rV]; simp only [all_append, all_cons, all_nil, and_self, *]
 ·rw [ll]
  have y4 : gI (if ks.length <= 2 then [] else [[101, 108, 115, 101]] ++ aX G (ks.drop 2)) := pU (fun _ => all_nil) (fun _ => by simp only [all_append, all_cons, all_nil, and_self, *])
  simp only [all_append, all_cons, all_nil, and_self, *]
 ·rw [rW]; simp only [all_append, all_cons, all_nil, and_self, *]
 ·rw [nQ]; simp only [all_append, all_cons, all_nil, and_self, *]
 ·rw [rX]; simp only [all_append, all_cons, all_nil, and_self, *]
 ·rw [rY]; simp only [all_append, all_cons, all_nil, and_self, *]
 ·rw [rZ]; simp only [all_append, all_cons, all_nil, and_self, *]
 ·rw [si]; have y3 := gH (show bQ nm.data.toList = true from hname); simp only [all_append, all_cons, all_nil, and_self, *]
 ·rw [lm]
  have y4 : gI (if nm.data.toList = [] then [] else [nm.data.toList, [61]]) := by
   refine pU (fun _ => all_nil) (fun h0 => ?_)
   have y3 : bK nm.data.toList := by
    have hname : (iV nm || bQ nm.data.toList) = true := hname
    rw [Bool.or_eq_true] at hname
    rcases hname with he | he
    ·unfold iV at he
     rw [ByteArray.toList_eq] at he
     exact absurd (List.isEmpty_iff.1 he) h0
    ·exact gH he
   simp only [all_append, all_cons, all_nil, and_self, *]
  simp only [all_append, all_cons, all_nil, and_self, *]
 ·rw [sj]; simp only [all_append, all_cons, all_nil, and_self, *]
 ·rw [su]; have y3 := gH (show bQ nm.data.toList = true from hname); simp only [all_append, all_cons, all_nil, and_self, *]
 ·rw [sw]; simp only [all_append, all_cons, all_nil, and_self, *]
theorem E5 {l : List Nd} (hok : (bG l).2 = 0) (hw : ∀ j, j < l.length -> I64 (ndN l j).num) : ∀ j, j < l.length -> gI (dF l j) := by
 obtain ⟨hall, _, _⟩ := iY hok
 have hlow : ∀ j, j < l.length -> ∀ k ∈ dS l j, k < j := fun j hj => (hall j hj).low
 intro j
 induction j using Nat.strongRecOn with
 | _ j ih =>
  intro hj
  have h := hall j hj
  rw [nR hlow hj]
  have hnum := h.num
  rw [show (ndN l j).kids.length = (dS l j).length by simp [dS]] at hnum
  exact De (dF l) _ _ _ _ (fun k hk => by have := hlow j hj k hk; exact ih k this (by omega)) h.kind hnum h.name (hw j hj)
theorem E8 {kd : Int} {nm : ByteArray} (h : bN kd nm = true) : nm.data.toList.length <= 32 := by
 unfold bN at h
 have he : ∀ {nm : ByteArray}, iV nm = true -> nm.data.toList.length <= 32 := fun {nm} he => by
  unfold iV at he
  rw [ByteArray.toList_eq] at he
  rw [List.isEmpty_iff.1 he]
  simp
 split at h
 ·rw [Bool.or_eq_true] at h
  rcases h with h | h
  ·exact he h
  ·exact (ik h).2.1
 ·split at h
  ·exact (ik h).2.1
  ·exact he h
theorem uE {l : List Nd} (hok : (bG l).2 = 0) (hw : ∀ j, j < l.length -> I64 (ndN l j).num) (i : Nat) (hi : i < l.length) : cost (dF l i) <= 64 * (i + 1) :=
 ER (fun j hj => ⟨E8 ((iY hok).1 j hj).name, hw j hj⟩) hok i hi
def dP (ts : List (List UInt8)) : List UInt8 := ts.flatMap fun t => 32 :: t
theorem uF : ∀ (ts : List (List UInt8)) (bs : List UInt8), bs ≠ [] -> fI bs ts = bs ++ dP ts
 | [], bs, _ => by simp [xH, dP]
 | t :: r, bs, h => by
  have hl : ¬ bs.length = 0 := fun e => h (List.eq_nil_of_length_eq_zero e)
  rw [jM]
  unfold lL
  rw [if_neg hl, uF r _ (by simp)]
  simp [dP]
theorem mR (t : List UInt8) (r : List (List UInt8)) (ht : 0 < t.length) : fI [] (t :: r) = t ++ dP r := by
 rw [jM]
 have e : lL [] t = t := by simp [lL]
 rw [e]
 exact uF r t (by intro e; rw [e] at ht; simp at ht)
def sK (n : Nat) (t : List UInt8) : Tok := ⟨(bR t 0).1.kind, n, t.length, (bR t 0).1.num⟩
def iD : Nat -> List (List UInt8) -> List Tok
 | _, [] => []
 | n, t :: r => sK n t :: iD (n + t.length + 1) r
theorem xQ {t : List UInt8} (h : bK t) (r : List (List UInt8)) : bR (t ++ dP r) 0 = (sK 0 t, 0) := by
 have e : bR (t ++ dP r) 0 = bR t 0 := by
  match r with
  | [] => simp [dP]
  | u :: r => 
   have : dP (u :: r) = 32 :: (u ++ dP r) := by simp [dP]
   rw [this]
   exact BH 32 Km _ t 0 h.pos
 rw [e]
 exact h.next
theorem pg : ∀ (ts : List (List UInt8)), gI ts -> ∀ pre : List UInt8, iT (pre ++ dP ts) pre.length (iD (pre.length + 1) ts)
 | [], _, pre => by
  show bL (pre ++ dP []) pre.length = _
  rw [pV _ _ (by simp [dP])]
  simp [dP]
 | t :: r, h, pre => by
  obtain ⟨h1, h2⟩ := all_cons.1 h
  have ih := pg r h2 (pre ++ 32 :: t)
  have eA : pre ++ dP (t :: r) = (pre ++ [32]) ++ (t ++ dP r) := by simp [dP]
  have eB : pre ++ dP (t :: r) = (pre ++ 32 :: t) ++ dP r := by simp [dP]
  have eC : pre ++ dP (t :: r) = pre ++ (32 :: (t ++ dP r)) := by simp [dP]
  have e1 : (pre ++ [(32 : UInt8)]).length = pre.length + 1 := by simp
  refine ⟨?_, ?_, ?_, ?_⟩
  ·show bL _ _ = pre.length + 1
   have := yz pre (32 :: (t ++ dP r)) 0
   rw [Nat.add_zero] at this
   rw [eC, this]
   unfold bL
   have hb : il ((32 : UInt8).toNat : Int) = true := rfl
   simp only [List.drop_zero, gz, hb, if_true, h1.skip (dP r)]
  ·show pre.length + 1 < _
   have := h1.pos
   rw [eA]
   simp
   omega
  ·show bR _ (pre.length + 1) = _
   have := DF (pre ++ [32]) (t ++ dP r) 0 _ (xQ h1 r)
   rw [Nat.add_zero, e1] at this
   rw [eA, this]
   simp [ol, sK]
  ·show iT _ (pre.length + 1 + t.length) (iD (pre.length + 1 + t.length + 1) r)
   rw [eB]
   have : (pre ++ 32 :: t).length = pre.length + 1 + t.length := by simp; omega
   rw [this] at ih
   exact ih
theorem Ap : ∀ (ts : List (List UInt8)), gI ts -> iT (fI [] ts) 0 (iD 0 ts)
 | [], _ => rfl
 | t :: r, h => by
  obtain ⟨h1, h2⟩ := all_cons.1 h
  rw [mR t r h1.pos]
  have hp := h1.pos
  refine ⟨?_, ?_, xQ h1 r, ?_⟩
  ·show bL _ 0 = 0
   unfold bL
   rw [List.drop_zero, h1.skip, Nat.zero_add]
  ·show 0 < _
   simp
   omega
  ·show iT _ (0 + t.length) (iD (0 + t.length + 1) r)
   rw [Nat.zero_add]
   exact pg r h2 t
theorem E9 {ts : List (List UInt8)} (h : gI ts) (hl : (fI [] ts).length <= 65536) : aB (fI [] ts) = (iD 0 ts, 0, 0) :=
 wH _ _ (Ap ts h) hl
end Go.Proofs.YtecodpdfckjalaaGreatDoor
namespace Go.Proofs.YtecodpdfckjalaaGreatDoor
theorem fC {α : Type} {s : List α × Bool} (h : iw s = true) : s.2 = false /\ s.1 = [] := by
 unfold iw at h
 simp only [Bool.and_eq_true, Bool.not_eq_true', beq_iff_eq] at h
 exact ⟨h.1, List.eq_nil_of_length_eq_zero h.2⟩
theorem fw {α : Type} {p : α -> Bool} {s : List α × Bool} (h : (bH p s).2 = false) : s.2 = false /\ ∃ a, p a = true /\ s.1 = a :: (bH p s).1 := by
 obtain ⟨l, b⟩ := s
 match l with
 | [] => simp [bH, took] at h
 | a :: r =>
  simp only [bH, took, Bool.or_eq_false_iff, Bool.not_eq_false'] at h
  refine ⟨h.1, a, h.2, ?_⟩
  simp [bH, lI, h.2]
theorem jO {α : Type} {p : α -> Bool} {s : List α × Bool} (h : (dZ p s).2 = false) : s.2 = false /\ ∃ xs, (∀ x ∈ xs, p x = true) /\ s.1 = xs ++ (dZ p s).1 := by
 obtain ⟨l, b⟩ := s
 refine ⟨h, l.takeWhile p, fun x hx => ?_, ?_⟩
 ·induction l with
  | nil => cases hx
  | cons a r ih =>
   rw [List.takeWhile_cons] at hx
   split at hx
   ·rename_i ha
    rcases List.mem_cons.1 hx with rfl | hx
    ·exact ha
    ·exact ih h hx
   ·cases hx
 ·simp only [dZ]
  exact (List.takeWhile_append_dropWhile).symm
theorem wh {α : Type} {p : α -> Bool} {s : List α × Bool} (h : (lJ p s).2 = false) : s.2 = false /\ (s.1 = (lJ p s).1 ∨ ∃ a, p a = true /\ s.1 = a :: (lJ p s).1) := by
 obtain ⟨l, b⟩ := s
 refine ⟨h, ?_⟩
 match l with
 | [] => exact .inl rfl
 | a :: r =>
  by_cases hp : p a = true
  ·exact .inr ⟨a, hp, by simp [lJ, lI, hp]⟩
  ·exact .inl (by simp [lJ, lI, hp])
theorem Df {α : Type} {ks : List α} (h : iw (ks, false) = true) : ks = [] := (fC h).2
theorem oH {α : Type} {p : α -> Bool} {ks : List α} (h : iw (bH p (ks, false)) = true) : ∃ a, p a = true /\ ks = [a] := by
 obtain ⟨h1, h2⟩ := fC h
 obtain ⟨_, a, ha, e⟩ := fw h1
 rw [h2] at e
 exact ⟨a, ha, e⟩
theorem sM {α : Type} {p q : α -> Bool} {ks : List α} (h : iw (bH q (bH p (ks, false))) = true) : ∃ a b, p a = true /\ q b = true /\ ks = [a, b] := by
 obtain ⟨h1, h2⟩ := fC h
 obtain ⟨h3, b, hb, e⟩ := fw h1
 rw [h2] at e
 obtain ⟨_, a, ha, e2⟩ := fw h3
 rw [e] at e2
 exact ⟨a, b, ha, hb, e2⟩
theorem L9 {α : Type} {p q r : α -> Bool} {ks : List α} (h : iw (bH r (bH q (bH p (ks, false)))) = true) : ∃ a b c, p a = true /\ q b = true /\ r c = true /\ ks = [a, b, c] := by
 obtain ⟨h1, h2⟩ := fC h
 obtain ⟨h3, c, hc, e⟩ := fw h1
 rw [h2] at e
 obtain ⟨h4, b, hb, e2⟩ := fw h3
 rw [e] at e2
 obtain ⟨_, a, ha, e3⟩ := fw h4
 rw [e2] at e3
 exact ⟨a, b, c, ha, hb, hc, e3⟩
theorem Ky {α : Type} {p : α -> Bool} {ks : List α} (h : iw (dZ p (ks, false)) = true) : ∀ x ∈ ks, p x = true := by
 obtain ⟨h1, h2⟩ := fC h
 obtain ⟨_, xs, hx, e⟩ := jO h1
 rw [h2, List.append_nil] at e
 simp only at e
 rw [e]
 exact hx
theorem Fa {α : Type} {p q : α -> Bool} {ks : List α} (h : iw (dZ q (bH p (ks, false))) = true) : ∃ a r, p a = true /\ (∀ x ∈ r, q x = true) /\ ks = a :: r := by
 obtain ⟨h1, h2⟩ := fC h
 obtain ⟨h3, xs, hx, e⟩ := jO h1
 rw [h2, List.append_nil] at e
 obtain ⟨_, a, ha, e2⟩ := fw h3
 rw [e] at e2
 exact ⟨a, xs, ha, hx, e2⟩
theorem Jo {α : Type} {p q r : α -> Bool} {ks : List α} (h : iw (dZ r (bH q (bH p (ks, false)))) = true) : ∃ a b xs, p a = true /\ q b = true /\ (∀ x ∈ xs, r x = true) /\ ks = a :: b :: xs := by
 obtain ⟨h1, h2⟩ := fC h
 obtain ⟨h3, xs, hx, e⟩ := jO h1
 rw [h2, List.append_nil] at e
 obtain ⟨h4, b, hb, e2⟩ := fw h3
 rw [e] at e2
 obtain ⟨_, a, ha, e3⟩ := fw h4
 rw [e2] at e3
 exact ⟨a, b, xs, ha, hb, hx, e3⟩
theorem Ma {α : Type} {q : α -> Bool} {ks : List α} (h : iw (lJ q (ks, false)) = true) : ks = [] ∨ ∃ a, q a = true /\ ks = [a] := by
 obtain ⟨h1, h2⟩ := fC h
 obtain ⟨_, e⟩ := wh h1
 rw [h2] at e
 exact e
theorem Jp {α : Type} {p q : α -> Bool} {ks : List α} (h : iw (lJ q (bH p (ks, false))) = true) : (∃ a, p a = true /\ ks = [a]) ∨ ∃ a b, p a = true /\ q b = true /\ ks = [a, b] := by
 obtain ⟨h1, h2⟩ := fC h
 obtain ⟨h3, e⟩ := wh h1
 rw [h2] at e
 obtain ⟨_, a, ha, e2⟩ := fw h3
 rcases e with e | ⟨b, hb, e⟩
 ·rw [e] at e2
  exact .inl ⟨a, ha, e2⟩
 ·rw [e] at e2
  exact .inr ⟨a, b, ha, hb, e2⟩
theorem Jq {α : Type} {p q r : α -> Bool} {ks : List α} (h : iw (lJ r (bH q (bH p (ks, false)))) = true) : (∃ a b, p a = true /\ q b = true /\ ks = [a, b]) ∨ ∃ a b c, p a = true /\ q b = true /\ r c = true /\ ks = [a, b, c] := by
 obtain ⟨h1, h2⟩ := fC h
 obtain ⟨h3, e⟩ := wh h1
 rw [h2] at e
 obtain ⟨h4, b, hb, e2⟩ := fw h3
 obtain ⟨_, a, ha, e3⟩ := fw h4
 rcases e with e | ⟨c, hc, e⟩
 ·rw [e] at e2
  rw [e2] at e3
  exact .inl ⟨a, b, ha, hb, e3⟩
 ·rw [e] at e2
  rw [e2] at e3
  exact .inr ⟨a, b, c, ha, hb, hc, e3⟩
theorem Jr {α : Type} {p q : α -> Bool} {ks : List α} (h : iw (bH q (dZ p (ks, false))) = true) : ∃ r z, (∀ x ∈ r, p x = true) /\ q z = true /\ ks = r ++ [z] := by
 obtain ⟨h1, h2⟩ := fC h
 obtain ⟨h3, z, hz, e⟩ := fw h1
 rw [h2] at e
 obtain ⟨_, xs, hx, e2⟩ := jO h3
 rw [e] at e2
 exact ⟨xs, z, hx, hz, e2⟩
theorem Js {α : Type} {p q r : α -> Bool} {ks : List α} (h : iw (bH r (bH q (dZ p (ks, false)))) = true) : ∃ xs y z, (∀ x ∈ xs, p x = true) /\ q y = true /\ r z = true /\ ks = xs ++ [y, z] := by
 obtain ⟨h1, h2⟩ := fC h
 obtain ⟨h3, z, hz, e⟩ := fw h1
 rw [h2] at e
 obtain ⟨h4, y, hy, e2⟩ := fw h3
 rw [e] at e2
 obtain ⟨_, xs, hx, e3⟩ := jO h4
 rw [e2] at e3
 exact ⟨xs, y, z, hx, hy, hz, e3⟩
theorem xR {α : Type} {p : α -> Bool} : ∀ (n : Nat) {s : List α × Bool}, (kC p n s).2 = false -> s.2 = false /\ ∃ ts, ts.length = n /\ (∀ x ∈ ts, p x = true) /\ s.1 = ts ++ (kC p n s).1
 | 0, s, h => ⟨h, [], rfl, (fun x hx => by cases hx), rfl⟩
 | n + 1, s, h => by
  rw [kC] at h ⊢
  obtain ⟨h1, ts, h2, h3, h4⟩ := xR n h
  obtain ⟨h5, a, ha, e⟩ := fw h1
  refine ⟨h5, a :: ts, by simp [h2], fun x hx => ?_, by rw [e, h4]; rfl⟩
  rcases List.mem_cons.1 hx with rfl | hx
  ·exact ha
  ·exact h3 x hx
theorem MV {α : Type} {p q : α -> Bool} {n : Nat} {ks : List α} (h : iw (dZ q (kC p n (ks, false))) = true) : ∃ ts ss, ts.length = n /\ (∀ x ∈ ts, p x = true) /\ (∀ x ∈ ss, q x = true) /\ ks = ts ++ ss := by
 obtain ⟨h1, h2⟩ := fC h
 obtain ⟨h3, xs, hx, e⟩ := jO h1
 rw [h2, List.append_nil] at e
 obtain ⟨_, ts, h4, h5, h6⟩ := xR n h3
 rw [e] at h6
 exact ⟨ts, xs, h4, h5, hx, h6⟩
end Go.Proofs.YtecodpdfckjalaaGreatDoor
namespace Go.Proofs.YtecodpdfckjalaaGreatDoor
open Go.RowKit
def lZ (l : List Nd) : Nat -> Nat -> Tr
 | 0, _ => .mk 0 0 0 [] []
 | f + 1, j => .mk (ndN l j).kind 0 (ndN l j).num (ndN l j).name.data.toList ((dS l j).map (lZ l f))
def aD (l : List Nd) (j : Nat) : Tr := lZ l (j + 1) j
theorem sN {l : List Nd} {n : Nat} (hk : ∀ j, j < n -> ∀ k ∈ dS l j, k < j) : ∀ (f f' j : Nat), j < n -> j < f -> j < f' -> lZ l f j = lZ l f' j
 | 0, _, j, _, h, _ => by omega
 | f + 1, 0, j, _, _, h => by omega
 | f + 1, f' + 1, j, hn, h1, h2 => by
  have e : (dS l j).map (lZ l f) = (dS l j).map (lZ l f') := by
   apply List.map_congr_left
   intro k hm
   have := hk j hn k hm
   exact sN hk f f' k (by omega) (by omega) (by omega)
  rw [lZ, lZ, e]
theorem xS {l : List Nd} {n : Nat} (hk : ∀ j, j < n -> ∀ k ∈ dS l j, k < j) {j : Nat} (hj : j < n) :
  aD l j = .mk (ndN l j).kind 0 (ndN l j).num (ndN l j).name.data.toList ((dS l j).map (aD l)) := by
 have e : (dS l j).map (lZ l j) = (dS l j).map (aD l) := by
  apply List.map_congr_left
  intro k hm
  have := hk j hj k hm
  exact sN hk j (k + 1) k (by omega) (by omega) (by omega)
 unfold aD
 rw [lZ, e]
 rfl
def aF (t : List UInt8) : ai := ⟨(bR t 0).1.kind, 0, (bR t 0).1.num, t⟩
def tkk (l : List Nd) (k : Nat) : List ai := (dF l k).map aF
def tkR (l : List Nd) (ks : List Nat) : List ai := ks.flatMap (tkk l)
def tkI (l : List Nd) (ks : List Nat) : List ai := (aU (dF l) ks).map aF
theorem bv (l : List Nd) (ks : List Nat) : (aX (dF l) ks).map aF = tkR l ks := by
 unfold aX tkR tkk
 rw [List.map_flatMap]
theorem bB (l : List Nd) (ks : List Nat) : (aU (dF l) ks).map aF = tkI l ks := rfl
theorem dB (l : List Nd) (k : Nat) : tkI l [k] = tkk l k := by simp [tkI, aU, tkk]
theorem di (l : List Nd) (k k' : Nat) (r : List Nat) : tkI l (k :: k' :: r) = tkk l k ++ aF [44] :: tkI l (k' :: r) := by simp [tkI, aU, tkk]
theorem bz (l : List Nd) : tkR l [] = [] := rfl
theorem aV (l : List Nd) (k : Nat) (r : List Nat) : tkR l (k :: r) = tkk l k ++ tkR l r := by simp [tkR]
def lev (l : List Nd) (k : Nat) : Int := bT (ndN l k).kind (ndN l k).num
def Fb (kd : Int) (nm : List UInt8) : Bool :=
 if kd = 20 ∨ kd = 43 then nm.isEmpty || bQ nm
 else if kd = 3 ∨ kd = 13 ∨ kd = 31 ∨ kd = 32 ∨ kd = 42 ∨ kd = 45 then bQ nm
 else nm.isEmpty
theorem tK (k : Int) (nm : ByteArray) : bN k nm = Fb k nm.data.toList := by
 unfold bN Fb iV
 rw [ByteArray.toList_eq]
structure dm (l : List Nd) (j : Nat) (kd num : Int) (nm : List UInt8) (ks : List Nat) : Prop where
 tok : tkk l j = (bA (dF l) kd num nm ks).map aF
 tree : aD l j = .mk kd 0 num nm (ks.map (aD l))
 kind : kdN l j = kd
 lv : lev l j = bT kd num
 numF : cu kd num ks.length = true
 i64 : I64 num
 name : Fb kd nm = true
 fit : aA (kdN l) kd num ks = true
 levs : ∀ i (h : i < ks.length), gJ kd num i <= lev l ks[i]
 beg : kd = 44 -> df l (l.length + 1) (ks.getD 0 0 : Nat) = false
 sub : ∀ f, 22 <= kd -> kd <= 25 -> df l (f + 1) j = df l f (ks.getD 0 0 : Nat)
 own : ∀ f, ¬ (22 <= kd /\ kd <= 25) -> df l (f + 1) j = (kd == 21 && num == 3)
 low : ∀ k ∈ ks, k < j
 lt : j < l.length
theorem uG {l : List Nd} {n : Nd} : ∀ (ks : List Nat) (p : Nat), gQ l n p (ks.map fun k : Nat => (k : Int)) = true -> ∀ i (h : i < ks.length), gJ n.kind n.num (p + i) <= lev l ks[i]
 | k :: r, p, hg, i, h => by
  rw [List.map_cons, gQ] at hg
  split at hg
  ·cases hg
  ·rename_i hn
   match i with
   | 0 =>
    have : ¬ lev l k < gJ n.kind n.num p := hn
    simp only [List.getElem_cons_zero, Nat.add_zero]
    omega
   | i + 1 =>
    have := uG r (p + 1) hg i (by simpa using h)
    rw [show p + 1 + i = p + (i + 1) by omega] at this
    simpa using this
theorem Fe {l : List Nd} (hok : (bG l).2 = 0) (hw : ∀ j, j < l.length -> I64 (ndN l j).num) {j : Nat} (hj : j < l.length) : dm l j (ndN l j).kind (ndN l j).num (ndN l j).name.data.toList (dS l j) := by
 obtain ⟨hall, _, _⟩ := iY hok
 have hlow : ∀ j, j < l.length -> ∀ k ∈ dS l j, k < j := fun j hj => (hall j hj).low
 have h := hall j hj
 have hnat : (dS l j).map (fun k : Nat => (k : Int)) = (ndN l j).kids := h.nat
 have hlen : (ndN l j).kids.length = (dS l j).length := by simp [dS]
 have hnum := h.num
 rw [hlen] at hnum
 have hlv := h.lev
 unfold dY at hlv
 rw [Bool.and_eq_true] at hlv
 have hget : (ndN l j).kids.getD 0 0 = ((dS l j).getD 0 0 : Nat) := by
  rw [← hnat]
  cases dS l j <;> rfl
 refine ⟨?_, xS hlow hj, rfl, rfl, hnum, hw j hj, ?_, h.fit, ?_, ?_, ?_, ?_, hlow j hj, hj⟩
 ·unfold tkk
  rw [nR hlow hj]
 ·have := h.name
  rw [tK] at this
  exact this
 ·intro i hi
  have h1 := hlv.1
  rw [← hnat] at h1
  have := uG (dS l j) 0 h1 i hi
  rw [Nat.zero_add] at this
  exact this
 ·intro hk
  have h2 := hlv.2
  rw [hk, hget] at h2
  simpa using h2
 ·intro f h1 h2
  rw [df, kZ, if_pos ⟨h1, h2⟩, hget]
 ·intro f hn
  rw [df, kZ, if_neg hn]
theorem k10 : (aF [97, 114, 114, 97, 121]).kind = 10 := by kernel_rfl
theorem k11 : (aF [98, 101, 103, 105, 110]).kind = 11 := by kernel_rfl
theorem k12 : (aF [98, 111, 111, 108]).kind = 12 := by kernel_rfl
theorem k13 : (aF [99, 97, 115, 101]).kind = 13 := by kernel_rfl
theorem k14 : (aF [99, 104, 97, 110]).kind = 14 := by kernel_rfl
theorem k15 : (aF [101, 108, 115, 101]).kind = 15 := by kernel_rfl
theorem k16 : (aF [102, 97, 108, 115, 101]).kind = 16 := by kernel_rfl
theorem k17 : (aF [102, 105, 108, 108]).kind = 17 := by kernel_rfl
theorem k18 : (aF [105, 102]).kind = 18 := by kernel_rfl
theorem k19 : (aF [105, 110, 116]).kind = 19 := by kernel_rfl
theorem k20 : (aF [108, 101, 110]).kind = 20 := by kernel_rfl
theorem k21 : (aF [109, 97, 107, 101]).kind = 21 := by kernel_rfl
theorem k22 : (aF [111, 102]).kind = 22 := by kernel_rfl
theorem k23 : (aF [112, 114, 111, 103]).kind = 23 := by kernel_rfl
theorem k24 : (aF [114, 101, 116, 117, 114, 110]).kind = 24 := by kernel_rfl
theorem k25 : (aF [115, 101, 108, 101, 99, 116]).kind = 25 := by kernel_rfl
theorem k26 : (aF [116, 114, 117, 101]).kind = 26 := by kernel_rfl
theorem k27 : (aF [116, 121, 112, 101]).kind = 27 := by kernel_rfl
theorem k28 : (aF [118, 97, 108]).kind = 28 := by kernel_rfl
theorem k29 : (aF [118, 97, 114]).kind = 29 := by kernel_rfl
theorem k30 : (aF [119, 104, 105, 108, 101]).kind = 30 := by kernel_rfl
theorem k40 : (aF [40]).kind = 40 := by kernel_rfl
theorem k41 : (aF [41]).kind = 41 := by kernel_rfl
theorem k42 : (aF [91]).kind = 42 := by kernel_rfl
theorem k43 : (aF [93]).kind = 43 := by kernel_rfl
theorem k44 : (aF [123]).kind = 44 := by kernel_rfl
theorem k45 : (aF [125]).kind = 45 := by kernel_rfl
theorem k46 : (aF [44]).kind = 46 := by kernel_rfl
theorem k47 : (aF [59]).kind = 47 := by kernel_rfl
theorem k48 : (aF [58]).kind = 48 := by kernel_rfl
theorem k49 : (aF [46]).kind = 49 := by kernel_rfl
theorem k50 : (aF [61]).kind = 50 := by kernel_rfl
theorem k51 : (aF [61, 61]).kind = 51 := by kernel_rfl
theorem k52 : (aF [33, 61]).kind = 52 := by kernel_rfl
theorem k53 : (aF [60]).kind = 53 := by kernel_rfl
theorem k54 : (aF [60, 61]).kind = 54 := by kernel_rfl
theorem k55 : (aF [62]).kind = 55 := by kernel_rfl
theorem k56 : (aF [62, 61]).kind = 56 := by kernel_rfl
theorem k57 : (aF [43]).kind = 57 := by kernel_rfl
theorem k58 : (aF [45]).kind = 58 := by kernel_rfl
theorem k59 : (aF [42]).kind = 59 := by kernel_rfl
theorem k60 : (aF [47]).kind = 60 := by kernel_rfl
theorem k61 : (aF [37]).kind = 61 := by kernel_rfl
theorem k62 : (aF [38, 38]).kind = 62 := by kernel_rfl
theorem k63 : (aF [124, 124]).kind = 63 := by kernel_rfl
theorem k64 : (aF [33]).kind = 64 := by kernel_rfl
theorem k65 : (aF [60, 45]).kind = 65 := by kernel_rfl
theorem k66 : (aF [60, 45, 61]).kind = 66 := by kernel_rfl
theorem pm {nm : List UInt8} (h : bQ nm = true) : (aF nm).kind = 1 := by
 unfold aF
 rw [(ik h).1]
theorem Mc {n : Int} (h0 : 0 <= n) (h : I64 n) : (aF (Lib.itoa n)).kind = 2 /\ ((aF (Lib.itoa n)).num : Int) = n := by
 unfold aF
 rw [uD h0 h]
 exact ⟨rfl, by simp only; omega⟩
def Bg (c : Nat) : Bool := c != 40 && c != 42 && c != 49 && c != 48 && fe c == 0
def Stop (s : List ai) : Prop := kd s ≠ 40 /\ kd s ≠ 42 /\ kd s ≠ 49 /\ kd s ≠ 48
def End (s : List ai) : Prop := Bg (kd s) = true
theorem fD {t : ai} {r : List ai} {c : Nat} (h : t.kind = c) (hb : Bg c = true) : End (t :: r) := by
 show Bg t.kind = true
 rw [h]
 exact hb
theorem End.stop {s : List ai} (h : End s) : Stop s /\ fe (kd s) = 0 := by
 unfold End Bg at h
 simp only [Bool.and_eq_true, bne_iff_ne, ne_eq, beq_iff_eq] at h
 obtain ⟨⟨⟨⟨h1, h2⟩, h3⟩, h4⟩, h5⟩ := h
 exact ⟨⟨h1, h2, h3, h4⟩, h5⟩
def jG (c : Nat) : Bool := c == 58 || c == 64 || c == 65 || c == 26 || c == 16 || c == 40 || c == 42 || c == 17 || c == 20 || c == 21 || c == 23 || c == 2 || c == 1
def oI (c : Nat) : Bool := c == 28 || c == 29 || c == 18 || c == 30 || c == 24 || c == 11 || c == 25 || c == 44 || jG c
theorem jP {c : Nat} (h : jG c = true) : c ≠ 28 /\ c ≠ 29 /\ c ≠ 18 /\ c ≠ 30 /\ c ≠ 24 /\ c ≠ 11 /\ c ≠ 25 /\ c ≠ 44 /\ c ≠ 15 /\ c ≠ 45 /\ c ≠ 47 /\ c ≠ 41 /\ c ≠ 43 /\ c ≠ 27 := by
 unfold jG at h
 simp only [Bool.or_eq_true, beq_iff_eq] at h
 omega
theorem lG {c : Nat} (h : oI c = true) : c ≠ 15 /\ c ≠ 45 /\ c ≠ 27 := by
 unfold oI jG at h
 simp only [Bool.or_eq_true, beq_iff_eq] at h
 omega
def nW (l : List Nd) (k : Nat) : Int := if kdN l k = 22 then (if lev l k = 3 then 2 else lev l k) else 5
structure Md (l : List Nd) (k : Nat) : Prop where
 ex : ∃ t r, tkk l k = t :: r /\ jG t.kind = true /\ (7 <= lev l k -> t.kind ≠ 58 /\ t.kind ≠ 64 /\ t.kind ≠ 65) /\ (t.kind = 65 -> ∀ f, k < f -> df l f k = true) /\ (t.kind = 1 -> r = [] ∨ ∃ u r', r = u :: r' /\ u.kind ≠ 50)
structure bE (l : List Nd) (k : Nat) : Prop where
 typ : fF (kdN l k) = true -> ∀ rest, kd rest ≠ 48 -> P .typ (tkk l k ++ rest) [aD l k] rest
 fT : fF (kdN l k) = true -> ∃ t r, tkk l k = t :: r /\ t.kind ≠ 41
 chan : kdN l k = 6 -> ∀ rest, kd rest ≠ 48 -> P .chanT (tkk l k ++ rest) [aD l k] rest
 post : 7 <= lev l k -> ∀ rest a s', kd rest ≠ 48 -> P (.post [aD l k]) rest a s' -> P .postfix (tkk l k ++ rest) a s'
 un : 6 <= lev l k -> ∀ rest, Stop rest -> P .unary (tkk l k ++ rest) [aD l k] rest
 ops : 1 <= lev l k -> ∀ least rest a s', least <= lev l k -> Stop rest -> (kdN l k = 22 -> aP (fe (kd rest)) <= lev l k) -> P (.ops least [aD l k] (nW l k)) rest a s' -> P (.operands least) (tkk l k ++ rest) a s'
 pos : bq (kdN l k) = true -> 1 <= lev l k
 fst : bq (kdN l k) = true -> Md l k
 par : kdN l k = 42 -> (∀ rest, kd rest ≠ 48 -> P .param (tkk l k ++ rest) [aD l k] rest) /\ ∃ t r, tkk l k = t :: r /\ t.kind = 1
 blk : kdN l k = 41 -> (∀ rest, P .block (tkk l k ++ rest) [aD l k] rest) /\ ∃ t r, tkk l k = t :: r /\ t.kind = 44
 br : kdN l k = 36 -> (∀ rest, kd rest ≠ 15 -> P .branch (tkk l k ++ rest) [aD l k] rest) /\ ∃ t r, tkk l k = t :: r /\ t.kind = 18
 st : gL (kdN l k) = true -> (∀ rest, kd rest ≠ 15 -> P .stmt (tkk l k ++ rest) [aD l k] rest) /\ ∃ t r, tkk l k = t :: r /\ oI t.kind = true
 arm : om (kdN l k) = true -> (∀ rest, P .arm (tkk l k ++ rest) [aD l k] rest) /\ ∃ t r, tkk l k = t :: r /\ t.kind = 13
 tyn : kdN l k = 45 -> (∀ rest, P .tyn (tkk l k ++ rest) [aD l k] rest) /\ ∃ t r, tkk l k = t :: r /\ t.kind = 27
theorem dX {l : List Nd} {k : Nat} (h : bE l k) (he : bq (kdN l k) = true) {rest : List ai} (hr : End rest) : P (.operands 1) (tkk l k ++ rest) [aD l k] rest := by
 obtain ⟨h1, h2⟩ := hr.stop
 have hp := h.pos he
 have e0 : aP (fe (kd rest)) = 0 := by rw [h2]; rfl
 exact h.ops hp 1 rest _ _ hp h1 (fun _ => by omega) (ED (.inl (by omega)))
theorem gm {t : ai} {r s : List ai} {x : List ai} (h : x = t :: r) : kd (x ++ s) = t.kind := by rw [h]; rfl
theorem Ff {l : List Nd} {j : Nat} (h6 : 6 <= lev l j) (hk : kdN l j ≠ 22) (hu : ∀ rest, Stop rest -> P .unary (tkk l j ++ rest) [aD l j] rest) :
  ∀ least rest a s', least <= lev l j -> Stop rest -> (kdN l j = 22 -> aP (fe (kd rest)) <= lev l j) -> P (.ops least [aD l j] (nW l j)) rest a s' -> P (.operands least) (tkk l j ++ rest) a s' := by
 intro least rest a s' _ hs _ h
 have e : nW l j = 5 := by unfold nW; rw [if_neg hk]
 rw [e] at h
 exact Am (hu rest hs) h
theorem Bh {l : List Nd} {j : Nat} (hp : ∀ rest a s', kd rest ≠ 48 -> P (.post [aD l j]) rest a s' -> P .postfix (tkk l j ++ rest) a s') (hf : ∃ t r, tkk l j = t :: r /\ t.kind ≠ 58 /\ t.kind ≠ 64 /\ t.kind ≠ 65) :
  ∀ rest, Stop rest -> P .unary (tkk l j ++ rest) [aD l j] rest := by
 intro rest hs
 obtain ⟨t, r, e, h1, h2, h3⟩ := hf
 have hk := gm (s := rest) e
 exact LM (by omega) (by omega) (by omega) (hp rest _ _ hs.2.2.2 (GU hs.1 hs.2.1 hs.2.2.1))
theorem jQ {l : List Nd} (o : One) : ∀ (ks : List Nat), ks ≠ [] -> (∀ k ∈ ks, ∀ rest, kd rest = 46 ∨ kd rest = 41 ∨ kd rest = 43 -> P (.of o) (tkk l k ++ rest) [aD l k] rest) -> ∀ rest, kd rest = 41 ∨ kd rest = 43 -> P (.parted o) (tkI l ks ++ rest) (ks.map (aD l)) rest
 | [], hne, _, _, _ => absurd rfl hne
 | [k], _, h, rest, hr => by
  rw [dB]
  exact A9 (h k List.mem_cons_self rest (.inr hr)) (by omega)
 | k :: k' :: r, _, h, rest, hr => by
  rw [di, List.append_assoc, List.cons_append]
  have ih := jQ o (k' :: r) (by simp) (fun x hx => h x (List.mem_cons_of_mem _ hx)) rest hr
  have hk : kd (aF [44] :: (tkI l (k' :: r) ++ rest)) = 46 := k46
  exact GL k46 (h k List.mem_cons_self _ (.inl hk)) ih
theorem Dg {l : List Nd} {k : Nat} {r : List Nat} {t : ai} {z : List ai} (h : tkk l k = t :: z) (s : List ai) : kd (tkI l (k :: r) ++ s) = t.kind := by
 cases r with
 | nil => rw [dB]; exact gm h
 | cons k' r => rw [di, List.append_assoc]; exact gm h
theorem lH {l : List Nd} (o : One) (ks : List Nat) (h : ∀ k ∈ ks, ∀ rest, kd rest = 46 ∨ kd rest = 41 ∨ kd rest = 43 -> P (.of o) (tkk l k ++ rest) [aD l k] rest) (hf : ∀ k ∈ ks, ∃ t r, tkk l k = t :: r /\ t.kind ≠ 41) (rest : List ai) :
  P (.listed o) (aF [40] :: (tkI l ks ++ aF [41] :: rest)) (ks.map (aD l)) rest := by
 match ks, h, hf with
 | [], _, _ => exact GM k40 k41
 | k :: r, h, hf =>
  obtain ⟨t, z, e, ht⟩ := hf k List.mem_cons_self
  exact GN k40 k41 (by rw [Dg e]; exact ht) (jQ o (k :: r) (by simp) h _ (.inl k41))
theorem Aq {l : List Nd} {ks : List Nat} (IH : ∀ k ∈ ks, bE l k) (ht : ∀ k ∈ ks, fF (kdN l k) = true) : ∀ k ∈ ks, ∀ rest, kd rest = 46 ∨ kd rest = 41 ∨ kd rest = 43 -> P (.of .typ) (tkk l k ++ rest) [aD l k] rest :=
 fun k hk rest hr => (IH k hk).typ (ht k hk) rest (by omega)
theorem wm {l : List Nd} {ks : List Nat} (IH : ∀ k ∈ ks, bE l k) (ht : ∀ k ∈ ks, bq (kdN l k) = true) : ∀ k ∈ ks, ∀ rest, kd rest = 46 ∨ kd rest = 41 ∨ kd rest = 43 -> P (.of .expr) (tkk l k ++ rest) [aD l k] rest :=
 fun k hk rest hr => dX (IH k hk) (ht k hk) (by unfold End; rcases hr with h | h | h <;> rw [h] <;> rfl)
theorem Ar {l : List Nd} {ks : List Nat} (IH : ∀ k ∈ ks, bE l k) (ht : ∀ k ∈ ks, bq (kdN l k) = true) : ∀ k ∈ ks, ∃ t r, tkk l k = t :: r /\ t.kind ≠ 41 := fun k hk => by
 obtain ⟨t, r, e, h1, _⟩ := ((IH k hk).fst (ht k hk)).ex
 have := jP h1
 exact ⟨t, r, e, by omega⟩
theorem xU {l : List Nd} : ∀ (ks : List Nat), (∀ k ∈ ks, bE l k) -> (∀ k ∈ ks, gL (kdN l k) = true) -> ∀ rest, P .stmts (tkR l ks ++ aF [125] :: rest) (ks.map (aD l)) rest
 | [], _, _, rest => EE k45
 | k :: r, IH, ht, rest => by
  have ih := xU r (fun x hx => IH x (List.mem_cons_of_mem _ hx)) (fun x hx => ht x (List.mem_cons_of_mem _ hx)) rest
  obtain ⟨h1, t, z, e, hs⟩ := (IH k List.mem_cons_self).st (ht k List.mem_cons_self)
  have hn := lG hs
  rw [aV, List.append_assoc]
  have hk := gm (s := tkR l r ++ aF [125] :: rest) e
  refine EF (by omega) (h1 _ ?_) ih
  cases r with
  | nil =>
   show kd (aF [125] :: rest) ≠ 15
   have : kd (aF [125] :: rest) = 45 := k45
   omega
  | cons k' r =>
   obtain ⟨_, t', z', e', hs'⟩ := (IH k' (by simp)).st (ht k' (by simp))
   have hn' := lG hs'
   rw [aV, List.append_assoc, gm e']
   omega
theorem Bi {l : List Nd} : ∀ (ks : List Nat), (∀ k ∈ ks, bE l k) -> (∀ k ∈ ks, om (kdN l k) = true) -> ∀ rest, P .arms (tkR l ks ++ aF [125] :: rest) (ks.map (aD l)) rest
 | [], _, _, rest => He k45
 | k :: r, IH, ht, rest => by
  have ih := Bi r (fun x hx => IH x (List.mem_cons_of_mem _ hx)) (fun x hx => ht x (List.mem_cons_of_mem _ hx)) rest
  obtain ⟨h1, t, z, e, hs⟩ := (IH k List.mem_cons_self).arm (ht k List.mem_cons_self)
  rw [aV, List.append_assoc]
  have hk := gm (s := tkR l r ++ aF [125] :: rest) e
  exact Hf (by omega) (h1 _) ih
theorem Bj {l : List Nd} (eof : ai) (he : eof.kind = 0) : ∀ (ks : List Nat), (∀ k ∈ ks, bE l k) -> (∀ k ∈ ks, gL (kdN l k) = true) -> P .tops (tkR l ks ++ [eof]) (ks.map (aD l)) [eof]
 | [], _, _ => Ho (by simp [bz])
 | k :: r, IH, ht => by
  have ih := Bj eof he r (fun x hx => IH x (List.mem_cons_of_mem _ hx)) (fun x hx => ht x (List.mem_cons_of_mem _ hx))
  obtain ⟨h1, t, z, e, hs⟩ := (IH k List.mem_cons_self).st (ht k List.mem_cons_self)
  rw [aV, List.append_assoc]
  refine Hq (by rw [e]; simp; omega) (h1 _ ?_) ih
  cases r with
  | nil =>
   show kd [eof] ≠ 15
   have : kd [eof] = eof.kind := rfl
   omega
  | cons k' r =>
   obtain ⟨_, t', z', e', hs'⟩ := (IH k' (by simp)).st (ht k' (by simp))
   have hn' := lG hs'
   rw [aV, List.append_assoc, gm e']
   omega
theorem xV {l : List Nd} {rest : List ai} (hr : kd rest ≠ 27) : ∀ (ks : List Nat), (∀ k ∈ ks, bE l k) -> (∀ k ∈ ks, kdN l k = 45) -> P .types (tkR l ks ++ rest) (ks.map (aD l)) rest
 | [], _, _ => EI hr
 | k :: r, IH, ht => by
  have ih := xV hr r (fun x hx => IH x (List.mem_cons_of_mem _ hx)) (fun x hx => ht x (List.mem_cons_of_mem _ hx))
  obtain ⟨h1, t, z, e, hs⟩ := (IH k List.mem_cons_self).tyn (ht k List.mem_cons_self)
  rw [aV, List.append_assoc]
  have hk := gm (s := tkR l r ++ rest) e
  exact EJ (by omega) (h1 _) ih
theorem Kz {l : List Nd} {j : Nat} {num : Int} {nm : List UInt8} {ks : List Nat} (F : dm l j 1 num nm ks) (IH : ∀ x ∈ ks, bE l x) : bE l j := by
 obtain rfl : num = 0 := by simpa using (show (num == 0) = true from F.numF)
 obtain rfl : nm = [] := List.isEmpty_iff.1 (show nm.isEmpty = true from F.name)
 obtain rfl := Df (show iw (ks, false) = true from F.fit)
 have ht : tkk l j = [aF [105, 110, 116]] := by
  rw [F.tok, vS]
  simp only [List.map_append, List.map_cons, List.map_nil, bv, bB, aV, bz, dB, di, List.append_nil, List.cons_append, List.nil_append, List.append_assoc, List.take_succ_cons, List.take_zero, List.drop_succ_cons, List.drop_zero]
 have ha : aD l j = .mk 1 0 0 [] [] := F.tree
 refine ⟨?_, ?_, ?_, ?_, ?_, ?_, ?_, ?_, ?_, ?_, ?_, ?_, ?_, ?_⟩
 ·intro _ rest hr; rw [ha, ht]; exact LG k19
 ·exact fun _ => ⟨_, _, ht, by rw [k19]; decide⟩
 ·intro h; rw [F.kind] at h; exact absurd h (by decide)
 ·intro h; rw [F.lv] at h; exact absurd (show (7 : Int) <= 0 from h) (by decide)
 ·intro h; rw [F.lv] at h; exact absurd (show (6 : Int) <= 0 from h) (by decide)
 ·intro h; rw [F.lv] at h; exact absurd (show (1 : Int) <= 0 from h) (by decide)
 ·intro h; rw [F.kind] at h; exact absurd h (by decide)
 ·intro h; rw [F.kind] at h; exact absurd h (by decide)
 ·intro h; rw [F.kind] at h; exact absurd h (by decide)
 ·intro h; rw [F.kind] at h; exact absurd h (by decide)
 ·intro h; rw [F.kind] at h; exact absurd h (by decide)
 ·intro h; rw [F.kind] at h; exact absurd h (by decide)
 ·intro h; rw [F.kind] at h; exact absurd h (by decide)
 ·intro h; rw [F.kind] at h; exact absurd h (by decide)
theorem KC {l : List Nd} {j : Nat} {num : Int} {nm : List UInt8} {ks : List Nat} (F : dm l j 2 num nm ks) (IH : ∀ x ∈ ks, bE l x) : bE l j := by
 obtain rfl : num = 0 := by simpa using (show (num == 0) = true from F.numF)
 obtain rfl : nm = [] := List.isEmpty_iff.1 (show nm.isEmpty = true from F.name)
 obtain rfl := Df (show iw (ks, false) = true from F.fit)
 have ht : tkk l j = [aF [98, 111, 111, 108]] := by
  rw [F.tok, vT]
  simp only [List.map_append, List.map_cons, List.map_nil, bv, bB, aV, bz, dB, di, List.append_nil, List.cons_append, List.nil_append, List.append_assoc, List.take_succ_cons, List.take_zero, List.drop_succ_cons, List.drop_zero]
 have ha : aD l j = .mk 2 0 0 [] [] := F.tree
 refine ⟨?_, ?_, ?_, ?_, ?_, ?_, ?_, ?_, ?_, ?_, ?_, ?_, ?_, ?_⟩
 ·intro _ rest hr; rw [ha, ht]; exact J2 k12
 ·exact fun _ => ⟨_, _, ht, by rw [k12]; decide⟩
 ·intro h; rw [F.kind] at h; exact absurd h (by decide)
 ·intro h; rw [F.lv] at h; exact absurd (show (7 : Int) <= 0 from h) (by decide)
 ·intro h; rw [F.lv] at h; exact absurd (show (6 : Int) <= 0 from h) (by decide)
 ·intro h; rw [F.lv] at h; exact absurd (show (1 : Int) <= 0 from h) (by decide)
 ·intro h; rw [F.kind] at h; exact absurd h (by decide)
 ·intro h; rw [F.kind] at h; exact absurd h (by decide)
 ·intro h; rw [F.kind] at h; exact absurd h (by decide)
 ·intro h; rw [F.kind] at h; exact absurd h (by decide)
 ·intro h; rw [F.kind] at h; exact absurd h (by decide)
 ·intro h; rw [F.kind] at h; exact absurd h (by decide)
 ·intro h; rw [F.kind] at h; exact absurd h (by decide)
 ·intro h; rw [F.kind] at h; exact absurd h (by decide)
theorem KD {l : List Nd} {j : Nat} {num : Int} {nm : List UInt8} {ks : List Nat} (F : dm l j 3 num nm ks) (IH : ∀ x ∈ ks, bE l x) : bE l j := by
 obtain rfl : num = 0 := by simpa using (show (num == 0) = true from F.numF)
 have hnm : bQ nm = true := F.name
 have kn := pm hnm
 obtain rfl := Df (show iw (ks, false) = true from F.fit)
 have ht : tkk l j = [aF nm] := by
  rw [F.tok, vU]
  simp only [List.map_append, List.map_cons, List.map_nil, bv, bB, aV, bz, dB, di, List.append_nil, List.cons_append, List.nil_append, List.append_assoc, List.take_succ_cons, List.take_zero, List.drop_succ_cons, List.drop_zero]
 have ha : aD l j = .mk 3 0 0 nm [] := F.tree
 refine ⟨?_, ?_, ?_, ?_, ?_, ?_, ?_, ?_, ?_, ?_, ?_, ?_, ?_, ?_⟩
 ·intro _ rest hr; rw [ha, ht]; exact GK kn
 ·exact fun _ => ⟨_, _, ht, by rw [kn]; decide⟩
 ·intro h; rw [F.kind] at h; exact absurd h (by decide)
 ·intro h; rw [F.lv] at h; exact absurd (show (7 : Int) <= 0 from h) (by decide)
 ·intro h; rw [F.lv] at h; exact absurd (show (6 : Int) <= 0 from h) (by decide)
 ·intro h; rw [F.lv] at h; exact absurd (show (1 : Int) <= 0 from h) (by decide)
 ·intro h; rw [F.kind] at h; exact absurd h (by decide)
 ·intro h; rw [F.kind] at h; exact absurd h (by decide)
 ·intro h; rw [F.kind] at h; exact absurd h (by decide)
 ·intro h; rw [F.kind] at h; exact absurd h (by decide)
 ·intro h; rw [F.kind] at h; exact absurd h (by decide)
 ·intro h; rw [F.kind] at h; exact absurd h (by decide)
 ·intro h; rw [F.kind] at h; exact absurd h (by decide)
 ·intro h; rw [F.kind] at h; exact absurd h (by decide)
theorem KE {l : List Nd} {j : Nat} {num : Int} {nm : List UInt8} {ks : List Nat} (F : dm l j 4 num nm ks) (IH : ∀ x ∈ ks, bE l x) : bE l j := by
 obtain rfl : num = 0 := by simpa using (show (num == 0) = true from F.numF)
 obtain rfl : nm = [] := List.isEmpty_iff.1 (show nm.isEmpty = true from F.name)
 have hfit := F.fit
 unfold aA at hfit
 rw [um] at hfit
 obtain ⟨k0, h0, rfl⟩ := oH hfit
 have ht : tkk l j = aF [97, 114, 114, 97, 121] :: aF [111, 102] :: tkk l k0 := by
  rw [F.tok, vV]
  simp only [List.map_append, List.map_cons, List.map_nil, bv, bB, aV, bz, dB, di, List.append_nil, List.cons_append, List.nil_append, List.append_assoc, List.take_succ_cons, List.take_zero, List.drop_succ_cons, List.drop_zero]
 have ha : aD l j = .mk 4 0 0 [] [aD l k0] := F.tree
 refine ⟨?_, ?_, ?_, ?_, ?_, ?_, ?_, ?_, ?_, ?_, ?_, ?_, ?_, ?_⟩
 ·intro _ rest hr; rw [ha, ht]; exact GH k10 k22 ((IH k0 (by simp)).typ h0 rest hr)
 ·exact fun _ => ⟨_, _, ht, by rw [k10]; decide⟩
 ·intro h; rw [F.kind] at h; exact absurd h (by decide)
 ·intro h; rw [F.lv] at h; exact absurd (show (7 : Int) <= 0 from h) (by decide)
 ·intro h; rw [F.lv] at h; exact absurd (show (6 : Int) <= 0 from h) (by decide)
 ·intro h; rw [F.lv] at h; exact absurd (show (1 : Int) <= 0 from h) (by decide)
 ·intro h; rw [F.kind] at h; exact absurd h (by decide)
 ·intro h; rw [F.kind] at h; exact absurd h (by decide)
 ·intro h; rw [F.kind] at h; exact absurd h (by decide)
 ·intro h; rw [F.kind] at h; exact absurd h (by decide)
 ·intro h; rw [F.kind] at h; exact absurd h (by decide)
 ·intro h; rw [F.kind] at h; exact absurd h (by decide)
 ·intro h; rw [F.kind] at h; exact absurd h (by decide)
 ·intro h; rw [F.kind] at h; exact absurd h (by decide)
theorem KF {l : List Nd} {j : Nat} {num : Int} {nm : List UInt8} {ks : List Nat} (F : dm l j 6 num nm ks) (IH : ∀ x ∈ ks, bE l x) : bE l j := by
 obtain rfl : num = 0 := by simpa using (show (num == 0) = true from F.numF)
 obtain rfl : nm = [] := List.isEmpty_iff.1 (show nm.isEmpty = true from F.name)
 have hfit := F.fit
 unfold aA at hfit
 rw [uq] at hfit
 obtain ⟨k0, h0, rfl⟩ := oH hfit
 have ht : tkk l j = aF [99, 104, 97, 110] :: aF [111, 102] :: tkk l k0 := by
  rw [F.tok, vX]
  simp only [List.map_append, List.map_cons, List.map_nil, bv, bB, aV, bz, dB, di, List.append_nil, List.cons_append, List.nil_append, List.append_assoc, List.take_succ_cons, List.take_zero, List.drop_succ_cons, List.drop_zero]
 have ha : aD l j = .mk 6 0 0 [] [aD l k0] := F.tree
 have hc : ∀ rest, kd rest ≠ 48 -> P .chanT (tkk l j ++ rest) [aD l j] rest := fun rest hr => by rw [ha, ht]; exact GI k14 k22 ((IH k0 (by simp)).typ h0 rest hr)
 refine ⟨?_, ?_, ?_, ?_, ?_, ?_, ?_, ?_, ?_, ?_, ?_, ?_, ?_, ?_⟩
 ·intro _ rest hr; have := hc rest hr; rw [ht] at this ⊢; exact J3 k14 this
 ·exact fun _ => ⟨_, _, ht, by rw [k14]; decide⟩
 ·exact fun _ => hc
 ·intro h; rw [F.lv] at h; exact absurd (show (7 : Int) <= 0 from h) (by decide)
 ·intro h; rw [F.lv] at h; exact absurd (show (6 : Int) <= 0 from h) (by decide)
 ·intro h; rw [F.lv] at h; exact absurd (show (1 : Int) <= 0 from h) (by decide)
 ·intro h; rw [F.kind] at h; exact absurd h (by decide)
 ·intro h; rw [F.kind] at h; exact absurd h (by decide)
 ·intro h; rw [F.kind] at h; exact absurd h (by decide)
 ·intro h; rw [F.kind] at h; exact absurd h (by decide)
 ·intro h; rw [F.kind] at h; exact absurd h (by decide)
 ·intro h; rw [F.kind] at h; exact absurd h (by decide)
 ·intro h; rw [F.kind] at h; exact absurd h (by decide)
 ·intro h; rw [F.kind] at h; exact absurd h (by decide)
theorem KG {l : List Nd} {j : Nat} {num : Int} {nm : List UInt8} {ks : List Nat} (F : dm l j 5 num nm ks) (IH : ∀ x ∈ ks, bE l x) : bE l j := by
 obtain rfl : num = 0 := by simpa using (show (num == 0) = true from F.numF)
 obtain rfl : nm = [] := List.isEmpty_iff.1 (show nm.isEmpty = true from F.name)
 have hfit := F.fit
 unfold aA at hfit
 rw [uo] at hfit
 obtain ⟨k0, k1, r, h0, h1, h2, rfl⟩ := Jo hfit
 have ht : tkk l j = aF [40] :: (tkk l k0 ++ aF [44] :: (tkI l (k1 :: r) ++ [aF [41]])) := by
  rw [F.tok, vW]
  simp only [List.map_append, List.map_cons, List.map_nil, bv, bB, aV, bz, dB, di, List.append_nil, List.cons_append, List.nil_append, List.append_assoc, List.take_succ_cons, List.take_zero, List.drop_succ_cons, List.drop_zero]
 have ha : aD l j = .mk 5 0 0 [] ([aD l k0] ++ (k1 :: r).map (aD l)) := F.tree
 refine ⟨?_, ?_, ?_, ?_, ?_, ?_, ?_, ?_, ?_, ?_, ?_, ?_, ?_, ?_⟩
 ·intro _ rest hr; rw [ha]; simp only [ht, List.append_assoc, List.cons_append, List.nil_append]
  refine GJ k40 k46 k41 ((IH k0 (by simp)).typ h0 _ (by show (aF [44]).kind ≠ 48; rw [k46]; decide)) (jQ .typ (k1 :: r) (by simp) (Aq (fun x hx => IH x (List.mem_cons_of_mem _ hx)) (fun x hx => ?_)) _ (.inl k41))
  rcases List.mem_cons.1 hx with rfl | hx
  ·exact h1
  ·exact h2 x hx
 ·exact fun _ => ⟨_, _, ht, by rw [k40]; decide⟩
 ·intro h; rw [F.kind] at h; exact absurd h (by decide)
 ·intro h; rw [F.lv] at h; exact absurd (show (7 : Int) <= 0 from h) (by decide)
 ·intro h; rw [F.lv] at h; exact absurd (show (6 : Int) <= 0 from h) (by decide)
 ·intro h; rw [F.lv] at h; exact absurd (show (1 : Int) <= 0 from h) (by decide)
 ·intro h; rw [F.kind] at h; exact absurd h (by decide)
 ·intro h; rw [F.kind] at h; exact absurd h (by decide)
 ·intro h; rw [F.kind] at h; exact absurd h (by decide)
 ·intro h; rw [F.kind] at h; exact absurd h (by decide)
 ·intro h; rw [F.kind] at h; exact absurd h (by decide)
 ·intro h; rw [F.kind] at h; exact absurd h (by decide)
 ·intro h; rw [F.kind] at h; exact absurd h (by decide)
 ·intro h; rw [F.kind] at h; exact absurd h (by decide)
theorem KI {l : List Nd} {j : Nat} {num : Int} {nm : List UInt8} {ks : List Nat} (F : dm l j 7 num nm ks) (IH : ∀ x ∈ ks, bE l x) : bE l j := by
 obtain rfl : nm = [] := List.isEmpty_iff.1 (show nm.isEmpty = true from F.name)
 have hfit := F.fit
 unfold aA at hfit
 rw [ut] at hfit
 have hty := Ky hfit
 have hnum : (num == 0 || (num == 1 && decide (0 < ks.length))) = true := F.numF
 simp only [Bool.or_eq_true, Bool.and_eq_true, beq_iff_eq, decide_eq_true_eq] at hnum
 have key : (∀ rest, kd rest ≠ 48 -> P .typ (tkk l j ++ rest) [aD l j] rest) /\ ∃ t r, tkk l j = t :: r /\ t.kind ≠ 41 := by
  rcases hnum with rfl | ⟨rfl, h0⟩
  ·have ht : tkk l j = aF [112, 114, 111, 103] :: aF [40] :: (tkI l ks ++ [aF [41]]) := by
    rw [F.tok, nO]
    simp [fZ, bB]
   have ha : aD l j = .mk 7 0 0 [] (ks.map (aD l) ++ []) := by rw [F.tree, List.append_nil]
   refine ⟨fun rest hr => ?_, _, _, ht, by rw [k23]; decide⟩
   rw [ha]
   simp only [ht, List.append_assoc, List.cons_append, List.nil_append]
   exact A8 k23 (lH .typ ks (Aq IH hty) (fun k hk => (IH k hk).fT (hty k hk)) rest) (EB hr)
  ·obtain ⟨pp, kr, rfl⟩ : ∃ pp kr, ks = pp ++ [kr] := ⟨ks.dropLast, ks.getLast (by intro e; rw [e] at h0; simp at h0), (List.dropLast_concat_getLast _).symm⟩
   have ht : tkk l j = aF [112, 114, 111, 103] :: aF [40] :: (tkI l pp ++ aF [41] :: aF [58] :: tkk l kr) := by
    rw [F.tok, nO]
    simp [fZ, bB, bv, aV, bz]
   have ha : aD l j = .mk 7 0 1 [] (pp.map (aD l) ++ [aD l kr]) := by rw [F.tree]; simp
   refine ⟨fun rest hr => ?_, _, _, ht, by rw [k23]; decide⟩
   rw [ha]
   simp only [ht, List.append_assoc, List.cons_append, List.nil_append]
   exact A8 k23 (lH .typ pp (Aq (fun x hx => IH x (by simp [hx])) (fun x hx => hty x (by simp [hx]))) (fun k hk => (IH k (by simp [hk])).fT (hty k (by simp [hk]))) _) (EC k48 ((IH kr (by simp)).typ (hty kr (by simp)) rest hr))
 refine ⟨fun _ => key.1, fun _ => key.2, ?_, ?_, ?_, ?_, ?_, ?_, ?_, ?_, ?_, ?_, ?_, ?_⟩
 ·intro h; rw [F.kind] at h; exact absurd h (by decide)
 ·intro h; rw [F.lv] at h; exact absurd (show (7 : Int) <= 0 from h) (by decide)
 ·intro h; rw [F.lv] at h; exact absurd (show (6 : Int) <= 0 from h) (by decide)
 ·intro h; rw [F.lv] at h; exact absurd (show (1 : Int) <= 0 from h) (by decide)
 ·intro h; rw [F.kind] at h; exact absurd h (by decide)
 ·intro h; rw [F.kind] at h; exact absurd h (by decide)
 ·intro h; rw [F.kind] at h; exact absurd h (by decide)
 ·intro h; rw [F.kind] at h; exact absurd h (by decide)
 ·intro h; rw [F.kind] at h; exact absurd h (by decide)
 ·intro h; rw [F.kind] at h; exact absurd h (by decide)
 ·intro h; rw [F.kind] at h; exact absurd h (by decide)
 ·intro h; rw [F.kind] at h; exact absurd h (by decide)
theorem eU {l : List Nd} {j : Nat} {kd0 num : Int} {nm : List UInt8} {ks : List Nat} (F : dm l j kd0 num nm ks) (he : bq kd0 = true) (h8 : bT kd0 num = 8) (h22 : kd0 ≠ 22) (hnr : ¬ (22 <= kd0 /\ kd0 <= 25)) (hp : ∀ rest, kd rest ≠ 48 -> P .primary (tkk l j ++ rest) [aD l j] rest)
  (hf : ∃ t r, tkk l j = t :: r /\ jG t.kind = true /\ t.kind ≠ 58 /\ t.kind ≠ 64 /\ t.kind ≠ 65 /\ (t.kind = 1 -> r = [])) : bE l j := by
 have hr : 11 <= kd0 /\ kd0 <= 25 := by unfold bq at he; simpa using he
 have hlv : lev l j = 8 := F.lv.trans h8
 have hkd := F.kind
 obtain ⟨t, r, e, h1, h2, h3, h4, h5⟩ := hf
 have hpost : ∀ rest a s', kd rest ≠ 48 -> P (.post [aD l j]) rest a s' -> P .postfix (tkk l j ++ rest) a s' := fun rest a s' hr h => C8 (hp rest hr) h
 have hun := Bh hpost ⟨t, r, e, h2, h3, h4⟩
 refine ⟨?_, ?_, ?_, fun _ => hpost, fun _ => hun, fun _ => Ff (by omega) (by omega) hun, fun _ => by omega, fun _ => ⟨t, r, e, h1, fun _ => ⟨h2, h3, h4⟩, fun h => absurd h h4, fun h => .inl (h5 h)⟩, ?_, ?_, ?_, ?_, ?_, ?_⟩
 ·intro h; unfold fF at h; simp at h; omega
 ·intro h; unfold fF at h; simp at h; omega
 ·intro h; omega
 ·intro h; omega
 ·intro h; omega
 ·intro h; omega
 ·intro h; unfold gL at h; simp at h; omega
 ·intro h; unfold om at h; simp at h; omega
 ·intro h; omega
theorem Ic {l : List Nd} {j : Nat} {num : Int} {nm : List UInt8} {ks : List Nat} (F : dm l j 11 num nm ks) (IH : ∀ x ∈ ks, bE l x) : bE l j := by
 obtain rfl : nm = [] := List.isEmpty_iff.1 (show nm.isEmpty = true from F.name)
 obtain rfl := Df (show iw (ks, false) = true from F.fit)
 have h0 : 0 <= num := of_decide_eq_true (show decide (0 <= num) = true from F.numF)
 have hk := Mc h0 F.i64
 have ht : tkk l j = [aF (Lib.itoa num)] := by
  rw [F.tok, rz]
  simp only [List.map_append, List.map_cons, List.map_nil, bv, bB, aV, bz, dB, di, List.append_nil, List.cons_append, List.nil_append, List.append_assoc, List.take_succ_cons, List.take_zero, List.drop_succ_cons, List.drop_zero]
 have ha : aD l j = .mk 11 0 ((aF (Lib.itoa num)).num : Nat) [] [] := by rw [F.tree, hk.2]; rfl
 have kq := hk.1
 refine eU F rfl rfl (by decide) (by decide) (fun rest hr => ?_) ⟨_, _, ht, by rw [kq]; rfl, by omega, by omega, by omega, by intro h; omega⟩
 rw [ha]
 simp only [ht, List.append_assoc, List.cons_append, List.nil_append]
 exact J9 hk.1
theorem Ie {l : List Nd} {j : Nat} {num : Int} {nm : List UInt8} {ks : List Nat} (F : dm l j 12 num nm ks) (IH : ∀ x ∈ ks, bE l x) : bE l j := by
 obtain rfl : nm = [] := List.isEmpty_iff.1 (show nm.isEmpty = true from F.name)
 obtain rfl := Df (show iw (ks, false) = true from F.fit)
 have hnum : (num == 0 || num == 1) = true := F.numF
 simp only [Bool.or_eq_true, beq_iff_eq] at hnum
 rcases hnum with rfl | rfl
 ·have ht : tkk l j = [aF [102, 97, 108, 115, 101]] := by rw [F.tok, nP]; rfl
  have ha : aD l j = .mk 12 0 0 [] [] := F.tree
  have kq := k16
  refine eU F rfl rfl (by decide) (by decide) (fun rest hr => ?_) ⟨_, _, ht, by rw [kq]; rfl, by omega, by omega, by omega, by intro h; omega⟩
  rw [ha, ht]
  exact GV k16
 ·have ht : tkk l j = [aF [116, 114, 117, 101]] := by rw [F.tok, nP]; rfl
  have ha : aD l j = .mk 12 0 1 [] [] := F.tree
  have kq := k26
  refine eU F rfl rfl (by decide) (by decide) (fun rest hr => ?_) ⟨_, _, ht, by rw [kq]; rfl, by omega, by omega, by omega, by intro h; omega⟩
  rw [ha, ht]
  exact J6 k26
theorem Ig {l : List Nd} {j : Nat} {num : Int} {nm : List UInt8} {ks : List Nat} (F : dm l j 13 num nm ks) (IH : ∀ x ∈ ks, bE l x) : bE l j := by
 obtain rfl : num = 0 := by simpa using (show (num == 0) = true from F.numF)
 have hnm : bQ nm = true := F.name
 have kn := pm hnm
 obtain rfl := Df (show iw (ks, false) = true from F.fit)
 have ht : tkk l j = [aF nm] := by
  rw [F.tok, rA]
  simp only [List.map_append, List.map_cons, List.map_nil, bv, bB, aV, bz, dB, di, List.append_nil, List.cons_append, List.nil_append, List.append_assoc, List.take_succ_cons, List.take_zero, List.drop_succ_cons, List.drop_zero]
 have ha : aD l j = .mk 13 0 0 nm [] := F.tree
 have kq := kn
 refine eU F rfl rfl (by decide) (by decide) (fun rest hr => ?_) ⟨_, _, ht, by rw [kq]; rfl, by omega, by omega, by omega, fun _ => rfl⟩
 rw [ha]
 simp only [ht, List.append_assoc, List.cons_append, List.nil_append]
 exact GX kn
theorem Ih {l : List Nd} {j : Nat} {num : Int} {nm : List UInt8} {ks : List Nat} (F : dm l j 14 num nm ks) (IH : ∀ x ∈ ks, bE l x) : bE l j := by
 obtain rfl : num = 0 := by simpa using (show (num == 0) = true from F.numF)
 obtain rfl : nm = [] := List.isEmpty_iff.1 (show nm.isEmpty = true from F.name)
 have hfit := F.fit
 unfold aA at hfit
 rw [qy] at hfit
 obtain ⟨k0, h0, rfl⟩ := oH hfit
 have ht : tkk l j = aF [40] :: (tkk l k0 ++ [aF [41]]) := by
  rw [F.tok, rC]
  simp only [List.map_append, List.map_cons, List.map_nil, bv, bB, aV, bz, dB, di, List.append_nil, List.cons_append, List.nil_append, List.append_assoc, List.take_succ_cons, List.take_zero, List.drop_succ_cons, List.drop_zero]
 have ha : aD l j = .mk 14 0 0 [] [aD l k0] := F.tree
 have kq := k40
 refine eU F rfl rfl (by decide) (by decide) (fun rest hr => ?_) ⟨_, _, ht, by rw [kq]; rfl, by omega, by omega, by omega, by intro h; omega⟩
 rw [ha]
 simp only [ht, List.append_assoc, List.cons_append, List.nil_append]
 exact Ba k40 k41 (A9 (dX (IH k0 (by simp)) h0 (fD k41 rfl)) (by show (aF [41]).kind ≠ 46; rw [k41]; decide))
theorem Ii {l : List Nd} {j : Nat} {num : Int} {nm : List UInt8} {ks : List Nat} (F : dm l j 15 num nm ks) (IH : ∀ x ∈ ks, bE l x) : bE l j := by
 obtain rfl : num = 0 := by simpa using (show (num == 0) = true from F.numF)
 obtain rfl : nm = [] := List.isEmpty_iff.1 (show nm.isEmpty = true from F.name)
 have hfit := F.fit
 unfold aA at hfit
 rw [qz] at hfit
 obtain ⟨k0, k1, r, h0, h1, h2, rfl⟩ := Jo hfit
 have ht : tkk l j = aF [40] :: (tkI l (k0 :: k1 :: r) ++ [aF [41]]) := by
  rw [F.tok, rD]
  simp only [List.map_append, bB, List.append_assoc]
  rfl
 have ha : aD l j = .mk (if ((k0 :: k1 :: r).map (aD l)).length = 1 then 14 else 15) 0 0 [] ((k0 :: k1 :: r).map (aD l)) := by
  rw [if_neg (by simp)]
  exact F.tree
 have kq := k40
 refine eU F rfl rfl (by decide) (by decide) (fun rest hr => ?_) ⟨_, _, ht, by rw [kq]; rfl, by omega, by omega, by omega, by intro h; omega⟩
 rw [ha]
 simp only [ht, List.append_assoc, List.cons_append, List.nil_append]
 exact Ba k40 k41 (jQ .expr (k0 :: k1 :: r) (by simp) (wm IH (fun x hx => by rcases List.mem_cons.1 hx with rfl | hx; exact h0; rcases List.mem_cons.1 hx with rfl | hx; exact h1; exact h2 x hx)) _ (.inl k41))
theorem Ij {l : List Nd} {j : Nat} {num : Int} {nm : List UInt8} {ks : List Nat} (F : dm l j 16 num nm ks) (IH : ∀ x ∈ ks, bE l x) : bE l j := by
 obtain rfl : num = 0 := by simpa using (show (num == 0) = true from F.numF)
 obtain rfl : nm = [] := List.isEmpty_iff.1 (show nm.isEmpty = true from F.name)
 have hfit := F.fit
 unfold aA at hfit
 rw [qA] at hfit
 obtain ⟨k0, r, h0, h2, rfl⟩ := Fa hfit
 have ht : tkk l j = aF [91] :: (tkI l (k0 :: r) ++ [aF [93]]) := by
  rw [F.tok, rE]
  simp [bB]
 have ha : aD l j = .mk 16 0 0 [] ((k0 :: r).map (aD l)) := F.tree
 have kq := k42
 refine eU F rfl rfl (by decide) (by decide) (fun rest hr => ?_) ⟨_, _, ht, by rw [kq]; rfl, by omega, by omega, by omega, by intro h; omega⟩
 rw [ha]
 simp only [ht, List.append_assoc, List.cons_append, List.nil_append]
 exact LP k42 k43 (jQ .expr (k0 :: r) (by simp) (wm IH (fun x hx => by rcases List.mem_cons.1 hx with rfl | hx; exact h0; exact h2 x hx)) _ (.inr k43))
theorem Ik {l : List Nd} {j : Nat} {num : Int} {nm : List UInt8} {ks : List Nat} (F : dm l j 17 num nm ks) (IH : ∀ x ∈ ks, bE l x) : bE l j := by
 obtain rfl : num = 0 := by simpa using (show (num == 0) = true from F.numF)
 obtain rfl : nm = [] := List.isEmpty_iff.1 (show nm.isEmpty = true from F.name)
 have hfit := F.fit
 unfold aA at hfit
 rw [qB] at hfit
 obtain ⟨k0, k1, h0, h1, rfl⟩ := sM hfit
 have ht : tkk l j = aF [102, 105, 108, 108] :: aF [40] :: (tkk l k0 ++ aF [44] :: (tkk l k1 ++ [aF [41]])) := by
  rw [F.tok, rF]
  simp only [List.map_append, List.map_cons, List.map_nil, bv, bB, aV, bz, dB, di, List.append_nil, List.cons_append, List.nil_append, List.append_assoc, List.take_succ_cons, List.take_zero, List.drop_succ_cons, List.drop_zero]
 have ha : aD l j = .mk 17 0 0 [] ([aD l k0] ++ [aD l k1]) := F.tree
 have kq := k17
 refine eU F rfl rfl (by decide) (by decide) (fun rest hr => ?_) ⟨_, _, ht, by rw [kq]; rfl, by omega, by omega, by omega, by intro h; omega⟩
 rw [ha]
 simp only [ht, List.append_assoc, List.cons_append, List.nil_append]
 exact J7 k17 k40 k46 k41 (dX (IH k0 (by simp)) h0 (fD k46 rfl)) (dX (IH k1 (by simp)) h1 (fD k41 rfl))
theorem Il {l : List Nd} {j : Nat} {num : Int} {nm : List UInt8} {ks : List Nat} (F : dm l j 18 num nm ks) (IH : ∀ x ∈ ks, bE l x) : bE l j := by
 obtain rfl : num = 0 := by simpa using (show (num == 0) = true from F.numF)
 obtain rfl : nm = [] := List.isEmpty_iff.1 (show nm.isEmpty = true from F.name)
 have hfit := F.fit
 unfold aA at hfit
 rw [qC] at hfit
 obtain ⟨k0, h0, rfl⟩ := oH hfit
 have ht : tkk l j = aF [108, 101, 110] :: aF [40] :: (tkk l k0 ++ [aF [41]]) := by
  rw [F.tok, rG]
  simp only [List.map_append, List.map_cons, List.map_nil, bv, bB, aV, bz, dB, di, List.append_nil, List.cons_append, List.nil_append, List.append_assoc, List.take_succ_cons, List.take_zero, List.drop_succ_cons, List.drop_zero]
 have ha : aD l j = .mk 18 0 0 [] [aD l k0] := F.tree
 have kq := k20
 refine eU F rfl rfl (by decide) (by decide) (fun rest hr => ?_) ⟨_, _, ht, by rw [kq]; rfl, by omega, by omega, by omega, by intro h; omega⟩
 rw [ha]
 simp only [ht, List.append_assoc, List.cons_append, List.nil_append]
 exact LQ k20 k40 k41 (dX (IH k0 (by simp)) h0 (fD k41 rfl))
theorem Im {l : List Nd} {j : Nat} {num : Int} {nm : List UInt8} {ks : List Nat} (F : dm l j 19 num nm ks) (IH : ∀ x ∈ ks, bE l x) : bE l j := by
 obtain rfl : num = 0 := by simpa using (show (num == 0) = true from F.numF)
 obtain rfl : nm = [] := List.isEmpty_iff.1 (show nm.isEmpty = true from F.name)
 have hfit := F.fit
 unfold aA at hfit
 rw [qD] at hfit
 obtain ⟨k0, h0, rfl⟩ := oH hfit
 have h6 : kdN l k0 = 6 := by simpa [dN] using h0
 have ht : tkk l j = aF [109, 97, 107, 101] :: tkk l k0 := by
  rw [F.tok, rH]
  simp only [List.map_append, List.map_cons, List.map_nil, bv, bB, aV, bz, dB, di, List.append_nil, List.cons_append, List.nil_append, List.append_assoc, List.take_succ_cons, List.take_zero, List.drop_succ_cons, List.drop_zero]
 have ha : aD l j = .mk 19 0 0 [] [aD l k0] := F.tree
 have kq := k21
 refine eU F rfl rfl (by decide) (by decide) (fun rest hr => ?_) ⟨_, _, ht, by rw [kq]; rfl, by omega, by omega, by omega, by intro h; omega⟩
 rw [ha]
 simp only [ht, List.append_assoc, List.cons_append, List.nil_append]
 exact J8 k21 ((IH k0 (by simp)).chan h6 rest hr)
theorem KJ {l : List Nd} {ks : List Nat} (IH : ∀ k ∈ ks, bE l k) (ht : ∀ k ∈ ks, kdN l k = 42) : ∀ k ∈ ks, ∀ rest, kd rest = 46 ∨ kd rest = 41 ∨ kd rest = 43 -> P (.of .param) (tkk l k ++ rest) [aD l k] rest :=
 fun k hk rest hr => ((IH k hk).par (ht k hk)).1 rest (by omega)
theorem Dh {l : List Nd} {ks : List Nat} (IH : ∀ k ∈ ks, bE l k) (ht : ∀ k ∈ ks, kdN l k = 42) : ∀ k ∈ ks, ∃ t r, tkk l k = t :: r /\ t.kind ≠ 41 := fun k hk => by
 obtain ⟨_, t, r, e, h1⟩ := (IH k hk).par (ht k hk)
 exact ⟨t, r, e, by omega⟩
theorem sO {nm : List UInt8} (h : bQ nm = true) : nm ≠ [] := by
 intro e
 subst e
 have := (ik h).2.2.2.1
 simp at this
theorem Bl {l : List Nd} {pp rr : List Nat} {kz : Nat} {nm : List UInt8} (hn : nm = [] ∨ bQ nm = true) (hp : ∀ k ∈ pp, bE l k) (hpk : ∀ k ∈ pp, kdN l k = 42) (hz : bE l kz) (hzk : kdN l kz = 41) (hr : rr = [] ∨ ∃ kr, rr = [kr] /\ bE l kr /\ fF (kdN l kr) = true) (rest : List ai) :
  P .prog (aF [112, 114, 111, 103] :: ((if nm = [] then [] else [aF nm]) ++ aF [40] :: (tkI l pp ++ aF [41] :: ((fZ (dF l) rr).map aF ++ (tkk l kz ++ rest))))) [.mk 20 0 rr.length nm (pp.map (aD l) ++ (rr.map (aD l) ++ [aD l kz]))] rest := by
 obtain ⟨hb, t, r, e, ht⟩ := hz.blk hzk
 have hbk := gm (s := rest) e
 have hl := lH .param pp (KJ hp hpk) (Dh hp hpk) ((fZ (dF l) rr).map aF ++ (tkk l kz ++ rest))
 have hres : P .result ((fZ (dF l) rr).map aF ++ (tkk l kz ++ rest)) (rr.map (aD l)) (tkk l kz ++ rest) := by
  rcases hr with rfl | ⟨kr, rfl, hc, hk⟩
  ·exact EB (by show kd (tkk l kz ++ rest) ≠ 48; omega)
  ·have : (fZ (dF l) [kr]).map aF = aF [58] :: tkk l kr := by simp [fZ, bv, aV, bz]
   rw [this]
   exact EC k48 (hc.typ hk _ (by omega))
 have hlen : (rr.map (aD l)).length = rr.length := by simp
 rcases hn with rfl | hn
 ·have := GZ k23 (by show (aF [40]).kind ≠ 1; rw [k40]; decide) hl hres (hb rest)
  rw [hlen] at this
  exact this
 ·rw [if_neg (sO hn)]
  have := GY k23 (pm hn) hl hres (hb rest)
  rw [hlen] at this
  exact this
theorem Io {l : List Nd} {j : Nat} {num : Int} {nm : List UInt8} {ks : List Nat} (F : dm l j 20 num nm ks) (IH : ∀ x ∈ ks, bE l x) : bE l j := by
 have hn : nm = [] ∨ bQ nm = true := by
  have := F.name
  have : (nm.isEmpty || bQ nm) = true := this
  rw [Bool.or_eq_true, List.isEmpty_iff] at this
  exact this
 have hnum : (num == 0 || num == 1) = true := F.numF
 simp only [Bool.or_eq_true, beq_iff_eq] at hnum
 have hfit := F.fit
 unfold aA at hfit
 have hm : (if nm = [] then ([] : List (List UInt8)) else [nm]).map aF = if nm = [] then [] else [aF nm] := by split <;> rfl
 rcases hnum with rfl | rfl
 ·rw [kY _ _ _ (by decide)] at hfit
  obtain ⟨pp, kz, h0, h1, rfl⟩ := Jr hfit
  have ht : tkk l j = aF [112, 114, 111, 103] :: ((if nm = [] then [] else [aF nm]) ++ aF [40] :: (tkI l pp ++ aF [41] :: ((fZ (dF l) []).map aF ++ tkk l kz))) := by
   rw [F.tok, jq]
   simp only [List.map_append, hm]
   simp [bB, bv, aV, bz]
  have ha : aD l j = .mk 20 0 (([] : List Nat).length : Nat) nm (pp.map (aD l) ++ (([] : List Nat).map (aD l) ++ [aD l kz])) := by rw [F.tree]; simp
  have kq := k23
  refine eU F rfl rfl (by decide) (by decide) (fun rest hr => ?_) ⟨_, _, ht, by rw [kq]; rfl, by omega, by omega, by omega, by intro h; omega⟩
  rw [ha]
  simp only [ht, List.append_assoc, List.cons_append, List.nil_append]
  exact Bb k23 (Bl hn (fun x hx => IH x (by simp [hx])) (fun x hx => by simpa [dN] using h0 x hx) (IH kz (by simp)) (by simpa [dN] using h1) (.inl rfl) rest)
 ·rw [kX _ _ _ rfl] at hfit
  obtain ⟨pp, kr, kz, h0, h2, h1, rfl⟩ := Js hfit
  have ed : (pp ++ [kr, kz]).drop (pp.length + 1) = [kz] := by rw [List.drop_append]; simp
  have et : (pp ++ [kr, kz]).take (pp.length + 1) = pp ++ [kr] := by rw [List.take_append, List.take_of_length_le (by omega)]; simp
  have ht : tkk l j = aF [112, 114, 111, 103] :: ((if nm = [] then [] else [aF nm]) ++ aF [40] :: (tkI l pp ++ aF [41] :: ((fZ (dF l) [kr]).map aF ++ tkk l kz))) := by
   rw [F.tok, jq]
   simp only [List.map_append, hm]
   simp [bB, bv, aV, bz, ed, et]
  have ha : aD l j = .mk 20 0 (([kr] : List Nat).length : Nat) nm (pp.map (aD l) ++ (([kr] : List Nat).map (aD l) ++ [aD l kz])) := by rw [F.tree]; simp
  have kq := k23
  refine eU F rfl rfl (by decide) (by decide) (fun rest hr => ?_) ⟨_, _, ht, by rw [kq]; rfl, by omega, by omega, by omega, by intro h; omega⟩
  rw [ha]
  simp only [ht, List.append_assoc, List.cons_append, List.nil_append]
  exact Bb k23 (Bl hn (fun x hx => IH x (by simp [hx])) (fun x hx => by simpa [dN] using h0 x hx) (IH kz (by simp)) (by simpa [dN] using h1) (.inr ⟨kr, rfl, IH kr (by simp), h2⟩) rest)
theorem kop {n : Int} (h : bT 22 n ≠ 0) : fe (aF (opT n)).kind = n /\ aP n = bT 22 n /\ 1 <= bT 22 n /\ (aF (opT n)).kind ≠ 50 /\ (aF (opT n)).kind ≠ 40 /\ (aF (opT n)).kind ≠ 42 /\ (aF (opT n)).kind ≠ 49 /\ (aF (opT n)).kind ≠ 48 := by
 have hb : bT 22 n = aP n := rfl
 have h13 : n = 11 ∨ n = 12 ∨ n = 21 ∨ n = 22 ∨ n = 23 ∨ n = 24 ∨ n = 25 ∨ n = 26 ∨ n = 31 ∨ n = 32 ∨ n = 41 ∨ n = 42 ∨ n = 43 := by
  rw [hb] at h
  unfold aP at h
  split at h
  ·omega
  ·split at h
   ·omega
   ·split at h
    ·omega
    ·split at h
     ·omega
     ·split at h
      ·omega
      ·exact absurd rfl h
 rcases h13 with rfl | rfl | rfl | rfl | rfl | rfl | rfl | rfl | rfl | rfl | rfl | rfl | rfl
 ·have e : opT 11 = [124, 124] := rfl
  have kq := k63
  rw [e]
  exact ⟨by rw [kq]; rfl, rfl, by decide, by omega, by omega, by omega, by omega, by omega⟩
 ·have e : opT 12 = [38, 38] := rfl
  have kq := k62
  rw [e]
  exact ⟨by rw [kq]; rfl, rfl, by decide, by omega, by omega, by omega, by omega, by omega⟩
 ·have e : opT 21 = [61, 61] := rfl
  have kq := k51
  rw [e]
  exact ⟨by rw [kq]; rfl, rfl, by decide, by omega, by omega, by omega, by omega, by omega⟩
 ·have e : opT 22 = [33, 61] := rfl
  have kq := k52
  rw [e]
  exact ⟨by rw [kq]; rfl, rfl, by decide, by omega, by omega, by omega, by omega, by omega⟩
 ·have e : opT 23 = [60] := rfl
  have kq := k53
  rw [e]
  exact ⟨by rw [kq]; rfl, rfl, by decide, by omega, by omega, by omega, by omega, by omega⟩
 ·have e : opT 24 = [60, 61] := rfl
  have kq := k54
  rw [e]
  exact ⟨by rw [kq]; rfl, rfl, by decide, by omega, by omega, by omega, by omega, by omega⟩
 ·have e : opT 25 = [62] := rfl
  have kq := k55
  rw [e]
  exact ⟨by rw [kq]; rfl, rfl, by decide, by omega, by omega, by omega, by omega, by omega⟩
 ·have e : opT 26 = [62, 61] := rfl
  have kq := k56
  rw [e]
  exact ⟨by rw [kq]; rfl, rfl, by decide, by omega, by omega, by omega, by omega, by omega⟩
 ·have e : opT 31 = [43] := rfl
  have kq := k57
  rw [e]
  exact ⟨by rw [kq]; rfl, rfl, by decide, by omega, by omega, by omega, by omega, by omega⟩
 ·have e : opT 32 = [45] := rfl
  have kq := k58
  rw [e]
  exact ⟨by rw [kq]; rfl, rfl, by decide, by omega, by omega, by omega, by omega, by omega⟩
 ·have e : opT 41 = [42] := rfl
  have kq := k59
  rw [e]
  exact ⟨by rw [kq]; rfl, rfl, by decide, by omega, by omega, by omega, by omega, by omega⟩
 ·have e : opT 42 = [47] := rfl
  have kq := k60
  rw [e]
  exact ⟨by rw [kq]; rfl, rfl, by decide, by omega, by omega, by omega, by omega, by omega⟩
 ·have e : opT 43 = [37] := rfl
  have kq := k61
  rw [e]
  exact ⟨by rw [kq]; rfl, rfl, by decide, by omega, by omega, by omega, by omega, by omega⟩
theorem wo {l : List Nd} {j k0 : Nat} {kd0 num : Int} {nm : List UInt8} {ks : List Nat} (F : dm l j kd0 num nm (k0 :: ks)) (h3 : 23 <= kd0 /\ kd0 <= 25) (h0 : bE l k0) (he0 : bq (kdN l k0) = true) {u : ai} {more : List ai} (ht : tkk l j = tkk l k0 ++ u :: more) (hu : u.kind ≠ 50) (hu48 : u.kind ≠ 48)
  (hp : ∀ rest a s', kd rest ≠ 48 -> P (.post [aD l j]) rest a s' -> P (.post [aD l k0]) (u :: (more ++ rest)) a s') : bE l j := by
 have hlv : lev l j = 7 := by
  rw [F.lv]
  unfold bT
  rw [if_neg (by omega), if_neg (by omega), if_pos h3]
 have hkd := F.kind
 have hw : 7 <= lev l k0 := by
  have := F.levs 0 (by simp)
  unfold gJ at this
  rw [if_neg (by omega), if_neg (by omega), if_pos h3, if_pos rfl] at this
  exact this
 obtain ⟨t, r, e, h1, h2, h65, h4⟩ := (h0.fst he0).ex
 obtain ⟨n58, n64, n65⟩ := h2 hw
 have e2 : tkk l j = t :: (r ++ u :: more) := by rw [ht, e]; rfl
 have hpost : ∀ rest a s', kd rest ≠ 48 -> P (.post [aD l j]) rest a s' -> P .postfix (tkk l j ++ rest) a s' := fun rest a s' hr h => by
  rw [ht, List.append_assoc]
  exact h0.post hw _ a s' (by show u.kind ≠ 48; exact hu48) (hp rest a s' hr h)
 have hun := Bh hpost ⟨t, _, e2, n58, n64, n65⟩
 refine ⟨?_, ?_, ?_, fun _ => hpost, fun _ => hun, fun _ => Ff (by omega) (by omega) hun, fun _ => by omega, fun _ => ⟨t, _, e2, h1, fun _ => ⟨n58, n64, n65⟩, fun h => absurd h n65, fun h => .inr ?_⟩, ?_, ?_, ?_, ?_, ?_, ?_⟩
 ·intro h; unfold fF at h; simp at h; omega
 ·intro h; unfold fF at h; simp at h; omega
 ·intro h; omega
 ·rcases h4 h with rfl | ⟨v, r', rfl, hv⟩
  ·exact ⟨u, more, rfl, hu⟩
  ·exact ⟨v, _, rfl, hv⟩
 ·intro h; omega
 ·intro h; omega
 ·intro h; omega
 ·intro h; unfold gL at h; simp at h; omega
 ·intro h; unfold om at h; simp at h; omega
 ·intro h; omega
theorem Ip {l : List Nd} {j : Nat} {num : Int} {nm : List UInt8} {ks : List Nat} (F : dm l j 23 num nm ks) (IH : ∀ x ∈ ks, bE l x) : bE l j := by
 obtain rfl : num = 0 := by simpa using (show (num == 0) = true from F.numF)
 obtain rfl : nm = [] := List.isEmpty_iff.1 (show nm.isEmpty = true from F.name)
 have hfit := F.fit
 unfold aA at hfit
 rw [jY] at hfit
 obtain ⟨k0, r, h0, h2, rfl⟩ := Fa hfit
 have ha : aD l j = .mk 23 0 0 [] ([aD l k0] ++ r.map (aD l)) := F.tree
 refine wo F (by decide) (IH k0 (by simp)) h0 (u := aF [40]) (more := tkI l r ++ [aF [41]]) ?_ (by rw [k40]; decide) (by rw [k40]; decide) (fun rest a s' hr h => ?_)
 ·rw [F.tok, rO]
  simp [bv, bB, aV, bz, dB]
 ·rw [ha] at h
  simp only [List.append_assoc, List.cons_append, List.nil_append]
  exact J5 k40 (lH .expr r (wm (fun x hx => IH x (List.mem_cons_of_mem _ hx)) h2) (Ar (fun x hx => IH x (List.mem_cons_of_mem _ hx)) h2) rest) h
theorem Iq {l : List Nd} {j : Nat} {num : Int} {nm : List UInt8} {ks : List Nat} (F : dm l j 24 num nm ks) (IH : ∀ x ∈ ks, bE l x) : bE l j := by
 obtain rfl : num = 0 := by simpa using (show (num == 0) = true from F.numF)
 obtain rfl : nm = [] := List.isEmpty_iff.1 (show nm.isEmpty = true from F.name)
 have hfit := F.fit
 unfold aA at hfit
 rw [jZ] at hfit
 obtain ⟨k0, k1, h0, h1, rfl⟩ := sM hfit
 have ha : aD l j = .mk 24 0 0 [] ([aD l k0] ++ [aD l k1]) := F.tree
 refine wo F (by decide) (IH k0 (by simp)) h0 (u := aF [91]) (more := tkk l k1 ++ [aF [93]]) ?_ (by rw [k42]; decide) (by rw [k42]; decide) (fun rest a s' hr h => ?_)
 ·rw [F.tok, rP]
  simp [bv, bB, aV, bz, dB]
 ·rw [ha] at h
  simp only [List.append_assoc, List.cons_append, List.nil_append]
  exact GQ k42 k43 (dX (IH k1 (by simp)) h1 (fD k43 rfl)) h
theorem Ir {l : List Nd} {j : Nat} {num : Int} {nm : List UInt8} {ks : List Nat} (F : dm l j 25 num nm ks) (IH : ∀ x ∈ ks, bE l x) : bE l j := by
 obtain rfl : nm = [] := List.isEmpty_iff.1 (show nm.isEmpty = true from F.name)
 have hfit := F.fit
 unfold aA at hfit
 rw [j3] at hfit
 obtain ⟨k0, h0, rfl⟩ := oH hfit
 have hz : 0 <= num := of_decide_eq_true (show decide (0 <= num) = true from F.numF)
 have hk := Mc hz F.i64
 have ha : aD l j = .mk 25 0 ((aF (Lib.itoa num)).num : Nat) [] [aD l k0] := by rw [F.tree, hk.2]; rfl
 refine wo F (by decide) (IH k0 (by simp)) h0 (u := aF [46]) (more := [aF (Lib.itoa num)]) ?_ (by rw [k49]; decide) (by rw [k49]; decide) (fun rest a s' hr h => ?_)
 ·rw [F.tok, rQ]
  simp [bv, bB, aV, bz, dB]
 ·rw [ha] at h
  simp only [List.append_assoc, List.cons_append, List.nil_append]
  exact GR k49 hk.1 h
theorem Iu {l : List Nd} {j : Nat} {num : Int} {nm : List UInt8} {ks : List Nat} (F : dm l j 21 num nm ks) (IH : ∀ x ∈ ks, bE l x) : bE l j := by
 obtain rfl : nm = [] := List.isEmpty_iff.1 (show nm.isEmpty = true from F.name)
 have hfit := F.fit
 unfold aA at hfit
 rw [qE] at hfit
 obtain ⟨k0, h0, rfl⟩ := oH hfit
 have hw : 6 <= lev l k0 := F.levs 0 (by simp)
 have hc := IH k0 (by simp)
 have hlv : bT 21 num ≠ 0 := by
  have : (bT 21 num != 0) = true := F.numF
  simpa using this
 have h3 : num = 1 ∨ num = 2 ∨ num = 3 := by
  have hb : bT 21 num = if 1 <= num /\ num <= 3 then 6 else 0 := rfl
  rw [hb] at hlv
  split at hlv
  ·omega
  ·exact absurd rfl hlv
 have hl6 : lev l j = 6 := by
  rw [F.lv]
  have hb : bT 21 num = if 1 <= num /\ num <= 3 then 6 else 0 := rfl
  rw [hb, if_pos (by omega)]
 have hkd := F.kind
 have key : (∀ rest, Stop rest -> P .unary (tkk l j ++ rest) [aD l j] rest) /\ ∃ t r, tkk l j = t :: r /\ jG t.kind = true /\ (t.kind = 65 -> num = 3) /\ t.kind ≠ 1 := by
  have ht : tkk l j = aF (opT num) :: tkk l k0 := by
   rw [F.tok, rJ]
   simp [bv, aV, bz]
  have ha : aD l j = .mk 21 0 num [] [aD l k0] := F.tree
  rcases h3 with rfl | rfl | rfl
  ·have kq := k58
   exact ⟨fun rest hs => by rw [ha, ht]; exact LH k58 (hc.un hw rest hs), _, _, ht, by show jG (aF [45]).kind = true; rw [kq]; rfl, by show (aF [45]).kind = 65 -> _; omega, by show (aF [45]).kind ≠ 1; omega⟩
  ·have kq := k64
   exact ⟨fun rest hs => by rw [ha, ht]; exact LJ k64 (hc.un hw rest hs), _, _, ht, by show jG (aF [33]).kind = true; rw [kq]; rfl, by show (aF [33]).kind = 65 -> _; omega, by show (aF [33]).kind ≠ 1; omega⟩
  ·have kq := k65
   exact ⟨fun rest hs => by rw [ha, ht]; exact LK k65 (hc.un hw rest hs), _, _, ht, by show jG (aF [60, 45]).kind = true; rw [kq]; rfl, fun _ => rfl, by show (aF [60, 45]).kind ≠ 1; omega⟩
 obtain ⟨hun, t, r, e, h1, h65, hn1⟩ := key
 refine ⟨?_, ?_, ?_, fun h => by omega, fun _ => hun, fun _ => Ff (by omega) (by omega) hun, fun _ => by omega, fun _ => ⟨t, r, e, h1, fun h => by omega, fun h f hf => ?_, fun h => absurd h hn1⟩, ?_, ?_, ?_, ?_, ?_, ?_⟩
 ·intro h; rw [hkd] at h; exact absurd h (by decide)
 ·intro h; rw [hkd] at h; exact absurd h (by decide)
 ·intro h; omega
 ·obtain ⟨f, rfl⟩ : ∃ f', f = f' + 1 := ⟨f - 1, by omega⟩
  rw [F.own f (by decide), h65 h]
  rfl
 ·intro h; omega
 ·intro h; omega
 ·intro h; omega
 ·intro h; rw [hkd] at h; exact absurd h (by decide)
 ·intro h; rw [hkd] at h; exact absurd h (by decide)
 ·intro h; omega
theorem Iw {l : List Nd} {j : Nat} {num : Int} {nm : List UInt8} {ks : List Nat} (F : dm l j 22 num nm ks) (IH : ∀ x ∈ ks, bE l x) : bE l j := by
 obtain rfl : nm = [] := List.isEmpty_iff.1 (show nm.isEmpty = true from F.name)
 have hfit := F.fit
 unfold aA at hfit
 rw [jX] at hfit
 obtain ⟨k0, k1, h0, h1, rfl⟩ := sM hfit
 have hlv : bT 22 num ≠ 0 := by
  have : (bT 22 num != 0) = true := F.numF
  simpa using this
 obtain ⟨o1, o2, o3, o50, o40, o42, o49, o48⟩ := kop hlv
 have hle := oo 22 num
 have hb5 := mW num
 have hl : lev l j = bT 22 num := F.lv
 have hkd := F.kind
 have hw0 : (if bT 22 num ≠ 3 then bT 22 num else bT 22 num + 1) <= lev l k0 := by
  have := F.levs 0 (by simp)
  unfold gJ at this
  rw [if_pos rfl] at this
  by_cases h3 : bT 22 num = 3
  ·rw [if_neg (by intro h; exact h.2 h3)] at this
   rw [if_neg (by intro h; exact h h3)]
   exact this
  ·rw [if_pos ⟨rfl, h3⟩] at this
   rw [if_pos h3]
   exact this
 have hw1 : bT 22 num + 1 <= lev l k1 := by
  have := F.levs 1 (by simp)
  unfold gJ at this
  rw [if_pos rfl, if_neg (by intro h; exact absurd h.1 (by decide))] at this
  exact this
 have c0 := IH k0 (by simp)
 have c1 := IH k1 (by simp)
 have ht : tkk l j = tkk l k0 ++ aF (opT num) :: tkk l k1 := by
  rw [F.tok, rM]
  simp [bv, aV, bz]
 have ha : aD l j = .mk 22 0 num [] ([aD l k0] ++ [aD l k1]) := F.tree
 have hL0 : bT 22 num <= lev l k0 := by
  split at hw0 <;> omega
 obtain ⟨t, r, e, s1, s7, s65, s4⟩ := (c0.fst h0).ex
 have e2 : tkk l j = t :: (r ++ aF (opT num) :: tkk l k1) := by rw [ht, e]; rfl
 have hmost : bT 22 num <= nW l k0 := by
  unfold nW
  by_cases hk0 : kdN l k0 = 22
  ·rw [if_pos hk0]
   by_cases hl3 : lev l k0 = 3
   ·rw [if_pos hl3]
    split at hw0 <;> omega
   ·rw [if_neg hl3]
    exact hL0
  ·rw [if_neg hk0]
   omega
 have hops : ∀ least rest a s', least <= lev l j -> Stop rest -> (kdN l j = 22 -> aP (fe (kd rest)) <= lev l j) -> P (.ops least [aD l j] (nW l j)) rest a s' -> P (.operands least) (tkk l j ++ rest) a s' := by
  intro least rest a s' hle1 hs hb h
  have hb := hb hkd
  rw [ht, List.append_assoc, List.cons_append]
  have hstop : Stop (aF (opT num) :: (tkk l k1 ++ rest)) := ⟨o40, o42, o49, o48⟩
  refine c0.ops (by omega) least _ a s' (by omega) hstop (fun _ => ?_) ?_
  ·show aP (fe (aF (opT num)).kind) <= lev l k0
   rw [o1, o2]
   exact hL0
  ·have hmA : nW l j = if aP (fe (aF (opT num)).kind) = 3 then 2 else aP (fe (aF (opT num)).kind) := by
    unfold nW
    rw [if_pos hkd, o1, o2, hl]
   refine J4 (s2 := rest) (b := [aD l k1]) ?_ ?_ ?_
   ·rw [o1, o2]
    omega
   ·rw [o1, o2]
    refine c1.ops (by omega) _ rest _ _ hw1 hs (fun _ => by omega) (ED (.inl ?_))
    omega
   ·rw [← hmA, o1]
    rw [ha] at h
    exact h
 refine ⟨?_, ?_, ?_, fun h => by omega, fun h => by omega, fun _ => hops, fun _ => by omega, fun _ => ⟨t, _, e2, s1, fun h => by omega, fun h f hf => ?_, fun h => .inr ?_⟩, ?_, ?_, ?_, ?_, ?_, ?_⟩
 ·intro h; rw [hkd] at h; exact absurd h (by decide)
 ·intro h; rw [hkd] at h; exact absurd h (by decide)
 ·intro h; omega
 ·obtain ⟨f, rfl⟩ : ∃ f', f = f' + 1 := ⟨f - 1, by omega⟩
  have := F.low k0 (by simp)
  rw [F.sub f (by decide) (by decide)]
  exact s65 h f (by omega)
 ·rcases s4 h with rfl | ⟨v, r', rfl, hv⟩
  ·exact ⟨_, _, rfl, o50⟩
  ·exact ⟨v, _, rfl, hv⟩
 ·intro h; omega
 ·intro h; omega
 ·intro h; omega
 ·intro h; rw [hkd] at h; exact absurd h (by decide)
 ·intro h; rw [hkd] at h; exact absurd h (by decide)
 ·intro h; omega
end Go.Proofs.YtecodpdfckjalaaGreatDoor
