import Derived.Test.YtpgobebibjeglaaDoorCTTx
import Derived.Test.YtpgobebibjeglaaDoorCTPlain
import Derived.Test.YtpgobebibjeglaaDoorCTNd
import Derived.Test.YtpgobebibjeglaaDoorCTPa
import Derived.Test.YtpgobebibjeglaaDoorCTPb
import Derived.Test.YtpgobebibjeglaaDoorCTPe
import Derived.Test.YtpgobebibjeglaaDoorCTPf
import Derived.Test.YtpgobebibjeglaaDoorCTPj
import Derived.Test.YtpgobebibjeglaaDoorCTSum
namespace Go.Proofs.YtpgobebibjeglaaDoor
open Go.RowKit
set_option linter.unusedVariables false
set_option linter.unusedSimpArgs false

theorem nameOk_ne {xs : List UInt8} (h : nameOk xs = true) : xs ≠ [] := by
  intro e
  subst e
  have := (nameOk_next h).2.2.2.1
  simp at this
theorem empty_eq (nm : ByteArray) : nm.toList.isEmpty = nm.data.toList.isEmpty := by rw [ByteArray.toList_eq]

theorem nd_1 (w0 : World) (B b nb no nc N L : Nat) (hN : N ≤ 140737488355328) (G : Nat → List (List UInt8)) (k : Nat) (ps num : Int) (ka : Option Addr) (kc : Nat) (ks : List Nat) (nm : ByteArray) (f : Nat → Int) (hnb : nb < B) (hL : L ≤ maxLen) (hk : k < L) (hLB : LaidB w0 B) (hi : I64 num)
    (hc : w0.cell? ⟨nb, no + k * 5, none⟩ = some (.int .i64 1) ∧ w0.cell? ⟨nb, no + k * 5 + 1, none⟩ = some (.int .i64 ps) ∧ w0.cell? ⟨nb, no + k * 5 + 2, none⟩ = some (.slice ka ks.length kc) ∧ w0.cell? ⟨nb, no + k * 5 + 3, none⟩ = some (.string nm) ∧ w0.cell? ⟨nb, no + k * 5 + 4, none⟩ = some (.int .i64 num))
    (hI : IntsV w0 B (.slice ka ks.length kc) (ks.map fun k : Nat => (k : Int))) (HC : ∀ k ∈ ks, NdC w0 B b (.slice (some ⟨nb, no, none⟩) L nc) N G k)
    (hnum : numFitsI 1 num ks.length = true) (hname : nameFitsI 1 nm = true) (hfit : kidsFitI f 1 num ks = true) (hG : G k = nodeT G 1 num nm.data.toList ks) : NdC w0 B b (.slice (some ⟨nb, no, none⟩) L nc) N G k := by
  refine node_typ w0 B b nb no nc N L k 1 ps num ka ks.length kc nm G hnb hL hk hc rfl ?_
  rw [hG, nodeT_1]
  exact pr_1 w0 B b (.slice (some ⟨nb, no, none⟩) L nc) N hN G ka kc ps num ks nm hI HC
theorem nd_2 (w0 : World) (B b nb no nc N L : Nat) (hN : N ≤ 140737488355328) (G : Nat → List (List UInt8)) (k : Nat) (ps num : Int) (ka : Option Addr) (kc : Nat) (ks : List Nat) (nm : ByteArray) (f : Nat → Int) (hnb : nb < B) (hL : L ≤ maxLen) (hk : k < L) (hLB : LaidB w0 B) (hi : I64 num)
    (hc : w0.cell? ⟨nb, no + k * 5, none⟩ = some (.int .i64 2) ∧ w0.cell? ⟨nb, no + k * 5 + 1, none⟩ = some (.int .i64 ps) ∧ w0.cell? ⟨nb, no + k * 5 + 2, none⟩ = some (.slice ka ks.length kc) ∧ w0.cell? ⟨nb, no + k * 5 + 3, none⟩ = some (.string nm) ∧ w0.cell? ⟨nb, no + k * 5 + 4, none⟩ = some (.int .i64 num))
    (hI : IntsV w0 B (.slice ka ks.length kc) (ks.map fun k : Nat => (k : Int))) (HC : ∀ k ∈ ks, NdC w0 B b (.slice (some ⟨nb, no, none⟩) L nc) N G k)
    (hnum : numFitsI 2 num ks.length = true) (hname : nameFitsI 2 nm = true) (hfit : kidsFitI f 2 num ks = true) (hG : G k = nodeT G 2 num nm.data.toList ks) : NdC w0 B b (.slice (some ⟨nb, no, none⟩) L nc) N G k := by
  refine node_typ w0 B b nb no nc N L k 2 ps num ka ks.length kc nm G hnb hL hk hc rfl ?_
  rw [hG, nodeT_2]
  exact pr_2 w0 B b (.slice (some ⟨nb, no, none⟩) L nc) N hN G ka kc ps num ks nm hI HC
theorem nd_3 (w0 : World) (B b nb no nc N L : Nat) (hN : N ≤ 140737488355328) (G : Nat → List (List UInt8)) (k : Nat) (ps num : Int) (ka : Option Addr) (kc : Nat) (ks : List Nat) (nm : ByteArray) (f : Nat → Int) (hnb : nb < B) (hL : L ≤ maxLen) (hk : k < L) (hLB : LaidB w0 B) (hi : I64 num)
    (hc : w0.cell? ⟨nb, no + k * 5, none⟩ = some (.int .i64 3) ∧ w0.cell? ⟨nb, no + k * 5 + 1, none⟩ = some (.int .i64 ps) ∧ w0.cell? ⟨nb, no + k * 5 + 2, none⟩ = some (.slice ka ks.length kc) ∧ w0.cell? ⟨nb, no + k * 5 + 3, none⟩ = some (.string nm) ∧ w0.cell? ⟨nb, no + k * 5 + 4, none⟩ = some (.int .i64 num))
    (hI : IntsV w0 B (.slice ka ks.length kc) (ks.map fun k : Nat => (k : Int))) (HC : ∀ k ∈ ks, NdC w0 B b (.slice (some ⟨nb, no, none⟩) L nc) N G k)
    (hnum : numFitsI 3 num ks.length = true) (hname : nameFitsI 3 nm = true) (hfit : kidsFitI f 3 num ks = true) (hG : G k = nodeT G 3 num nm.data.toList ks) : NdC w0 B b (.slice (some ⟨nb, no, none⟩) L nc) N G k := by
  have hne := nameOk_ne (show nameOk nm.data.toList = true from hname)
  refine node_typ w0 B b nb no nc N L k 3 ps num ka ks.length kc nm G hnb hL hk hc rfl ?_
  rw [hG, nodeT_3]
  exact pr_3 w0 B b (.slice (some ⟨nb, no, none⟩) L nc) N hN G ka kc ps num ks nm hne hI HC
theorem nd_4 (w0 : World) (B b nb no nc N L : Nat) (hN : N ≤ 140737488355328) (G : Nat → List (List UInt8)) (k : Nat) (ps num : Int) (ka : Option Addr) (kc : Nat) (ks : List Nat) (nm : ByteArray) (f : Nat → Int) (hnb : nb < B) (hL : L ≤ maxLen) (hk : k < L) (hLB : LaidB w0 B) (hi : I64 num)
    (hc : w0.cell? ⟨nb, no + k * 5, none⟩ = some (.int .i64 4) ∧ w0.cell? ⟨nb, no + k * 5 + 1, none⟩ = some (.int .i64 ps) ∧ w0.cell? ⟨nb, no + k * 5 + 2, none⟩ = some (.slice ka ks.length kc) ∧ w0.cell? ⟨nb, no + k * 5 + 3, none⟩ = some (.string nm) ∧ w0.cell? ⟨nb, no + k * 5 + 4, none⟩ = some (.int .i64 num))
    (hI : IntsV w0 B (.slice ka ks.length kc) (ks.map fun k : Nat => (k : Int))) (HC : ∀ k ∈ ks, NdC w0 B b (.slice (some ⟨nb, no, none⟩) L nc) N G k)
    (hnum : numFitsI 4 num ks.length = true) (hname : nameFitsI 4 nm = true) (hfit : kidsFitI f 4 num ks = true) (hG : G k = nodeT G 4 num nm.data.toList ks) : NdC w0 B b (.slice (some ⟨nb, no, none⟩) L nc) N G k := by
  refine node_typ w0 B b nb no nc N L k 4 ps num ka ks.length kc nm G hnb hL hk hc rfl ?_
  rw [hG, nodeT_4]
  exact pr_4 w0 B b (.slice (some ⟨nb, no, none⟩) L nc) N hN G ka kc ps num ks nm hI HC
theorem nd_5 (w0 : World) (B b nb no nc N L : Nat) (hN : N ≤ 140737488355328) (G : Nat → List (List UInt8)) (k : Nat) (ps num : Int) (ka : Option Addr) (kc : Nat) (ks : List Nat) (nm : ByteArray) (f : Nat → Int) (hnb : nb < B) (hL : L ≤ maxLen) (hk : k < L) (hLB : LaidB w0 B) (hi : I64 num)
    (hc : w0.cell? ⟨nb, no + k * 5, none⟩ = some (.int .i64 5) ∧ w0.cell? ⟨nb, no + k * 5 + 1, none⟩ = some (.int .i64 ps) ∧ w0.cell? ⟨nb, no + k * 5 + 2, none⟩ = some (.slice ka ks.length kc) ∧ w0.cell? ⟨nb, no + k * 5 + 3, none⟩ = some (.string nm) ∧ w0.cell? ⟨nb, no + k * 5 + 4, none⟩ = some (.int .i64 num))
    (hI : IntsV w0 B (.slice ka ks.length kc) (ks.map fun k : Nat => (k : Int))) (HC : ∀ k ∈ ks, NdC w0 B b (.slice (some ⟨nb, no, none⟩) L nc) N G k)
    (hnum : numFitsI 5 num ks.length = true) (hname : nameFitsI 5 nm = true) (hfit : kidsFitI f 5 num ks = true) (hG : G k = nodeT G 5 num nm.data.toList ks) : NdC w0 B b (.slice (some ⟨nb, no, none⟩) L nc) N G k := by
  refine node_typ w0 B b nb no nc N L k 5 ps num ka ks.length kc nm G hnb hL hk hc rfl ?_
  rw [hG, nodeT_5]
  exact pr_5 w0 B b (.slice (some ⟨nb, no, none⟩) L nc) N hN G ka kc ps num ks nm hI HC
theorem nd_6 (w0 : World) (B b nb no nc N L : Nat) (hN : N ≤ 140737488355328) (G : Nat → List (List UInt8)) (k : Nat) (ps num : Int) (ka : Option Addr) (kc : Nat) (ks : List Nat) (nm : ByteArray) (f : Nat → Int) (hnb : nb < B) (hL : L ≤ maxLen) (hk : k < L) (hLB : LaidB w0 B) (hi : I64 num)
    (hc : w0.cell? ⟨nb, no + k * 5, none⟩ = some (.int .i64 6) ∧ w0.cell? ⟨nb, no + k * 5 + 1, none⟩ = some (.int .i64 ps) ∧ w0.cell? ⟨nb, no + k * 5 + 2, none⟩ = some (.slice ka ks.length kc) ∧ w0.cell? ⟨nb, no + k * 5 + 3, none⟩ = some (.string nm) ∧ w0.cell? ⟨nb, no + k * 5 + 4, none⟩ = some (.int .i64 num))
    (hI : IntsV w0 B (.slice ka ks.length kc) (ks.map fun k : Nat => (k : Int))) (HC : ∀ k ∈ ks, NdC w0 B b (.slice (some ⟨nb, no, none⟩) L nc) N G k)
    (hnum : numFitsI 6 num ks.length = true) (hname : nameFitsI 6 nm = true) (hfit : kidsFitI f 6 num ks = true) (hG : G k = nodeT G 6 num nm.data.toList ks) : NdC w0 B b (.slice (some ⟨nb, no, none⟩) L nc) N G k := by
  refine node_typ w0 B b nb no nc N L k 6 ps num ka ks.length kc nm G hnb hL hk hc rfl ?_
  rw [hG, nodeT_6]
  exact pr_6 w0 B b (.slice (some ⟨nb, no, none⟩) L nc) N hN G ka kc ps num ks nm hI HC
theorem nd_7 (w0 : World) (B b nb no nc N L : Nat) (hN : N ≤ 140737488355328) (G : Nat → List (List UInt8)) (k : Nat) (ps num : Int) (ka : Option Addr) (kc : Nat) (ks : List Nat) (nm : ByteArray) (f : Nat → Int) (hnb : nb < B) (hL : L ≤ maxLen) (hk : k < L) (hLB : LaidB w0 B) (hi : I64 num)
    (hc : w0.cell? ⟨nb, no + k * 5, none⟩ = some (.int .i64 7) ∧ w0.cell? ⟨nb, no + k * 5 + 1, none⟩ = some (.int .i64 ps) ∧ w0.cell? ⟨nb, no + k * 5 + 2, none⟩ = some (.slice ka ks.length kc) ∧ w0.cell? ⟨nb, no + k * 5 + 3, none⟩ = some (.string nm) ∧ w0.cell? ⟨nb, no + k * 5 + 4, none⟩ = some (.int .i64 num))
    (hI : IntsV w0 B (.slice ka ks.length kc) (ks.map fun k : Nat => (k : Int))) (HC : ∀ k ∈ ks, NdC w0 B b (.slice (some ⟨nb, no, none⟩) L nc) N G k)
    (hnum : numFitsI 7 num ks.length = true) (hname : nameFitsI 7 nm = true) (hfit : kidsFitI f 7 num ks = true) (hG : G k = nodeT G 7 num nm.data.toList ks) : NdC w0 B b (.slice (some ⟨nb, no, none⟩) L nc) N G k := by
  have hnum : (num == 0 || (num == 1 && decide (0 < ks.length))) = true := hnum
  simp only [Bool.or_eq_true, Bool.and_eq_true, beq_iff_eq, decide_eq_true_eq] at hnum
  rcases hnum with rfl | ⟨rfl, h0⟩
  · refine node_typ w0 B b nb no nc N L k 7 ps 0 ka ks.length kc nm G hnb hL hk hc rfl ?_
    have e : nodeT G 7 0 nm.data.toList ks = [[112, 114, 111, 103]] ++ ([[40]] ++ innerT G ks ++ [[41]]) ++ resT G [] := by rw [nodeT_7]; simp
    rw [hG, e]
    exact pr_7a w0 B b (.slice (some ⟨nb, no, none⟩) L nc) N hN G ka kc ps ks nm hI HC
  · obtain ⟨pp, kr, rfl⟩ : ∃ pp kr, ks = pp ++ [kr] := ⟨ks.dropLast, ks.getLast (by intro e; rw [e] at h0; simp at h0), (List.dropLast_concat_getLast _).symm⟩
    rw [show (pp ++ [kr]).length = pp.length + 1 by simp] at hc
    refine node_typ w0 B b nb no nc N L k 7 ps 1 ka (pp.length + 1) kc nm G hnb hL hk hc rfl ?_
    have e : nodeT G 7 1 nm.data.toList (pp ++ [kr]) = [[112, 114, 111, 103]] ++ ([[40]] ++ innerT G pp ++ [[41]]) ++ resT G [kr] := by rw [nodeT_7]; simp
    rw [hG, e]
    exact pr_7b w0 B b (.slice (some ⟨nb, no, none⟩) L nc) N hN G ka kc ps pp kr nm hI HC
theorem nd_11 (w0 : World) (B b nb no nc N L : Nat) (hN : N ≤ 140737488355328) (G : Nat → List (List UInt8)) (k : Nat) (ps num : Int) (ka : Option Addr) (kc : Nat) (ks : List Nat) (nm : ByteArray) (f : Nat → Int) (hnb : nb < B) (hL : L ≤ maxLen) (hk : k < L) (hLB : LaidB w0 B) (hi : I64 num)
    (hc : w0.cell? ⟨nb, no + k * 5, none⟩ = some (.int .i64 11) ∧ w0.cell? ⟨nb, no + k * 5 + 1, none⟩ = some (.int .i64 ps) ∧ w0.cell? ⟨nb, no + k * 5 + 2, none⟩ = some (.slice ka ks.length kc) ∧ w0.cell? ⟨nb, no + k * 5 + 3, none⟩ = some (.string nm) ∧ w0.cell? ⟨nb, no + k * 5 + 4, none⟩ = some (.int .i64 num))
    (hI : IntsV w0 B (.slice ka ks.length kc) (ks.map fun k : Nat => (k : Int))) (HC : ∀ k ∈ ks, NdC w0 B b (.slice (some ⟨nb, no, none⟩) L nc) N G k)
    (hnum : numFitsI 11 num ks.length = true) (hname : nameFitsI 11 nm = true) (hfit : kidsFitI f 11 num ks = true) (hG : G k = nodeT G 11 num nm.data.toList ks) : NdC w0 B b (.slice (some ⟨nb, no, none⟩) L nc) N G k := by
  refine node_expr w0 B b nb no nc N L k 11 ps num ka ks.length kc nm G hnb hL hk hc rfl rfl ?_
  rw [hG, nodeT_11]
  exact pr_11 w0 B b (.slice (some ⟨nb, no, none⟩) L nc) N hN G ka kc ps num ks nm hLB hi hI HC
theorem nd_12 (w0 : World) (B b nb no nc N L : Nat) (hN : N ≤ 140737488355328) (G : Nat → List (List UInt8)) (k : Nat) (ps num : Int) (ka : Option Addr) (kc : Nat) (ks : List Nat) (nm : ByteArray) (f : Nat → Int) (hnb : nb < B) (hL : L ≤ maxLen) (hk : k < L) (hLB : LaidB w0 B) (hi : I64 num)
    (hc : w0.cell? ⟨nb, no + k * 5, none⟩ = some (.int .i64 12) ∧ w0.cell? ⟨nb, no + k * 5 + 1, none⟩ = some (.int .i64 ps) ∧ w0.cell? ⟨nb, no + k * 5 + 2, none⟩ = some (.slice ka ks.length kc) ∧ w0.cell? ⟨nb, no + k * 5 + 3, none⟩ = some (.string nm) ∧ w0.cell? ⟨nb, no + k * 5 + 4, none⟩ = some (.int .i64 num))
    (hI : IntsV w0 B (.slice ka ks.length kc) (ks.map fun k : Nat => (k : Int))) (HC : ∀ k ∈ ks, NdC w0 B b (.slice (some ⟨nb, no, none⟩) L nc) N G k)
    (hnum : numFitsI 12 num ks.length = true) (hname : nameFitsI 12 nm = true) (hfit : kidsFitI f 12 num ks = true) (hG : G k = nodeT G 12 num nm.data.toList ks) : NdC w0 B b (.slice (some ⟨nb, no, none⟩) L nc) N G k := by
  refine node_expr w0 B b nb no nc N L k 12 ps num ka ks.length kc nm G hnb hL hk hc rfl rfl ?_
  rw [hG, nodeT_12]
  exact pr_12 w0 B b (.slice (some ⟨nb, no, none⟩) L nc) N hN G ka kc ps num ks nm hI HC
theorem nd_13 (w0 : World) (B b nb no nc N L : Nat) (hN : N ≤ 140737488355328) (G : Nat → List (List UInt8)) (k : Nat) (ps num : Int) (ka : Option Addr) (kc : Nat) (ks : List Nat) (nm : ByteArray) (f : Nat → Int) (hnb : nb < B) (hL : L ≤ maxLen) (hk : k < L) (hLB : LaidB w0 B) (hi : I64 num)
    (hc : w0.cell? ⟨nb, no + k * 5, none⟩ = some (.int .i64 13) ∧ w0.cell? ⟨nb, no + k * 5 + 1, none⟩ = some (.int .i64 ps) ∧ w0.cell? ⟨nb, no + k * 5 + 2, none⟩ = some (.slice ka ks.length kc) ∧ w0.cell? ⟨nb, no + k * 5 + 3, none⟩ = some (.string nm) ∧ w0.cell? ⟨nb, no + k * 5 + 4, none⟩ = some (.int .i64 num))
    (hI : IntsV w0 B (.slice ka ks.length kc) (ks.map fun k : Nat => (k : Int))) (HC : ∀ k ∈ ks, NdC w0 B b (.slice (some ⟨nb, no, none⟩) L nc) N G k)
    (hnum : numFitsI 13 num ks.length = true) (hname : nameFitsI 13 nm = true) (hfit : kidsFitI f 13 num ks = true) (hG : G k = nodeT G 13 num nm.data.toList ks) : NdC w0 B b (.slice (some ⟨nb, no, none⟩) L nc) N G k := by
  have hne := nameOk_ne (show nameOk nm.data.toList = true from hname)
  refine node_expr w0 B b nb no nc N L k 13 ps num ka ks.length kc nm G hnb hL hk hc rfl rfl ?_
  rw [hG, nodeT_13]
  exact pr_13 w0 B b (.slice (some ⟨nb, no, none⟩) L nc) N hN G ka kc ps num ks nm hne hI HC
theorem nd_14 (w0 : World) (B b nb no nc N L : Nat) (hN : N ≤ 140737488355328) (G : Nat → List (List UInt8)) (k : Nat) (ps num : Int) (ka : Option Addr) (kc : Nat) (ks : List Nat) (nm : ByteArray) (f : Nat → Int) (hnb : nb < B) (hL : L ≤ maxLen) (hk : k < L) (hLB : LaidB w0 B) (hi : I64 num)
    (hc : w0.cell? ⟨nb, no + k * 5, none⟩ = some (.int .i64 14) ∧ w0.cell? ⟨nb, no + k * 5 + 1, none⟩ = some (.int .i64 ps) ∧ w0.cell? ⟨nb, no + k * 5 + 2, none⟩ = some (.slice ka ks.length kc) ∧ w0.cell? ⟨nb, no + k * 5 + 3, none⟩ = some (.string nm) ∧ w0.cell? ⟨nb, no + k * 5 + 4, none⟩ = some (.int .i64 num))
    (hI : IntsV w0 B (.slice ka ks.length kc) (ks.map fun k : Nat => (k : Int))) (HC : ∀ k ∈ ks, NdC w0 B b (.slice (some ⟨nb, no, none⟩) L nc) N G k)
    (hnum : numFitsI 14 num ks.length = true) (hname : nameFitsI 14 nm = true) (hfit : kidsFitI f 14 num ks = true) (hG : G k = nodeT G 14 num nm.data.toList ks) : NdC w0 B b (.slice (some ⟨nb, no, none⟩) L nc) N G k := by
  refine node_expr w0 B b nb no nc N L k 14 ps num ka ks.length kc nm G hnb hL hk hc rfl rfl ?_
  rw [hG, nodeT_14]
  exact pr_14 w0 B b (.slice (some ⟨nb, no, none⟩) L nc) N hN G ka kc ps num ks nm hI HC
theorem nd_15 (w0 : World) (B b nb no nc N L : Nat) (hN : N ≤ 140737488355328) (G : Nat → List (List UInt8)) (k : Nat) (ps num : Int) (ka : Option Addr) (kc : Nat) (ks : List Nat) (nm : ByteArray) (f : Nat → Int) (hnb : nb < B) (hL : L ≤ maxLen) (hk : k < L) (hLB : LaidB w0 B) (hi : I64 num)
    (hc : w0.cell? ⟨nb, no + k * 5, none⟩ = some (.int .i64 15) ∧ w0.cell? ⟨nb, no + k * 5 + 1, none⟩ = some (.int .i64 ps) ∧ w0.cell? ⟨nb, no + k * 5 + 2, none⟩ = some (.slice ka ks.length kc) ∧ w0.cell? ⟨nb, no + k * 5 + 3, none⟩ = some (.string nm) ∧ w0.cell? ⟨nb, no + k * 5 + 4, none⟩ = some (.int .i64 num))
    (hI : IntsV w0 B (.slice ka ks.length kc) (ks.map fun k : Nat => (k : Int))) (HC : ∀ k ∈ ks, NdC w0 B b (.slice (some ⟨nb, no, none⟩) L nc) N G k)
    (hnum : numFitsI 15 num ks.length = true) (hname : nameFitsI 15 nm = true) (hfit : kidsFitI f 15 num ks = true) (hG : G k = nodeT G 15 num nm.data.toList ks) : NdC w0 B b (.slice (some ⟨nb, no, none⟩) L nc) N G k := by
  refine node_expr w0 B b nb no nc N L k 15 ps num ka ks.length kc nm G hnb hL hk hc rfl rfl ?_
  rw [hG, nodeT_15]
  exact pr_15 w0 B b (.slice (some ⟨nb, no, none⟩) L nc) N hN G ka kc ps num ks nm hI HC
theorem nd_16 (w0 : World) (B b nb no nc N L : Nat) (hN : N ≤ 140737488355328) (G : Nat → List (List UInt8)) (k : Nat) (ps num : Int) (ka : Option Addr) (kc : Nat) (ks : List Nat) (nm : ByteArray) (f : Nat → Int) (hnb : nb < B) (hL : L ≤ maxLen) (hk : k < L) (hLB : LaidB w0 B) (hi : I64 num)
    (hc : w0.cell? ⟨nb, no + k * 5, none⟩ = some (.int .i64 16) ∧ w0.cell? ⟨nb, no + k * 5 + 1, none⟩ = some (.int .i64 ps) ∧ w0.cell? ⟨nb, no + k * 5 + 2, none⟩ = some (.slice ka ks.length kc) ∧ w0.cell? ⟨nb, no + k * 5 + 3, none⟩ = some (.string nm) ∧ w0.cell? ⟨nb, no + k * 5 + 4, none⟩ = some (.int .i64 num))
    (hI : IntsV w0 B (.slice ka ks.length kc) (ks.map fun k : Nat => (k : Int))) (HC : ∀ k ∈ ks, NdC w0 B b (.slice (some ⟨nb, no, none⟩) L nc) N G k)
    (hnum : numFitsI 16 num ks.length = true) (hname : nameFitsI 16 nm = true) (hfit : kidsFitI f 16 num ks = true) (hG : G k = nodeT G 16 num nm.data.toList ks) : NdC w0 B b (.slice (some ⟨nb, no, none⟩) L nc) N G k := by
  refine node_expr w0 B b nb no nc N L k 16 ps num ka ks.length kc nm G hnb hL hk hc rfl rfl ?_
  rw [hG, nodeT_16]
  exact pr_16 w0 B b (.slice (some ⟨nb, no, none⟩) L nc) N hN G ka kc ps num ks nm hI HC
theorem nd_17 (w0 : World) (B b nb no nc N L : Nat) (hN : N ≤ 140737488355328) (G : Nat → List (List UInt8)) (k : Nat) (ps num : Int) (ka : Option Addr) (kc : Nat) (ks : List Nat) (nm : ByteArray) (f : Nat → Int) (hnb : nb < B) (hL : L ≤ maxLen) (hk : k < L) (hLB : LaidB w0 B) (hi : I64 num)
    (hc : w0.cell? ⟨nb, no + k * 5, none⟩ = some (.int .i64 17) ∧ w0.cell? ⟨nb, no + k * 5 + 1, none⟩ = some (.int .i64 ps) ∧ w0.cell? ⟨nb, no + k * 5 + 2, none⟩ = some (.slice ka ks.length kc) ∧ w0.cell? ⟨nb, no + k * 5 + 3, none⟩ = some (.string nm) ∧ w0.cell? ⟨nb, no + k * 5 + 4, none⟩ = some (.int .i64 num))
    (hI : IntsV w0 B (.slice ka ks.length kc) (ks.map fun k : Nat => (k : Int))) (HC : ∀ k ∈ ks, NdC w0 B b (.slice (some ⟨nb, no, none⟩) L nc) N G k)
    (hnum : numFitsI 17 num ks.length = true) (hname : nameFitsI 17 nm = true) (hfit : kidsFitI f 17 num ks = true) (hG : G k = nodeT G 17 num nm.data.toList ks) : NdC w0 B b (.slice (some ⟨nb, no, none⟩) L nc) N G k := by
  refine node_expr w0 B b nb no nc N L k 17 ps num ka ks.length kc nm G hnb hL hk hc rfl rfl ?_
  rw [hG, nodeT_17]
  exact pr_17 w0 B b (.slice (some ⟨nb, no, none⟩) L nc) N hN G ka kc ps num ks nm hI HC
theorem nd_18 (w0 : World) (B b nb no nc N L : Nat) (hN : N ≤ 140737488355328) (G : Nat → List (List UInt8)) (k : Nat) (ps num : Int) (ka : Option Addr) (kc : Nat) (ks : List Nat) (nm : ByteArray) (f : Nat → Int) (hnb : nb < B) (hL : L ≤ maxLen) (hk : k < L) (hLB : LaidB w0 B) (hi : I64 num)
    (hc : w0.cell? ⟨nb, no + k * 5, none⟩ = some (.int .i64 18) ∧ w0.cell? ⟨nb, no + k * 5 + 1, none⟩ = some (.int .i64 ps) ∧ w0.cell? ⟨nb, no + k * 5 + 2, none⟩ = some (.slice ka ks.length kc) ∧ w0.cell? ⟨nb, no + k * 5 + 3, none⟩ = some (.string nm) ∧ w0.cell? ⟨nb, no + k * 5 + 4, none⟩ = some (.int .i64 num))
    (hI : IntsV w0 B (.slice ka ks.length kc) (ks.map fun k : Nat => (k : Int))) (HC : ∀ k ∈ ks, NdC w0 B b (.slice (some ⟨nb, no, none⟩) L nc) N G k)
    (hnum : numFitsI 18 num ks.length = true) (hname : nameFitsI 18 nm = true) (hfit : kidsFitI f 18 num ks = true) (hG : G k = nodeT G 18 num nm.data.toList ks) : NdC w0 B b (.slice (some ⟨nb, no, none⟩) L nc) N G k := by
  refine node_expr w0 B b nb no nc N L k 18 ps num ka ks.length kc nm G hnb hL hk hc rfl rfl ?_
  rw [hG, nodeT_18]
  exact pr_18 w0 B b (.slice (some ⟨nb, no, none⟩) L nc) N hN G ka kc ps num ks nm hI HC
theorem nd_19 (w0 : World) (B b nb no nc N L : Nat) (hN : N ≤ 140737488355328) (G : Nat → List (List UInt8)) (k : Nat) (ps num : Int) (ka : Option Addr) (kc : Nat) (ks : List Nat) (nm : ByteArray) (f : Nat → Int) (hnb : nb < B) (hL : L ≤ maxLen) (hk : k < L) (hLB : LaidB w0 B) (hi : I64 num)
    (hc : w0.cell? ⟨nb, no + k * 5, none⟩ = some (.int .i64 19) ∧ w0.cell? ⟨nb, no + k * 5 + 1, none⟩ = some (.int .i64 ps) ∧ w0.cell? ⟨nb, no + k * 5 + 2, none⟩ = some (.slice ka ks.length kc) ∧ w0.cell? ⟨nb, no + k * 5 + 3, none⟩ = some (.string nm) ∧ w0.cell? ⟨nb, no + k * 5 + 4, none⟩ = some (.int .i64 num))
    (hI : IntsV w0 B (.slice ka ks.length kc) (ks.map fun k : Nat => (k : Int))) (HC : ∀ k ∈ ks, NdC w0 B b (.slice (some ⟨nb, no, none⟩) L nc) N G k)
    (hnum : numFitsI 19 num ks.length = true) (hname : nameFitsI 19 nm = true) (hfit : kidsFitI f 19 num ks = true) (hG : G k = nodeT G 19 num nm.data.toList ks) : NdC w0 B b (.slice (some ⟨nb, no, none⟩) L nc) N G k := by
  refine node_expr w0 B b nb no nc N L k 19 ps num ka ks.length kc nm G hnb hL hk hc rfl rfl ?_
  rw [hG, nodeT_19]
  exact pr_19 w0 B b (.slice (some ⟨nb, no, none⟩) L nc) N hN G ka kc ps num ks nm hI HC
theorem nd_20 (w0 : World) (B b nb no nc N L : Nat) (hN : N ≤ 140737488355328) (G : Nat → List (List UInt8)) (k : Nat) (ps num : Int) (ka : Option Addr) (kc : Nat) (ks : List Nat) (nm : ByteArray) (f : Nat → Int) (hnb : nb < B) (hL : L ≤ maxLen) (hk : k < L) (hLB : LaidB w0 B) (hi : I64 num)
    (hc : w0.cell? ⟨nb, no + k * 5, none⟩ = some (.int .i64 20) ∧ w0.cell? ⟨nb, no + k * 5 + 1, none⟩ = some (.int .i64 ps) ∧ w0.cell? ⟨nb, no + k * 5 + 2, none⟩ = some (.slice ka ks.length kc) ∧ w0.cell? ⟨nb, no + k * 5 + 3, none⟩ = some (.string nm) ∧ w0.cell? ⟨nb, no + k * 5 + 4, none⟩ = some (.int .i64 num))
    (hI : IntsV w0 B (.slice ka ks.length kc) (ks.map fun k : Nat => (k : Int))) (HC : ∀ k ∈ ks, NdC w0 B b (.slice (some ⟨nb, no, none⟩) L nc) N G k)
    (hnum : numFitsI 20 num ks.length = true) (hname : nameFitsI 20 nm = true) (hfit : kidsFitI f 20 num ks = true) (hG : G k = nodeT G 20 num nm.data.toList ks) : NdC w0 B b (.slice (some ⟨nb, no, none⟩) L nc) N G k := by
  have hnum : (num == 0 || num == 1) = true := hnum
  simp only [Bool.or_eq_true, beq_iff_eq] at hnum
  unfold kidsFitI at hfit
  rcases hnum with rfl | rfl
  · rw [kidsRun_20n _ _ _ (by decide)] at hfit
    obtain ⟨pp, kz, _, _, rfl⟩ := fitM1 hfit
    rw [show (pp ++ [kz]).length = pp.length + 1 by simp] at hc
    refine node_expr w0 B b nb no nc N L k 20 ps 0 ka (pp.length + 1) kc nm G hnb hL hk hc rfl rfl ?_
    refine pr_20 w0 B b _ N ka (pp.length + 1) kc ps 0 nm _ ?_
    by_cases h0 : nm.data.toList = []
    · have hem : nm.toList.isEmpty = true := by rw [empty_eq, h0]; rfl
      have e : nodeT G 20 0 nm.data.toList (pp ++ [kz]) = [[112, 114, 111, 103]] ++ ([[40]] ++ innerT G pp ++ [[41]]) ++ resT G ([] : List Nat) ++ G kz := by rw [nodeT_20, if_pos h0]; simp [rowT]
      rw [hG, e]
      exact prog_00 w0 B b (.slice (some ⟨nb, no, none⟩) L nc) N hN G ka kc ps pp kz nm hem hI HC
    · have hem : nm.toList.isEmpty = false := by rw [empty_eq]; simpa using h0
      have e : nodeT G 20 0 nm.data.toList (pp ++ [kz]) = [[112, 114, 111, 103]] ++ [nm.data.toList] ++ ([[40]] ++ innerT G pp ++ [[41]]) ++ resT G ([] : List Nat) ++ G kz := by rw [nodeT_20, if_neg h0]; simp [rowT]
      rw [hG, e]
      exact prog_01 w0 B b (.slice (some ⟨nb, no, none⟩) L nc) N hN G ka kc ps pp kz nm h0 hem hI HC
  · rw [kidsRun_20y _ _ _ rfl] at hfit
    obtain ⟨pp, kr, kz, _, _, _, rfl⟩ := fitM2 hfit
    rw [show (pp ++ [kr, kz]).length = pp.length + 2 by simp] at hc
    have ed : (pp ++ [kr, kz]).drop (pp.length + 1) = [kz] := by rw [List.drop_append]; simp
    have et : (pp ++ [kr, kz]).take (pp.length + 1) = pp ++ [kr] := by rw [List.take_append, List.take_of_length_le (by omega)]; simp
    refine node_expr w0 B b nb no nc N L k 20 ps 1 ka (pp.length + 2) kc nm G hnb hL hk hc rfl rfl ?_
    refine pr_20 w0 B b _ N ka (pp.length + 2) kc ps 1 nm _ ?_
    by_cases h0 : nm.data.toList = []
    · have hem : nm.toList.isEmpty = true := by rw [empty_eq, h0]; rfl
      have e : nodeT G 20 1 nm.data.toList (pp ++ [kr, kz]) = [[112, 114, 111, 103]] ++ ([[40]] ++ innerT G pp ++ [[41]]) ++ resT G [kr] ++ G kz := by rw [nodeT_20, if_pos h0]; simp [rowT, ed, et]
      rw [hG, e]
      exact prog_10 w0 B b (.slice (some ⟨nb, no, none⟩) L nc) N hN G ka kc ps pp kr kz nm hem hI HC
    · have hem : nm.toList.isEmpty = false := by rw [empty_eq]; simpa using h0
      have e : nodeT G 20 1 nm.data.toList (pp ++ [kr, kz]) = [[112, 114, 111, 103]] ++ [nm.data.toList] ++ ([[40]] ++ innerT G pp ++ [[41]]) ++ resT G [kr] ++ G kz := by rw [nodeT_20, if_neg h0]; simp [rowT, ed, et]
      rw [hG, e]
      exact prog_11 w0 B b (.slice (some ⟨nb, no, none⟩) L nc) N hN G ka kc ps pp kr kz nm h0 hem hI HC
theorem nd_21 (w0 : World) (B b nb no nc N L : Nat) (hN : N ≤ 140737488355328) (G : Nat → List (List UInt8)) (k : Nat) (ps num : Int) (ka : Option Addr) (kc : Nat) (ks : List Nat) (nm : ByteArray) (f : Nat → Int) (hnb : nb < B) (hL : L ≤ maxLen) (hk : k < L) (hLB : LaidB w0 B) (hi : I64 num)
    (hc : w0.cell? ⟨nb, no + k * 5, none⟩ = some (.int .i64 21) ∧ w0.cell? ⟨nb, no + k * 5 + 1, none⟩ = some (.int .i64 ps) ∧ w0.cell? ⟨nb, no + k * 5 + 2, none⟩ = some (.slice ka ks.length kc) ∧ w0.cell? ⟨nb, no + k * 5 + 3, none⟩ = some (.string nm) ∧ w0.cell? ⟨nb, no + k * 5 + 4, none⟩ = some (.int .i64 num))
    (hI : IntsV w0 B (.slice ka ks.length kc) (ks.map fun k : Nat => (k : Int))) (HC : ∀ k ∈ ks, NdC w0 B b (.slice (some ⟨nb, no, none⟩) L nc) N G k)
    (hnum : numFitsI 21 num ks.length = true) (hname : nameFitsI 21 nm = true) (hfit : kidsFitI f 21 num ks = true) (hG : G k = nodeT G 21 num nm.data.toList ks) : NdC w0 B b (.slice (some ⟨nb, no, none⟩) L nc) N G k := by
  refine node_expr w0 B b nb no nc N L k 21 ps num ka ks.length kc nm G hnb hL hk hc rfl rfl ?_
  rw [hG, nodeT_21]
  exact pr_21 w0 B b (.slice (some ⟨nb, no, none⟩) L nc) N hN G ka kc ps num ks nm hI HC
theorem nd_22 (w0 : World) (B b nb no nc N L : Nat) (hN : N ≤ 140737488355328) (G : Nat → List (List UInt8)) (k : Nat) (ps num : Int) (ka : Option Addr) (kc : Nat) (ks : List Nat) (nm : ByteArray) (f : Nat → Int) (hnb : nb < B) (hL : L ≤ maxLen) (hk : k < L) (hLB : LaidB w0 B) (hi : I64 num)
    (hc : w0.cell? ⟨nb, no + k * 5, none⟩ = some (.int .i64 22) ∧ w0.cell? ⟨nb, no + k * 5 + 1, none⟩ = some (.int .i64 ps) ∧ w0.cell? ⟨nb, no + k * 5 + 2, none⟩ = some (.slice ka ks.length kc) ∧ w0.cell? ⟨nb, no + k * 5 + 3, none⟩ = some (.string nm) ∧ w0.cell? ⟨nb, no + k * 5 + 4, none⟩ = some (.int .i64 num))
    (hI : IntsV w0 B (.slice ka ks.length kc) (ks.map fun k : Nat => (k : Int))) (HC : ∀ k ∈ ks, NdC w0 B b (.slice (some ⟨nb, no, none⟩) L nc) N G k)
    (hnum : numFitsI 22 num ks.length = true) (hname : nameFitsI 22 nm = true) (hfit : kidsFitI f 22 num ks = true) (hG : G k = nodeT G 22 num nm.data.toList ks) : NdC w0 B b (.slice (some ⟨nb, no, none⟩) L nc) N G k := by
  unfold kidsFitI at hfit
  rw [kidsRun_22] at hfit
  obtain ⟨k0, k1, _, _, rfl⟩ := fit2 hfit
  refine node_expr w0 B b nb no nc N L k 22 ps num ka 2 kc nm G hnb hL hk hc rfl rfl ?_
  have e : nodeT G 22 num nm.data.toList [k0, k1] = G k0 ++ [opT num] ++ G k1 := by rw [nodeT_22]; simp [rowT]
  rw [hG, e]
  exact pr_22 w0 B b (.slice (some ⟨nb, no, none⟩) L nc) N hN G ka kc ps num k0 k1 nm hI HC
theorem nd_23 (w0 : World) (B b nb no nc N L : Nat) (hN : N ≤ 140737488355328) (G : Nat → List (List UInt8)) (k : Nat) (ps num : Int) (ka : Option Addr) (kc : Nat) (ks : List Nat) (nm : ByteArray) (f : Nat → Int) (hnb : nb < B) (hL : L ≤ maxLen) (hk : k < L) (hLB : LaidB w0 B) (hi : I64 num)
    (hc : w0.cell? ⟨nb, no + k * 5, none⟩ = some (.int .i64 23) ∧ w0.cell? ⟨nb, no + k * 5 + 1, none⟩ = some (.int .i64 ps) ∧ w0.cell? ⟨nb, no + k * 5 + 2, none⟩ = some (.slice ka ks.length kc) ∧ w0.cell? ⟨nb, no + k * 5 + 3, none⟩ = some (.string nm) ∧ w0.cell? ⟨nb, no + k * 5 + 4, none⟩ = some (.int .i64 num))
    (hI : IntsV w0 B (.slice ka ks.length kc) (ks.map fun k : Nat => (k : Int))) (HC : ∀ k ∈ ks, NdC w0 B b (.slice (some ⟨nb, no, none⟩) L nc) N G k)
    (hnum : numFitsI 23 num ks.length = true) (hname : nameFitsI 23 nm = true) (hfit : kidsFitI f 23 num ks = true) (hG : G k = nodeT G 23 num nm.data.toList ks) : NdC w0 B b (.slice (some ⟨nb, no, none⟩) L nc) N G k := by
  unfold kidsFitI at hfit
  rw [kidsRun_23] at hfit
  obtain ⟨k0, r, _, _, rfl⟩ := fit1M hfit
  refine node_expr w0 B b nb no nc N L k 23 ps num ka (r.length + 1) kc nm G hnb hL hk hc rfl rfl ?_
  have e : nodeT G 23 num nm.data.toList (k0 :: r) = G k0 ++ ([[40]] ++ innerT G r ++ [[41]]) := by rw [nodeT_23]; simp [rowT]
  rw [hG, e]
  exact pr_23 w0 B b (.slice (some ⟨nb, no, none⟩) L nc) N hN G ka kc ps num k0 r nm hI HC
theorem nd_24 (w0 : World) (B b nb no nc N L : Nat) (hN : N ≤ 140737488355328) (G : Nat → List (List UInt8)) (k : Nat) (ps num : Int) (ka : Option Addr) (kc : Nat) (ks : List Nat) (nm : ByteArray) (f : Nat → Int) (hnb : nb < B) (hL : L ≤ maxLen) (hk : k < L) (hLB : LaidB w0 B) (hi : I64 num)
    (hc : w0.cell? ⟨nb, no + k * 5, none⟩ = some (.int .i64 24) ∧ w0.cell? ⟨nb, no + k * 5 + 1, none⟩ = some (.int .i64 ps) ∧ w0.cell? ⟨nb, no + k * 5 + 2, none⟩ = some (.slice ka ks.length kc) ∧ w0.cell? ⟨nb, no + k * 5 + 3, none⟩ = some (.string nm) ∧ w0.cell? ⟨nb, no + k * 5 + 4, none⟩ = some (.int .i64 num))
    (hI : IntsV w0 B (.slice ka ks.length kc) (ks.map fun k : Nat => (k : Int))) (HC : ∀ k ∈ ks, NdC w0 B b (.slice (some ⟨nb, no, none⟩) L nc) N G k)
    (hnum : numFitsI 24 num ks.length = true) (hname : nameFitsI 24 nm = true) (hfit : kidsFitI f 24 num ks = true) (hG : G k = nodeT G 24 num nm.data.toList ks) : NdC w0 B b (.slice (some ⟨nb, no, none⟩) L nc) N G k := by
  unfold kidsFitI at hfit
  rw [kidsRun_24] at hfit
  obtain ⟨k0, k1, _, _, rfl⟩ := fit2 hfit
  refine node_expr w0 B b nb no nc N L k 24 ps num ka ([k1].length + 1) kc nm G hnb hL hk hc rfl rfl ?_
  have e : nodeT G 24 num nm.data.toList (k0 :: [k1]) = G k0 ++ ([[91]] ++ innerT G [k1] ++ [[93]]) := by rw [nodeT_24]; simp [rowT]
  rw [hG, e]
  exact pr_24 w0 B b (.slice (some ⟨nb, no, none⟩) L nc) N hN G ka kc ps num k0 [k1] nm hI HC
theorem nd_25 (w0 : World) (B b nb no nc N L : Nat) (hN : N ≤ 140737488355328) (G : Nat → List (List UInt8)) (k : Nat) (ps num : Int) (ka : Option Addr) (kc : Nat) (ks : List Nat) (nm : ByteArray) (f : Nat → Int) (hnb : nb < B) (hL : L ≤ maxLen) (hk : k < L) (hLB : LaidB w0 B) (hi : I64 num)
    (hc : w0.cell? ⟨nb, no + k * 5, none⟩ = some (.int .i64 25) ∧ w0.cell? ⟨nb, no + k * 5 + 1, none⟩ = some (.int .i64 ps) ∧ w0.cell? ⟨nb, no + k * 5 + 2, none⟩ = some (.slice ka ks.length kc) ∧ w0.cell? ⟨nb, no + k * 5 + 3, none⟩ = some (.string nm) ∧ w0.cell? ⟨nb, no + k * 5 + 4, none⟩ = some (.int .i64 num))
    (hI : IntsV w0 B (.slice ka ks.length kc) (ks.map fun k : Nat => (k : Int))) (HC : ∀ k ∈ ks, NdC w0 B b (.slice (some ⟨nb, no, none⟩) L nc) N G k)
    (hnum : numFitsI 25 num ks.length = true) (hname : nameFitsI 25 nm = true) (hfit : kidsFitI f 25 num ks = true) (hG : G k = nodeT G 25 num nm.data.toList ks) : NdC w0 B b (.slice (some ⟨nb, no, none⟩) L nc) N G k := by
  unfold kidsFitI at hfit
  rw [kidsRun_25] at hfit
  obtain ⟨k0, _, rfl⟩ := fit1 hfit
  refine node_expr w0 B b nb no nc N L k 25 ps num ka ([].length + 1) kc nm G hnb hL hk hc rfl rfl ?_
  have e : nodeT G 25 num nm.data.toList (k0 :: []) = G k0 ++ [[46], Lib.itoa num] := by rw [nodeT_25]; simp [rowT]
  rw [hG, e]
  exact pr_25 w0 B b (.slice (some ⟨nb, no, none⟩) L nc) N hN G ka kc ps num k0 [] nm hLB hi hI HC
theorem nd_31 (w0 : World) (B b nb no nc N L : Nat) (hN : N ≤ 140737488355328) (G : Nat → List (List UInt8)) (k : Nat) (ps num : Int) (ka : Option Addr) (kc : Nat) (ks : List Nat) (nm : ByteArray) (f : Nat → Int) (hnb : nb < B) (hL : L ≤ maxLen) (hk : k < L) (hLB : LaidB w0 B) (hi : I64 num)
    (hc : w0.cell? ⟨nb, no + k * 5, none⟩ = some (.int .i64 31) ∧ w0.cell? ⟨nb, no + k * 5 + 1, none⟩ = some (.int .i64 ps) ∧ w0.cell? ⟨nb, no + k * 5 + 2, none⟩ = some (.slice ka ks.length kc) ∧ w0.cell? ⟨nb, no + k * 5 + 3, none⟩ = some (.string nm) ∧ w0.cell? ⟨nb, no + k * 5 + 4, none⟩ = some (.int .i64 num))
    (hI : IntsV w0 B (.slice ka ks.length kc) (ks.map fun k : Nat => (k : Int))) (HC : ∀ k ∈ ks, NdC w0 B b (.slice (some ⟨nb, no, none⟩) L nc) N G k)
    (hnum : numFitsI 31 num ks.length = true) (hname : nameFitsI 31 nm = true) (hfit : kidsFitI f 31 num ks = true) (hG : G k = nodeT G 31 num nm.data.toList ks) : NdC w0 B b (.slice (some ⟨nb, no, none⟩) L nc) N G k := by
  have hne := nameOk_ne (show nameOk nm.data.toList = true from hname)
  refine node_stat w0 B b nb no nc N L k 31 ps num ka ks.length kc nm G hnb hL hk hc rfl rfl rfl ?_
  rw [hG, nodeT_31]
  exact pr_31 w0 B b (.slice (some ⟨nb, no, none⟩) L nc) N hN G ka kc ps num ks nm hne hI HC
theorem nd_32 (w0 : World) (B b nb no nc N L : Nat) (hN : N ≤ 140737488355328) (G : Nat → List (List UInt8)) (k : Nat) (ps num : Int) (ka : Option Addr) (kc : Nat) (ks : List Nat) (nm : ByteArray) (f : Nat → Int) (hnb : nb < B) (hL : L ≤ maxLen) (hk : k < L) (hLB : LaidB w0 B) (hi : I64 num)
    (hc : w0.cell? ⟨nb, no + k * 5, none⟩ = some (.int .i64 32) ∧ w0.cell? ⟨nb, no + k * 5 + 1, none⟩ = some (.int .i64 ps) ∧ w0.cell? ⟨nb, no + k * 5 + 2, none⟩ = some (.slice ka ks.length kc) ∧ w0.cell? ⟨nb, no + k * 5 + 3, none⟩ = some (.string nm) ∧ w0.cell? ⟨nb, no + k * 5 + 4, none⟩ = some (.int .i64 num))
    (hI : IntsV w0 B (.slice ka ks.length kc) (ks.map fun k : Nat => (k : Int))) (HC : ∀ k ∈ ks, NdC w0 B b (.slice (some ⟨nb, no, none⟩) L nc) N G k)
    (hnum : numFitsI 32 num ks.length = true) (hname : nameFitsI 32 nm = true) (hfit : kidsFitI f 32 num ks = true) (hG : G k = nodeT G 32 num nm.data.toList ks) : NdC w0 B b (.slice (some ⟨nb, no, none⟩) L nc) N G k := by
  have hne := nameOk_ne (show nameOk nm.data.toList = true from hname)
  unfold kidsFitI at hfit
  rw [kidsRun_32] at hfit
  rcases fit1o hfit with ⟨k0, _, rfl⟩ | ⟨k0, k1, _, _, rfl⟩
  · refine node_stat w0 B b nb no nc N L k 32 ps num ka 1 kc nm G hnb hL hk hc rfl rfl rfl ?_
    have e : nodeT G 32 num nm.data.toList [k0] = [[118, 97, 114], nm.data.toList, [58]] ++ G k0 ++ [[59]] := by rw [nodeT_32]; simp [rowT]
    rw [hG, e]
    exact pr_32a w0 B b (.slice (some ⟨nb, no, none⟩) L nc) N hN G ka kc ps num k0 nm hne hI HC
  · refine node_stat w0 B b nb no nc N L k 32 ps num ka 2 kc nm G hnb hL hk hc rfl rfl rfl ?_
    have e : nodeT G 32 num nm.data.toList [k0, k1] = [[118, 97, 114], nm.data.toList, [58]] ++ G k0 ++ [[61]] ++ G k1 ++ [[59]] := by rw [nodeT_32]; simp [rowT]
    rw [hG, e]
    exact pr_32b w0 B b (.slice (some ⟨nb, no, none⟩) L nc) N hN G ka kc ps num k0 k1 nm hne hI HC
theorem nd_33 (w0 : World) (B b nb no nc N L : Nat) (hN : N ≤ 140737488355328) (G : Nat → List (List UInt8)) (k : Nat) (ps num : Int) (ka : Option Addr) (kc : Nat) (ks : List Nat) (nm : ByteArray) (f : Nat → Int) (hnb : nb < B) (hL : L ≤ maxLen) (hk : k < L) (hLB : LaidB w0 B) (hi : I64 num)
    (hc : w0.cell? ⟨nb, no + k * 5, none⟩ = some (.int .i64 33) ∧ w0.cell? ⟨nb, no + k * 5 + 1, none⟩ = some (.int .i64 ps) ∧ w0.cell? ⟨nb, no + k * 5 + 2, none⟩ = some (.slice ka ks.length kc) ∧ w0.cell? ⟨nb, no + k * 5 + 3, none⟩ = some (.string nm) ∧ w0.cell? ⟨nb, no + k * 5 + 4, none⟩ = some (.int .i64 num))
    (hI : IntsV w0 B (.slice ka ks.length kc) (ks.map fun k : Nat => (k : Int))) (HC : ∀ k ∈ ks, NdC w0 B b (.slice (some ⟨nb, no, none⟩) L nc) N G k)
    (hnum : numFitsI 33 num ks.length = true) (hname : nameFitsI 33 nm = true) (hfit : kidsFitI f 33 num ks = true) (hG : G k = nodeT G 33 num nm.data.toList ks) : NdC w0 B b (.slice (some ⟨nb, no, none⟩) L nc) N G k := by
  unfold kidsFitI at hfit
  rw [kidsRun_33] at hfit
  obtain ⟨k0, k1, _, _, rfl⟩ := fit2 hfit
  refine node_stat w0 B b nb no nc N L k 33 ps num ka 2 kc nm G hnb hL hk hc rfl rfl rfl ?_
  have e : nodeT G 33 num nm.data.toList [k0, k1] = G k0 ++ [[61]] ++ G k1 ++ [[59]] := by rw [nodeT_33]; simp [rowT]
  rw [hG, e]
  exact pr_33 w0 B b (.slice (some ⟨nb, no, none⟩) L nc) N hN G ka kc ps num k0 k1 nm hI HC
theorem nd_34 (w0 : World) (B b nb no nc N L : Nat) (hN : N ≤ 140737488355328) (G : Nat → List (List UInt8)) (k : Nat) (ps num : Int) (ka : Option Addr) (kc : Nat) (ks : List Nat) (nm : ByteArray) (f : Nat → Int) (hnb : nb < B) (hL : L ≤ maxLen) (hk : k < L) (hLB : LaidB w0 B) (hi : I64 num)
    (hc : w0.cell? ⟨nb, no + k * 5, none⟩ = some (.int .i64 34) ∧ w0.cell? ⟨nb, no + k * 5 + 1, none⟩ = some (.int .i64 ps) ∧ w0.cell? ⟨nb, no + k * 5 + 2, none⟩ = some (.slice ka ks.length kc) ∧ w0.cell? ⟨nb, no + k * 5 + 3, none⟩ = some (.string nm) ∧ w0.cell? ⟨nb, no + k * 5 + 4, none⟩ = some (.int .i64 num))
    (hI : IntsV w0 B (.slice ka ks.length kc) (ks.map fun k : Nat => (k : Int))) (HC : ∀ k ∈ ks, NdC w0 B b (.slice (some ⟨nb, no, none⟩) L nc) N G k)
    (hnum : numFitsI 34 num ks.length = true) (hname : nameFitsI 34 nm = true) (hfit : kidsFitI f 34 num ks = true) (hG : G k = nodeT G 34 num nm.data.toList ks) : NdC w0 B b (.slice (some ⟨nb, no, none⟩) L nc) N G k := by
  unfold kidsFitI at hfit
  rw [kidsRun_34] at hfit
  obtain ⟨k0, k1, _, _, rfl⟩ := fit2 hfit
  refine node_stat w0 B b nb no nc N L k 34 ps num ka 2 kc nm G hnb hL hk hc rfl rfl rfl ?_
  have e : nodeT G 34 num nm.data.toList [k0, k1] = G k0 ++ [[60, 45, 61]] ++ G k1 ++ [[59]] := by rw [nodeT_34]; simp [rowT]
  rw [hG, e]
  exact pr_34 w0 B b (.slice (some ⟨nb, no, none⟩) L nc) N hN G ka kc ps num k0 k1 nm hI HC
theorem nd_35 (w0 : World) (B b nb no nc N L : Nat) (hN : N ≤ 140737488355328) (G : Nat → List (List UInt8)) (k : Nat) (ps num : Int) (ka : Option Addr) (kc : Nat) (ks : List Nat) (nm : ByteArray) (f : Nat → Int) (hnb : nb < B) (hL : L ≤ maxLen) (hk : k < L) (hLB : LaidB w0 B) (hi : I64 num)
    (hc : w0.cell? ⟨nb, no + k * 5, none⟩ = some (.int .i64 35) ∧ w0.cell? ⟨nb, no + k * 5 + 1, none⟩ = some (.int .i64 ps) ∧ w0.cell? ⟨nb, no + k * 5 + 2, none⟩ = some (.slice ka ks.length kc) ∧ w0.cell? ⟨nb, no + k * 5 + 3, none⟩ = some (.string nm) ∧ w0.cell? ⟨nb, no + k * 5 + 4, none⟩ = some (.int .i64 num))
    (hI : IntsV w0 B (.slice ka ks.length kc) (ks.map fun k : Nat => (k : Int))) (HC : ∀ k ∈ ks, NdC w0 B b (.slice (some ⟨nb, no, none⟩) L nc) N G k)
    (hnum : numFitsI 35 num ks.length = true) (hname : nameFitsI 35 nm = true) (hfit : kidsFitI f 35 num ks = true) (hG : G k = nodeT G 35 num nm.data.toList ks) : NdC w0 B b (.slice (some ⟨nb, no, none⟩) L nc) N G k := by
  refine node_stat w0 B b nb no nc N L k 35 ps num ka ks.length kc nm G hnb hL hk hc rfl rfl rfl ?_
  rw [hG, nodeT_35]
  exact pr_35 w0 B b (.slice (some ⟨nb, no, none⟩) L nc) N hN G ka kc ps num ks nm hI HC
theorem nd_36 (w0 : World) (B b nb no nc N L : Nat) (hN : N ≤ 140737488355328) (G : Nat → List (List UInt8)) (k : Nat) (ps num : Int) (ka : Option Addr) (kc : Nat) (ks : List Nat) (nm : ByteArray) (f : Nat → Int) (hnb : nb < B) (hL : L ≤ maxLen) (hk : k < L) (hLB : LaidB w0 B) (hi : I64 num)
    (hc : w0.cell? ⟨nb, no + k * 5, none⟩ = some (.int .i64 36) ∧ w0.cell? ⟨nb, no + k * 5 + 1, none⟩ = some (.int .i64 ps) ∧ w0.cell? ⟨nb, no + k * 5 + 2, none⟩ = some (.slice ka ks.length kc) ∧ w0.cell? ⟨nb, no + k * 5 + 3, none⟩ = some (.string nm) ∧ w0.cell? ⟨nb, no + k * 5 + 4, none⟩ = some (.int .i64 num))
    (hI : IntsV w0 B (.slice ka ks.length kc) (ks.map fun k : Nat => (k : Int))) (HC : ∀ k ∈ ks, NdC w0 B b (.slice (some ⟨nb, no, none⟩) L nc) N G k)
    (hnum : numFitsI 36 num ks.length = true) (hname : nameFitsI 36 nm = true) (hfit : kidsFitI f 36 num ks = true) (hG : G k = nodeT G 36 num nm.data.toList ks) : NdC w0 B b (.slice (some ⟨nb, no, none⟩) L nc) N G k := by
  unfold kidsFitI at hfit
  rw [kidsRun_36] at hfit
  rcases fit2o hfit with ⟨k0, k1, _, _, rfl⟩ | ⟨k0, k1, k2, _, _, _, rfl⟩
  · refine node_stat w0 B b nb no nc N L k 36 ps num ka 2 kc nm G hnb hL hk hc rfl rfl rfl ?_
    have e : nodeT G 36 num nm.data.toList [k0, k1] = [[105, 102]] ++ rowT G [k0, k1] := by rw [nodeT_36]; simp [rowT]
    rw [hG, e]
    exact pr_36a w0 B b (.slice (some ⟨nb, no, none⟩) L nc) N hN G ka kc ps num k0 k1 nm hI HC
  · refine node_stat w0 B b nb no nc N L k 36 ps num ka 3 kc nm G hnb hL hk hc rfl rfl rfl ?_
    have e : nodeT G 36 num nm.data.toList [k0, k1, k2] = [[105, 102]] ++ rowT G [k0, k1] ++ [[101, 108, 115, 101]] ++ G k2 := by rw [nodeT_36]; simp [rowT]
    rw [hG, e]
    exact pr_36b w0 B b (.slice (some ⟨nb, no, none⟩) L nc) N hN G ka kc ps num k0 k1 k2 nm hI HC
theorem nd_37 (w0 : World) (B b nb no nc N L : Nat) (hN : N ≤ 140737488355328) (G : Nat → List (List UInt8)) (k : Nat) (ps num : Int) (ka : Option Addr) (kc : Nat) (ks : List Nat) (nm : ByteArray) (f : Nat → Int) (hnb : nb < B) (hL : L ≤ maxLen) (hk : k < L) (hLB : LaidB w0 B) (hi : I64 num)
    (hc : w0.cell? ⟨nb, no + k * 5, none⟩ = some (.int .i64 37) ∧ w0.cell? ⟨nb, no + k * 5 + 1, none⟩ = some (.int .i64 ps) ∧ w0.cell? ⟨nb, no + k * 5 + 2, none⟩ = some (.slice ka ks.length kc) ∧ w0.cell? ⟨nb, no + k * 5 + 3, none⟩ = some (.string nm) ∧ w0.cell? ⟨nb, no + k * 5 + 4, none⟩ = some (.int .i64 num))
    (hI : IntsV w0 B (.slice ka ks.length kc) (ks.map fun k : Nat => (k : Int))) (HC : ∀ k ∈ ks, NdC w0 B b (.slice (some ⟨nb, no, none⟩) L nc) N G k)
    (hnum : numFitsI 37 num ks.length = true) (hname : nameFitsI 37 nm = true) (hfit : kidsFitI f 37 num ks = true) (hG : G k = nodeT G 37 num nm.data.toList ks) : NdC w0 B b (.slice (some ⟨nb, no, none⟩) L nc) N G k := by
  refine node_stat w0 B b nb no nc N L k 37 ps num ka ks.length kc nm G hnb hL hk hc rfl rfl rfl ?_
  rw [hG, nodeT_37]
  exact pr_37 w0 B b (.slice (some ⟨nb, no, none⟩) L nc) N hN G ka kc ps num ks nm hI HC
theorem nd_38 (w0 : World) (B b nb no nc N L : Nat) (hN : N ≤ 140737488355328) (G : Nat → List (List UInt8)) (k : Nat) (ps num : Int) (ka : Option Addr) (kc : Nat) (ks : List Nat) (nm : ByteArray) (f : Nat → Int) (hnb : nb < B) (hL : L ≤ maxLen) (hk : k < L) (hLB : LaidB w0 B) (hi : I64 num)
    (hc : w0.cell? ⟨nb, no + k * 5, none⟩ = some (.int .i64 38) ∧ w0.cell? ⟨nb, no + k * 5 + 1, none⟩ = some (.int .i64 ps) ∧ w0.cell? ⟨nb, no + k * 5 + 2, none⟩ = some (.slice ka ks.length kc) ∧ w0.cell? ⟨nb, no + k * 5 + 3, none⟩ = some (.string nm) ∧ w0.cell? ⟨nb, no + k * 5 + 4, none⟩ = some (.int .i64 num))
    (hI : IntsV w0 B (.slice ka ks.length kc) (ks.map fun k : Nat => (k : Int))) (HC : ∀ k ∈ ks, NdC w0 B b (.slice (some ⟨nb, no, none⟩) L nc) N G k)
    (hnum : numFitsI 38 num ks.length = true) (hname : nameFitsI 38 nm = true) (hfit : kidsFitI f 38 num ks = true) (hG : G k = nodeT G 38 num nm.data.toList ks) : NdC w0 B b (.slice (some ⟨nb, no, none⟩) L nc) N G k := by
  refine node_stat w0 B b nb no nc N L k 38 ps num ka ks.length kc nm G hnb hL hk hc rfl rfl rfl ?_
  rw [hG, nodeT_38]
  exact pr_38 w0 B b (.slice (some ⟨nb, no, none⟩) L nc) N hN G ka kc ps num ks nm hI HC
theorem nd_39 (w0 : World) (B b nb no nc N L : Nat) (hN : N ≤ 140737488355328) (G : Nat → List (List UInt8)) (k : Nat) (ps num : Int) (ka : Option Addr) (kc : Nat) (ks : List Nat) (nm : ByteArray) (f : Nat → Int) (hnb : nb < B) (hL : L ≤ maxLen) (hk : k < L) (hLB : LaidB w0 B) (hi : I64 num)
    (hc : w0.cell? ⟨nb, no + k * 5, none⟩ = some (.int .i64 39) ∧ w0.cell? ⟨nb, no + k * 5 + 1, none⟩ = some (.int .i64 ps) ∧ w0.cell? ⟨nb, no + k * 5 + 2, none⟩ = some (.slice ka ks.length kc) ∧ w0.cell? ⟨nb, no + k * 5 + 3, none⟩ = some (.string nm) ∧ w0.cell? ⟨nb, no + k * 5 + 4, none⟩ = some (.int .i64 num))
    (hI : IntsV w0 B (.slice ka ks.length kc) (ks.map fun k : Nat => (k : Int))) (HC : ∀ k ∈ ks, NdC w0 B b (.slice (some ⟨nb, no, none⟩) L nc) N G k)
    (hnum : numFitsI 39 num ks.length = true) (hname : nameFitsI 39 nm = true) (hfit : kidsFitI f 39 num ks = true) (hG : G k = nodeT G 39 num nm.data.toList ks) : NdC w0 B b (.slice (some ⟨nb, no, none⟩) L nc) N G k := by
  refine node_stat w0 B b nb no nc N L k 39 ps num ka ks.length kc nm G hnb hL hk hc rfl rfl rfl ?_
  rw [hG, nodeT_39]
  exact pr_39 w0 B b (.slice (some ⟨nb, no, none⟩) L nc) N hN G ka kc ps num ks nm hI HC
theorem nd_40 (w0 : World) (B b nb no nc N L : Nat) (hN : N ≤ 140737488355328) (G : Nat → List (List UInt8)) (k : Nat) (ps num : Int) (ka : Option Addr) (kc : Nat) (ks : List Nat) (nm : ByteArray) (f : Nat → Int) (hnb : nb < B) (hL : L ≤ maxLen) (hk : k < L) (hLB : LaidB w0 B) (hi : I64 num)
    (hc : w0.cell? ⟨nb, no + k * 5, none⟩ = some (.int .i64 40) ∧ w0.cell? ⟨nb, no + k * 5 + 1, none⟩ = some (.int .i64 ps) ∧ w0.cell? ⟨nb, no + k * 5 + 2, none⟩ = some (.slice ka ks.length kc) ∧ w0.cell? ⟨nb, no + k * 5 + 3, none⟩ = some (.string nm) ∧ w0.cell? ⟨nb, no + k * 5 + 4, none⟩ = some (.int .i64 num))
    (hI : IntsV w0 B (.slice ka ks.length kc) (ks.map fun k : Nat => (k : Int))) (HC : ∀ k ∈ ks, NdC w0 B b (.slice (some ⟨nb, no, none⟩) L nc) N G k)
    (hnum : numFitsI 40 num ks.length = true) (hname : nameFitsI 40 nm = true) (hfit : kidsFitI f 40 num ks = true) (hG : G k = nodeT G 40 num nm.data.toList ks) : NdC w0 B b (.slice (some ⟨nb, no, none⟩) L nc) N G k := by
  refine node_stat w0 B b nb no nc N L k 40 ps num ka ks.length kc nm G hnb hL hk hc rfl rfl rfl ?_
  rw [hG, nodeT_40]
  exact pr_40 w0 B b (.slice (some ⟨nb, no, none⟩) L nc) N hN G ka kc ps num ks nm hI HC
theorem nd_41 (w0 : World) (B b nb no nc N L : Nat) (hN : N ≤ 140737488355328) (G : Nat → List (List UInt8)) (k : Nat) (ps num : Int) (ka : Option Addr) (kc : Nat) (ks : List Nat) (nm : ByteArray) (f : Nat → Int) (hnb : nb < B) (hL : L ≤ maxLen) (hk : k < L) (hLB : LaidB w0 B) (hi : I64 num)
    (hc : w0.cell? ⟨nb, no + k * 5, none⟩ = some (.int .i64 41) ∧ w0.cell? ⟨nb, no + k * 5 + 1, none⟩ = some (.int .i64 ps) ∧ w0.cell? ⟨nb, no + k * 5 + 2, none⟩ = some (.slice ka ks.length kc) ∧ w0.cell? ⟨nb, no + k * 5 + 3, none⟩ = some (.string nm) ∧ w0.cell? ⟨nb, no + k * 5 + 4, none⟩ = some (.int .i64 num))
    (hI : IntsV w0 B (.slice ka ks.length kc) (ks.map fun k : Nat => (k : Int))) (HC : ∀ k ∈ ks, NdC w0 B b (.slice (some ⟨nb, no, none⟩) L nc) N G k)
    (hnum : numFitsI 41 num ks.length = true) (hname : nameFitsI 41 nm = true) (hfit : kidsFitI f 41 num ks = true) (hG : G k = nodeT G 41 num nm.data.toList ks) : NdC w0 B b (.slice (some ⟨nb, no, none⟩) L nc) N G k := by
  refine node_stat w0 B b nb no nc N L k 41 ps num ka ks.length kc nm G hnb hL hk hc rfl rfl rfl ?_
  rw [hG, nodeT_41]
  exact pr_41 w0 B b (.slice (some ⟨nb, no, none⟩) L nc) N hN G ka kc ps num ks nm hI HC
theorem nd_42 (w0 : World) (B b nb no nc N L : Nat) (hN : N ≤ 140737488355328) (G : Nat → List (List UInt8)) (k : Nat) (ps num : Int) (ka : Option Addr) (kc : Nat) (ks : List Nat) (nm : ByteArray) (f : Nat → Int) (hnb : nb < B) (hL : L ≤ maxLen) (hk : k < L) (hLB : LaidB w0 B) (hi : I64 num)
    (hc : w0.cell? ⟨nb, no + k * 5, none⟩ = some (.int .i64 42) ∧ w0.cell? ⟨nb, no + k * 5 + 1, none⟩ = some (.int .i64 ps) ∧ w0.cell? ⟨nb, no + k * 5 + 2, none⟩ = some (.slice ka ks.length kc) ∧ w0.cell? ⟨nb, no + k * 5 + 3, none⟩ = some (.string nm) ∧ w0.cell? ⟨nb, no + k * 5 + 4, none⟩ = some (.int .i64 num))
    (hI : IntsV w0 B (.slice ka ks.length kc) (ks.map fun k : Nat => (k : Int))) (HC : ∀ k ∈ ks, NdC w0 B b (.slice (some ⟨nb, no, none⟩) L nc) N G k)
    (hnum : numFitsI 42 num ks.length = true) (hname : nameFitsI 42 nm = true) (hfit : kidsFitI f 42 num ks = true) (hG : G k = nodeT G 42 num nm.data.toList ks) : NdC w0 B b (.slice (some ⟨nb, no, none⟩) L nc) N G k := by
  have hne := nameOk_ne (show nameOk nm.data.toList = true from hname)
  refine node_other w0 B b nb no nc N L k 42 ps num ka ks.length kc nm G hnb hL hk hc rfl rfl rfl ?_
  rw [hG, nodeT_42]
  exact pr_42 w0 B b (.slice (some ⟨nb, no, none⟩) L nc) N hN G ka kc ps num ks nm hne hI HC
theorem nd_43 (w0 : World) (B b nb no nc N L : Nat) (hN : N ≤ 140737488355328) (G : Nat → List (List UInt8)) (k : Nat) (ps num : Int) (ka : Option Addr) (kc : Nat) (ks : List Nat) (nm : ByteArray) (f : Nat → Int) (hnb : nb < B) (hL : L ≤ maxLen) (hk : k < L) (hLB : LaidB w0 B) (hi : I64 num)
    (hc : w0.cell? ⟨nb, no + k * 5, none⟩ = some (.int .i64 43) ∧ w0.cell? ⟨nb, no + k * 5 + 1, none⟩ = some (.int .i64 ps) ∧ w0.cell? ⟨nb, no + k * 5 + 2, none⟩ = some (.slice ka ks.length kc) ∧ w0.cell? ⟨nb, no + k * 5 + 3, none⟩ = some (.string nm) ∧ w0.cell? ⟨nb, no + k * 5 + 4, none⟩ = some (.int .i64 num))
    (hI : IntsV w0 B (.slice ka ks.length kc) (ks.map fun k : Nat => (k : Int))) (HC : ∀ k ∈ ks, NdC w0 B b (.slice (some ⟨nb, no, none⟩) L nc) N G k)
    (hnum : numFitsI 43 num ks.length = true) (hname : nameFitsI 43 nm = true) (hfit : kidsFitI f 43 num ks = true) (hG : G k = nodeT G 43 num nm.data.toList ks) : NdC w0 B b (.slice (some ⟨nb, no, none⟩) L nc) N G k := by
  by_cases h0 : nm.data.toList = []
  · have hem : nm.toList.isEmpty = true := by rw [empty_eq, h0]; rfl
    refine node_other w0 B b nb no nc N L k 43 ps num ka ks.length kc nm G hnb hL hk hc rfl rfl rfl ?_
    have e : nodeT G 43 num nm.data.toList ks = [[99, 97, 115, 101]] ++ [[60, 45]] ++ rowT G ks := by rw [nodeT_43, if_pos h0]; simp
    rw [hG, e]
    exact pr_43b w0 B b (.slice (some ⟨nb, no, none⟩) L nc) N hN G ka kc ps num ks nm hem hI HC
  · have hem : nm.toList.isEmpty = false := by rw [empty_eq]; simpa using h0
    refine node_other w0 B b nb no nc N L k 43 ps num ka ks.length kc nm G hnb hL hk hc rfl rfl rfl ?_
    have e : nodeT G 43 num nm.data.toList ks = [[99, 97, 115, 101]] ++ [nm.data.toList, [61]] ++ [[60, 45]] ++ rowT G ks := by rw [nodeT_43, if_neg h0]
    rw [hG, e]
    exact pr_43a w0 B b (.slice (some ⟨nb, no, none⟩) L nc) N hN G ka kc ps num ks nm h0 hem hI HC
theorem nd_44 (w0 : World) (B b nb no nc N L : Nat) (hN : N ≤ 140737488355328) (G : Nat → List (List UInt8)) (k : Nat) (ps num : Int) (ka : Option Addr) (kc : Nat) (ks : List Nat) (nm : ByteArray) (f : Nat → Int) (hnb : nb < B) (hL : L ≤ maxLen) (hk : k < L) (hLB : LaidB w0 B) (hi : I64 num)
    (hc : w0.cell? ⟨nb, no + k * 5, none⟩ = some (.int .i64 44) ∧ w0.cell? ⟨nb, no + k * 5 + 1, none⟩ = some (.int .i64 ps) ∧ w0.cell? ⟨nb, no + k * 5 + 2, none⟩ = some (.slice ka ks.length kc) ∧ w0.cell? ⟨nb, no + k * 5 + 3, none⟩ = some (.string nm) ∧ w0.cell? ⟨nb, no + k * 5 + 4, none⟩ = some (.int .i64 num))
    (hI : IntsV w0 B (.slice ka ks.length kc) (ks.map fun k : Nat => (k : Int))) (HC : ∀ k ∈ ks, NdC w0 B b (.slice (some ⟨nb, no, none⟩) L nc) N G k)
    (hnum : numFitsI 44 num ks.length = true) (hname : nameFitsI 44 nm = true) (hfit : kidsFitI f 44 num ks = true) (hG : G k = nodeT G 44 num nm.data.toList ks) : NdC w0 B b (.slice (some ⟨nb, no, none⟩) L nc) N G k := by
  unfold kidsFitI at hfit
  rw [kidsRun_44] at hfit
  obtain ⟨k0, k1, k2, _, _, _, rfl⟩ := fit3 hfit
  refine node_other w0 B b nb no nc N L k 44 ps num ka 3 kc nm G hnb hL hk hc rfl rfl rfl ?_
  have e : nodeT G 44 num nm.data.toList [k0, k1, k2] = [[99, 97, 115, 101]] ++ (G k0 ++ [[60, 45, 61]] ++ G k1) ++ G k2 := by rw [nodeT_44]; simp [rowT]
  rw [hG, e]
  exact pr_44 w0 B b (.slice (some ⟨nb, no, none⟩) L nc) N hN G ka kc ps num k0 k1 k2 nm hI HC
theorem nd_45 (w0 : World) (B b nb no nc N L : Nat) (hN : N ≤ 140737488355328) (G : Nat → List (List UInt8)) (k : Nat) (ps num : Int) (ka : Option Addr) (kc : Nat) (ks : List Nat) (nm : ByteArray) (f : Nat → Int) (hnb : nb < B) (hL : L ≤ maxLen) (hk : k < L) (hLB : LaidB w0 B) (hi : I64 num)
    (hc : w0.cell? ⟨nb, no + k * 5, none⟩ = some (.int .i64 45) ∧ w0.cell? ⟨nb, no + k * 5 + 1, none⟩ = some (.int .i64 ps) ∧ w0.cell? ⟨nb, no + k * 5 + 2, none⟩ = some (.slice ka ks.length kc) ∧ w0.cell? ⟨nb, no + k * 5 + 3, none⟩ = some (.string nm) ∧ w0.cell? ⟨nb, no + k * 5 + 4, none⟩ = some (.int .i64 num))
    (hI : IntsV w0 B (.slice ka ks.length kc) (ks.map fun k : Nat => (k : Int))) (HC : ∀ k ∈ ks, NdC w0 B b (.slice (some ⟨nb, no, none⟩) L nc) N G k)
    (hnum : numFitsI 45 num ks.length = true) (hname : nameFitsI 45 nm = true) (hfit : kidsFitI f 45 num ks = true) (hG : G k = nodeT G 45 num nm.data.toList ks) : NdC w0 B b (.slice (some ⟨nb, no, none⟩) L nc) N G k := by
  have hne := nameOk_ne (show nameOk nm.data.toList = true from hname)
  refine node_other w0 B b nb no nc N L k 45 ps num ka ks.length kc nm G hnb hL hk hc rfl rfl rfl ?_
  rw [hG, nodeT_45]
  exact pr_45 w0 B b (.slice (some ⟨nb, no, none⟩) L nc) N hN G ka kc ps num ks nm hne hI HC
theorem nd_46 (w0 : World) (B b nb no nc N L : Nat) (hN : N ≤ 140737488355328) (G : Nat → List (List UInt8)) (k : Nat) (ps num : Int) (ka : Option Addr) (kc : Nat) (ks : List Nat) (nm : ByteArray) (f : Nat → Int) (hnb : nb < B) (hL : L ≤ maxLen) (hk : k < L) (hLB : LaidB w0 B) (hi : I64 num)
    (hc : w0.cell? ⟨nb, no + k * 5, none⟩ = some (.int .i64 46) ∧ w0.cell? ⟨nb, no + k * 5 + 1, none⟩ = some (.int .i64 ps) ∧ w0.cell? ⟨nb, no + k * 5 + 2, none⟩ = some (.slice ka ks.length kc) ∧ w0.cell? ⟨nb, no + k * 5 + 3, none⟩ = some (.string nm) ∧ w0.cell? ⟨nb, no + k * 5 + 4, none⟩ = some (.int .i64 num))
    (hI : IntsV w0 B (.slice ka ks.length kc) (ks.map fun k : Nat => (k : Int))) (HC : ∀ k ∈ ks, NdC w0 B b (.slice (some ⟨nb, no, none⟩) L nc) N G k)
    (hnum : numFitsI 46 num ks.length = true) (hname : nameFitsI 46 nm = true) (hfit : kidsFitI f 46 num ks = true) (hG : G k = nodeT G 46 num nm.data.toList ks) : NdC w0 B b (.slice (some ⟨nb, no, none⟩) L nc) N G k := by
  refine node_other w0 B b nb no nc N L k 46 ps num ka ks.length kc nm G hnb hL hk hc rfl rfl rfl ?_
  rw [hG, nodeT_46]
  exact pr_46 w0 B b (.slice (some ⟨nb, no, none⟩) L nc) N hN G ka kc ps num ks nm hI HC

/-- EACH NODE IS PRINTED, whatever kind it is of -/
theorem nd_kind (kd : Int) (w0 : World) (B b nb no nc N L : Nat) (hN : N ≤ 140737488355328) (G : Nat → List (List UInt8)) (k : Nat) (ps num : Int) (ka : Option Addr) (kc : Nat) (ks : List Nat) (nm : ByteArray) (f : Nat → Int) (hnb : nb < B) (hL : L ≤ maxLen) (hk : k < L) (hLB : LaidB w0 B) (hi : I64 num)
    (hc : w0.cell? ⟨nb, no + k * 5, none⟩ = some (.int .i64 kd) ∧ w0.cell? ⟨nb, no + k * 5 + 1, none⟩ = some (.int .i64 ps) ∧ w0.cell? ⟨nb, no + k * 5 + 2, none⟩ = some (.slice ka ks.length kc) ∧ w0.cell? ⟨nb, no + k * 5 + 3, none⟩ = some (.string nm) ∧ w0.cell? ⟨nb, no + k * 5 + 4, none⟩ = some (.int .i64 num))
    (hI : IntsV w0 B (.slice ka ks.length kc) (ks.map fun k : Nat => (k : Int))) (HC : ∀ k ∈ ks, NdC w0 B b (.slice (some ⟨nb, no, none⟩) L nc) N G k)
    (hnum : numFitsI kd num ks.length = true) (hname : nameFitsI kd nm = true) (hfit : kidsFitI f kd num ks = true) (hG : G k = nodeT G kd num nm.data.toList ks) (hkind : kindI kd = true) : NdC w0 B b (.slice (some ⟨nb, no, none⟩) L nc) N G k := by
  rcases kind_cases _ hkind with rfl | rfl | rfl | rfl | rfl | rfl | rfl | rfl | rfl | rfl | rfl | rfl | rfl | rfl | rfl | rfl | rfl | rfl | rfl | rfl | rfl | rfl | rfl | rfl | rfl | rfl | rfl | rfl | rfl | rfl | rfl | rfl | rfl | rfl | rfl | rfl | rfl | rfl
  · exact nd_1 w0 B b nb no nc N L hN G k ps num ka kc ks nm f hnb hL hk hLB hi hc hI HC hnum hname hfit hG
  · exact nd_2 w0 B b nb no nc N L hN G k ps num ka kc ks nm f hnb hL hk hLB hi hc hI HC hnum hname hfit hG
  · exact nd_3 w0 B b nb no nc N L hN G k ps num ka kc ks nm f hnb hL hk hLB hi hc hI HC hnum hname hfit hG
  · exact nd_4 w0 B b nb no nc N L hN G k ps num ka kc ks nm f hnb hL hk hLB hi hc hI HC hnum hname hfit hG
  · exact nd_5 w0 B b nb no nc N L hN G k ps num ka kc ks nm f hnb hL hk hLB hi hc hI HC hnum hname hfit hG
  · exact nd_6 w0 B b nb no nc N L hN G k ps num ka kc ks nm f hnb hL hk hLB hi hc hI HC hnum hname hfit hG
  · exact nd_7 w0 B b nb no nc N L hN G k ps num ka kc ks nm f hnb hL hk hLB hi hc hI HC hnum hname hfit hG
  · exact nd_11 w0 B b nb no nc N L hN G k ps num ka kc ks nm f hnb hL hk hLB hi hc hI HC hnum hname hfit hG
  · exact nd_12 w0 B b nb no nc N L hN G k ps num ka kc ks nm f hnb hL hk hLB hi hc hI HC hnum hname hfit hG
  · exact nd_13 w0 B b nb no nc N L hN G k ps num ka kc ks nm f hnb hL hk hLB hi hc hI HC hnum hname hfit hG
  · exact nd_14 w0 B b nb no nc N L hN G k ps num ka kc ks nm f hnb hL hk hLB hi hc hI HC hnum hname hfit hG
  · exact nd_15 w0 B b nb no nc N L hN G k ps num ka kc ks nm f hnb hL hk hLB hi hc hI HC hnum hname hfit hG
  · exact nd_16 w0 B b nb no nc N L hN G k ps num ka kc ks nm f hnb hL hk hLB hi hc hI HC hnum hname hfit hG
  · exact nd_17 w0 B b nb no nc N L hN G k ps num ka kc ks nm f hnb hL hk hLB hi hc hI HC hnum hname hfit hG
  · exact nd_18 w0 B b nb no nc N L hN G k ps num ka kc ks nm f hnb hL hk hLB hi hc hI HC hnum hname hfit hG
  · exact nd_19 w0 B b nb no nc N L hN G k ps num ka kc ks nm f hnb hL hk hLB hi hc hI HC hnum hname hfit hG
  · exact nd_20 w0 B b nb no nc N L hN G k ps num ka kc ks nm f hnb hL hk hLB hi hc hI HC hnum hname hfit hG
  · exact nd_21 w0 B b nb no nc N L hN G k ps num ka kc ks nm f hnb hL hk hLB hi hc hI HC hnum hname hfit hG
  · exact nd_22 w0 B b nb no nc N L hN G k ps num ka kc ks nm f hnb hL hk hLB hi hc hI HC hnum hname hfit hG
  · exact nd_23 w0 B b nb no nc N L hN G k ps num ka kc ks nm f hnb hL hk hLB hi hc hI HC hnum hname hfit hG
  · exact nd_24 w0 B b nb no nc N L hN G k ps num ka kc ks nm f hnb hL hk hLB hi hc hI HC hnum hname hfit hG
  · exact nd_25 w0 B b nb no nc N L hN G k ps num ka kc ks nm f hnb hL hk hLB hi hc hI HC hnum hname hfit hG
  · exact nd_31 w0 B b nb no nc N L hN G k ps num ka kc ks nm f hnb hL hk hLB hi hc hI HC hnum hname hfit hG
  · exact nd_32 w0 B b nb no nc N L hN G k ps num ka kc ks nm f hnb hL hk hLB hi hc hI HC hnum hname hfit hG
  · exact nd_33 w0 B b nb no nc N L hN G k ps num ka kc ks nm f hnb hL hk hLB hi hc hI HC hnum hname hfit hG
  · exact nd_34 w0 B b nb no nc N L hN G k ps num ka kc ks nm f hnb hL hk hLB hi hc hI HC hnum hname hfit hG
  · exact nd_35 w0 B b nb no nc N L hN G k ps num ka kc ks nm f hnb hL hk hLB hi hc hI HC hnum hname hfit hG
  · exact nd_36 w0 B b nb no nc N L hN G k ps num ka kc ks nm f hnb hL hk hLB hi hc hI HC hnum hname hfit hG
  · exact nd_37 w0 B b nb no nc N L hN G k ps num ka kc ks nm f hnb hL hk hLB hi hc hI HC hnum hname hfit hG
  · exact nd_38 w0 B b nb no nc N L hN G k ps num ka kc ks nm f hnb hL hk hLB hi hc hI HC hnum hname hfit hG
  · exact nd_39 w0 B b nb no nc N L hN G k ps num ka kc ks nm f hnb hL hk hLB hi hc hI HC hnum hname hfit hG
  · exact nd_40 w0 B b nb no nc N L hN G k ps num ka kc ks nm f hnb hL hk hLB hi hc hI HC hnum hname hfit hG
  · exact nd_41 w0 B b nb no nc N L hN G k ps num ka kc ks nm f hnb hL hk hLB hi hc hI HC hnum hname hfit hG
  · exact nd_42 w0 B b nb no nc N L hN G k ps num ka kc ks nm f hnb hL hk hLB hi hc hI HC hnum hname hfit hG
  · exact nd_43 w0 B b nb no nc N L hN G k ps num ka kc ks nm f hnb hL hk hLB hi hc hI HC hnum hname hfit hG
  · exact nd_44 w0 B b nb no nc N L hN G k ps num ka kc ks nm f hnb hL hk hLB hi hc hI HC hnum hname hfit hG
  · exact nd_45 w0 B b nb no nc N L hN G k ps num ka kc ks nm f hnb hL hk hLB hi hc hI HC hnum hname hfit hG
  · exact nd_46 w0 B b nb no nc N L hN G k ps num ka kc ks nm f hnb hL hk hLB hi hc hI HC hnum hname hfit hG

theorem nd_all {l : List Nd} (hok : (checkAll l).2 = 0) (w0 : World) (B b nb no nc N : Nat) (hN : N ≤ 140737488355328) (hn : Nodes w0 B nb no nc l) (hLB : LaidB w0 B) : ∀ j, j < l.length → NdC w0 B b (.slice (some ⟨nb, no, none⟩) l.length nc) N (textG l) j := by
  obtain ⟨hall, _, _⟩ := ok_all hok
  have hlow : ∀ j, j < l.length → ∀ k ∈ kidsN l j, k < j := fun j hj => (hall j hj).low
  intro j
  induction j using Nat.strongRecOn with
  | _ j ih =>
    intro hj
    have h := hall j hj
    obtain ⟨ka, kc, ha⟩ := hn.at_ j hj
    have hlen : (ndN l j).kids.length = (kidsN l j).length := by simp [kidsN]
    have hI := ha.kids
    have hnat : (kidsN l j).map (fun k : Nat => (k : Int)) = (ndN l j).kids := h.nat
    rw [hlen] at hI
    rw [← hnat] at hI
    have hnum := h.num
    rw [hlen] at hnum
    refine nd_kind (ndN l j).kind w0 B b nb no nc N l.length hN (textG l) j (ndN l j).pos (ndN l j).num ka kc (kidsN l j) (ndN l j).name (kdN l) hn.lo hn.max hj hLB (hn.wf j hj).num
      ⟨ha.c0, ha.c1, by rw [← hlen]; exact ha.c2, ha.c3, ha.c4⟩ hI (fun k hk => ?_) hnum h.name h.fit (textG_eq hlow hj) h.kind
    have := hlow j hj k hk
    exact ih k this (by omega)
end Go.Proofs.YtpgobebibjeglaaDoor
namespace Go.Proofs.YtpgobebibjeglaaDoor
open Go.RowKit
set_option linter.unusedVariables false
set_option linter.unusedSimpArgs false

theorem IntsV.mono {w : World} {B C : Nat} {v : Value} {ks : List Int} (h : IntsV w B v ks) (hB : B ≤ C) : IntsV w C v ks := by
  obtain ⟨a, cap, h1, h2, h3, h4⟩ := h.ex
  refine ⟨a, cap, h1, h2, h3, fun h0 => ?_⟩
  obtain ⟨b, o, e, hb, hc⟩ := h4 h0
  exact ⟨b, o, e, by omega, hc⟩
theorem Nodes.mono {w : World} {B C nb no nc : Nat} {l : List Nd} (h : Nodes w B nb no nc l) (hB : B ≤ C) (hC : C ≤ w.heap.size) : Nodes w C nb no nc l := by
  refine ⟨fun j hj => ?_, h.wf, by have := h.lo; omega, hC, h.max, h.cap⟩
  obtain ⟨ka, kc, hn⟩ := h.at_ j hj
  exact ⟨ka, kc, hn.c0, hn.c1, hn.c2, hn.c3, hn.c4, hn.kids.mono hB⟩
theorem String_all (B b : Nat) (lv : Value) (l : List UInt8) (w : World) (h : PB w B b lv l) :
    Calls Tryd.prog 16 #[.pointer (some ⟨b, 1, none⟩)] w fun e w' => e = .returned (.string ⟨l.toArray⟩) ∧ Below B w w' := by
  by_cases h0 : l = []
  · subst h0
    exact String_none B b lv w h
  · exact String_some B b lv l w h h0
/-- the text that is printed -/
def printT (l : List Nd) : List UInt8 := if (checkAll l).2 = 0 then layT [] (textG l (l.length - 1)) else []

set_option maxRecDepth 100000 in
set_option maxHeartbeats 2000000 in
theorem Print_ok (w : World) (B nb no nc : Nat) (l : List Nd) (hn : Nodes w B nb no nc l) (hL : LaidP w) (hl31 : l.length ≤ 2147483647) (hok : (checkAll l).2 = 0) :
    Calls Tryd.prog 7 #[.slice (some ⟨nb, no, none⟩) l.length nc] w fun e w' => e = .returned (.tuple #[.string ⟨(layT [] (textG l (l.length - 1))).toArray⟩, .int .i64 0]) ∧ Below w.heap.size w w' := by
  obtain ⟨_, h0, _⟩ := ok_all hok
  have HC : Bx _ := ⟨Check_some w B nb no nc l hn hL.laid hl31 h0⟩
  rw [hok] at HC
  have hcost := cost_text hok (fun j hj => (hn.wf j hj).num) (l.length - 1) (by omega)
  have HN : Bx (∀ w1, Below w.heap.size w w1 → Calls Tryd.prog 15 #[.pointer (some ⟨w1.heap.size, 0, none⟩), .int .i64 ((l.length - 1 : Nat) : Int)] (w1.alloc (.cells #[.slice (some ⟨nb, no, none⟩) l.length nc, .pointer none, .slice none 0 0] 51)) fun e W' => e = .returned (.tuple #[]) ∧ PB W' w1.heap.size w1.heap.size (.slice (some ⟨nb, no, none⟩) l.length nc) (layT [] (textG l (l.length - 1))) ∧ Below w.heap.size w W') := ⟨fun w1 hb1 => by
    have hz := hb1.size
    have hb2 : Below w1.heap.size w1 (w1.alloc (.cells #[.slice (some ⟨nb, no, none⟩) l.length nc, .pointer none, .slice none 0 0] 51)) := below1 w1 _
    have hL2 := (hL.below hb1).below hb2
    have hhi := hn.hi
    have hN2 : Nodes _ w1.heap.size nb no nc l := (((hn.below (hb1.mono hhi)).below (hb2.mono (by omega)))).mono (by omega) (by simp)
    have hnd := nd_all hok _ w1.heap.size w1.heap.size nb no nc 140737488355328 (Nat.le_refl _) hN2 ⟨hL2.laid, hL2.pow, by have := hL.size; omega⟩ (l.length - 1) (by omega)
    refine (hnd _ [] ⟨new_pb w1 _, Below.refl _ _⟩ (by simp; omega)).mono ?_
    rintro e W' ⟨rfl, q1, q2, q3⟩
    exact ⟨rfl, q1.pb, (hb1.trans (hb2.mono hz)).trans (q1.bel.mono hz)⟩⟩
  generalize layT [] (textG l (l.length - 1)) = T at *
  generalize (checkAll l).1 = c1 at *
  rw [show ((l.length - 1 : Nat) : Int) = (l.length : Int) - 1 by omega] at HN
  clear hn hL hok hcost
  generalize l.length = L at *
  go_enter Tryd.func7, Tryd.ntmps7
  go_wp2_with (first
    | (go_at_call 9; refine Calls.mono HC.out ?_; rintro e w1 ⟨rfl, hb1⟩; have hz1 := hb1.size)
    | (go_at_call 15; refine Calls.mono (HN.out _ hb1) ?_; rintro e w2 ⟨rfl, hp2, hb2⟩; have hl2 := hp2.lt)
    | (go_at_call 16; refine Calls.mono (String_all _ _ _ _ _ hp2) ?_; rintro e w3 ⟨rfl, hb3⟩))
  go_ret2
  exact ⟨rfl, hb2.trans (hb3.mono hz1)⟩

set_option maxRecDepth 100000 in
set_option maxHeartbeats 2000000 in
theorem Print_bad (w : World) (B : Nat) (a : Option Addr) (cap : Nat) (l : List Nd) (hn : IsNodes w B a cap l) (hL : LaidP w) (hl31 : l.length ≤ 2147483647) (hok : ¬ (checkAll l).2 = 0) :
    Calls Tryd.prog 7 #[.slice a l.length cap] w fun e w' => e = .returned (.tuple #[.string ⟨#[]⟩, .int .i64 ((checkAll l).2 : Nat)]) ∧ Below w.heap.size w w' := by
  have HC : Bx _ := ⟨Check_any w B a cap l hn hL.laid hl31⟩
  have hne : ((((checkAll l).2 : Nat) : Int) != 0) = true := by simp; omega
  generalize (checkAll l).1 = c1 at *
  generalize (checkAll l).2 = c2 at *
  clear hn hL hok
  generalize l.length = L at *
  go_enter Tryd.func7, Tryd.ntmps7
  go_wp2_with (first
    | (go_at_call 9; refine Calls.mono HC.out ?_; rintro e w1 ⟨rfl, hb1⟩; have hz1 := hb1.size))
  go_ret2
  exact ⟨rfl, hb1⟩
/-- **tree.Print** -/
theorem Print_any (w : World) (B : Nat) (a : Option Addr) (cap : Nat) (l : List Nd) (hn : IsNodes w B a cap l) (hL : LaidP w) (hl31 : l.length ≤ 2147483647) :
    Calls Tryd.prog 7 #[.slice a l.length cap] w fun e w' => e = .returned (.tuple #[.string ⟨(printT l).toArray⟩, .int .i64 ((checkAll l).2 : Nat)]) ∧ Below w.heap.size w w' := by
  by_cases hok : (checkAll l).2 = 0
  · obtain ⟨nb, no, rfl, h⟩ := hn.at_ (ok_all hok).2.1
    have := Print_ok w B nb no cap l h hL hl31 hok
    unfold printT
    rw [if_pos hok, hok]
    exact this
  · have := Print_bad w B a cap l hn hL hl31 hok
    unfold printT
    rw [if_neg hok]
    exact this
end Go.Proofs.YtpgobebibjeglaaDoor
