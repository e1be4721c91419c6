import Derived.Test.YtllgaholkminnaaDoorCKMem
import Derived.Maps.OwnSet
import Derived.Maps.OwnOps
namespace Go.Proofs.YtllgaholkminnaaDoor
open Go.RowKit
set_option linter.unusedVariables false
set_option linter.unusedSimpArgs false

/-- what a name that is declared in a list means -/
def isDecl (nm : ByteArray) (n : Nd) : Bool := n.kind == 45 && decide (n.name = nm)
def declOf (l : List Nd) (nm : ByteArray) : Option Int := (l.find? (isDecl nm)).map fun n => n.kids.getD 0 0
def twiceAt (l : List Nd) (i : Nat) : Bool := kdN l i == 45 && (declOf (l.take i) (ndN l i).name).isSome
def unknownAt (l : List Nd) (i : Nat) : Bool := kdN l i == 3 && (declOf l (ndN l i).name).isNone
def meantAt (l : List Nd) (i : Nat) : Nat := if kdN l i == 3 then ((declOf l (ndN l i).name).getD 0).toNat else i
def keyL (nm : ByteArray) : Lit := .string nm.data.toList
theorem keyL_inj {a b : ByteArray} (h : keyL a = keyL b) : a = b := by
  unfold keyL at h
  simp only [Lit.string.injEq] at h
  cases a; cases b
  simp only [ByteArray.mk.injEq]
  exact Array.toList_inj.1 h
/-- a map that tells what is declared -/
structure MapIs (l : List Nd) (D : DataW Unit) : Prop where
  map : Maps.IsMap D
  has : ∀ nm, Maps.has D (keyL nm) = (declOf l nm).isSome
  at_ : ∀ nm, D.atKey (keyL nm) (.lit (.int .i64 0)) = .lit (.int .i64 ((declOf l nm).getD 0))
theorem mapIs_nil : MapIs [] (.map []) := ⟨Maps.isMap_empty, fun nm => rfl, fun nm => rfl⟩
theorem declOf_snoc (l : List Nd) (n : Nd) (nm : ByteArray) : declOf (l ++ [n]) nm = (declOf l nm).or (if isDecl nm n then some (n.kids.getD 0 0) else none) := by
  unfold declOf
  rw [List.find?_append]
  cases h : l.find? (isDecl nm)
  · simp [List.find?_cons]
    split <;> simp_all
  · simp
theorem MapIs.put {l : List Nd} {D : DataW Unit} {n : Nd} (h : MapIs l D) (hk : n.kind = 45) (hn : declOf l n.name = none) : MapIs (l ++ [n]) (D.put (keyL n.name) (.lit (.int .i64 (n.kids.getD 0 0)))) := by
  have hs : ∀ nm, nm ≠ n.name → isDecl nm n = false := fun nm hne => by unfold isDecl; simp [hk, Ne.symm hne]
  have hs2 : isDecl n.name n = true := by unfold isDecl; simp [hk]
  have hne : ∀ nm, nm ≠ n.name → keyL nm ≠ keyL n.name := fun nm h q => h (keyL_inj q)
  refine ⟨h.map.put _ _, fun nm => ?_, fun nm => ?_⟩
  · rw [declOf_snoc]
    by_cases e : nm = n.name
    · subst e
      rw [Maps.has_put_same h.map (by simp [keyL, WideAt.IsKeyLit]), hs2, hn]
      rfl
    · rw [Maps.has_put_other (hne nm e), h.has, hs nm e]
      simp
  · rw [declOf_snoc]
    by_cases e : nm = n.name
    · subst e
      rw [Maps.atKey_put_same h.map (by simp [keyL, WideAt.IsKeyLit]), hs2, hn]
      rfl
    · rw [Maps.atKey_put_other (hne nm e), h.at_, hs nm e]
      simp
theorem MapIs.skip {l : List Nd} {D : DataW Unit} {n : Nd} (h : MapIs l D) (hk : n.kind ≠ 45) : MapIs (l ++ [n]) D := by
  have hs : ∀ nm, isDecl nm n = false := fun nm => by unfold isDecl; simp [hk]
  refine ⟨h.map, fun nm => ?_, fun nm => ?_⟩
  · rw [declOf_snoc, hs, h.has]; simp
  · rw [declOf_snoc, hs, h.at_]; simp
theorem take_nd (l : List Nd) (i : Nat) (h : i < l.length) : l.take (i + 1) = l.take i ++ [ndN l i] := by
  rw [List.take_succ_eq_append_getElem h]
  unfold ndN
  rw [List.getD_eq_getElem?_getD, List.getElem?_eq_getElem h]
  rfl

/-- the kind of the row that a node has -/
def rowKindI (k : Int) : Nat :=
  if k = 1 then 1 else if k = 2 then 2 else if k = 4 then 3 else if k = 5 then 4 else if k = 6 then 5 else if k = 7 then 6 else 0
/-- how many rows the nodes ahead of i have -/
def countI (l : List Nd) : Nat → Nat
  | 0 => 0
  | i + 1 => countI l i + if rowKindI (kdN l i) = 0 then 0 else 1
def ownOf (l : List Nd) (i : Nat) : Int := if rowKindI (kdN l i) = 0 then -1 else (countI l i : Int)
def rowsGo (l : List Nd) (of : Nat → Int) : Nat → List Ty
  | 0 => []
  | i + 1 => rowsGo l of i ++ if rowKindI (kdN l i) = 0 then [] else [⟨rowKindI (kdN l i), (ndN l i).kids.map fun k => of k.toNat, (ndN l i).num == 1⟩]
end Go.Proofs.YtllgaholkminnaaDoor
