import Derived.Lib.AtoiAll
import Derived.Lib.ItoaNum
import Derived.Test.YtadmpgegolmkgaaDoorChecked
import Derived.WalkKit
import Derived.WalkSpells
import Derived.WalkLawsBesides
import Derived.Below
import Derived.Deep.QuietTactic
import Derived.BigQuiet
import Derived.Deep.RegionHeld
import Derived.WalkSmall
import Derived.Handy
import Derived.Deep.RegionHeld3
import Derived.Lib.TrailingZeros
import Derived.Laws.Bits64b
import Derived.Laws.MakeOwn
namespace Go.Proofs.YtadmpgegolmkgaaDoor
set_option linter.unusedVariables false
set_option linter.unusedSimpArgs false

def I64 (x : Int) : Prop := -9223372036854775808 ≤ x ∧ x ≤ 9223372036854775807

/-- an instruction, a type, a prog, a unit -/
structure CIn where
  op : Int
  a : Int
  b : Int
  list : List Int
  deriving DecidableEq, Inhabited
structure CTy where
  kind : Int
  kids : List Int
  res : Bool
  deriving DecidableEq, Inhabited
structure CPg where
  params : Int
  slots : Int
  caps : Int
  res : Bool
  code : List CIn
  deriving DecidableEq, Inhabited
structure CUn where
  progs : List CPg
  types : List CTy
  deriving DecidableEq, Inhabited
structure CIn.Wf (i : CIn) : Prop where
  op : I64 i.op
  a : I64 i.a
  b : I64 i.b
  list : ∀ k ∈ i.list, I64 k
structure CTy.Wf (t : CTy) : Prop where
  kind : I64 t.kind
  kids : ∀ k ∈ t.kids, I64 k
structure CPg.Wf (p : CPg) : Prop where
  params : I64 p.params
  slots : I64 p.slots
  caps : I64 p.caps
  code : ∀ i ∈ p.code, i.Wf
structure CUn.Wf (u : CUn) : Prop where
  progs : ∀ p ∈ u.progs, p.Wf
  types : ∀ t ∈ u.types, t.Wf

/-- the shapes: a name, what it has (1: A, 2: B, 4: List), takes, lays -/
def shapesT : List (List UInt8 × Int × Int × Int) := [
  ([], 0, 0, 0),
  ([105, 110, 116], 1, 0, 1),
  ([98, 111, 111, 108], 1, 0, 1),
  ([122, 101, 114, 111], 1, 0, 1),
  ([108, 111, 97, 100], 1, 0, 1),
  ([115, 116, 111, 114, 101], 1, 1, 0),
  ([99, 108, 101, 97, 114], 1, 0, 0),
  ([99, 97, 112], 1, 0, 1),
  ([115, 101, 108, 102], 0, 0, 1),
  ([112, 111, 112], 0, 1, 0),
  ([116, 117, 112, 108, 101], 1, 0, 1),
  ([97, 114, 114, 97, 121], 1, 0, 1),
  ([102, 105, 108, 108], 0, 2, 1),
  ([108, 101, 110], 0, 1, 1),
  ([105, 110, 100, 101, 120], 0, 2, 1),
  ([102, 105, 101, 108, 100], 1, 1, 1),
  ([112, 97, 114, 116], 5, 1, 0),
  ([117, 110, 97, 114, 121], 1, 1, 1),
  ([98, 105, 110], 1, 2, 1),
  ([106, 117, 109, 112], 1, 0, 0),
  ([102, 97, 108, 115, 101], 1, 1, 0),
  ([98, 97, 99, 107], 1, 0, 0),
  ([112, 114, 111, 103], 3, 0, 1),
  ([99, 97, 108, 108], 3, 1, 0),
  ([98, 101, 103, 105, 110], 1, 1, 0),
  ([114, 101, 116], 0, 0, 0),
  ([109, 97, 107, 101], 0, 0, 1),
  ([119, 97, 105, 116], 4, 0, 0)]
def noShape : List UInt8 × Int × Int × Int := ([], 0, 0, 0)
def shapeI (op : Int) : List UInt8 × Int × Int × Int := if op < 0 ∨ 28 ≤ op then noShape else shapesT.getD op.toNat noShape
def nameI (op : Int) : List UInt8 := (shapeI op).1
def hasAI (op : Int) : Bool := (shapeI op).2.1 % 2 == 1
def hasBI (op : Int) : Bool := (shapeI op).2.1 / 2 % 2 == 1
def hasLI (op : Int) : Bool := (shapeI op).2.1 / 4 % 2 == 1
/-- how many numbers stand ahead of List's -/
def firstI (op : Int) : Nat := (if hasAI op then 1 else 0) + (if hasBI op then 1 else 0)
def opFrom : List (List UInt8 × Int × Int × Int) → Nat → List UInt8 → Nat
  | [], _, _ => 0
  | x :: r, n, t => if x.1 == t then n else opFrom r (n + 1) t
def opI (t : List UInt8) : Nat := opFrom shapesT 0 t
theorem opFrom_yes (j n : Nat) (t : List UInt8) (h : j < shapesT.length) (hq : ((shapesT.getD j noShape).1 == t) = true) : opFrom (shapesT.drop j) n t = n := by
  rw [List.drop_eq_getElem_cons h]
  rw [List.getD_eq_getElem?_getD, List.getElem?_eq_getElem h, Option.getD_some] at hq
  simp only [opFrom, hq, if_true]
theorem opFrom_no (j n : Nat) (t : List UInt8) (h : j < shapesT.length) (hq : ((shapesT.getD j noShape).1 == t) = false) : opFrom (shapesT.drop j) n t = opFrom (shapesT.drop (j + 1)) (n + 1) t := by
  rw [List.drop_eq_getElem_cons h]
  rw [List.getD_eq_getElem?_getD, List.getElem?_eq_getElem h, Option.getD_some] at hq
  simp only [opFrom, hq, Bool.false_eq_true, if_false]
theorem opFrom_le : ∀ (T : List (List UInt8 × Int × Int × Int)) (n : Nat) (t : List UInt8), opFrom T n t < n + T.length ∨ opFrom T n t = 0
  | [], n, t => Or.inr rfl
  | x :: r, n, t => by
    have := opFrom_le r (n + 1) t
    simp only [opFrom, List.length_cons]
    split
    · left; omega
    · omega
theorem opI_lt (t : List UInt8) : opI t < 28 := by
  have := opFrom_le shapesT 0 t
  have e : shapesT.length = 28 := rfl
  unfold opI
  omega

/-! text -/
def numsT (l : List Int) : List UInt8 := l.flatMap fun n => 32 :: Lib.itoa n
def typeW : List UInt8 := [116, 121, 112, 101]
def progW : List UInt8 := [112, 114, 111, 103]
def bitI (b : Bool) : Int := if b then 1 else 0
def numsI (i : CIn) : List Int := (if hasAI i.op then [i.a] else []) ++ (if hasBI i.op then [i.b] else []) ++ i.list
def insT (i : CIn) : List UInt8 := nameI i.op ++ numsT (numsI i) ++ [10]
def typeT (t : CTy) : List UInt8 := typeW ++ numsT (t.kind :: bitI t.res :: t.kids) ++ [10]
def headT (p : CPg) : List UInt8 := progW ++ numsT [p.params, p.slots, p.caps, bitI p.res] ++ [10]
def progT (p : CPg) : List UInt8 := headT p ++ p.code.flatMap insT
def unitT (u : CUn) : List UInt8 := u.types.flatMap typeT ++ u.progs.flatMap progT
def fitI (i : CIn) : Bool := (nameI i.op != []) && ((i.a == 0 || hasAI i.op) && ((i.b == 0 || hasBI i.op) && (i.list.length == 0 || hasLI i.op)))
def fitP (p : CPg) : Bool := p.code.all fitI
def fitU (u : CUn) : Bool := u.progs.all fitP

/-! reading -/
def pieces (c : UInt8) : List UInt8 → List UInt8 × List (List UInt8)
  | [] => ([], [])
  | x :: r => if x = c then ([], (pieces c r).1 :: (pieces c r).2) else (x :: (pieces c r).1, (pieces c r).2)
def numOf (t : List UInt8) : Option Int :=
  match Lib.atoiAll t with
  | .ok n => if Lib.itoa n = t then some n else none
  | _ => none
def numsOf : List (List UInt8) → Option (List Int)
  | [] => some []
  | t :: r => match numOf t with
    | none => none
    | some n => (numsOf r).map (n :: ·)
def isBitI (n : Int) : Bool := n == 0 || n == 1
/-- the instruction of a word and numbers -/
def insOf (op : Nat) (l : List Int) : Option CIn :=
  if nameI op = [] ∨ l.length < firstI op ∨ (firstI op < l.length ∧ hasLI op = false) then none
  else some ⟨op, if 0 < firstI op then l.getD 0 0 else 0, if 1 < firstI op then l.getD 1 0 else 0, l.drop (firstI op)⟩
def addIns (u : CUn) (i : CIn) : CUn := { u with progs := u.progs.dropLast ++ (u.progs.getLast?.map fun p => { p with code := p.code ++ [i] }).toList }
def addL (u : CUn) (line : List UInt8) : Option CUn :=
  match numsOf (pieces 32 line).2 with
  | none => none
  | some l =>
    let word := (pieces 32 line).1
    if word = typeW then
      if 0 < u.progs.length ∨ l.length < 2 ∨ isBitI (l.getD 1 0) = false then none
      else some { u with types := u.types ++ [⟨l.getD 0 0, l.drop 2, l.getD 1 0 == 1⟩] }
    else if word = progW ∧ l.length = 4 then
      if isBitI (l.getD 3 0) = false then none
      else some { u with progs := u.progs ++ [⟨l.getD 0 0, l.getD 1 0, l.getD 2 0, l.getD 3 0 == 1, []⟩] }
    else match insOf (opI word) l with
      | none => none
      | some i => if u.progs.length = 0 then none else some (addIns u i)
/-- the lines: the last one has no line feed -/
def readGo : List UInt8 → List (List UInt8) → CUn → Nat → CUn × Nat × Int
  | l, [], u, at_ => if l = [] then (u, 0, 0) else (⟨[], []⟩, at_, 80)
  | l, m :: r, u, at_ => match addL u l with
    | none => (⟨[], []⟩, at_, 80)
    | some u' => readGo m r u' (at_ + 1)
def readU (t : List UInt8) : CUn × Nat × Int := readGo (pieces 10 t).1 (pieces 10 t).2 ⟨[], []⟩ 1

/-! laws -/
theorem pieces_none {c : UInt8} : ∀ {l : List UInt8}, c ∉ l → pieces c l = (l, [])
  | [], _ => rfl
  | x :: r, h => by
    rw [List.mem_cons, not_or] at h
    rw [pieces, if_neg (fun e => h.1 e.symm), pieces_none h.2]
theorem pieces_app {c : UInt8} : ∀ {l r : List UInt8}, c ∉ l → pieces c (l ++ c :: r) = (l, (pieces c r).1 :: (pieces c r).2)
  | [], r, _ => by rw [List.nil_append, pieces, if_pos rfl]
  | x :: l, r, h => by
    rw [List.mem_cons, not_or] at h
    rw [List.cons_append, pieces, if_neg (fun e => h.1 e.symm), pieces_app h.2]
theorem dec_dig (u : Nat) : ∀ c ∈ Lib.decDigits u, 48 ≤ c.toNat ∧ c.toNat ≤ 57 := by
  induction u using Nat.strongRecOn with
  | ind u ih =>
    intro c hc
    by_cases h : u < 10
    · rw [Lib.decDigits, dif_pos h, List.mem_singleton] at hc
      subst hc
      rw [UInt8.toNat_ofNat_of_lt' (by omega : 48 + u < 256)]
      omega
    · rw [Lib.decDigits, dif_neg h, List.mem_append, List.mem_singleton] at hc
      rcases hc with hc | rfl
      · exact ih (u / 10) (by omega) c hc
      · rw [UInt8.toNat_ofNat_of_lt' (by omega : 48 + u % 10 < 256)]
        omega
theorem itoa_dig (n : Int) : ∀ c ∈ Lib.itoa n, c.toNat = 45 ∨ (48 ≤ c.toNat ∧ c.toNat ≤ 57) := by
  intro c hc
  unfold Lib.itoa at hc
  split at hc
  · rcases List.mem_cons.1 hc with rfl | hc
    · left; rfl
    · exact Or.inr (dec_dig _ c hc)
  · exact Or.inr (dec_dig _ c hc)
theorem itoa_no32 (n : Int) : (32 : UInt8) ∉ Lib.itoa n := fun h => by
  have := itoa_dig n _ h
  have e : (32 : UInt8).toNat = 32 := rfl
  omega
theorem itoa_no10 (n : Int) : (10 : UInt8) ∉ Lib.itoa n := fun h => by
  have := itoa_dig n _ h
  have e : (10 : UInt8).toNat = 10 := rfl
  omega
theorem nums_no10 (l : List Int) : (10 : UInt8) ∉ numsT l := fun h => by
  unfold numsT at h
  rw [List.mem_flatMap] at h
  obtain ⟨n, _, h⟩ := h
  rcases List.mem_cons.1 h with h | h
  · exact absurd h (by decide)
  · exact itoa_no10 n h
theorem pieces_nums {w : List UInt8} (hw : (32 : UInt8) ∉ w) : ∀ l : List Int, pieces 32 (w ++ numsT l) = (w, l.map Lib.itoa)
  | [] => by
    show pieces 32 (w ++ []) = _
    rw [List.append_nil, pieces_none hw]
    rfl
  | n :: l => by
    have e : w ++ numsT (n :: l) = w ++ 32 :: (Lib.itoa n ++ numsT l) := by simp [numsT]
    rw [e, pieces_app hw, pieces_nums (itoa_no32 n) l]
    rfl
theorem dec_ne (u : Nat) : Lib.decDigits u ≠ [] := by
  rw [Lib.decDigits]
  split <;> simp
theorem parse_append : ∀ (l r : List UInt8) (acc u : Nat), Lib.parseUint10 acc l = .ok u → Lib.parseUint10 acc (l ++ r) = Lib.parseUint10 u r
  | [], r, acc, u, h => by
    simp only [Lib.parseUint10, Lib.NumEnd.ok.injEq] at h
    rw [h]; rfl
  | c :: l, r, acc, u, h => by
    simp only [Lib.parseUint10, List.cons_append] at h ⊢
    split at h
    · rename_i hc
      rw [if_pos hc]
      split at h
      · cases h
      · rename_i h1
        rw [if_neg h1]
        split at h
        · cases h
        · rename_i h2
          rw [if_neg h2]
          exact parse_append l r _ u h
    · cases h
theorem parse_dec (u : Nat) (hu : u < 18446744073709551616) : Lib.parseUint10 0 (Lib.decDigits u) = .ok u := by
  induction u using Nat.strongRecOn with
  | ind u ih =>
    by_cases h : u < 10
    · rw [Lib.decDigits, dif_pos h]
      have e : (UInt8.ofNat (48 + u)).toNat = 48 + u := UInt8.toNat_ofNat_of_lt' (by omega : 48 + u < 256)
      simp only [Lib.parseUint10, e]
      rw [if_pos (by omega), if_neg (by omega), if_neg (by omega)]
      congr 1
      omega
    · rw [Lib.decDigits, dif_neg h, parse_append _ _ _ _ (ih (u / 10) (by omega) (by omega))]
      have e : (UInt8.ofNat (48 + u % 10)).toNat = 48 + u % 10 := UInt8.toNat_ofNat_of_lt' (by omega : 48 + u % 10 < 256)
      simp only [Lib.parseUint10, e]
      rw [if_pos (by omega), if_neg (by omega), if_neg (by omega)]
      congr 1
      omega
theorem atoi_itoa {n : Int} (h : I64 n) : Lib.atoiAll (Lib.itoa n) = .ok n := by
  obtain ⟨h1, h2⟩ := h
  unfold Lib.itoa
  split
  · rename_i hn
    unfold Lib.atoiAll
    simp only [show (45 : UInt8).toNat = 45 from rfl]
    rw [if_pos (Or.inr trivial)]
    unfold Lib.parseMag
    rw [if_neg (dec_ne _), parse_dec _ (by omega)]
    simp only [not_true_eq_false, false_and, if_false, true_and, if_true]
    rw [if_neg (by omega)]
    congr 1
    omega
  · rename_i hn
    have hd := dec_dig n.toNat
    have hp := parse_dec n.toNat (by omega)
    have hne := dec_ne n.toNat
    generalize Lib.decDigits n.toNat = t at *
    match t, hne with
    | c :: r, _ =>
      have hc := hd c List.mem_cons_self
      unfold Lib.atoiAll
      simp only []
      rw [if_neg (by omega)]
      unfold Lib.parseMag
      rw [if_neg (by simp), hp]
      simp only [show ¬ c.toNat = 45 by omega, not_false_eq_true, true_and, false_and, if_false]
      rw [if_neg (by omega)]
      congr 1
      omega
theorem numOf_itoa {n : Int} (h : I64 n) : numOf (Lib.itoa n) = some n := by
  unfold numOf
  rw [atoi_itoa h]
  simp
theorem numsOf_itoa : ∀ {l : List Int}, (∀ n ∈ l, I64 n) → numsOf (l.map Lib.itoa) = some l
  | [], _ => rfl
  | n :: l, h => by
    rw [List.map_cons, numsOf, numOf_itoa (h n List.mem_cons_self)]
    simp only [numsOf_itoa fun k hk => h k (List.mem_cons_of_mem _ hk)]
    rfl
theorem numOf_some {t : List UInt8} {n : Int} (h : numOf t = some n) : Lib.itoa n = t ∧ I64 n := by
  unfold numOf at h
  split at h
  · rename_i m hm
    split at h
    · rename_i he
      injection h with h
      subst h
      refine ⟨he, ?_⟩
      unfold Lib.atoiAll at hm
      split at hm
      · cases hm
      · simp only [] at hm
        split at hm
        · cases hm
        · cases hm
        · rename_i u hu
          split at hm
          · cases hm
          · split at hm
            · cases hm
            · injection hm with hm
              subst hm
              unfold I64
              split <;> omega
    · cases h
  · cases h
theorem numsOf_some : ∀ {ts : List (List UInt8)} {l : List Int}, numsOf ts = some l → l.map Lib.itoa = ts ∧ ∀ n ∈ l, I64 n
  | [], l, h => by
    simp only [numsOf, Option.some.injEq] at h
    subst h
    exact ⟨rfl, fun n hn => by cases hn⟩
  | t :: ts, l, h => by
    rw [numsOf] at h
    split at h
    · cases h
    · rename_i n hn
      rw [Option.map_eq_some_iff] at h
      obtain ⟨m, hm, rfl⟩ := h
      obtain ⟨h1, h2⟩ := numsOf_some hm
      obtain ⟨h3, h4⟩ := numOf_some hn
      refine ⟨by rw [List.map_cons, h1, h3], fun k hk => ?_⟩
      rcases List.mem_cons.1 hk with rfl | hk
      · exact h4
      · exact h2 k hk
/-- pieces joined are the text -/
theorem pieces_join (c : UInt8) : ∀ l : List UInt8, (pieces c l).1 ++ (pieces c l).2.flatMap (c :: ·) = l
  | [] => rfl
  | x :: r => by
    have ih := pieces_join c r
    rw [pieces]
    split
    · rename_i e
      subst e
      simp only [List.nil_append, List.flatMap_cons, List.cons_append]
      rw [ih]
    · simp only [List.cons_append]
      rw [ih]
end Go.Proofs.YtadmpgegolmkgaaDoor
namespace Go.Proofs.YtadmpgegolmkgaaDoor
open Go.RowKit
set_option linter.unusedVariables false
set_option linter.unusedSimpArgs false

/-- a fact that the walk does not look into -/
structure Bx (p : Prop) : Prop where
  out : p
theorem ret_int {k : IntKind} {a b : Int} (h : a = b) : Ending.returned (.int k a) = .returned (.int k b) := by rw [h]
theorem ret_str {a b : List UInt8} (h : a = b) : Ending.returned (.string ⟨a.toArray⟩) = .returned (.string ⟨b.toArray⟩) := by rw [h]
abbrev strV (l : List UInt8) : Value := .string ⟨l.toArray⟩
def shpV (s : List UInt8 × Int × Int × Int) : Value := .agg #[strV s.1, .int .i64 s.2.1, .int .i64 s.2.2.1, .int .i64 s.2.2.2]

/-- the table of shapes -/
structure Shp (w : World) : Prop where
  c0 : ∀ k, k < 28 → w.cell? ⟨0, k * 4, none⟩ = some (strV (shapesT.getD k noShape).1)
  c1 : ∀ k, k < 28 → w.cell? ⟨0, k * 4 + 1, none⟩ = some (.int .i64 (shapesT.getD k noShape).2.1)
  c2 : ∀ k, k < 28 → w.cell? ⟨0, k * 4 + 2, none⟩ = some (.int .i64 (shapesT.getD k noShape).2.2.1)
  c3 : ∀ k, k < 28 → w.cell? ⟨0, k * 4 + 3, none⟩ = some (.int .i64 (shapesT.getD k noShape).2.2.2)
  lt : 0 < w.heap.size
theorem Shp.below {w w' : World} (h : Shp w) (hb : Below w.heap.size w w') : Shp w' := by
  have hc : ∀ i, w'.cell? ⟨0, i, none⟩ = w.cell? ⟨0, i, none⟩ := fun i => hb.cell (p := ⟨0, i, none⟩) h.lt
  exact ⟨fun k hk => by rw [hc]; exact h.c0 k hk, fun k hk => by rw [hc]; exact h.c1 k hk, fun k hk => by rw [hc]; exact h.c2 k hk, fun k hk => by rw [hc]; exact h.c3 k hk, Nat.lt_of_lt_of_le h.lt hb.size⟩
theorem below1 (w : World) (o : Obj) : Below w.heap.size w (w.alloc o) := (Below.refl _ w).alloc (Nat.le_refl _) o

theorem shp_f0 (W : World) (a b c d : Value) : (Instr.field 80 (.agg #[a, b, c, d]) 0).run Tryd.prog W = .ok a W := by
  simp [Instr.field, go_sem, Tryd.underlying80, asAgg]
theorem shp_f1 (W : World) (a b c d : Value) : (Instr.field 80 (.agg #[a, b, c, d]) 1).run Tryd.prog W = .ok b W := by
  simp [Instr.field, go_sem, Tryd.underlying80, asAgg]
theorem shp_f2 (W : World) (a b c d : Value) : (Instr.field 80 (.agg #[a, b, c, d]) 2).run Tryd.prog W = .ok c W := by
  simp [Instr.field, go_sem, Tryd.underlying80, asAgg]
theorem shp_f3 (W : World) (a b c d : Value) : (Instr.field 80 (.agg #[a, b, c, d]) 3).run Tryd.prog W = .ok d W := by
  simp [Instr.field, go_sem, Tryd.underlying80, asAgg]

set_option maxHeartbeats 1000000 in
theorem shapeOf_any (op : Int) (w : World) (hs : Shp w) (h : I64 op) :
    Calls Tryd.prog 28 #[.int .i64 op] w fun e w' => e = .returned (shpV (shapeI op)) ∧ Below w.heap.size w w' := by
  obtain ⟨h1, h2⟩ := h
  unfold shapeI
  by_cases h0 : op < 0
  · rw [if_pos (Or.inl h0)]
    go_enter Tryd.func28, Tryd.ntmps28
    go_wp2
    refine bodyPost_ret (v := shpV noShape) (by simp [results, Tryd.results28, go_sem, shpV, noShape]) rfl ⟨rfl, ?_⟩
    repeat (first | exact below1 _ _ | refine Below.setCell ?_ (Nat.le_refl _) _)
  · by_cases h3 : 28 ≤ op
    · rw [if_pos (Or.inr h3)]
      go_enter Tryd.func28, Tryd.ntmps28
      go_wp2
      refine bodyPost_ret (v := shpV noShape) (by simp [results, Tryd.results28, go_sem, shpV, noShape]) rfl ⟨rfl, ?_⟩
      repeat (first | exact below1 _ _ | refine Below.setCell ?_ (Nat.le_refl _) _)
    · rw [if_neg (by omega)]
      obtain ⟨k, rfl⟩ : ∃ k : Nat, op = k := ⟨op.toNat, by omega⟩
      have hk : k < 28 := by omega
      have c0 := hs.c0 k hk; have c1 := hs.c1 k hk; have c2 := hs.c2 k hk; have c3 := hs.c3 k hk
      rw [Int.toNat_natCast]
      generalize shapesT.getD k noShape = s at *
      have hlt := hs.lt
      have lc : ∀ i o, (w.alloc o).cell? ⟨0, i, none⟩ = w.cell? ⟨0, i, none⟩ := fun i o => (below1 w o).cell (p := ⟨0, i, none⟩) hlt
      have d0 := (lc (k * 4) (.cells #[.string ⟨#[]⟩, .int .i64 0, .int .i64 0, .int .i64 0] 80)).trans c0
      have d1 := (lc (k * 4 + 1) (.cells #[.string ⟨#[]⟩, .int .i64 0, .int .i64 0, .int .i64 0] 80)).trans c1
      have d2 := (lc (k * 4 + 2) (.cells #[.string ⟨#[]⟩, .int .i64 0, .int .i64 0, .int .i64 0] 80)).trans c2
      have d3 := (lc (k * 4 + 3) (.cells #[.string ⟨#[]⟩, .int .i64 0, .int .i64 0, .int .i64 0] 80)).trans c3
      clear lc hs
      go_enter Tryd.func28, Tryd.ntmps28
      go_wp2
      refine bodyPost_ret (v := shpV s) (by simp [results, Tryd.results28, go_sem, shpV]) rfl ⟨rfl, ?_⟩
      repeat (first | exact below1 _ _ | refine Below.setCell ?_ (Nat.le_refl _) _)
end Go.Proofs.YtadmpgegolmkgaaDoor
namespace Go.Proofs.YtadmpgegolmkgaaDoor
open Go.RowKit
set_option linter.unusedVariables false
set_option linter.unusedSimpArgs false

/-- a row of ints, as a slice's value has it -/
structure IntsV (w : World) (B : Nat) (a : Option Addr) (cap : Nat) (ks : List Int) : Prop where
  cap : ks.length ≤ cap
  max : ks.length ≤ maxLen
  at_ : 0 < ks.length → ∃ b o, a = some ⟨b, o, none⟩ ∧ b < B ∧ ∀ i (h : i < ks.length), w.cell? ⟨b, o + i, none⟩ = some (.int .i64 ks[i])
theorem IntsV.below {w w' : World} {B cap : Nat} {a : Option Addr} {ks : List Int} (h : IntsV w B a cap ks) (hb : Below B w w') : IntsV w' B a cap ks := by
  refine ⟨h.cap, h.max, fun h0 => ?_⟩
  obtain ⟨b, o, e, hlt, hc⟩ := h.at_ h0
  exact ⟨b, o, e, hlt, fun i hi => by rw [hb.cell (p := ⟨b, o + i, none⟩) hlt]; exact hc i hi⟩
theorem IntsV.up {w : World} {B B' cap : Nat} {a : Option Addr} {ks : List Int} (h : IntsV w B a cap ks) (hb : B ≤ B') : IntsV w B' a cap ks := by
  refine ⟨h.cap, h.max, fun h0 => ?_⟩
  obtain ⟨b, o, e, hlt, hc⟩ := h.at_ h0
  exact ⟨b, o, e, by omega, hc⟩
theorem intsV_nil (w : World) (B : Nat) (a : Option Addr) (cap : Nat) : IntsV w B a cap [] := ⟨Nat.zero_le _, Nat.zero_le _, fun h => absurd h (by simp)⟩

def pathN : List Int → Nat
  | [] => 0
  | x :: r => (if x = -1 then 1 else 0) + pathN r
theorem pathN_le (l : List Int) : pathN l ≤ l.length := by
  induction l with
  | nil => exact Nat.le_refl _
  | cons x r ih => rw [pathN, List.length_cons]; split <;> omega
theorem pathN_take (l : List Int) (k : Nat) (h : k < l.length) : pathN (l.take (k + 1)) = pathN (l.take k) + (if l[k] = -1 then 1 else 0) := by
  induction l generalizing k with
  | nil => simp at h
  | cons x r ih =>
    cases k with
    | zero => simp [pathN]
    | succ k =>
      have := ih k (by simpa using h)
      simp only [List.take_succ_cons, pathN, this, List.getElem_cons_succ]
      omega
/-- the arms: the numbers with an even place -/
def armsN : List Int → Nat
  | [] => 0
  | [x] => 1 + (if x = 1 then 1 else 0)
  | x :: _ :: r => 1 + (if x = 1 then 1 else 0) + armsN r
theorem armsN_le : ∀ l : List Int, armsN l ≤ l.length + 1
  | [] => by simp [armsN]
  | [x] => by rw [armsN]; simp only [List.length_cons, List.length_nil]; split <;> omega
  | x :: y :: r => by
    have := armsN_le r
    simp only [armsN, List.length_cons]
    split <;> omega
theorem armsN_drop (l : List Int) (k : Nat) (h : k < l.length) : armsN (l.drop k) = 1 + (if l[k] = 1 then 1 else 0) + armsN (l.drop (k + 2)) := by
  rw [List.drop_eq_getElem_cons h]
  rcases Nat.lt_or_ge (k + 1) l.length with h' | h'
  · rw [List.drop_eq_getElem_cons h', armsN]
  · rw [List.drop_eq_nil_of_le h', List.drop_eq_nil_of_le (by omega), armsN, armsN, Nat.add_zero]

set_option maxHeartbeats 1000000 in
theorem ofPath_any (w : World) (B : Nat) (a : Option Addr) (cap : Nat) (ks : List Int) (hi : IntsV w B a cap ks) :
    Calls Tryd.prog 45 #[.slice a ks.length cap] w fun e w' => e = .returned (.int .i64 (pathN ks)) ∧ w = w' := by
  obtain ⟨h1, h2, h3⟩ := hi
  unfold maxLen at h2
  have H3 : Bx _ := ⟨h3⟩
  clear h3
  go_enter Tryd.func45, Tryd.ntmps45
  go_wp2
  go_loop [8, 3] (fun i v => ∃ j : Nat, j ≤ ks.length ∧ i = .int .i64 j ∧ v = .int .i64 (pathN (ks.take j) : Nat)) (fun i _ => ks.length - (intOf i).toNat)
  case atStart => exact ⟨0, by omega, rfl, rfl⟩
  case round =>
    obtain ⟨j, hj, rfl, rfl⟩ := hrel
    by_cases hlt : j < ks.length
    · obtain ⟨b, o, rfl, hb, hc⟩ := H3.out (by omega)
      have c := hc j hlt
      have hp := pathN_take ks j hlt
      have hpl := pathN_le (ks.take j)
      rw [List.length_take] at hpl
      have HP : Bx _ := ⟨hp⟩
      clear hp hc
      by_cases hq : ks[j] = -1
      · have hq' : (ks[j] == -1) = true := by simpa using hq
        go_wp2
        go_round
        case rel => exact ⟨j + 1, by omega, by go_num, by have := HP.out; rw [if_pos hq] at this; rw [this]; go_num⟩
        case measure => simp [intOf]; omega
      · have hq' : (ks[j] == -1) = false := by simpa using hq
        go_wp2
        go_round
        case rel => exact ⟨j + 1, by omega, by go_num, by have := HP.out; rw [if_neg hq] at this; rw [this]; rfl⟩
        case measure => simp [intOf]; omega
    · have : j = ks.length := by omega
      subst this
      go_wp2
      go_ret
      exact ⟨rfl, rfl⟩
set_option maxHeartbeats 1000000 in
theorem ofArms_any (w : World) (B : Nat) (a : Option Addr) (cap : Nat) (ks : List Int) (hi : IntsV w B a cap ks) (hm : ks.length ≤ 281474976710656) :
    Calls Tryd.prog 46 #[.slice a ks.length cap] w fun e w' => e = .returned (.int .i64 (armsN ks)) ∧ w = w' := by
  obtain ⟨h1, h2, h3⟩ := hi
  unfold maxLen at h2
  have H3 : Bx _ := ⟨h3⟩
  clear h3
  have hal := armsN_le ks
  go_enter Tryd.func46, Tryd.ntmps46
  go_wp2
  go_loop [4, 3] (fun i v => ∃ j n : Nat, j ≤ ks.length + 1 ∧ i = .int .i64 j ∧ v = .int .i64 n ∧ Hid (armsN ks = n + armsN (ks.drop j))) (fun i _ => ks.length + 1 - (intOf i).toNat)
  case atStart => exact ⟨0, 0, by omega, rfl, rfl, by show _ = _; rw [List.drop_zero, Nat.zero_add]⟩
  case round =>
    obtain ⟨j, n, hj, rfl, rfl, H⟩ := hrel
    by_cases hlt : j < ks.length
    · obtain ⟨b, o, rfl, hb, hc⟩ := H3.out (by omega)
      have c := hc j hlt
      have hp := armsN_drop ks j hlt
      have HP : Bx _ := ⟨hp⟩
      clear hp hc
      by_cases hq : ks[j] = 1
      · have hq' : (ks[j] == 1) = true := by simpa using hq
        have hn : armsN ks = n + 2 + armsN (ks.drop (j + 2)) := by have := HP.out; rw [if_pos hq] at this; rw [H.out, this]; omega
        have HN : Hid (armsN ks = n + 2 + armsN (ks.drop (j + 2))) := hn
        have hn2 : n + 2 ≤ ks.length + 1 := by omega
        clear hn
        go_wp2
        go_round
        case rel => exact ⟨j + 2, n + 2, by omega, by go_num, by go_num, HN⟩
        case measure => simp [intOf]; omega
      · have hq' : (ks[j] == 1) = false := by simpa using hq
        have hn : armsN ks = n + 1 + armsN (ks.drop (j + 2)) := by have := HP.out; rw [if_neg hq] at this; rw [H.out, this]; omega
        have HN : Hid (armsN ks = n + 1 + armsN (ks.drop (j + 2))) := hn
        have hn2 : n + 1 ≤ ks.length + 1 := by omega
        clear hn
        go_wp2
        go_round
        case rel => exact ⟨j + 2, n + 1, by omega, by go_num, by go_num, HN⟩
        case measure => simp [intOf]; omega
    · go_wp2
      go_ret
      exact ⟨ret_int (by rw [H.out, List.drop_eq_nil_of_le (by omega)]; rfl), rfl⟩

/-- an instruction's value, with its list's -/
abbrev insV (i : CIn) (a : Option Addr) (cap : Nat) : Value := .agg #[.int .i64 i.op, .int .i64 i.a, .int .i64 i.b, .slice a i.list.length cap]
def moreI (i : CIn) : Int :=
  if i.op = 10 ∨ i.op = 11 ∨ i.op = 23 ∨ i.op = 24 then max i.a 0
  else if i.op = 22 then max i.b 0
  else if i.op = 16 then pathN i.list
  else if i.op = 27 then armsN i.list
  else 0
def popsI (i : CIn) : Int := if 9223372036854775807 - (shapeI i.op).2.2.1 < moreI i then 9223372036854775807 else (shapeI i.op).2.2.1 + moreI i
def pushesI (i : CIn) : Int := if i.op = 23 ∧ i.b = 1 then 1 else (shapeI i.op).2.2.2

set_option maxRecDepth 100000 in
set_option maxHeartbeats 4000000 in
theorem takesMore_any (w : World) (B : Nat) (i : CIn) (a : Option Addr) (cap : Nat) (hw : i.Wf) (hi : IntsV w B a cap i.list) (hm : i.list.length ≤ 281474976710656) (hB : B ≤ w.heap.size) :
    Calls Tryd.prog 29 #[insV i a cap] w fun e w' => e = .returned (.int .i64 (moreI i)) ∧ Below w.heap.size w w' := by
  obtain ⟨op, x, y, l⟩ := i
  obtain ⟨⟨o1, o2⟩, ⟨x1, x2⟩, ⟨y1, y2⟩, _⟩ := hw
  simp only [] at *
  have hb := below1 w (.cells #[.int .i64 op, .int .i64 x, .int .i64 y, .slice a l.length cap] 43)
  have hi' : IntsV (w.alloc (.cells #[.int .i64 op, .int .i64 x, .int .i64 y, .slice a l.length cap] 43)) B a cap l := hi.below (hb.mono hB)
  have HP := ofPath_any _ B a cap l hi'
  have HA := ofArms_any _ B a cap l hi' hm
  have HB : Bx _ := ⟨hb⟩
  clear hi hi' hb
  unfold moreI
  simp only []
  by_cases h1 : op = 10 ∨ op = 11 ∨ op = 23 ∨ op = 24
  · rw [if_pos h1]
    rcases h1 with rfl | rfl | rfl | rfl <;>
      (go_enter Tryd.func29, Tryd.ntmps29
       go_wp2 <;> (go_ret; exact ⟨ret_int (by omega), HB.out⟩))
  · rw [if_neg h1]
    rw [not_or, not_or, not_or] at h1
    obtain ⟨n1, n2, n3, n4⟩ := h1
    have b1 : (op == 10) = false := by simpa using n1
    have b2 : (op == 11) = false := by simpa using n2
    have b3 : (op == 23) = false := by simpa using n3
    have b4 : (op == 24) = false := by simpa using n4
    by_cases h2 : op = 22
    · rw [if_pos h2]
      subst h2
      go_enter Tryd.func29, Tryd.ntmps29
      go_wp2 <;> (go_ret; exact ⟨ret_int (by omega), HB.out⟩)
    · rw [if_neg h2]
      have b5 : (op == 22) = false := by simpa using h2
      by_cases h3 : op = 16
      · rw [if_pos h3]
        subst h3
        go_enter Tryd.func29, Tryd.ntmps29
        go_wp2_with (go_at_call 45; refine HP.mono ?_; rintro e w' ⟨rfl, rfl⟩)
        go_ret
        exact ⟨rfl, HB.out⟩
      · rw [if_neg h3]
        have b6 : (op == 16) = false := by simpa using h3
        by_cases h4 : op = 27
        · rw [if_pos h4]
          subst h4
          go_enter Tryd.func29, Tryd.ntmps29
          go_wp2_with (go_at_call 46; refine HA.mono ?_; rintro e w' ⟨rfl, rfl⟩)
          go_ret
          exact ⟨rfl, HB.out⟩
        · rw [if_neg h4]
          have b7 : (op == 27) = false := by simpa using h4
          go_enter Tryd.func29, Tryd.ntmps29
          go_wp2
          go_ret
          exact ⟨rfl, HB.out⟩

theorem more_64 {i : CIn} (hw : i.Wf) (hm : i.list.length ≤ 281474976710656) : 0 ≤ moreI i ∧ moreI i ≤ 9223372036854775807 := by
  obtain ⟨_, ⟨a1, a2⟩, ⟨b1, b2⟩, _⟩ := hw
  have p1 := pathN_le i.list
  have p2 := armsN_le i.list
  unfold moreI
  split
  · omega
  · split
    · omega
    · split
      · omega
      · split <;> omega
theorem shape_small (op : Int) : 0 ≤ (shapeI op).2.2.1 ∧ (shapeI op).2.2.1 ≤ 2 ∧ 0 ≤ (shapeI op).2.2.2 ∧ (shapeI op).2.2.2 ≤ 1 ∧ 0 ≤ (shapeI op).2.1 ∧ (shapeI op).2.1 ≤ 7 := by
  have key : ∀ k, k < 28 → 0 ≤ (shapesT.getD k noShape).2.2.1 ∧ (shapesT.getD k noShape).2.2.1 ≤ 2 ∧ 0 ≤ (shapesT.getD k noShape).2.2.2 ∧ (shapesT.getD k noShape).2.2.2 ≤ 1 ∧ 0 ≤ (shapesT.getD k noShape).2.1 ∧ (shapesT.getD k noShape).2.1 ≤ 7 := by decide
  unfold shapeI
  split
  · decide
  · exact key _ (by omega)
set_option maxRecDepth 100000 in
set_option maxHeartbeats 4000000 in
theorem Pops_any (w : World) (B : Nat) (i : CIn) (a : Option Addr) (cap : Nat) (hs : Shp w) (hw : i.Wf) (hi : IntsV w B a cap i.list) (hm : i.list.length ≤ 281474976710656) (hB : B ≤ w.heap.size) :
    Calls Tryd.prog 16 #[insV i a cap] w fun e w' => e = .returned (.int .i64 (popsI i)) ∧ Below w.heap.size w w' := by
  have hb := below1 w (.cells #[.int .i64 i.op, .int .i64 i.a, .int .i64 i.b, .slice a i.list.length cap] 43)
  have HS := shapeOf_any i.op (w.alloc (.cells #[.int .i64 i.op, .int .i64 i.a, .int .i64 i.b, .slice a i.list.length cap] 43)) (hs.below hb) hw.op
  have HT : ∀ w', Below w.heap.size w w' → Calls Tryd.prog 29 #[insV i a cap] w' fun e w2 => e = .returned (.int .i64 (moreI i)) ∧ Below w.heap.size w w2 := fun w' h' => (takesMore_any w' B i a cap hw (hi.below (h'.mono hB)) hm (Nat.le_trans hB h'.size)).mono fun e w2 h => ⟨h.1, h'.trans (h.2.mono h'.size)⟩
  have HHT : Bx _ := ⟨HT⟩
  have hm' := more_64 hw hm
  have hsm := shape_small i.op
  unfold popsI
  generalize shapeI i.op = s at *
  generalize moreI i = m at *
  unfold shpV at HS
  have f2 := fun W => shp_f2 W (strV s.1) (.int .i64 s.2.1) (.int .i64 s.2.2.1) (.int .i64 s.2.2.2)
  obtain ⟨op, x, y, l⟩ := i
  obtain ⟨nm, hs1, tk, ly⟩ := s
  simp only [] at *
  have HB : Bx _ := ⟨hb⟩
  obtain ⟨m1, m2⟩ := hm'
  obtain ⟨t1, t2, _⟩ := hsm
  clear hs hw hi hm hB HT hb
  go_enter Tryd.func16, Tryd.ntmps16
  go_wp2_with (first
    | (go_at_call 28; refine HS.mono ?_; rintro e w1 ⟨rfl, hb1⟩
       have hb2 : Below w.heap.size w w1 := HB.out.trans (hb1.mono (by simp))
       have hq : w.heap.size < w1.heap.size := by have := hb1.size; simp at this; omega
       have q0 : ∀ j v, (w.alloc (.cells #[.int .i64 op, .int .i64 x, .int .i64 y, .slice a l.length cap] 43)).cell? ⟨w.heap.size, j, none⟩ = some v → w1.cell? ⟨w.heap.size, j, none⟩ = some v := fun j v h => by rw [hb1.cell (p := ⟨w.heap.size, j, none⟩) (by simp)]; exact h
       have g0 := q0 0 (.int .i64 op) (by simp [go_sem])
       have g1 := q0 1 (.int .i64 x) (by simp [go_sem])
       have g2 := q0 2 (.int .i64 y) (by simp [go_sem])
       have g3 := q0 3 (.slice a l.length cap) (by simp [go_sem])
       have HB2 : Bx _ := ⟨hb2⟩
       clear q0 hb1 hb2)
    | (go_at_call 29; refine (HHT.out _ HB2.out).mono ?_; rintro e w2 ⟨rfl, hb3⟩))
  all_goals go_ret
  all_goals exact ⟨ret_int (by first | rfl | omega | (split <;> omega)), hb3⟩
set_option maxRecDepth 100000 in
set_option maxHeartbeats 4000000 in
theorem Pushes_any (w : World) (i : CIn) (a : Option Addr) (cap : Nat) (hs : Shp w) (hw : i.Wf) :
    Calls Tryd.prog 30 #[insV i a cap] w fun e w' => e = .returned (.int .i64 (pushesI i)) ∧ Below w.heap.size w w' := by
  have hb := below1 w (.cells #[.int .i64 i.op, .int .i64 i.a, .int .i64 i.b, .slice a i.list.length cap] 43)
  have HS := shapeOf_any i.op (w.alloc (.cells #[.int .i64 i.op, .int .i64 i.a, .int .i64 i.b, .slice a i.list.length cap] 43)) (hs.below hb) hw.op
  unfold pushesI
  generalize shapeI i.op = s at *
  unfold shpV at HS
  have f3 := fun W => shp_f3 W (strV s.1) (.int .i64 s.2.1) (.int .i64 s.2.2.1) (.int .i64 s.2.2.2)
  obtain ⟨op, x, y, l⟩ := i
  obtain ⟨nm, hs1, tk, ly⟩ := s
  simp only [] at *
  have HB : Bx _ := ⟨hb⟩
  clear hs hb
  by_cases h1 : op = 23
  · subst h1
    by_cases h2 : y = 1
    · subst h2
      rw [if_pos ⟨rfl, rfl⟩]
      go_enter Tryd.func30, Tryd.ntmps30
      go_wp2
      go_ret
      exact ⟨rfl, HB.out⟩
    · rw [if_neg (fun h => h2 h.2)]
      have b2 : (y == 1) = false := by simpa using h2
      go_enter Tryd.func30, Tryd.ntmps30
      go_wp2_with (go_at_call 28; refine HS.mono ?_; rintro e w1 ⟨rfl, hb1⟩)
      go_ret
      exact ⟨rfl, HB.out.trans (hb1.mono (by simp))⟩
  · rw [if_neg (fun h => h1 h.1)]
    have b1 : (op == 23) = false := by simpa using h1
    go_enter Tryd.func30, Tryd.ntmps30
    go_wp2_with (go_at_call 28; refine HS.mono ?_; rintro e w1 ⟨rfl, hb1⟩)
    go_ret
    exact ⟨rfl, HB.out.trans (hb1.mono (by simp))⟩
end Go.Proofs.YtadmpgegolmkgaaDoor
namespace Go.Proofs.YtadmpgegolmkgaaDoor
open Go.RowKit
set_option linter.unusedVariables false
set_option linter.unusedSimpArgs false

theorem ret_bool {b c : Bool} (h : b = c) : Ending.returned (.bool b) = .returned (.bool c) := by rw [h]
def dbT : List Int := [0, 1, 56, 2, 57, 49, 28, 3, 61, 58, 42, 50, 38, 29, 17, 4, 62, 47, 59, 36, 45, 43, 51, 22, 53, 39, 33, 30, 24, 18, 12, 5, 63, 55, 48, 27, 60, 41, 37, 16, 46, 35, 44, 21, 52, 32, 23, 11, 54, 26, 40, 15, 34, 20, 31, 10, 25, 14, 19, 9, 13, 8, 7, 6]
def vsT : List (Int × Int × Int) := [(0, 0, 0), (1, 0, 0), (2, 0, 0), (5, 0, 0), (12, 0, 0), (12, 0, 0), (12, 0, 0), (13, 0, 0), (0, 0, 0), (0, 0, 0), (4, 0, 0), (3, 0, 0), (0, 0, 0), (0, 0, 0), (0, 0, 0), (3, 0, 0), (12, 0, 10), (6, 0, 0), (7, 0, 0), (14, 0, 0), (14, 0, 0), (15, 0, 0), (8, 9, 0), (3, 2, 0), (3, 0, 0), (0, 0, 0), (0, 0, 0), (0, 0, 11)]
/-- all the variables that are read -/
structure VW (w : World) : Prop where
  shp : Shp w
  db : ∀ k, k < 64 → w.cell? ⟨2, k, none⟩ = some (.int .u8 (dbT.getD k 0))
  v0 : ∀ k, k < 28 → w.cell? ⟨1, k * 3, none⟩ = some (.int .i64 (vsT.getD k (0, 0, 0)).1)
  v1 : ∀ k, k < 28 → w.cell? ⟨1, k * 3 + 1, none⟩ = some (.int .i64 (vsT.getD k (0, 0, 0)).2.1)
  v2 : ∀ k, k < 28 → w.cell? ⟨1, k * 3 + 2, none⟩ = some (.int .i64 (vsT.getD k (0, 0, 0)).2.2)
  ltd : 2 < w.heap.size
  ltv : 1 < w.heap.size
theorem VW.below {w w' : World} (h : VW w) (hb : Below w.heap.size w w') : VW w' := by
  have hc : ∀ i, w'.cell? ⟨2, i, none⟩ = w.cell? ⟨2, i, none⟩ := fun i => hb.cell (p := ⟨2, i, none⟩) h.ltd
  have hv : ∀ i, w'.cell? ⟨1, i, none⟩ = w.cell? ⟨1, i, none⟩ := fun i => hb.cell (p := ⟨1, i, none⟩) h.ltv
  exact ⟨h.shp.below hb, fun k hk => by rw [hc]; exact h.db k hk, fun k hk => by rw [hv]; exact h.v0 k hk, fun k hk => by rw [hv]; exact h.v1 k hk, fun k hk => by rw [hv]; exact h.v2 k hk, Nat.lt_of_lt_of_le h.ltd hb.size, Nat.lt_of_lt_of_le h.ltv hb.size⟩

/-- what is turned lies in one of some blocks -/
structure Fx (P : Nat → Prop) (w w' : World) : Prop where
  os : w'.os = w.os
  tape : w'.tape = w.tape
  output : w'.output = w.output
  size : w.heap.size ≤ w'.heap.size
  block : ∀ k, k < w.heap.size → ¬ P k → w'.heap[k]? = w.heap[k]?
theorem Fx.refl (P : Nat → Prop) (w : World) : Fx P w w := ⟨rfl, rfl, rfl, Nat.le_refl _, fun _ _ _ => rfl⟩
theorem Fx.trans {P : Nat → Prop} {a b c : World} (h : Fx P a b) (k : Fx P b c) : Fx P a c :=
  ⟨k.os.trans h.os, k.tape.trans h.tape, k.output.trans h.output, Nat.le_trans h.size k.size, fun i hi hp => (k.block i (Nat.lt_of_lt_of_le hi h.size) hp).trans (h.block i hi hp)⟩
theorem Fx.of {P : Nat → Prop} {a b : World} (h : Below a.heap.size a b) : Fx P a b := ⟨h.os, h.tape, h.output, h.size, fun k hk _ => h.block k hk⟩
theorem Fx.alloc {P : Nat → Prop} {a b : World} (h : Fx P a b) (o : Obj) : Fx P a (b.alloc o) := h.trans (Fx.of (below1 b o))
theorem Fx.drew {P : Nat → Prop} {a b : World} (h : Fx P a b) : Fx P a b.drew := ⟨h.os, h.tape, h.output, h.size, h.block⟩
theorem Fx.drewN {P : Nat → Prop} {a b : World} (h : Fx P a b) (n : Nat) : Fx P a (b.drewN n) := ⟨h.os, h.tape, h.output, h.size, h.block⟩
theorem Fx.set {P : Nat → Prop} {a b : World} (h : Fx P a b) {p : Addr} (hp : P p.block ∨ a.heap.size ≤ p.block) (u : Value) : Fx P a (b.setCell p u) :=
  ⟨h.os, h.tape, h.output, by simpa [World.setCell] using h.size, fun k hk hn => (Below.heap_setCell b p u k (fun e => by subst e; rcases hp with hp | hp; exact hn hp; omega)).trans (h.block k hk hn)⟩
theorem Fx.mono {P Q : Nat → Prop} {a b : World} (h : Fx P a b) (hpq : ∀ k, k < a.heap.size → P k → Q k) : Fx Q a b := ⟨h.os, h.tape, h.output, h.size, fun k hk hn => h.block k hk (fun hp => hn (hpq k hk hp))⟩
theorem Fx.bel {P : Nat → Prop} {a b : World} {B : Nat} (h : Fx P a b) (hB : B ≤ a.heap.size) (hp : ∀ k, k < B → ¬ P k) : Below B a b := ⟨h.os, h.tape, h.output, h.size, fun k hk => h.block k (Nat.lt_of_lt_of_le hk hB) (hp k hk)⟩

set_option maxRecDepth 100000 in
set_option maxHeartbeats 1000000 in
theorem tz_any (n : Nat) (hn : n < 3) (w : World) (hV : VW w) : Calls Tryd.prog 63 #[.int .u64 ((2 ^ n : Nat) : Int)] w fun e w' => e = .returned (.int .i64 n) ∧ w = w' := by
  have d0 := hV.db 0 (by omega)
  have d1 := hV.db 1 (by omega)
  have d2 := hV.db 3 (by omega)
  simp [dbT] at d0 d1 d2
  rcases (show n = 0 ∨ n = 1 ∨ n = 2 by omega) with rfl | rfl | rfl
  · have h1 : IntKind.u64.wrap (-1) = 18446744073709551615 := by kernel_rfl
    have h2 : bits BinOp.and IntKind.u64 1 18446744073709551615 = 1 := by kernel_rfl
    have h3 : IntKind.u64.wrap (1 * 285870213051353865) = 285870213051353865 := by kernel_rfl
    have h3' : IntKind.u64.wrap (285870213051353865) = 285870213051353865 := by kernel_rfl
    have h3'' : IntKind.u64.wrap (285870213051353865) = 285870213051353865 := by kernel_rfl
    go_enter Tryd.func63, Tryd.ntmps63
    go_wp2
    go_ret
    exact ⟨rfl, rfl⟩
  · have h1 : IntKind.u64.wrap (-2) = 18446744073709551614 := by kernel_rfl
    have h2 : bits BinOp.and IntKind.u64 2 18446744073709551614 = 2 := by kernel_rfl
    have h3 : IntKind.u64.wrap (2 * 285870213051353865) = 571740426102707730 := by kernel_rfl
    have h3' : IntKind.u64.wrap (285870213051353865) = 285870213051353865 := by kernel_rfl
    have h3'' : IntKind.u64.wrap (571740426102707730) = 571740426102707730 := by kernel_rfl
    go_enter Tryd.func63, Tryd.ntmps63
    go_wp2
    go_ret
    exact ⟨rfl, rfl⟩
  · have h1 : IntKind.u64.wrap (-4) = 18446744073709551612 := by kernel_rfl
    have h2 : bits BinOp.and IntKind.u64 4 18446744073709551612 = 4 := by kernel_rfl
    have h3 : IntKind.u64.wrap (4 * 285870213051353865) = 1143480852205415460 := by kernel_rfl
    have h3' : IntKind.u64.wrap (285870213051353865) = 285870213051353865 := by kernel_rfl
    have h3'' : IntKind.u64.wrap (1143480852205415460) = 1143480852205415460 := by kernel_rfl
    go_enter Tryd.func63, Tryd.ntmps63
    go_wp2
    go_ret
    exact ⟨rfl, rfl⟩
end Go.Proofs.YtadmpgegolmkgaaDoor
namespace Go.Proofs.YtadmpgegolmkgaaDoor
set_option linter.unusedVariables false
set_option linter.unusedSimpArgs false

/-! ### words of bits -/
def wordF (f : Nat → Bool) : Nat → Nat
  | 0 => 0
  | m + 1 => if f m then wordF f m ||| 2 ^ m else wordF f m
theorem wordF_lt (f : Nat → Bool) : ∀ m, wordF f m < 2 ^ m
  | 0 => by simp [wordF]
  | m + 1 => by
    have h := wordF_lt f m
    have h2 : wordF f m < 2 ^ (m + 1) := Nat.lt_of_lt_of_le h (Nat.pow_le_pow_right (by decide) (by omega))
    rw [wordF]
    split
    · exact Nat.or_lt_two_pow h2 (Nat.pow_lt_pow_right (by decide) (by omega))
    · exact h2
theorem testBit_wordF (f : Nat → Bool) (k : Nat) : ∀ m, (wordF f m).testBit k = (decide (k < m) && f k)
  | 0 => by simp [wordF]
  | m + 1 => by
    have ih := testBit_wordF f k m
    rw [wordF]
    by_cases e : k = m
    · subst e
      cases h : f k with
      | true => simp [Nat.testBit_or, Nat.testBit_two_pow, ih]
      | false => simp [ih]
    · have e2 : (decide (k < m + 1)) = decide (k < m) := by
        by_cases h : k < m
        · rw [decide_eq_true h, decide_eq_true (by omega)]
        · rw [decide_eq_false h, decide_eq_false (by omega)]
      rw [e2]
      split
      · rw [Nat.testBit_or, ih, Nat.testBit_two_pow]
        have : decide (m = k) = false := decide_eq_false (by omega)
        rw [this, Bool.or_false]
      · exact ih
def word (f : Nat → Bool) : Nat := wordF f 64
theorem word_lt (f : Nat → Bool) : word f < 18446744073709551616 := wordF_lt f 64
theorem testBit_word (f : Nat → Bool) (k : Nat) : (word f).testBit k = (decide (k < 64) && f k) := testBit_wordF f k 64
theorem word_ext {f : Nat → Bool} {x : Nat} (hx : x < 18446744073709551616) (h : ∀ k, k < 64 → x.testBit k = f k) : x = word f := by
  refine Nat.eq_of_testBit_eq fun k => ?_
  rw [testBit_word]
  by_cases hk : k < 64
  · rw [decide_eq_true hk, Bool.true_and, h k hk]
  · rw [decide_eq_false hk, Bool.false_and]
    exact Nat.testBit_lt_two_pow (Nat.lt_of_lt_of_le (show x < 2 ^ 64 from hx) (Nat.pow_le_pow_right (by decide) (by omega)))
theorem word_congr {f g : Nat → Bool} (h : ∀ k, k < 64 → f k = g k) : word f = word g := word_ext (word_lt f) fun k hk => by rw [testBit_word, decide_eq_true hk, Bool.true_and, h k hk]
theorem word_zero {f : Nat → Bool} : word f = 0 ↔ ∀ k, k < 64 → f k = false := by
  constructor
  · intro h k hk
    have := testBit_word f k
    rw [h, decide_eq_true hk] at this
    simpa using this.symm
  · intro h
    refine (word_ext (by decide) fun k hk => ?_).symm
    rw [h k hk, Nat.zero_testBit]
/-- a bit more, a bit less -/
theorem word_or {f g : Nat → Bool} {b : Nat} (hb : b < 64) (h : ∀ k, k < 64 → g k = (f k || k == b)) : word f ||| 2 ^ b = word g := by
  refine word_ext (Nat.or_lt_two_pow (word_lt f) (Nat.pow_lt_pow_right (by decide) hb)) fun k hk => ?_
  rw [Nat.testBit_or, testBit_word, decide_eq_true hk, Bool.true_and, Nat.testBit_two_pow, h k hk]
  congr 1
  by_cases e : b = k
  · subst e; simp
  · rw [decide_eq_false e]; symm; simp; omega
/-! ### the smallest bit -/
theorem ctz_least {f : Nat → Bool} (h : word f ≠ 0) : Lib.ctz 64 (word f) < 64 ∧ f (Lib.ctz 64 (word f)) = true ∧ ∀ k, k < Lib.ctz 64 (word f) → f k = false := by
  obtain ⟨m, hm, hk⟩ := Lib.ctzFrom_spec 64 (word f) (by omega) (word_lt f)
  have e : Lib.ctz 64 (word f) = Lib.ctzFrom 64 (word f) := by unfold Lib.ctz; rw [if_neg h]
  rw [e]
  generalize Lib.ctzFrom 64 (word f) = c at *
  have hbit : ∀ k, k < 64 → (word f).testBit k = f k := fun k hk => by rw [testBit_word, decide_eq_true hk, Bool.true_and]
  refine ⟨hk, ?_, fun k hkc => ?_⟩
  · rw [← hbit c hk, hm, Nat.mul_comm, Nat.testBit_mul_two_pow]
    simp [Nat.testBit_zero]
  · rw [← hbit k (by omega), hm, Nat.mul_comm, Nat.testBit_mul_two_pow]
    simp; omega
/-! ### what is due, level by level -/
open Classical in
/-- whether any of the numbers under j, at a level, is there -/
noncomputable def up (D : Nat → Bool) (l j : Nat) : Bool := decide (∃ i, i / 64 ^ l = j ∧ D i = true)
theorem up_iff {D : Nat → Bool} {l j : Nat} : up D l j = true ↔ ∃ i, i / 64 ^ l = j ∧ D i = true := by unfold up; simp
theorem up_zero (D : Nat → Bool) : up D 0 = D := by
  funext j
  have : up D 0 j = true ↔ D j = true := by
    rw [up_iff]
    constructor
    · rintro ⟨i, h1, h2⟩; rw [Nat.pow_zero, Nat.div_one] at h1; rw [← h1]; exact h2
    · intro h; exact ⟨j, by simp, h⟩
  exact Bool.eq_iff_iff.2 this
theorem up_add (D : Nat → Bool) (l m : Nat) : up D (l + m) = up (up D l) m := by
  funext j
  refine Bool.eq_iff_iff.2 ?_
  rw [up_iff, up_iff]
  constructor
  · rintro ⟨i, h1, h2⟩
    exact ⟨i / 64 ^ l, by rw [Nat.div_div_eq_div_mul, ← Nat.pow_add]; exact h1, up_iff.2 ⟨i, rfl, h2⟩⟩
  · rintro ⟨k, h1, h2⟩
    obtain ⟨i, h3, h4⟩ := up_iff.1 h2
    exact ⟨i, by rw [Nat.pow_add, ← Nat.div_div_eq_div_mul, h3]; exact h1, h4⟩
theorem up_succ {D : Nat → Bool} {l j : Nat} : up D (l + 1) j = true ↔ ∃ i, i / 64 = j ∧ up D l i = true := by
  rw [up_add, up_iff, Nat.pow_one]
/-- a word of a level -/
noncomputable def wd (D : Nat → Bool) (l j : Nat) : Nat := word fun k => up D l (64 * j + k)
theorem wd_zero {D : Nat → Bool} {l j : Nat} : wd D l j = 0 ↔ up D (l + 1) j = false := by
  unfold wd
  rw [word_zero, ← Bool.not_eq_true, up_succ]
  constructor
  · rintro h ⟨i, h1, h2⟩
    have := h (i % 64) (Nat.mod_lt _ (by decide))
    rw [← h1, Nat.div_add_mod, h2] at this
    cases this
  · intro h k hk
    cases hu : up D l (64 * j + k) with
    | false => rfl
    | true => exact absurd ⟨64 * j + k, by omega, hu⟩ h
def ins (n : Nat) (D : Nat → Bool) : Nat → Bool := fun i => D i || i == n
def del (n : Nat) (D : Nat → Bool) : Nat → Bool := fun i => D i && i != n
theorem up_ins (n : Nat) (D : Nat → Bool) (l : Nat) : up (ins n D) l = ins (n / 64 ^ l) (up D l) := by
  funext j
  refine Bool.eq_iff_iff.2 ?_
  unfold ins
  rw [up_iff, Bool.or_eq_true, up_iff]
  constructor
  · rintro ⟨i, h1, h2⟩
    rw [Bool.or_eq_true] at h2
    rcases h2 with h2 | h2
    · exact .inl ⟨i, h1, h2⟩
    · have : i = n := by simpa using h2
      subst this
      exact .inr (by simp [h1])
  · rintro (⟨i, h1, h2⟩ | h)
    · exact ⟨i, h1, by rw [h2]; rfl⟩
    · have : j = n / 64 ^ l := by simpa using h
      exact ⟨n, this.symm, by simp⟩
theorem wd_ins {n : Nat} {D : Nat → Bool} {l : Nat} {m : Nat} (hm : m = n / 64 ^ l) (j : Nat) : wd (ins n D) l j = if j = m / 64 then wd D l j ||| 2 ^ (m % 64) else wd D l j := by
  subst hm
  unfold wd
  rw [up_ins]
  split
  · rename_i e
    subst e
    refine (word_or (Nat.mod_lt _ (by decide)) fun k hk => ?_).symm
    unfold ins
    congr 1
    generalize n / 64 ^ l = m
    by_cases e : k = m % 64
    · subst e; rw [Nat.div_add_mod]; simp
    · rw [beq_eq_false_iff_ne.2 e, beq_eq_false_iff_ne.2 (by omega)]
  · rename_i e
    refine word_congr fun k hk => ?_
    unfold ins
    rw [beq_eq_false_iff_ne.2 (by omega), Bool.or_false]
/-- dropping a number: what holds where a level is come to -/
theorem wd_del {D E : Nat → Bool} {l : Nat} {m : Nat} (h : ∀ j, up E l j = (up D l j && j != m)) (j : Nat) : wd E l j = if j = m / 64 then wd D l j &&& (18446744073709551615 - 2 ^ (m % 64)) else wd D l j := by
  unfold wd
  split
  · rename_i e
    subst e
    have hb : m % 64 < 64 := Nat.mod_lt _ (by decide)
    refine (word_ext (Nat.lt_of_le_of_lt Nat.and_le_left (word_lt _)) fun k hk => ?_).symm
    rw [Nat.testBit_and, testBit_word, decide_eq_true hk, Bool.true_and, h]
    congr 1
    have e1 : 18446744073709551615 - 2 ^ (m % 64) = 2 ^ 64 - (2 ^ (m % 64) + 1) := by omega
    rw [e1, Nat.testBit_two_pow_sub_succ (Nat.pow_lt_pow_right (by decide) hb), decide_eq_true hk, Bool.true_and, Nat.testBit_two_pow]
    by_cases e : m % 64 = k
    · subst e; rw [Nat.div_add_mod]; simp
    · rw [decide_eq_false e]; symm; simp; omega
  · rename_i e
    refine word_congr fun k hk => ?_
    rw [h]
    have : (64 * j + k != m) = true := by simp; omega
    rw [this, Bool.and_true]
theorem del_next {D E : Nat → Bool} {l m : Nat} (h : ∀ j, up E l j = (up D l j && j != m)) : (wd E l (m / 64) ≠ 0 → up E (l + 1) = up D (l + 1)) ∧ (wd E l (m / 64) = 0 → ∀ j, up E (l + 1) j = (up D (l + 1) j && j != m / 64)) := by
  have oth : ∀ j, j ≠ m / 64 → (up E (l + 1) j = true ↔ up D (l + 1) j = true) := fun j hj => by
    rw [up_succ, up_succ]
    constructor
    · rintro ⟨i, h1, h2⟩
      rw [h, Bool.and_eq_true] at h2
      exact ⟨i, h1, h2.1⟩
    · rintro ⟨i, h1, h2⟩
      refine ⟨i, h1, ?_⟩
      rw [h, h2, Bool.true_and]
      simp
      intro e
      subst e
      exact hj h1.symm
  constructor
  · intro hz
    funext j
    refine Bool.eq_iff_iff.2 ?_
    by_cases hj : j = m / 64
    · subst hj
      have h1 : up E (l + 1) (m / 64) = true := by
        cases hu : up E (l + 1) (m / 64) with
        | true => rfl
        | false => exact absurd (wd_zero.2 hu) hz
      rw [h1]
      obtain ⟨i, h2, h3⟩ := up_succ.1 h1
      rw [h, Bool.and_eq_true] at h3
      simp only [true_iff]
      exact up_succ.2 ⟨i, h2, h3.1⟩
    · exact oth j hj
  · intro hz j
    by_cases hj : j = m / 64
    · subst hj
      rw [wd_zero.1 hz]; simp
    · have : (j != m / 64) = true := by simpa using hj
      rw [this, Bool.and_true]
      exact Bool.eq_iff_iff.2 (oth j hj)
def leastB (D : Nat → Bool) (n : Nat) : Prop := D n = true ∧ ∀ m, m < n → D m = false
theorem least_one {D : Nat → Bool} {n m : Nat} (h : leastB D n) (h' : leastB D m) : n = m := by
  rcases Nat.lt_trichotomy n m with q | q | q
  · have := h'.2 n q; rw [h.1] at this; cases this
  · exact q
  · have := h.2 m q; rw [h'.1] at this; cases this
/-- the smallest, a level below -/
theorem least_down {D : Nat → Bool} {l n : Nat} (h : leastB (up D (l + 1)) n) : wd D l n ≠ 0 ∧ Lib.ctz 64 (wd D l n) < 64 ∧ leastB (up D l) (n * 64 + Lib.ctz 64 (wd D l n)) := by
  have hz : wd D l n ≠ 0 := fun e => by rw [wd_zero, h.1] at e; cases e
  obtain ⟨h1, h2, h3⟩ := ctz_least (f := fun k => up D l (64 * n + k)) hz
  have e : word (fun k => up D l (64 * n + k)) = wd D l n := rfl
  rw [e] at h1 h2 h3
  refine ⟨hz, h1, ⟨by rw [Nat.mul_comm]; exact h2, fun m hm => ?_⟩⟩
  cases hu : up D l m with
  | false => rfl
  | true =>
    have h4 : up D (l + 1) (m / 64) = true := up_succ.2 ⟨m, rfl, hu⟩
    rcases Nat.lt_trichotomy (m / 64) n with q | q | q
    · rw [h.2 _ q] at h4; cases h4
    · have h5 := h3 (m % 64) (by omega)
      rw [← q, Nat.div_add_mod, hu] at h5
      cases h5
    · omega
/-! ### how many words a level has -/
def szW (many : Nat) : Nat → Nat
  | 0 => (many + 63) / 64
  | l + 1 => (szW many l + 63) / 64
theorem szW_at {many : Nat} : ∀ {l i : Nat}, i < many → i / 64 ^ l / 64 < szW many l
  | 0, i, h => by rw [Nat.pow_zero, Nat.div_one]; unfold szW; omega
  | l + 1, i, h => by
    have := szW_at (l := l) h
    rw [Nat.pow_succ, ← Nat.div_div_eq_div_mul]
    unfold szW
    omega
theorem szW_le {many : Nat} : ∀ l, szW many l ≤ many
  | 0 => by unfold szW; omega
  | l + 1 => by have := szW_le (many := many) l; unfold szW; omega
theorem szW_pos {many : Nat} (h : 0 < many) : ∀ l, 0 < szW many l
  | 0 => by unfold szW; omega
  | l + 1 => by have := szW_pos h l; unfold szW; omega
theorem up_in {D : Nat → Bool} {many l j : Nat} (hD : ∀ i, D i = true → i < many) (h : up D l j = true) : j / 64 < szW many l := by
  obtain ⟨i, rfl, h2⟩ := up_iff.1 h
  exact szW_at (hD i h2)
/-- a row of a level, as cells -/
noncomputable def wrC (D : Nat → Bool) (l m : Nat) : Array Value := ((List.range m).map fun j => (.int .u64 (wd D l j) : Value)).toArray
theorem wrC_size (D : Nat → Bool) (l m : Nat) : (wrC D l m).size = m := by simp [wrC]
theorem wrC_at {D : Nat → Bool} {l m j : Nat} (h : j < m) : (wrC D l m)[j]? = some (.int .u64 (wd D l j)) := by simp [wrC, h]
theorem wrC_ext {D E : Nat → Bool} {l m k : Nat} {x : Nat} (hk : k < m) (h1 : wd E l k = x) (h2 : ∀ j, j < m → j ≠ k → wd E l j = wd D l j) : (wrC D l m).setIfInBounds k (.int .u64 x) = wrC E l m := by
  apply Array.ext_getElem?
  intro j
  rw [Array.getElem?_setIfInBounds]
  by_cases hj : j < m
  · rw [wrC_at (D := E) hj]
    by_cases e : k = j
    · subst e
      rw [if_pos rfl, if_pos (by rw [wrC_size]; exact hk), h1]
    · rw [if_neg e, wrC_at hj, h2 j hj (fun q => e q.symm)]
  · rw [Array.getElem?_eq_none (by rw [wrC_size]; omega)]
    split
    · rw [if_neg (by rw [wrC_size]; omega), Array.getElem?_eq_none (by rw [wrC_size]; omega)]
    · rw [Array.getElem?_eq_none (by rw [wrC_size]; omega)]
theorem wrC_zero (l m : Nat) : madeCells #[.int .u64 0] m = wrC (fun _ => false) l m := by
  have e : ∀ j, wd (fun _ => false) l j = 0 := fun j => by
    rw [wd_zero]
    cases h : up (fun _ => false) (l + 1) j with
    | false => rfl
    | true => obtain ⟨i, _, q⟩ := up_iff.1 h; cases q
  apply Array.ext_getElem?
  intro j
  by_cases hj : j < m
  · rw [wrC_at hj, e]
    simp [madeCells, hj, Nat.mod_one]
  · rw [Array.getElem?_eq_none (by rw [size_madeCells]; omega), Array.getElem?_eq_none (by rw [wrC_size]; omega)]
end Go.Proofs.YtadmpgegolmkgaaDoor
