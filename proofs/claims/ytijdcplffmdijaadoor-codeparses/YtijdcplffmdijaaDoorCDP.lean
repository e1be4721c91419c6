import Derived.Lib.AtoiAll
import Derived.Lib.ItoaNum
namespace Go.Proofs.YtijdcplffmdijaaDoor
set_option linter.unusedVariables false
set_option linter.unusedSimpArgs false

def I64 (x : Int) : Prop := -9223372036854775808 ≤ x ∧ x ≤ 9223372036854775807

/-- an instruction, a type, a prog, a unit -/
structure CIn where
  op : Int
  a : Int
  b : Int
  list : List Int
  deriving DecidableEq, Inhabited
structure CTy where
  kind : Int
  kids : List Int
  res : Bool
  deriving DecidableEq, Inhabited
structure CPg where
  params : Int
  slots : Int
  caps : Int
  res : Bool
  code : List CIn
  deriving DecidableEq, Inhabited
structure CUn where
  progs : List CPg
  types : List CTy
  deriving DecidableEq, Inhabited
structure CIn.Wf (i : CIn) : Prop where
  op : I64 i.op
  a : I64 i.a
  b : I64 i.b
  list : ∀ k ∈ i.list, I64 k
structure CTy.Wf (t : CTy) : Prop where
  kind : I64 t.kind
  kids : ∀ k ∈ t.kids, I64 k
structure CPg.Wf (p : CPg) : Prop where
  params : I64 p.params
  slots : I64 p.slots
  caps : I64 p.caps
  code : ∀ i ∈ p.code, i.Wf
structure CUn.Wf (u : CUn) : Prop where
  progs : ∀ p ∈ u.progs, p.Wf
  types : ∀ t ∈ u.types, t.Wf

/-- the shapes: a name, what it has (1: A, 2: B, 4: List), takes, lays -/
def shapesT : List (List UInt8 × Int × Int × Int) := [
  ([], 0, 0, 0),
  ([105, 110, 116], 1, 0, 1),
  ([98, 111, 111, 108], 1, 0, 1),
  ([122, 101, 114, 111], 1, 0, 1),
  ([108, 111, 97, 100], 1, 0, 1),
  ([115, 116, 111, 114, 101], 1, 1, 0),
  ([99, 108, 101, 97, 114], 1, 0, 0),
  ([99, 97, 112], 1, 0, 1),
  ([115, 101, 108, 102], 0, 0, 1),
  ([112, 111, 112], 0, 1, 0),
  ([116, 117, 112, 108, 101], 1, 0, 1),
  ([97, 114, 114, 97, 121], 1, 0, 1),
  ([102, 105, 108, 108], 0, 2, 1),
  ([108, 101, 110], 0, 1, 1),
  ([105, 110, 100, 101, 120], 0, 2, 1),
  ([102, 105, 101, 108, 100], 1, 1, 1),
  ([112, 97, 114, 116], 5, 1, 0),
  ([117, 110, 97, 114, 121], 1, 1, 1),
  ([98, 105, 110], 1, 2, 1),
  ([106, 117, 109, 112], 1, 0, 0),
  ([102, 97, 108, 115, 101], 1, 1, 0),
  ([98, 97, 99, 107], 1, 0, 0),
  ([112, 114, 111, 103], 3, 0, 1),
  ([99, 97, 108, 108], 3, 1, 0),
  ([98, 101, 103, 105, 110], 1, 1, 0),
  ([114, 101, 116], 0, 0, 0),
  ([109, 97, 107, 101], 0, 0, 1),
  ([119, 97, 105, 116], 4, 0, 0)]
def noShape : List UInt8 × Int × Int × Int := ([], 0, 0, 0)
def shapeI (op : Int) : List UInt8 × Int × Int × Int := if op < 0 ∨ 28 ≤ op then noShape else shapesT.getD op.toNat noShape
def nameI (op : Int) : List UInt8 := (shapeI op).1
def hasAI (op : Int) : Bool := (shapeI op).2.1 % 2 == 1
def hasBI (op : Int) : Bool := (shapeI op).2.1 / 2 % 2 == 1
def hasLI (op : Int) : Bool := (shapeI op).2.1 / 4 % 2 == 1
/-- how many numbers stand ahead of List's -/
def firstI (op : Int) : Nat := (if hasAI op then 1 else 0) + (if hasBI op then 1 else 0)
def opFrom : List (List UInt8 × Int × Int × Int) → Nat → List UInt8 → Nat
  | [], _, _ => 0
  | x :: r, n, t => if x.1 == t then n else opFrom r (n + 1) t
def opI (t : List UInt8) : Nat := opFrom shapesT 0 t
theorem opFrom_yes (j n : Nat) (t : List UInt8) (h : j < shapesT.length) (hq : ((shapesT.getD j noShape).1 == t) = true) : opFrom (shapesT.drop j) n t = n := by
  rw [List.drop_eq_getElem_cons h]
  rw [List.getD_eq_getElem?_getD, List.getElem?_eq_getElem h, Option.getD_some] at hq
  simp only [opFrom, hq, if_true]
theorem opFrom_no (j n : Nat) (t : List UInt8) (h : j < shapesT.length) (hq : ((shapesT.getD j noShape).1 == t) = false) : opFrom (shapesT.drop j) n t = opFrom (shapesT.drop (j + 1)) (n + 1) t := by
  rw [List.drop_eq_getElem_cons h]
  rw [List.getD_eq_getElem?_getD, List.getElem?_eq_getElem h, Option.getD_some] at hq
  simp only [opFrom, hq, Bool.false_eq_true, if_false]
theorem opFrom_le : ∀ (T : List (List UInt8 × Int × Int × Int)) (n : Nat) (t : List UInt8), opFrom T n t < n + T.length ∨ opFrom T n t = 0
  | [], n, t => Or.inr rfl
  | x :: r, n, t => by
    have := opFrom_le r (n + 1) t
    simp only [opFrom, List.length_cons]
    split
    · left; omega
    · omega
theorem opI_lt (t : List UInt8) : opI t < 28 := by
  have := opFrom_le shapesT 0 t
  have e : shapesT.length = 28 := rfl
  unfold opI
  omega

/-! text -/
def numsT (l : List Int) : List UInt8 := l.flatMap fun n => 32 :: Lib.itoa n
def typeW : List UInt8 := [116, 121, 112, 101]
def progW : List UInt8 := [112, 114, 111, 103]
def bitI (b : Bool) : Int := if b then 1 else 0
def numsI (i : CIn) : List Int := (if hasAI i.op then [i.a] else []) ++ (if hasBI i.op then [i.b] else []) ++ i.list
def insT (i : CIn) : List UInt8 := nameI i.op ++ numsT (numsI i) ++ [10]
def typeT (t : CTy) : List UInt8 := typeW ++ numsT (t.kind :: bitI t.res :: t.kids) ++ [10]
def headT (p : CPg) : List UInt8 := progW ++ numsT [p.params, p.slots, p.caps, bitI p.res] ++ [10]
def progT (p : CPg) : List UInt8 := headT p ++ p.code.flatMap insT
def unitT (u : CUn) : List UInt8 := u.types.flatMap typeT ++ u.progs.flatMap progT
def fitI (i : CIn) : Bool := (nameI i.op != []) && ((i.a == 0 || hasAI i.op) && ((i.b == 0 || hasBI i.op) && (i.list.length == 0 || hasLI i.op)))
def fitP (p : CPg) : Bool := p.code.all fitI
def fitU (u : CUn) : Bool := u.progs.all fitP

/-! reading -/
def pieces (c : UInt8) : List UInt8 → List UInt8 × List (List UInt8)
  | [] => ([], [])
  | x :: r => if x = c then ([], (pieces c r).1 :: (pieces c r).2) else (x :: (pieces c r).1, (pieces c r).2)
def numOf (t : List UInt8) : Option Int :=
  match Lib.atoiAll t with
  | .ok n => if Lib.itoa n = t then some n else none
  | _ => none
def numsOf : List (List UInt8) → Option (List Int)
  | [] => some []
  | t :: r => match numOf t with
    | none => none
    | some n => (numsOf r).map (n :: ·)
def isBitI (n : Int) : Bool := n == 0 || n == 1
/-- the instruction of a word and numbers -/
def insOf (op : Nat) (l : List Int) : Option CIn :=
  if nameI op = [] ∨ l.length < firstI op ∨ (firstI op < l.length ∧ hasLI op = false) then none
  else some ⟨op, if 0 < firstI op then l.getD 0 0 else 0, if 1 < firstI op then l.getD 1 0 else 0, l.drop (firstI op)⟩
def addIns (u : CUn) (i : CIn) : CUn := { u with progs := u.progs.dropLast ++ (u.progs.getLast?.map fun p => { p with code := p.code ++ [i] }).toList }
def addL (u : CUn) (line : List UInt8) : Option CUn :=
  match numsOf (pieces 32 line).2 with
  | none => none
  | some l =>
    let word := (pieces 32 line).1
    if word = typeW then
      if 0 < u.progs.length ∨ l.length < 2 ∨ isBitI (l.getD 1 0) = false then none
      else some { u with types := u.types ++ [⟨l.getD 0 0, l.drop 2, l.getD 1 0 == 1⟩] }
    else if word = progW ∧ l.length = 4 then
      if isBitI (l.getD 3 0) = false then none
      else some { u with progs := u.progs ++ [⟨l.getD 0 0, l.getD 1 0, l.getD 2 0, l.getD 3 0 == 1, []⟩] }
    else match insOf (opI word) l with
      | none => none
      | some i => if u.progs.length = 0 then none else some (addIns u i)
/-- the lines: the last one has no line feed -/
def readGo : List UInt8 → List (List UInt8) → CUn → Nat → CUn × Nat × Int
  | l, [], u, at_ => if l = [] then (u, 0, 0) else (⟨[], []⟩, at_, 80)
  | l, m :: r, u, at_ => match addL u l with
    | none => (⟨[], []⟩, at_, 80)
    | some u' => readGo m r u' (at_ + 1)
def readU (t : List UInt8) : CUn × Nat × Int := readGo (pieces 10 t).1 (pieces 10 t).2 ⟨[], []⟩ 1

/-! laws -/
theorem pieces_none {c : UInt8} : ∀ {l : List UInt8}, c ∉ l → pieces c l = (l, [])
  | [], _ => rfl
  | x :: r, h => by
    rw [List.mem_cons, not_or] at h
    rw [pieces, if_neg (fun e => h.1 e.symm), pieces_none h.2]
theorem pieces_app {c : UInt8} : ∀ {l r : List UInt8}, c ∉ l → pieces c (l ++ c :: r) = (l, (pieces c r).1 :: (pieces c r).2)
  | [], r, _ => by rw [List.nil_append, pieces, if_pos rfl]
  | x :: l, r, h => by
    rw [List.mem_cons, not_or] at h
    rw [List.cons_append, pieces, if_neg (fun e => h.1 e.symm), pieces_app h.2]
theorem dec_dig (u : Nat) : ∀ c ∈ Lib.decDigits u, 48 ≤ c.toNat ∧ c.toNat ≤ 57 := by
  induction u using Nat.strongRecOn with
  | ind u ih =>
    intro c hc
    by_cases h : u < 10
    · rw [Lib.decDigits, dif_pos h, List.mem_singleton] at hc
      subst hc
      rw [UInt8.toNat_ofNat_of_lt' (by omega : 48 + u < 256)]
      omega
    · rw [Lib.decDigits, dif_neg h, List.mem_append, List.mem_singleton] at hc
      rcases hc with hc | rfl
      · exact ih (u / 10) (by omega) c hc
      · rw [UInt8.toNat_ofNat_of_lt' (by omega : 48 + u % 10 < 256)]
        omega
theorem itoa_dig (n : Int) : ∀ c ∈ Lib.itoa n, c.toNat = 45 ∨ (48 ≤ c.toNat ∧ c.toNat ≤ 57) := by
  intro c hc
  unfold Lib.itoa at hc
  split at hc
  · rcases List.mem_cons.1 hc with rfl | hc
    · left; rfl
    · exact Or.inr (dec_dig _ c hc)
  · exact Or.inr (dec_dig _ c hc)
theorem itoa_no32 (n : Int) : (32 : UInt8) ∉ Lib.itoa n := fun h => by
  have := itoa_dig n _ h
  have e : (32 : UInt8).toNat = 32 := rfl
  omega
theorem itoa_no10 (n : Int) : (10 : UInt8) ∉ Lib.itoa n := fun h => by
  have := itoa_dig n _ h
  have e : (10 : UInt8).toNat = 10 := rfl
  omega
theorem nums_no10 (l : List Int) : (10 : UInt8) ∉ numsT l := fun h => by
  unfold numsT at h
  rw [List.mem_flatMap] at h
  obtain ⟨n, _, h⟩ := h
  rcases List.mem_cons.1 h with h | h
  · exact absurd h (by decide)
  · exact itoa_no10 n h
theorem pieces_nums {w : List UInt8} (hw : (32 : UInt8) ∉ w) : ∀ l : List Int, pieces 32 (w ++ numsT l) = (w, l.map Lib.itoa)
  | [] => by
    show pieces 32 (w ++ []) = _
    rw [List.append_nil, pieces_none hw]
    rfl
  | n :: l => by
    have e : w ++ numsT (n :: l) = w ++ 32 :: (Lib.itoa n ++ numsT l) := by simp [numsT]
    rw [e, pieces_app hw, pieces_nums (itoa_no32 n) l]
    rfl
theorem dec_ne (u : Nat) : Lib.decDigits u ≠ [] := by
  rw [Lib.decDigits]
  split <;> simp
theorem parse_append : ∀ (l r : List UInt8) (acc u : Nat), Lib.parseUint10 acc l = .ok u → Lib.parseUint10 acc (l ++ r) = Lib.parseUint10 u r
  | [], r, acc, u, h => by
    simp only [Lib.parseUint10, Lib.NumEnd.ok.injEq] at h
    rw [h]; rfl
  | c :: l, r, acc, u, h => by
    simp only [Lib.parseUint10, List.cons_append] at h ⊢
    split at h
    · rename_i hc
      rw [if_pos hc]
      split at h
      · cases h
      · rename_i h1
        rw [if_neg h1]
        split at h
        · cases h
        · rename_i h2
          rw [if_neg h2]
          exact parse_append l r _ u h
    · cases h
theorem parse_dec (u : Nat) (hu : u < 18446744073709551616) : Lib.parseUint10 0 (Lib.decDigits u) = .ok u := by
  induction u using Nat.strongRecOn with
  | ind u ih =>
    by_cases h : u < 10
    · rw [Lib.decDigits, dif_pos h]
      have e : (UInt8.ofNat (48 + u)).toNat = 48 + u := UInt8.toNat_ofNat_of_lt' (by omega : 48 + u < 256)
      simp only [Lib.parseUint10, e]
      rw [if_pos (by omega), if_neg (by omega), if_neg (by omega)]
      congr 1
      omega
    · rw [Lib.decDigits, dif_neg h, parse_append _ _ _ _ (ih (u / 10) (by omega) (by omega))]
      have e : (UInt8.ofNat (48 + u % 10)).toNat = 48 + u % 10 := UInt8.toNat_ofNat_of_lt' (by omega : 48 + u % 10 < 256)
      simp only [Lib.parseUint10, e]
      rw [if_pos (by omega), if_neg (by omega), if_neg (by omega)]
      congr 1
      omega
theorem atoi_itoa {n : Int} (h : I64 n) : Lib.atoiAll (Lib.itoa n) = .ok n := by
  obtain ⟨h1, h2⟩ := h
  unfold Lib.itoa
  split
  · rename_i hn
    unfold Lib.atoiAll
    simp only [show (45 : UInt8).toNat = 45 from rfl]
    rw [if_pos (Or.inr trivial)]
    unfold Lib.parseMag
    rw [if_neg (dec_ne _), parse_dec _ (by omega)]
    simp only [not_true_eq_false, false_and, if_false, true_and, if_true]
    rw [if_neg (by omega)]
    congr 1
    omega
  · rename_i hn
    have hd := dec_dig n.toNat
    have hp := parse_dec n.toNat (by omega)
    have hne := dec_ne n.toNat
    generalize Lib.decDigits n.toNat = t at *
    match t, hne with
    | c :: r, _ =>
      have hc := hd c List.mem_cons_self
      unfold Lib.atoiAll
      simp only []
      rw [if_neg (by omega)]
      unfold Lib.parseMag
      rw [if_neg (by simp), hp]
      simp only [show ¬ c.toNat = 45 by omega, not_false_eq_true, true_and, false_and, if_false]
      rw [if_neg (by omega)]
      congr 1
      omega
theorem numOf_itoa {n : Int} (h : I64 n) : numOf (Lib.itoa n) = some n := by
  unfold numOf
  rw [atoi_itoa h]
  simp
theorem numsOf_itoa : ∀ {l : List Int}, (∀ n ∈ l, I64 n) → numsOf (l.map Lib.itoa) = some l
  | [], _ => rfl
  | n :: l, h => by
    rw [List.map_cons, numsOf, numOf_itoa (h n List.mem_cons_self)]
    simp only [numsOf_itoa fun k hk => h k (List.mem_cons_of_mem _ hk)]
    rfl
theorem numOf_some {t : List UInt8} {n : Int} (h : numOf t = some n) : Lib.itoa n = t ∧ I64 n := by
  unfold numOf at h
  split at h
  · rename_i m hm
    split at h
    · rename_i he
      injection h with h
      subst h
      refine ⟨he, ?_⟩
      unfold Lib.atoiAll at hm
      split at hm
      · cases hm
      · simp only [] at hm
        split at hm
        · cases hm
        · cases hm
        · rename_i u hu
          split at hm
          · cases hm
          · split at hm
            · cases hm
            · injection hm with hm
              subst hm
              unfold I64
              split <;> omega
    · cases h
  · cases h
theorem numsOf_some : ∀ {ts : List (List UInt8)} {l : List Int}, numsOf ts = some l → l.map Lib.itoa = ts ∧ ∀ n ∈ l, I64 n
  | [], l, h => by
    simp only [numsOf, Option.some.injEq] at h
    subst h
    exact ⟨rfl, fun n hn => by cases hn⟩
  | t :: ts, l, h => by
    rw [numsOf] at h
    split at h
    · cases h
    · rename_i n hn
      rw [Option.map_eq_some_iff] at h
      obtain ⟨m, hm, rfl⟩ := h
      obtain ⟨h1, h2⟩ := numsOf_some hm
      obtain ⟨h3, h4⟩ := numOf_some hn
      refine ⟨by rw [List.map_cons, h1, h3], fun k hk => ?_⟩
      rcases List.mem_cons.1 hk with rfl | hk
      · exact h4
      · exact h2 k hk
/-- pieces joined are the text -/
theorem pieces_join (c : UInt8) : ∀ l : List UInt8, (pieces c l).1 ++ (pieces c l).2.flatMap (c :: ·) = l
  | [] => rfl
  | x :: r => by
    have ih := pieces_join c r
    rw [pieces]
    split
    · rename_i e
      subst e
      simp only [List.nil_append, List.flatMap_cons, List.cons_append]
      rw [ih]
    · simp only [List.cons_append]
      rw [ih]
end Go.Proofs.YtijdcplffmdijaaDoor
