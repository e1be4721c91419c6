import Derived.Test.YtecpknpcjoiliaaDoorCUP
namespace Go.Proofs.YtecpknpcjoiliaaDoor
set_option linter.unusedVariables false
set_option linter.unusedSimpArgs false

/-! events -/
structure Ev where
  kind : Int
  p : Int
  i : Int
  q : Int
  j : Int
  c : Int
  num : Int
  list : List Int
structure Ev.Wf (e : Ev) : Prop where
  kind : I64 e.kind
  p : I64 e.p
  i : I64 e.i
  q : I64 e.q
  j : I64 e.j
  c : I64 e.c
  num : I64 e.num
  list : ∀ n ∈ e.list, I64 n
def noEv : Ev := ⟨0, 0, 0, 0, 0, 0, 0, []⟩
/-- word, which places, what stands behind them -/
abbrev TSh := List UInt8 × Nat × Nat
def tshT : List TSh := [
  ([98, 111, 114, 110], 5, 0), ([109, 101, 101, 116], 31, 0), ([105, 110], 12, 1), ([111, 117, 116], 3, 1), ([101, 120, 105, 116], 1, 0),
  ([116, 114, 97, 112], 1, 2), ([115, 107, 105, 112], 0, 0), ([105, 100, 108, 101], 0, 0), ([112, 114, 111, 98, 101], 0, 4), ([114, 101, 97, 112], 1, 0), ([115, 112, 101, 110, 116], 1, 3)]
def noTsh : TSh := ([], 0, 0)
def tsh (k : Int) : TSh := tshT.getD (k.toNat - 1) noTsh
def trapW : List (List UInt8) := [[100, 105, 118, 105, 100, 101], [105, 110, 100, 101, 120], [102, 105, 108, 108], [110, 105, 108], [119, 114, 111, 110, 103]]
def spentW : List (List UInt8) := [[112, 114, 111, 99, 115], [108, 105, 118, 101], [99, 104, 97, 110, 115], [116, 105, 99, 107, 115], [99, 101, 108, 108, 115], [100, 101, 112, 116, 104]]
/-- the words for Num -/
def nwords (tail : Nat) : List (List UInt8) := if tail = 2 then trapW else if tail = 3 then spentW else []
/-- where a word stands in a list: from 1 on; 0: nowhere -/
def place (t : List UInt8) : List (List UInt8) → Nat
  | [] => 0
  | x :: r => if x = t then 1 else if place t r = 0 then 0 else place t r + 1
def tkind (t : List UInt8) : Nat := place t (tshT.map (·.1))
def hasB (has k : Nat) : Bool := has.testBit k
def plL (e : Ev) : List Int := [e.p, e.i, e.q, e.j, e.c]
def risF : Int → List Int → Bool
  | _, [] => true
  | last, n :: r => decide (last < n) && risF n r
def plOk (has : Nat) : Nat → List Int → Bool
  | _, [] => true
  | k, n :: r => decide (0 ≤ n) && (decide (n ≤ 0) || hasB has k) && plOk has (k + 1) r
def tlOk (tail : Nat) (num : Int) (list : List Int) : Bool :=
  if tail = 4 then decide (num = 0) && risF (-1) list
  else list.isEmpty && (if tail = 1 then true else if tail = 2 ∨ tail = 3 then decide (1 ≤ num) && decide (num ≤ (nwords tail).length) else decide (num = 0))
def evOk (e : Ev) : Bool := decide (1 ≤ e.kind) && decide (e.kind ≤ 11) && plOk (tsh e.kind).2.1 0 (plL e) && tlOk (tsh e.kind).2.2 e.num e.list

/-! writing -/
def plW (has : Nat) : Nat → List Int → List (List UInt8)
  | _, [] => []
  | k, n :: r => if hasB has k then Lib.itoa n :: plW has (k + 1) r else plW has (k + 1) r
def tlW (tail : Nat) (num : Int) (list : List Int) : List (List UInt8) :=
  if tail = 1 then [Lib.itoa num] else if tail = 2 ∨ tail = 3 then [(nwords tail).getD (num.toNat - 1) []] else if tail = 4 then list.map Lib.itoa else []
/-- the words behind the first -/
def moreW (e : Ev) : List (List UInt8) := plW (tsh e.kind).2.1 0 (plL e) ++ tlW (tsh e.kind).2.2 e.num e.list
def joinW (w : List UInt8) (r : List (List UInt8)) : List UInt8 := w ++ r.flatMap (32 :: ·)
def evL (e : Ev) : List UInt8 := joinW (tsh e.kind).1 (moreW e)
def evT (e : Ev) : List UInt8 := evL e ++ [10]
def evsT (l : List Ev) : List UInt8 := l.flatMap evT
def printE (l : List Ev) : List UInt8 × Int := if l.all evOk then (evsT l, 0) else ([], 180)

/-! reading -/
def takeN : List (List UInt8) → Option (Int × List (List UInt8))
  | [] => none
  | w :: r => (numOf w).map fun x => (x, r)
def rdPl (has : Nat) : Nat → Nat → List (List UInt8) → Option (List Int × List (List UInt8))
  | _, 0, ws => some ([], ws)
  | k, n + 1, ws => if hasB has k then (takeN ws).bind fun x => (rdPl has (k + 1) n x.2).map fun y => (x.1 :: y.1, y.2)
    else (rdPl has (k + 1) n ws).map fun y => (0 :: y.1, y.2)
def rdTl (tail : Nat) (ws : List (List UInt8)) : Option (Int × List Int × List (List UInt8)) :=
  if tail = 1 then match ws with
    | [] => none
    | w :: r => (numOf w).map fun x => (x, [], r)
  else if tail = 2 ∨ tail = 3 then match ws with
    | [] => none
    | w :: r => some ((place w (nwords tail) : Int), [], r)
  else if tail = 4 then (numsOf ws).map fun l => (0, l, [])
  else some (0, [], ws)
/-- the event of the words of a line -/
def evW (w : List UInt8) (ws : List (List UInt8)) : Option Ev :=
  if tkind w = 0 then none
  else match rdPl (tsh (tkind w)).2.1 0 5 ws with
    | none => none
    | some (l, r) => match rdTl (tsh (tkind w)).2.2 r with
      | none => none
      | some (num, list, r2) =>
        let e : Ev := ⟨tkind w, l.getD 0 0, l.getD 1 0, l.getD 2 0, l.getD 3 0, l.getD 4 0, num, list⟩
        if r2 = [] ∧ evOk e = true then some e else none
def evOf (t : List UInt8) : Option Ev := evW (pieces 32 t).1 (pieces 32 t).2
def rdEv : List UInt8 → List (List UInt8) → List Ev → Got (List Ev) Nat
  | l, [], es => if l = [] then .yes es else .no (es.length + 1)
  | l, m :: r, es => match evOf l with
    | none => .no (es.length + 1)
    | some e => rdEv m r (es ++ [e])
def readE (t : List UInt8) : Got (List Ev) Nat := rdEv (pieces 10 t).1 (pieces 10 t).2 []

/-! laws -/
theorem ev_parts {e : Ev} (h : evOk e = true) : (1 ≤ e.kind ∧ e.kind ≤ 11) ∧ plOk (tsh e.kind).2.1 0 (plL e) = true ∧ tlOk (tsh e.kind).2.2 e.num e.list = true := by
  unfold evOk at h
  simp only [Bool.and_eq_true, decide_eq_true_eq] at h
  exact ⟨⟨h.1.1.1, h.1.1.2⟩, h.1.2, h.2⟩
theorem kind11 {k : Int} (h : 1 ≤ k ∧ k ≤ 11) : k = 1 ∨ k = 2 ∨ k = 3 ∨ k = 4 ∨ k = 5 ∨ k = 6 ∨ k = 7 ∨ k = 8 ∨ k = 9 ∨ k = 10 ∨ k = 11 := by omega
theorem place_le (t : List UInt8) : ∀ l, place t l ≤ l.length
  | [] => Nat.le_refl _
  | x :: r => by
    have := place_le t r
    rw [place, List.length_cons]
    split
    · omega
    · split <;> omega
theorem place_at {t : List UInt8} : ∀ {l : List (List UInt8)}, place t l ≠ 0 → l.getD (place t l - 1) [] = t
  | [], h => absurd rfl h
  | x :: r, h => by
    rw [place] at h ⊢
    split
    · rename_i e; simp [e]
    · rename_i e
      rw [if_neg e] at h
      split
      · rename_i e2; rw [if_pos e2] at h; exact absurd rfl h
      · rename_i e2
        have := place_at (t := t) (l := r) e2
        obtain ⟨m, hm⟩ : ∃ m, place t r = m + 1 := ⟨place t r - 1, by omega⟩
        rw [hm] at this ⊢
        simpa using this
theorem tkind_le (t : List UInt8) : tkind t ≤ 11 := place_le t _
theorem tkind_word {t : List UInt8} (h : tkind t ≠ 0) : (tsh (tkind t)).1 = t := by
  have hle := tkind_le t
  have := place_at (t := t) (l := tshT.map (fun x : TSh => x.1)) (by unfold tkind at h; exact h)
  change (tshT.map (·.1)).getD (tkind t - 1) [] = t at this
  have e : (tsh (tkind t)).1 = (tshT.map (·.1)).getD (tkind t - 1) [] := by
    unfold tsh
    generalize tkind t = k at *
    have hk : k = 1 ∨ k = 2 ∨ k = 3 ∨ k = 4 ∨ k = 5 ∨ k = 6 ∨ k = 7 ∨ k = 8 ∨ k = 9 ∨ k = 10 ∨ k = 11 := by omega
    rcases hk with rfl | rfl | rfl | rfl | rfl | rfl | rfl | rfl | rfl | rfl | rfl <;> rfl
  rw [e, this]
theorem word_tkind {k : Int} (h : 1 ≤ k ∧ k ≤ 11) : ((tkind (tsh k).1 : Nat) : Int) = k := by
  rcases kind11 h with rfl | rfl | rfl | rfl | rfl | rfl | rfl | rfl | rfl | rfl | rfl <;> decide
theorem tword_no {k : Int} (h : 1 ≤ k ∧ k ≤ 11) : (32 : UInt8) ∉ (tsh k).1 ∧ (10 : UInt8) ∉ (tsh k).1 := by
  rcases kind11 h with rfl | rfl | rfl | rfl | rfl | rfl | rfl | rfl | rfl | rfl | rfl <;> decide
theorem ris_pos : ∀ {l : List Int} {last : Int}, risF last l = true → ∀ n ∈ l, last < n
  | [], _, _, n, hn => by cases hn
  | x :: r, last, h, n, hn => by
    rw [risF] at h
    simp only [Bool.and_eq_true, decide_eq_true_eq] at h
    rcases List.mem_cons.1 hn with rfl | hn
    · exact h.1
    · have := ris_pos h.2 n hn; omega
theorem pl_no (has : Nat) : ∀ (l : List Int) (k : Nat), ∀ w ∈ plW has k l, (32 : UInt8) ∉ w ∧ (10 : UInt8) ∉ w
  | [], _, w, hw => by cases hw
  | n :: r, k, w, hw => by
    rw [plW] at hw
    split at hw
    · rcases List.mem_cons.1 hw with rfl | hw
      · exact ⟨itoa_no32 n, itoa_no10 n⟩
      · exact pl_no has r (k + 1) w hw
    · exact pl_no has r (k + 1) w hw
theorem nw_no (tail k : Nat) : (32 : UInt8) ∉ (nwords tail).getD k [] ∧ (10 : UInt8) ∉ (nwords tail).getD k [] := by
  unfold nwords
  split
  · match k with
    | 0 => decide
    | 1 => decide
    | 2 => decide
    | 3 => decide
    | 4 => decide
    | n + 5 => simp [trapW]
  · split
    · match k with
      | 0 => decide
      | 1 => decide
      | 2 => decide
      | 3 => decide
      | 4 => decide
      | 5 => decide
      | n + 6 => simp [spentW]
    · simp
theorem tl_no (tail : Nat) (num : Int) (list : List Int) : ∀ w ∈ tlW tail num list, (32 : UInt8) ∉ w ∧ (10 : UInt8) ∉ w := by
  intro w hw
  unfold tlW at hw
  split at hw
  · rw [List.mem_singleton] at hw; subst hw; exact ⟨itoa_no32 _, itoa_no10 _⟩
  · split at hw
    · rw [List.mem_singleton] at hw; subst hw; exact nw_no _ _
    · split at hw
      · rw [List.mem_map] at hw
        obtain ⟨n, _, rfl⟩ := hw
        exact ⟨itoa_no32 _, itoa_no10 _⟩
      · cases hw
theorem more_no (e : Ev) : ∀ w ∈ moreW e, (32 : UInt8) ∉ w ∧ (10 : UInt8) ∉ w := by
  intro w hw
  unfold moreW at hw
  rcases List.mem_append.1 hw with hw | hw
  · exact pl_no _ _ _ w hw
  · exact tl_no _ _ _ w hw
theorem pieces_joinW : ∀ {ws : List (List UInt8)} {w : List UInt8}, (32 : UInt8) ∉ w → (∀ x ∈ ws, (32 : UInt8) ∉ x) → pieces 32 (joinW w ws) = (w, ws)
  | [], w, h, _ => by
    unfold joinW
    rw [List.flatMap_nil, List.append_nil, pieces_none h]
  | x :: r, w, h, hs => by
    have e : joinW w (x :: r) = w ++ 32 :: joinW x r := by simp [joinW]
    rw [e, pieces_app h, pieces_joinW (hs x List.mem_cons_self) fun y hy => hs y (List.mem_cons_of_mem _ hy)]
theorem line_no10 {e : Ev} (h : 1 ≤ e.kind ∧ e.kind ≤ 11) : (10 : UInt8) ∉ evL e := by
  unfold evL joinW
  rw [List.mem_append, not_or, List.mem_flatMap]
  refine ⟨(tword_no h).2, ?_⟩
  rintro ⟨w, hw, hx⟩
  rcases List.mem_cons.1 hx with hx | hx
  · exact absurd hx (by decide)
  · exact (more_no e w hw).2 hx
theorem rdPl_of (has : Nat) : ∀ (l : List Int) (k : Nat) (ws : List (List UInt8)), plOk has k l = true → (∀ n ∈ l, I64 n) → rdPl has k l.length (plW has k l ++ ws) = some (l, ws)
  | [], k, ws, _, _ => rfl
  | n :: r, k, ws, h, hw => by
    rw [plOk] at h
    simp only [Bool.and_eq_true, Bool.or_eq_true, decide_eq_true_eq] at h
    have ih := rdPl_of has r (k + 1) ws h.2 fun x hx => hw x (List.mem_cons_of_mem _ hx)
    rw [List.length_cons, rdPl, plW]
    by_cases hb : hasB has k = true
    · rw [if_pos hb, if_pos hb]
      simp only [List.cons_append, takeN, numOf_itoa (hw n List.mem_cons_self), Option.map_some, Option.bind_some, ih]
    · rw [if_neg hb, if_neg hb, ih]
      have : n = 0 := by
        have h1 := h.1.1
        rcases h.1.2 with h2 | h2
        · omega
        · exact absurd h2 hb
      subst this
      rfl
theorem place_getD {tail : Nat} {num : Int} (ht : tail = 2 ∨ tail = 3) (h1 : 1 ≤ num) (h2 : num ≤ (nwords tail).length) : ((place ((nwords tail).getD (num.toNat - 1) []) (nwords tail) : Nat) : Int) = num := by
  rcases ht with rfl | rfl
  · have e : (nwords 2).length = 5 := rfl
    rw [e] at h2
    have : num = 1 ∨ num = 2 ∨ num = 3 ∨ num = 4 ∨ num = 5 := by omega
    rcases this with rfl | rfl | rfl | rfl | rfl <;> decide
  · have e : (nwords 3).length = 6 := rfl
    rw [e] at h2
    have : num = 1 ∨ num = 2 ∨ num = 3 ∨ num = 4 ∨ num = 5 ∨ num = 6 := by omega
    rcases this with rfl | rfl | rfl | rfl | rfl | rfl <;> decide
theorem rdTl_of {tail : Nat} {num : Int} {list : List Int} (h : tlOk tail num list = true) (hn : I64 num) (hl : ∀ n ∈ list, I64 n) : rdTl tail (tlW tail num list) = some (num, list, []) := by
  unfold tlOk at h
  unfold rdTl tlW
  by_cases h4 : tail = 4
  · subst h4
    simp only [if_true, Bool.and_eq_true, decide_eq_true_eq] at h
    simp only [show ¬ (4 = 1) by decide, show ¬ (4 = 2 ∨ 4 = 3) by decide, if_false, if_true, numsOf_itoa hl, Option.map_some, h.1]
  · rw [if_neg h4] at h
    simp only [Bool.and_eq_true, List.isEmpty_iff] at h
    obtain ⟨rfl, h⟩ := h
    by_cases h1 : tail = 1
    · subst h1
      simp only [if_true, numOf_itoa hn, Option.map_some]
    · rw [if_neg h1] at h
      rw [if_neg h1, if_neg h1]
      by_cases h2 : tail = 2 ∨ tail = 3
      · rw [if_pos h2] at h ⊢
        rw [if_pos h2]
        simp only [Bool.and_eq_true, decide_eq_true_eq] at h
        simp only [place_getD h2 h.1 h.2]
      · rw [if_neg h2] at h ⊢
        rw [if_neg h2, if_neg h4, if_neg h4]
        simp only [decide_eq_true_eq] at h
        rw [h]
theorem plL_wf {e : Ev} (h : e.Wf) : ∀ n ∈ plL e, I64 n := by
  intro n hn
  simp only [plL, List.mem_cons, List.not_mem_nil, or_false] at hn
  rcases hn with rfl | rfl | rfl | rfl | rfl
  · exact h.p
  · exact h.i
  · exact h.q
  · exact h.j
  · exact h.c
/-- a line of an event is read as it -/
theorem evOf_line {e : Ev} (h : evOk e = true) (hw : e.Wf) : evOf (evL e) = some e := by
  obtain ⟨hk, hp, ht⟩ := ev_parts h
  have hkk := word_tkind hk
  unfold evOf evL
  rw [pieces_joinW (tword_no hk).1 fun x hx => (more_no e x hx).1]
  unfold evW
  have h0 : ¬ tkind (tsh e.kind).1 = 0 := by omega
  simp only []
  rw [if_neg h0, hkk]
  have h5 := rdPl_of (tsh e.kind).2.1 (plL e) 0 (tlW (tsh e.kind).2.2 e.num e.list) hp (plL_wf hw)
  have e5 : (plL e).length = 5 := rfl
  rw [e5] at h5
  unfold moreW
  rw [h5]
  simp only [rdTl_of ht hw.num hw.list]
  have he : (⟨e.kind, (plL e).getD 0 0, (plL e).getD 1 0, (plL e).getD 2 0, (plL e).getD 3 0, (plL e).getD 4 0, e.num, e.list⟩ : Ev) = e := rfl
  rw [he, if_pos ⟨trivial, h⟩]
theorem rdPl_some (has : Nat) : ∀ (n k : Nat) (ws : List (List UInt8)) (l : List Int) (r : List (List UInt8)), rdPl has k n ws = some (l, r) → l.length = n ∧ ws = plW has k l ++ r ∧ ∀ x ∈ l, I64 x
  | 0, k, ws, l, r, h => by
    simp only [rdPl, Option.some.injEq, Prod.mk.injEq] at h
    obtain ⟨rfl, rfl⟩ := h
    exact ⟨rfl, rfl, fun x hx => by cases hx⟩
  | n + 1, k, ws, l, r, h => by
    rw [rdPl] at h
    by_cases hb : hasB has k = true
    · rw [if_pos hb] at h
      match ws, h with
      | [], h => cases h
      | w :: ws, h =>
        cases hx : numOf w with
        | none => rw [takeN, hx] at h; cases h
        | some x =>
          rw [takeN, hx, Option.map_some, Option.bind_some, Option.map_eq_some_iff] at h
          obtain ⟨⟨l2, r2⟩, h2, h3⟩ := h
          simp only [Prod.mk.injEq] at h3
          obtain ⟨rfl, rfl⟩ := h3
          obtain ⟨a, b, c⟩ := rdPl_some has n (k + 1) ws l2 r2 h2
          obtain ⟨d, e⟩ := numOf_some hx
          refine ⟨by rw [List.length_cons, a], ?_, fun y hy => ?_⟩
          · rw [plW, if_pos hb, List.cons_append, ← b, d]
          · rcases List.mem_cons.1 hy with rfl | hy
            · exact e
            · exact c y hy
    · rw [if_neg hb] at h
      rw [Option.map_eq_some_iff] at h
      obtain ⟨⟨l2, r2⟩, h2, h3⟩ := h
      simp only [Prod.mk.injEq] at h3
      obtain ⟨rfl, rfl⟩ := h3
      obtain ⟨a, b, c⟩ := rdPl_some has n (k + 1) ws l2 r2 h2
      refine ⟨by rw [List.length_cons, a], ?_, fun y hy => ?_⟩
      · rw [plW, if_neg hb]; exact b
      · rcases List.mem_cons.1 hy with rfl | hy
        · unfold I64; omega
        · exact c y hy
theorem rdTl_some {tail : Nat} {ws r : List (List UInt8)} {num : Int} {list : List Int} (h : rdTl tail ws = some (num, list, r)) (ho : tlOk tail num list = true) : ws = tlW tail num list ++ r ∧ I64 num ∧ ∀ n ∈ list, I64 n := by
  have z : I64 0 := by unfold I64; omega
  unfold rdTl at h
  unfold tlW
  by_cases h1 : tail = 1
  · rw [if_pos h1] at h ⊢
    match ws, h with
    | [], h => cases h
    | w :: ws, h =>
      simp only [Option.map_eq_some_iff, Prod.mk.injEq] at h
      obtain ⟨x, hx, rfl, rfl, rfl⟩ := h
      obtain ⟨d, e⟩ := numOf_some hx
      exact ⟨by rw [d]; rfl, e, fun n hn => by cases hn⟩
  · rw [if_neg h1] at h ⊢
    by_cases h2 : tail = 2 ∨ tail = 3
    · rw [if_pos h2] at h ⊢
      match ws, h with
      | [], h => cases h
      | w :: ws, h =>
        simp only [Option.some.injEq, Prod.mk.injEq] at h
        obtain ⟨rfl, rfl, rfl⟩ := h
        unfold tlOk at ho
        rw [if_neg (by omega), if_neg h1, if_pos h2] at ho
        simp only [Bool.and_eq_true, decide_eq_true_eq] at ho
        have hp := ho.2.1
        have hq := ho.2.2
        have hnw : (nwords tail).length ≤ 6 := by rcases h2 with rfl | rfl <;> decide
        refine ⟨?_, ⟨by omega, by omega⟩, fun n hn => by cases hn⟩
        have := place_at (t := w) (l := nwords tail) (by omega)
        rw [Int.toNat_natCast, this]
        rfl
    · rw [if_neg h2] at h ⊢
      by_cases h4 : tail = 4
      · rw [if_pos h4] at h ⊢
        simp only [Option.map_eq_some_iff, Prod.mk.injEq] at h
        obtain ⟨l, hl, rfl, rfl, rfl⟩ := h
        obtain ⟨a, b⟩ := numsOf_some hl
        exact ⟨by rw [a, List.append_nil], z, b⟩
      · rw [if_neg h4] at h ⊢
        simp only [Option.some.injEq, Prod.mk.injEq] at h
        obtain ⟨rfl, rfl, rfl⟩ := h
        exact ⟨rfl, z, fun n hn => by cases hn⟩
/-- what is read of a line is written as it -/
theorem evOf_some {t : List UInt8} {e : Ev} (h : evOf t = some e) : evL e = t ∧ evOk e = true ∧ e.Wf := by
  unfold evOf evW at h
  split at h
  · cases h
  · rename_i h0
    split at h
    · cases h
    · rename_i l r hl
      split at h
      · cases h
      · rename_i num list r2 hr
        simp only [] at h
        split at h
        · rename_i hc
          injection h with h
          obtain ⟨rfl, ho⟩ := hc
          obtain ⟨a, b, c⟩ := rdPl_some _ _ _ _ _ _ hl
          match l, a with
          | [x1, x2, x3, x4, x5], _ =>
          simp only [List.getD_cons_zero, List.getD_cons_succ] at h ho
          have hk11 := tkind_le (pieces 32 t).1
          have hwd := tkind_word h0
          rw [← h]
          obtain ⟨hk, hp, ht⟩ := ev_parts ho
          obtain ⟨s1, s2, s3⟩ := rdTl_some hr ht
          refine ⟨?_, ho, ⟨⟨by simp only []; omega, by simp only []; omega⟩, c x1 (by simp), c x2 (by simp), c x3 (by simp), c x4 (by simp), c x5 (by simp), s2, s3⟩⟩
          unfold evL moreW
          simp only [plL]
          rw [hwd]
          rw [List.append_nil] at s1
          rw [s1] at b
          rw [← b]
          exact pieces_join 32 t
        · cases h
theorem evs_app (e : Ev) (l : List Ev) : evsT (e :: l) = evL e ++ 10 :: evsT l := by simp [evsT, evT]
theorem rdEv_text : ∀ (qs es : List Ev), (∀ e ∈ qs, evOk e = true) → (∀ e ∈ qs, e.Wf) → rdEv (pieces 10 (evsT qs)).1 (pieces 10 (evsT qs)).2 es = .yes (es ++ qs)
  | [], es, _, _ => by
    show rdEv [] [] es = _
    rw [rdEv, if_pos rfl, List.append_nil]
  | q :: qs, es, hf, hw => by
    have hq := hf q List.mem_cons_self
    rw [evs_app, pieces_app (line_no10 (ev_parts hq).1), rdEv, evOf_line hq (hw q List.mem_cons_self)]
    simp only []
    rw [rdEv_text qs (es ++ [q]) (fun p hp => hf p (List.mem_cons_of_mem _ hp)) (fun p hp => hw p (List.mem_cons_of_mem _ hp))]
    simp
/-- WHAT IS WRITTEN IS READ AS THE EVENTS -/
theorem readE_text {l : List Ev} (h : ∀ e ∈ l, evOk e = true) (hw : ∀ e ∈ l, e.Wf) : readE (evsT l) = .yes l := by
  unfold readE
  rw [rdEv_text l [] h hw]
  rfl
theorem rdEv_yes : ∀ (ls : List (List UInt8)) (l : List UInt8) (es out : List Ev), rdEv l ls es = .yes out → ∃ qs, out = es ++ qs ∧ l ++ ls.flatMap (10 :: ·) = evsT qs ∧ (∀ e ∈ qs, evOk e = true) ∧ (∀ e ∈ qs, e.Wf)
  | [], l, es, out, h => by
    rw [rdEv] at h
    split at h
    · rename_i e
      injection h with h
      subst h; subst e
      exact ⟨[], by simp, rfl, (fun p hp => by cases hp), (fun p hp => by cases hp)⟩
    · cases h
  | m :: r, l, es, out, h => by
    rw [rdEv] at h
    split at h
    · cases h
    · rename_i e he
      obtain ⟨a, b, c⟩ := evOf_some he
      obtain ⟨qs, h1, h2, h3, h4⟩ := rdEv_yes r m (es ++ [e]) out h
      refine ⟨e :: qs, by rw [h1]; simp, ?_, ?_, ?_⟩
      · rw [List.flatMap_cons, evs_app, ← h2, a]
        simp
      · intro q hq
        rcases List.mem_cons.1 hq with rfl | hq
        · exact b
        · exact h3 q hq
      · intro q hq
        rcases List.mem_cons.1 hq with rfl | hq
        · exact c
        · exact h4 q hq
/-- WHAT IS READ IS WRITTEN AS THE TEXT -/
theorem readE_yes {t : List UInt8} {l : List Ev} (h : readE t = .yes l) : evsT l = t ∧ (∀ e ∈ l, evOk e = true) ∧ ∀ e ∈ l, e.Wf := by
  obtain ⟨qs, h1, h2, h3, h4⟩ := rdEv_yes _ _ _ _ h
  rw [List.nil_append] at h1
  subst h1
  rw [pieces_join] at h2
  exact ⟨h2.symm, h3, h4⟩
theorem rdEv_no : ∀ (ls : List (List UInt8)) (l : List UInt8) (es : List Ev) (n : Nat), rdEv l ls es = .no n → es.length < n ∧ n ≤ es.length + ls.length + 1
  | [], l, es, n, h => by
    rw [rdEv] at h
    split at h
    · cases h
    · injection h with h
      subst h
      exact ⟨by omega, by simp⟩
  | m :: r, l, es, n, h => by
    rw [rdEv] at h
    split at h
    · injection h with h
      subst h
      exact ⟨by omega, by simp⟩
    · have := rdEv_no r m _ n h
      rw [List.length_append, List.length_cons, List.length_nil] at this
      rw [List.length_cons]
      omega
theorem readE_no {t : List UInt8} {n : Nat} (h : readE t = .no n) : 0 < n := by
  have := rdEv_no _ _ _ _ h
  simp only [List.length_nil] at this
  omega
theorem all_ok {l : List Ev} (h : l.all evOk = true) : ∀ e ∈ l, evOk e = true := fun e he => (List.all_eq_true.1 h) e he
theorem evs_two (a b : List Ev) : evsT (a ++ b) = evsT a ++ evsT b := by simp [evsT]
end Go.Proofs.YtecpknpcjoiliaaDoor
