import Derived.Lib.AtoiAll
import Derived.Lib.ItoaNum
namespace Go.Proofs.YtecpknpcjoiliabDoor
set_option linter.unusedVariables false
set_option linter.unusedSimpArgs false

def I64 (x : Int) : Prop := -9223372036854775808 ≤ x ∧ x ≤ 9223372036854775807
def numsT (l : List Int) : List UInt8 := l.flatMap fun n => 32 :: Lib.itoa n
def pieces (c : UInt8) : List UInt8 → List UInt8 × List (List UInt8)
  | [] => ([], [])
  | x :: r => if x = c then ([], (pieces c r).1 :: (pieces c r).2) else (x :: (pieces c r).1, (pieces c r).2)
def numOf (t : List UInt8) : Option Int :=
  match Lib.atoiAll t with
  | .ok n => if Lib.itoa n = t then some n else none
  | _ => none
def numsOf : List (List UInt8) → Option (List Int)
  | [] => some []
  | t :: r => match numOf t with
    | none => none
    | some n => (numsOf r).map (n :: ·)

/-! laws -/
theorem pieces_none {c : UInt8} : ∀ {l : List UInt8}, c ∉ l → pieces c l = (l, [])
  | [], _ => rfl
  | x :: r, h => by
    rw [List.mem_cons, not_or] at h
    rw [pieces, if_neg (fun e => h.1 e.symm), pieces_none h.2]
theorem pieces_app {c : UInt8} : ∀ {l r : List UInt8}, c ∉ l → pieces c (l ++ c :: r) = (l, (pieces c r).1 :: (pieces c r).2)
  | [], r, _ => by rw [List.nil_append, pieces, if_pos rfl]
  | x :: l, r, h => by
    rw [List.mem_cons, not_or] at h
    rw [List.cons_append, pieces, if_neg (fun e => h.1 e.symm), pieces_app h.2]
theorem dec_dig (u : Nat) : ∀ c ∈ Lib.decDigits u, 48 ≤ c.toNat ∧ c.toNat ≤ 57 := by
  induction u using Nat.strongRecOn with
  | ind u ih =>
    intro c hc
    by_cases h : u < 10
    · rw [Lib.decDigits, dif_pos h, List.mem_singleton] at hc
      subst hc
      rw [UInt8.toNat_ofNat_of_lt' (by omega : 48 + u < 256)]
      omega
    · rw [Lib.decDigits, dif_neg h, List.mem_append, List.mem_singleton] at hc
      rcases hc with hc | rfl
      · exact ih (u / 10) (by omega) c hc
      · rw [UInt8.toNat_ofNat_of_lt' (by omega : 48 + u % 10 < 256)]
        omega
theorem itoa_dig (n : Int) : ∀ c ∈ Lib.itoa n, c.toNat = 45 ∨ (48 ≤ c.toNat ∧ c.toNat ≤ 57) := by
  intro c hc
  unfold Lib.itoa at hc
  split at hc
  · rcases List.mem_cons.1 hc with rfl | hc
    · left; rfl
    · exact Or.inr (dec_dig _ c hc)
  · exact Or.inr (dec_dig _ c hc)
theorem itoa_no32 (n : Int) : (32 : UInt8) ∉ Lib.itoa n := fun h => by
  have := itoa_dig n _ h
  have e : (32 : UInt8).toNat = 32 := rfl
  omega
theorem itoa_no10 (n : Int) : (10 : UInt8) ∉ Lib.itoa n := fun h => by
  have := itoa_dig n _ h
  have e : (10 : UInt8).toNat = 10 := rfl
  omega
theorem nums_no10 (l : List Int) : (10 : UInt8) ∉ numsT l := fun h => by
  unfold numsT at h
  rw [List.mem_flatMap] at h
  obtain ⟨n, _, h⟩ := h
  rcases List.mem_cons.1 h with h | h
  · exact absurd h (by decide)
  · exact itoa_no10 n h
theorem pieces_nums {w : List UInt8} (hw : (32 : UInt8) ∉ w) : ∀ l : List Int, pieces 32 (w ++ numsT l) = (w, l.map Lib.itoa)
  | [] => by
    show pieces 32 (w ++ []) = _
    rw [List.append_nil, pieces_none hw]
    rfl
  | n :: l => by
    have e : w ++ numsT (n :: l) = w ++ 32 :: (Lib.itoa n ++ numsT l) := by simp [numsT]
    rw [e, pieces_app hw, pieces_nums (itoa_no32 n) l]
    rfl
theorem dec_ne (u : Nat) : Lib.decDigits u ≠ [] := by
  rw [Lib.decDigits]
  split <;> simp
theorem parse_append : ∀ (l r : List UInt8) (acc u : Nat), Lib.parseUint10 acc l = .ok u → Lib.parseUint10 acc (l ++ r) = Lib.parseUint10 u r
  | [], r, acc, u, h => by
    simp only [Lib.parseUint10, Lib.NumEnd.ok.injEq] at h
    rw [h]; rfl
  | c :: l, r, acc, u, h => by
    simp only [Lib.parseUint10, List.cons_append] at h ⊢
    split at h
    · rename_i hc
      rw [if_pos hc]
      split at h
      · cases h
      · rename_i h1
        rw [if_neg h1]
        split at h
        · cases h
        · rename_i h2
          rw [if_neg h2]
          exact parse_append l r _ u h
    · cases h
theorem parse_dec (u : Nat) (hu : u < 18446744073709551616) : Lib.parseUint10 0 (Lib.decDigits u) = .ok u := by
  induction u using Nat.strongRecOn with
  | ind u ih =>
    by_cases h : u < 10
    · rw [Lib.decDigits, dif_pos h]
      have e : (UInt8.ofNat (48 + u)).toNat = 48 + u := UInt8.toNat_ofNat_of_lt' (by omega : 48 + u < 256)
      simp only [Lib.parseUint10, e]
      rw [if_pos (by omega), if_neg (by omega), if_neg (by omega)]
      congr 1
      omega
    · rw [Lib.decDigits, dif_neg h, parse_append _ _ _ _ (ih (u / 10) (by omega) (by omega))]
      have e : (UInt8.ofNat (48 + u % 10)).toNat = 48 + u % 10 := UInt8.toNat_ofNat_of_lt' (by omega : 48 + u % 10 < 256)
      simp only [Lib.parseUint10, e]
      rw [if_pos (by omega), if_neg (by omega), if_neg (by omega)]
      congr 1
      omega
theorem atoi_itoa {n : Int} (h : I64 n) : Lib.atoiAll (Lib.itoa n) = .ok n := by
  obtain ⟨h1, h2⟩ := h
  unfold Lib.itoa
  split
  · rename_i hn
    unfold Lib.atoiAll
    simp only [show (45 : UInt8).toNat = 45 from rfl]
    rw [if_pos (Or.inr trivial)]
    unfold Lib.parseMag
    rw [if_neg (dec_ne _), parse_dec _ (by omega)]
    simp only [not_true_eq_false, false_and, if_false, true_and, if_true]
    rw [if_neg (by omega)]
    congr 1
    omega
  · rename_i hn
    have hd := dec_dig n.toNat
    have hp := parse_dec n.toNat (by omega)
    have hne := dec_ne n.toNat
    generalize Lib.decDigits n.toNat = t at *
    match t, hne with
    | c :: r, _ =>
      have hc := hd c List.mem_cons_self
      unfold Lib.atoiAll
      simp only []
      rw [if_neg (by omega)]
      unfold Lib.parseMag
      rw [if_neg (by simp), hp]
      simp only [show ¬ c.toNat = 45 by omega, not_false_eq_true, true_and, false_and, if_false]
      rw [if_neg (by omega)]
      congr 1
      omega
theorem numOf_itoa {n : Int} (h : I64 n) : numOf (Lib.itoa n) = some n := by
  unfold numOf
  rw [atoi_itoa h]
  simp
theorem numsOf_itoa : ∀ {l : List Int}, (∀ n ∈ l, I64 n) → numsOf (l.map Lib.itoa) = some l
  | [], _ => rfl
  | n :: l, h => by
    rw [List.map_cons, numsOf, numOf_itoa (h n List.mem_cons_self)]
    simp only [numsOf_itoa fun k hk => h k (List.mem_cons_of_mem _ hk)]
    rfl
theorem numOf_some {t : List UInt8} {n : Int} (h : numOf t = some n) : Lib.itoa n = t ∧ I64 n := by
  unfold numOf at h
  split at h
  · rename_i m hm
    split at h
    · rename_i he
      injection h with h
      subst h
      refine ⟨he, ?_⟩
      unfold Lib.atoiAll at hm
      split at hm
      · cases hm
      · simp only [] at hm
        split at hm
        · cases hm
        · cases hm
        · rename_i u hu
          split at hm
          · cases hm
          · split at hm
            · cases hm
            · injection hm with hm
              subst hm
              unfold I64
              split <;> omega
    · cases h
  · cases h
theorem numsOf_some : ∀ {ts : List (List UInt8)} {l : List Int}, numsOf ts = some l → l.map Lib.itoa = ts ∧ ∀ n ∈ l, I64 n
  | [], l, h => by
    simp only [numsOf, Option.some.injEq] at h
    subst h
    exact ⟨rfl, fun n hn => by cases hn⟩
  | t :: ts, l, h => by
    rw [numsOf] at h
    split at h
    · cases h
    · rename_i n hn
      rw [Option.map_eq_some_iff] at h
      obtain ⟨m, hm, rfl⟩ := h
      obtain ⟨h1, h2⟩ := numsOf_some hm
      obtain ⟨h3, h4⟩ := numOf_some hn
      refine ⟨by rw [List.map_cons, h1, h3], fun k hk => ?_⟩
      rcases List.mem_cons.1 hk with rfl | hk
      · exact h4
      · exact h2 k hk
/-- pieces joined are the text -/
theorem pieces_join (c : UInt8) : ∀ l : List UInt8, (pieces c l).1 ++ (pieces c l).2.flatMap (c :: ·) = l
  | [] => rfl
  | x :: r => by
    have ih := pieces_join c r
    rw [pieces]
    split
    · rename_i e
      subst e
      simp only [List.nil_append, List.flatMap_cons, List.cons_append]
      rw [ih]
    · simp only [List.cons_append]
      rw [ih]

/-! scripts -/
structure Pk where
  kind : Int
  n : Int
  v : Int
structure Lm where
  a : Int
  b : Int
  c : Int
  d : Int
  e : Int
  f : Int
  g : Int
structure Sc where
  lim : Lm
  reap : Bool
  picks : List Pk
def lmL (m : Lm) : List Int := [m.a, m.b, m.c, m.d, m.e, m.f, m.g]
def lmOf (l : List Int) : Lm := ⟨l.getD 0 0, l.getD 1 0, l.getD 2 0, l.getD 3 0, l.getD 4 0, l.getD 5 0, l.getD 6 0⟩
structure Pk.Wf (p : Pk) : Prop where
  kind : I64 p.kind
  n : I64 p.n
  v : I64 p.v
structure Sc.Wf (s : Sc) : Prop where
  lim : ∀ x ∈ lmL s.lim, I64 x
  picks : ∀ p ∈ s.picks, p.Wf
def limitsW : List UInt8 := [108, 105, 109, 105, 116, 115]
def keepW : List UInt8 := [107, 101, 101, 112]
def reapW : List UInt8 := [114, 101, 97, 112]
def shapesT : List (List UInt8 × Nat) := [([115, 116, 101, 112], 1), ([105, 110], 2), ([111, 117, 116], 1), ([112, 114, 111, 98, 101], 0)]
def noShape : List UInt8 × Nat := ([], 0)
/-- the shape of a kind -/
def shapeI (k : Int) : List UInt8 × Nat := shapesT.getD (k.toNat - 1) noShape
/-- the kind of a word -/
def kindI (t : List UInt8) : Nat := if t = [115, 116, 101, 112] then 1 else if t = [105, 110] then 2 else if t = [111, 117, 116] then 3 else if t = [112, 114, 111, 98, 101] then 4 else 0
theorem kindI_le (t : List UInt8) : kindI t ≤ 4 := by
  unfold kindI
  repeat (split <;> try omega)
theorem kindI_word {t : List UInt8} (h : kindI t ≠ 0) : (shapeI (kindI t)).1 = t := by
  unfold kindI at h ⊢
  split
  · rename_i e; rw [e]; rfl
  · split
    · rename_i e; rw [e]; rfl
    · split
      · rename_i e; rw [e]; rfl
      · split
        · rename_i e; rw [e]; rfl
        · rename_i h1 h2 h3 h4
          rw [if_neg h1, if_neg h2, if_neg h3, if_neg h4] at h
          exact absurd rfl h
theorem kind_cases {k : Int} (h : 1 ≤ k ∧ k ≤ 4) : k = 1 ∨ k = 2 ∨ k = 3 ∨ k = 4 := by omega
theorem word_kind {k : Int} (h : 1 ≤ k ∧ k ≤ 4) : ((kindI (shapeI k).1 : Nat) : Int) = k := by
  rcases kind_cases h with rfl | rfl | rfl | rfl <;> decide
theorem word_no {k : Int} (h : 1 ≤ k ∧ k ≤ 4) : (32 : UInt8) ∉ (shapeI k).1 ∧ (10 : UInt8) ∉ (shapeI k).1 := by
  rcases kind_cases h with rfl | rfl | rfl | rfl <;> decide
theorem ar_le (k : Int) : (shapeI k).2 ≤ 2 := by
  unfold shapeI shapesT
  match k.toNat - 1 with
  | 0 => decide
  | 1 => decide
  | 2 => decide
  | 3 => decide
  | n + 4 => simp [noShape]
/-- so many numbers -/
def numsP (k : Nat) (ws : List (List UInt8)) : Option (List Int) := if ws.length = k then numsOf ws else none
inductive Got (α β : Type) where
  | yes (a : α)
  | no (b : β)
def limL (line : List UInt8) : Got Lm Int :=
  if (pieces 32 line).1 = limitsW then
    match numsP 7 (pieces 32 line).2 with
    | none => .no 171
    | some l => .yes (lmOf l)
  else .no 170
def reapL (line : List UInt8) : Got Bool Int :=
  if (pieces 32 line).1 = keepW ∨ (pieces 32 line).1 = reapW then
    match numsP 0 (pieces 32 line).2 with
    | none => .no 171
    | some _ => .yes (decide ((pieces 32 line).1 = reapW))
  else .no 170
def pickL (n : Nat) (line : List UInt8) : Got Pk Int :=
  if kindI (pieces 32 line).1 = 0 then .no 170
  else if n = 4096 then .no 172
  else match numsP (shapeI (kindI (pieces 32 line).1)).2 (pieces 32 line).2 with
    | none => .no 171
    | some l => .yes ⟨kindI (pieces 32 line).1, l.getD 0 0, l.getD 1 0⟩
def readP : List UInt8 → List (List UInt8) → List Pk → Nat → Got (List Pk) (Nat × Int)
  | l, [], ps, k => if l = [] then .yes ps else .no (k, 170)
  | l, m :: r, ps, k => match pickL ps.length l with
    | .no c => .no (k, c)
    | .yes p => readP m r (ps ++ [p]) (k + 1)
/-- the picks of a text that is left -/
def rdP (m : Lm) (b : Bool) (t : List UInt8) (ps : List Pk) (k : Nat) : Got Sc (Nat × Int) :=
  match readP (pieces 10 t).1 (pieces 10 t).2 ps k with
  | .no e => .no e
  | .yes l => .yes ⟨m, b, l⟩
def rdR (m : Lm) (t : List UInt8) : Got Sc (Nat × Int) :=
  if (10 : UInt8) ∈ t then
    match reapL (pieces 10 t).1 with
    | .no c => .no (2, c)
    | .yes b => rdP m b (t.drop ((pieces 10 t).1.length + 1)) [] 3
  else .no (2, 170)
def readS (t : List UInt8) : Got Sc (Nat × Int) :=
  if (10 : UInt8) ∈ t then
    match limL (pieces 10 t).1 with
    | .no c => .no (1, c)
    | .yes m => rdR m (t.drop ((pieces 10 t).1.length + 1))
  else .no (1, 170)

/-! writing -/
def lineT (w : List UInt8) (l : List Int) : List UInt8 := w ++ numsT l ++ [10]
def fitK (p : Pk) : Bool := decide (1 ≤ p.kind) && (decide (p.kind ≤ 4) && ([p.n, p.v].drop (shapeI p.kind).2).all (· == 0))
def pickN (p : Pk) : List Int := [p.n, p.v].take (shapeI p.kind).2
def pickT (p : Pk) : List UInt8 := lineT (shapeI p.kind).1 (pickN p)
def headT (s : Sc) : List UInt8 := lineT limitsW (lmL s.lim) ++ lineT (if s.reap then reapW else keepW) []
def textS (s : Sc) : List UInt8 := headT s ++ s.picks.flatMap pickT
def fitS (s : Sc) : Bool := decide (s.picks.length ≤ 4096) && s.picks.all fitK
def writeS (s : Sc) : List UInt8 × Int := if s.picks.length ≤ 4096 then (if s.picks.all fitK then (textS s, 0) else ([], 171)) else ([], 172)

/-! the steps of reading -/
theorem cut_ten {c : UInt8} : ∀ {l : List UInt8}, c ∈ l → ∃ a r, l = a ++ c :: r ∧ c ∉ a
  | x :: l, h => by
    by_cases hx : x = c
    · subst hx
      exact ⟨[], l, rfl, by simp⟩
    · rcases List.mem_cons.1 h with rfl | h
      · exact absurd rfl hx
      · obtain ⟨a, r, rfl, h2⟩ := cut_ten h
        exact ⟨x :: a, r, rfl, by rw [List.mem_cons, not_or]; exact ⟨fun e => hx e.symm, h2⟩⟩
theorem drop_line (l r : List UInt8) (c : UInt8) : (l ++ c :: r).drop (l.length + 1) = r := by
  rw [← List.drop_drop]
  simp
theorem readS_none {t : List UInt8} (h : (10 : UInt8) ∉ t) : readS t = .no (1, 170) := by unfold readS; rw [if_neg h]
theorem readS_cut {l r : List UInt8} (h : (10 : UInt8) ∉ l) : readS (l ++ 10 :: r) = match limL l with | .no c => .no (1, c) | .yes m => rdR m r := by
  unfold readS
  rw [if_pos (by simp), pieces_app h, drop_line]
theorem rdR_none {m : Lm} {t : List UInt8} (h : (10 : UInt8) ∉ t) : rdR m t = .no (2, 170) := by unfold rdR; rw [if_neg h]
theorem rdR_cut {m : Lm} {l r : List UInt8} (h : (10 : UInt8) ∉ l) : rdR m (l ++ 10 :: r) = match reapL l with | .no c => .no (2, c) | .yes b => rdP m b r [] 3 := by
  unfold rdR
  rw [if_pos (by simp), pieces_app h, drop_line]
theorem rdP_nil (m : Lm) (b : Bool) (ps : List Pk) (k : Nat) : rdP m b [] ps k = .yes ⟨m, b, ps⟩ := rfl
theorem rdP_open {m : Lm} {b : Bool} {t : List UInt8} {ps : List Pk} {k : Nat} (h : (10 : UInt8) ∉ t) (h0 : t ≠ []) : rdP m b t ps k = .no (k, 170) := by
  unfold rdP
  rw [pieces_none h, readP, if_neg h0]
theorem rdP_cut {m : Lm} {b : Bool} {l r : List UInt8} {ps : List Pk} {k : Nat} (h : (10 : UInt8) ∉ l) : rdP m b (l ++ 10 :: r) ps k = match pickL ps.length l with | .no c => .no (k, c) | .yes p => rdP m b r (ps ++ [p]) (k + 1) := by
  unfold rdP
  rw [pieces_app h, readP]
  cases pickL ps.length l <;> rfl

/-! there and back -/
theorem line_no {w : List UInt8} (h : (10 : UInt8) ∉ w) (l : List Int) : (10 : UInt8) ∉ w ++ numsT l := by
  rw [List.mem_append, not_or]
  exact ⟨h, nums_no10 l⟩
theorem line_app (w : List UInt8) (l : List Int) (r : List UInt8) : lineT w l ++ r = (w ++ numsT l) ++ 10 :: r := by simp [lineT]
theorem numsP_itoa {l : List Int} (h : ∀ n ∈ l, I64 n) : numsP l.length (l.map Lib.itoa) = some l := by
  unfold numsP
  rw [if_pos (by simp), numsOf_itoa h]
theorem lm_of (m : Lm) : lmOf (lmL m) = m := rfl
theorem limL_line {m : Lm} (h : ∀ x ∈ lmL m, I64 x) : limL (limitsW ++ numsT (lmL m)) = .yes m := by
  unfold limL
  have hq := numsP_itoa h
  have e : (lmL m).length = 7 := rfl
  rw [e] at hq
  rw [pieces_nums (by decide), if_pos rfl]
  simp only [hq]
  rfl
theorem reapL_line (b : Bool) : reapL ((if b then reapW else keepW) ++ numsT []) = .yes b := by
  cases b <;> rfl
theorem fit_parts {p : Pk} (h : fitK p = true) : (1 ≤ p.kind ∧ p.kind ≤ 4) ∧ ∀ x ∈ [p.n, p.v].drop (shapeI p.kind).2, x = 0 := by
  unfold fitK at h
  simp only [Bool.and_eq_true, decide_eq_true_eq, List.all_eq_true, beq_iff_eq] at h
  exact ⟨⟨h.1, h.2.1⟩, h.2.2⟩
theorem pickN_len (p : Pk) : (pickN p).length = (shapeI p.kind).2 := by
  have := ar_le p.kind
  unfold pickN
  rw [List.length_take]
  simp only [List.length_cons, List.length_nil]
  omega
theorem pickN_wf {p : Pk} (h : p.Wf) : ∀ x ∈ pickN p, I64 x := by
  intro x hx
  have := List.mem_of_mem_take hx
  simp only [List.mem_cons, List.not_mem_nil, or_false] at this
  rcases this with rfl | rfl
  · exact h.n
  · exact h.v
theorem pickL_line {p : Pk} {n : Nat} (hf : fitK p = true) (hw : p.Wf) (hn : n ≠ 4096) : pickL n ((shapeI p.kind).1 ++ numsT (pickN p)) = .yes p := by
  obtain ⟨hk, hz⟩ := fit_parts hf
  have hq := numsP_itoa (pickN_wf hw)
  rw [pickN_len] at hq
  have hkk := word_kind hk
  unfold pickL
  rw [pieces_nums (word_no hk).1]
  simp only []
  have h0 : ¬ kindI (shapeI p.kind).1 = 0 := by omega
  rw [if_neg h0, if_neg hn, hkk, hq]
  simp only []
  obtain ⟨k, x, y⟩ := p
  simp only at hk hz ⊢
  rcases kind_cases hk with rfl | rfl | rfl | rfl
  · have : y = 0 := hz y (by simp [shapeI, shapesT])
    subst this; rfl
  · rfl
  · have : y = 0 := hz y (by simp [shapeI, shapesT])
    subst this; rfl
  · have h1 : x = 0 := hz x (by simp [shapeI, shapesT])
    have h2 : y = 0 := hz y (by simp [shapeI, shapesT])
    subst h1; subst h2; rfl
theorem rdP_text (m : Lm) (b : Bool) : ∀ (qs ps : List Pk) (k : Nat), (∀ p ∈ qs, fitK p = true) → (∀ p ∈ qs, p.Wf) → ps.length + qs.length ≤ 4096 → rdP m b (qs.flatMap pickT) ps k = .yes ⟨m, b, ps ++ qs⟩
  | [], ps, k, _, _, _ => by rw [List.flatMap_nil, rdP_nil, List.append_nil]
  | q :: qs, ps, k, hf, hw, hl => by
    have hq := hf q List.mem_cons_self
    obtain ⟨hk, hz⟩ := fit_parts hq
    rw [List.length_cons] at hl
    rw [List.flatMap_cons, pickT, line_app, rdP_cut (line_no (word_no hk).2 _), pickL_line hq (hw q List.mem_cons_self) (by omega)]
    show rdP m b (qs.flatMap pickT) (ps ++ [q]) (k + 1) = _
    rw [rdP_text m b qs (ps ++ [q]) (k + 1) (fun p hp => hf p (List.mem_cons_of_mem _ hp)) (fun p hp => hw p (List.mem_cons_of_mem _ hp)) (by simp; omega)]
    simp
/-- WHAT IS WRITTEN IS READ AS THE SCRIPT -/
theorem read_write {s : Sc} (hw : s.Wf) (hf : fitS s = true) : readS (textS s) = .yes s := by
  unfold fitS at hf
  simp only [Bool.and_eq_true, decide_eq_true_eq, List.all_eq_true] at hf
  unfold textS headT
  rw [List.append_assoc, line_app, readS_cut (line_no (by decide) _), limL_line hw.lim]
  show rdR s.lim _ = _
  rw [line_app, rdR_cut (line_no (by cases s.reap <;> decide) _), reapL_line]
  show rdP s.lim s.reap _ [] 3 = _
  rw [rdP_text _ _ _ _ _ hf.2 hw.picks (by simpa using hf.1)]
  rfl
theorem numsP_some {k : Nat} {ws : List (List UInt8)} {l : List Int} (h : numsP k ws = some l) : l.map Lib.itoa = ws ∧ l.length = k ∧ ∀ n ∈ l, I64 n := by
  unfold numsP at h
  split at h
  · rename_i he
    obtain ⟨h1, h2⟩ := numsOf_some h
    refine ⟨h1, ?_, h2⟩
    rw [← he, ← h1]
    simp
  · cases h
theorem line_of {line : List UInt8} {l : List Int} (h : l.map Lib.itoa = (pieces 32 line).2) : line = (pieces 32 line).1 ++ numsT l := by
  have := pieces_join 32 line
  rw [← h, List.flatMap_map] at this
  exact this.symm
theorem limL_yes {line : List UInt8} {m : Lm} (h : limL line = .yes m) : line = limitsW ++ numsT (lmL m) ∧ ∀ x ∈ lmL m, I64 x := by
  unfold limL at h
  split at h
  · rename_i hw
    split at h
    · cases h
    · rename_i l hl
      injection h with h
      subst h
      obtain ⟨h1, h2, h3⟩ := numsP_some hl
      match l, h2 with
      | [a, b, c, d, e, f, g], _ =>
        refine ⟨?_, h3⟩
        rw [← hw]
        exact line_of h1
  · cases h
theorem reapL_yes {line : List UInt8} {b : Bool} (h : reapL line = .yes b) : line = (if b then reapW else keepW) ++ numsT [] := by
  unfold reapL at h
  split at h
  · rename_i hw
    split at h
    · cases h
    · rename_i l hl
      injection h with h
      subst h
      obtain ⟨h1, h2, h3⟩ := numsP_some hl
      have : l = [] := List.eq_nil_of_length_eq_zero h2
      subst this
      have e := line_of h1
      rcases hw with hw | hw
      · rw [hw] at e ⊢
        rw [if_neg (by decide)]
        exact e
      · rw [hw] at e ⊢
        rw [if_pos (by decide)]
        exact e
  · cases h
theorem pickL_yes {line : List UInt8} {n : Nat} {p : Pk} (h : pickL n line = .yes p) : line = (shapeI p.kind).1 ++ numsT (pickN p) ∧ fitK p = true ∧ p.Wf ∧ n ≠ 4096 := by
  unfold pickL at h
  split at h
  · cases h
  · rename_i h0
    split at h
    · cases h
    · rename_i hn
      split at h
      · cases h
      · rename_i l hl
        injection h with h
        subst h
        obtain ⟨h1, h2, h3⟩ := numsP_some hl
        have hwd := kindI_word h0
        have e := line_of h1
        have hle := kindI_le (pieces 32 line).1
        rw [← hwd] at e
        generalize kindI (pieces 32 line).1 = k at *
        have hk : k = 1 ∨ k = 2 ∨ k = 3 ∨ k = 4 := by omega
        have z : I64 0 := by unfold I64; omega
        have hi : I64 (k : Int) := by unfold I64; omega
        rcases hk with rfl | rfl | rfl | rfl
        · match l, h2 with
          | [a], _ => exact ⟨e, rfl, ⟨hi, h3 a (by simp), z⟩, hn⟩
        · match l, h2 with
          | [a, b], _ => exact ⟨e, rfl, ⟨hi, h3 a (by simp), h3 b (by simp)⟩, hn⟩
        · match l, h2 with
          | [a], _ => exact ⟨e, rfl, ⟨hi, h3 a (by simp), z⟩, hn⟩
        · match l, h2 with
          | [], _ => exact ⟨e, rfl, ⟨hi, z, z⟩, hn⟩
theorem readP_yes : ∀ (ls : List (List UInt8)) (l : List UInt8) (ps out : List Pk) (k : Nat), readP l ls ps k = .yes out → ps.length ≤ 4096 → ∃ qs, out = ps ++ qs ∧ l ++ ls.flatMap (10 :: ·) = qs.flatMap pickT ∧ (∀ p ∈ qs, fitK p = true) ∧ (∀ p ∈ qs, p.Wf) ∧ out.length ≤ 4096
  | [], l, ps, out, k, h, hl => by
    rw [readP] at h
    split at h
    · rename_i e
      injection h with h
      subst h; subst e
      exact ⟨[], by simp, rfl, (fun p hp => by cases hp), (fun p hp => by cases hp), hl⟩
    · cases h
  | m :: r, l, ps, out, k, h, hl => by
    rw [readP] at h
    split at h
    · cases h
    · rename_i p hp
      obtain ⟨e, hf, hw, hn⟩ := pickL_yes hp
      obtain ⟨qs, h1, h2, h3, h4, h5⟩ := readP_yes r m (ps ++ [p]) out (k + 1) h (by simp; omega)
      refine ⟨p :: qs, by rw [h1]; simp, ?_, ?_, ?_, h5⟩
      · rw [List.flatMap_cons, List.flatMap_cons, ← h2]
        rw [pickT, line_app, ← e]
        simp
      · intro q hq
        rcases List.mem_cons.1 hq with rfl | hq
        · exact hf
        · exact h3 q hq
      · intro q hq
        rcases List.mem_cons.1 hq with rfl | hq
        · exact hw
        · exact h4 q hq
/-- WHAT IS READ IS WRITTEN AS THE TEXT -/
theorem write_read {t : List UInt8} {s : Sc} (h : readS t = .yes s) : s.Wf ∧ fitS s = true ∧ textS s = t := by
  by_cases h1 : (10 : UInt8) ∈ t
  · obtain ⟨l, r, rfl, hl⟩ := cut_ten h1
    rw [readS_cut hl] at h
    split at h
    · cases h
    · rename_i m hm
      obtain ⟨e1, w1⟩ := limL_yes hm
      by_cases h2 : (10 : UInt8) ∈ r
      · obtain ⟨l2, r2, rfl, hl2⟩ := cut_ten h2
        rw [rdR_cut hl2] at h
        split at h
        · cases h
        · rename_i b hb
          have e2 := reapL_yes hb
          unfold rdP at h
          split at h
          · cases h
          · rename_i out ho
            injection h with h
            subst h
            obtain ⟨qs, q1, q2, q3, q4, q5⟩ := readP_yes _ _ _ _ _ ho (by simp)
            rw [List.nil_append] at q1
            subst q1
            rw [pieces_join] at q2
            refine ⟨⟨w1, q4⟩, ?_, ?_⟩
            · unfold fitS
              simp only [Bool.and_eq_true, decide_eq_true_eq, List.all_eq_true]
              exact ⟨q5, q3⟩
            · unfold textS headT
              simp only []
              rw [List.append_assoc, line_app, line_app, ← e1, ← e2, ← q2]
      · rw [rdR_none h2] at h
        cases h
  · rw [readS_none h1] at h
    cases h
theorem writeS_fit {s : Sc} (h : fitS s = true) : writeS s = (textS s, 0) := by
  unfold fitS at h
  simp only [Bool.and_eq_true, decide_eq_true_eq] at h
  unfold writeS
  rw [if_pos h.1, if_pos h.2]
theorem writeS_ok {s : Sc} (h : (writeS s).2 = 0) : fitS s = true ∧ writeS s = (textS s, 0) := by
  have h0 := h
  unfold writeS at h
  split at h
  · split at h
    · rename_i h1 h2
      have : fitS s = true := by unfold fitS; simp only [Bool.and_eq_true, decide_eq_true_eq]; exact ⟨h1, h2⟩
      exact ⟨this, writeS_fit this⟩
    · cases h
  · cases h
theorem readP_no : ∀ (ls : List (List UInt8)) (l : List UInt8) (ps : List Pk) (k : Nat) (e : Nat × Int), readP l ls ps k = .no e → k ≤ e.1 ∧ e.1 ≤ k + ls.length
  | [], l, ps, k, e, h => by
    rw [readP] at h
    split at h
    · cases h
    · injection h with h
      subst h
      exact ⟨Nat.le_refl _, Nat.le_refl _⟩
  | m :: r, l, ps, k, e, h => by
    rw [readP] at h
    split at h
    · injection h with h
      subst h
      exact ⟨Nat.le_refl _, by simp⟩
    · have := readP_no r m _ _ e h
      rw [List.length_cons]
      omega
theorem no_line {t : List UInt8} {e : Nat × Int} (h : readS t = .no e) : 0 < e.1 := by
  unfold readS at h
  split at h
  · split at h
    · injection h with h; subst h; exact Nat.one_pos
    · unfold rdR at h
      split at h
      · split at h
        · injection h with h; subst h; exact Nat.two_pos
        · unfold rdP at h
          split at h
          · rename_i e' he
            injection h with h
            subst h
            have := readP_no _ _ _ _ _ he
            omega
          · cases h
      · injection h with h; subst h; exact Nat.two_pos
  · injection h with h; subst h; exact Nat.one_pos
end Go.Proofs.YtecpknpcjoiliabDoor
