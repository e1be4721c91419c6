import Derived.WalkKit
import Derived.Lib.TrailingZeros
import Derived.Laws.Bits64b
import Derived.Laws.MakeOwn
import Derived.Test.YtadmpgegolmkgaaDoorCDP
import Derived.WalkSpells
import Derived.WalkLawsBesides
import Derived.Deep.QuietTactic
import Derived.Deep.LoopGhost
import Derived.Deep.RegionLaw
import Derived.BigQuiet
import Derived.Laws.AppendOwn
import Derived.Laws.AppendOwnNone
import Derived.Deep.AppendLies
import Derived.OneCell
import Derived.Laws.Rows
import Derived.Lib.BufferMore
import Derived.RangeFuncRecord
import Derived.Maps.Range
import Derived.Maps.RangeWalk
namespace Go.Proofs.YtadmpgegolmkgaaDoor
set_option linter.unusedVariables false
set_option linter.unusedSimpArgs false

/-! ### words of bits -/
def wordF (f : Nat → Bool) : Nat → Nat
  | 0 => 0
  | m + 1 => if f m then wordF f m ||| 2 ^ m else wordF f m
theorem wordF_lt (f : Nat → Bool) : ∀ m, wordF f m < 2 ^ m
  | 0 => by simp [wordF]
  | m + 1 => by
    have h := wordF_lt f m
    have h2 : wordF f m < 2 ^ (m + 1) := Nat.lt_of_lt_of_le h (Nat.pow_le_pow_right (by decide) (by omega))
    rw [wordF]
    split
    · exact Nat.or_lt_two_pow h2 (Nat.pow_lt_pow_right (by decide) (by omega))
    · exact h2
theorem testBit_wordF (f : Nat → Bool) (k : Nat) : ∀ m, (wordF f m).testBit k = (decide (k < m) && f k)
  | 0 => by simp [wordF]
  | m + 1 => by
    have ih := testBit_wordF f k m
    rw [wordF]
    by_cases e : k = m
    · subst e
      cases h : f k with
      | true => simp [Nat.testBit_or, Nat.testBit_two_pow, ih]
      | false => simp [ih]
    · have e2 : (decide (k < m + 1)) = decide (k < m) := by
        by_cases h : k < m
        · rw [decide_eq_true h, decide_eq_true (by omega)]
        · rw [decide_eq_false h, decide_eq_false (by omega)]
      rw [e2]
      split
      · rw [Nat.testBit_or, ih, Nat.testBit_two_pow]
        have : decide (m = k) = false := decide_eq_false (by omega)
        rw [this, Bool.or_false]
      · exact ih
def word (f : Nat → Bool) : Nat := wordF f 64
theorem word_lt (f : Nat → Bool) : word f < 18446744073709551616 := wordF_lt f 64
theorem testBit_word (f : Nat → Bool) (k : Nat) : (word f).testBit k = (decide (k < 64) && f k) := testBit_wordF f k 64
theorem word_ext {f : Nat → Bool} {x : Nat} (hx : x < 18446744073709551616) (h : ∀ k, k < 64 → x.testBit k = f k) : x = word f := by
  refine Nat.eq_of_testBit_eq fun k => ?_
  rw [testBit_word]
  by_cases hk : k < 64
  · rw [decide_eq_true hk, Bool.true_and, h k hk]
  · rw [decide_eq_false hk, Bool.false_and]
    exact Nat.testBit_lt_two_pow (Nat.lt_of_lt_of_le (show x < 2 ^ 64 from hx) (Nat.pow_le_pow_right (by decide) (by omega)))
theorem word_congr {f g : Nat → Bool} (h : ∀ k, k < 64 → f k = g k) : word f = word g := word_ext (word_lt f) fun k hk => by rw [testBit_word, decide_eq_true hk, Bool.true_and, h k hk]
theorem word_zero {f : Nat → Bool} : word f = 0 ↔ ∀ k, k < 64 → f k = false := by
  constructor
  · intro h k hk
    have := testBit_word f k
    rw [h, decide_eq_true hk] at this
    simpa using this.symm
  · intro h
    refine (word_ext (by decide) fun k hk => ?_).symm
    rw [h k hk, Nat.zero_testBit]
/-- a bit more, a bit less -/
theorem word_or {f g : Nat → Bool} {b : Nat} (hb : b < 64) (h : ∀ k, k < 64 → g k = (f k || k == b)) : word f ||| 2 ^ b = word g := by
  refine word_ext (Nat.or_lt_two_pow (word_lt f) (Nat.pow_lt_pow_right (by decide) hb)) fun k hk => ?_
  rw [Nat.testBit_or, testBit_word, decide_eq_true hk, Bool.true_and, Nat.testBit_two_pow, h k hk]
  congr 1
  by_cases e : b = k
  · subst e; simp
  · rw [decide_eq_false e]; symm; simp; omega
/-! ### the smallest bit -/
theorem ctz_least {f : Nat → Bool} (h : word f ≠ 0) : Lib.ctz 64 (word f) < 64 ∧ f (Lib.ctz 64 (word f)) = true ∧ ∀ k, k < Lib.ctz 64 (word f) → f k = false := by
  obtain ⟨m, hm, hk⟩ := Lib.ctzFrom_spec 64 (word f) (by omega) (word_lt f)
  have e : Lib.ctz 64 (word f) = Lib.ctzFrom 64 (word f) := by unfold Lib.ctz; rw [if_neg h]
  rw [e]
  generalize Lib.ctzFrom 64 (word f) = c at *
  have hbit : ∀ k, k < 64 → (word f).testBit k = f k := fun k hk => by rw [testBit_word, decide_eq_true hk, Bool.true_and]
  refine ⟨hk, ?_, fun k hkc => ?_⟩
  · rw [← hbit c hk, hm, Nat.mul_comm, Nat.testBit_mul_two_pow]
    simp [Nat.testBit_zero]
  · rw [← hbit k (by omega), hm, Nat.mul_comm, Nat.testBit_mul_two_pow]
    simp; omega
/-! ### what is due, level by level -/
open Classical in
/-- whether any of the numbers under j, at a level, is there -/
noncomputable def up (D : Nat → Bool) (l j : Nat) : Bool := decide (∃ i, i / 64 ^ l = j ∧ D i = true)
theorem up_iff {D : Nat → Bool} {l j : Nat} : up D l j = true ↔ ∃ i, i / 64 ^ l = j ∧ D i = true := by unfold up; simp
theorem up_zero (D : Nat → Bool) : up D 0 = D := by
  funext j
  have : up D 0 j = true ↔ D j = true := by
    rw [up_iff]
    constructor
    · rintro ⟨i, h1, h2⟩; rw [Nat.pow_zero, Nat.div_one] at h1; rw [← h1]; exact h2
    · intro h; exact ⟨j, by simp, h⟩
  exact Bool.eq_iff_iff.2 this
theorem up_add (D : Nat → Bool) (l m : Nat) : up D (l + m) = up (up D l) m := by
  funext j
  refine Bool.eq_iff_iff.2 ?_
  rw [up_iff, up_iff]
  constructor
  · rintro ⟨i, h1, h2⟩
    exact ⟨i / 64 ^ l, by rw [Nat.div_div_eq_div_mul, ← Nat.pow_add]; exact h1, up_iff.2 ⟨i, rfl, h2⟩⟩
  · rintro ⟨k, h1, h2⟩
    obtain ⟨i, h3, h4⟩ := up_iff.1 h2
    exact ⟨i, by rw [Nat.pow_add, ← Nat.div_div_eq_div_mul, h3]; exact h1, h4⟩
theorem up_succ {D : Nat → Bool} {l j : Nat} : up D (l + 1) j = true ↔ ∃ i, i / 64 = j ∧ up D l i = true := by
  rw [up_add, up_iff, Nat.pow_one]
/-- a word of a level -/
noncomputable def wd (D : Nat → Bool) (l j : Nat) : Nat := word fun k => up D l (64 * j + k)
theorem wd_zero {D : Nat → Bool} {l j : Nat} : wd D l j = 0 ↔ up D (l + 1) j = false := by
  unfold wd
  rw [word_zero, ← Bool.not_eq_true, up_succ]
  constructor
  · rintro h ⟨i, h1, h2⟩
    have := h (i % 64) (Nat.mod_lt _ (by decide))
    rw [← h1, Nat.div_add_mod, h2] at this
    cases this
  · intro h k hk
    cases hu : up D l (64 * j + k) with
    | false => rfl
    | true => exact absurd ⟨64 * j + k, by omega, hu⟩ h
def ins (n : Nat) (D : Nat → Bool) : Nat → Bool := fun i => D i || i == n
def del (n : Nat) (D : Nat → Bool) : Nat → Bool := fun i => D i && i != n
theorem up_ins (n : Nat) (D : Nat → Bool) (l : Nat) : up (ins n D) l = ins (n / 64 ^ l) (up D l) := by
  funext j
  refine Bool.eq_iff_iff.2 ?_
  unfold ins
  rw [up_iff, Bool.or_eq_true, up_iff]
  constructor
  · rintro ⟨i, h1, h2⟩
    rw [Bool.or_eq_true] at h2
    rcases h2 with h2 | h2
    · exact .inl ⟨i, h1, h2⟩
    · have : i = n := by simpa using h2
      subst this
      exact .inr (by simp [h1])
  · rintro (⟨i, h1, h2⟩ | h)
    · exact ⟨i, h1, by rw [h2]; rfl⟩
    · have : j = n / 64 ^ l := by simpa using h
      exact ⟨n, this.symm, by simp⟩
theorem wd_ins {n : Nat} {D : Nat → Bool} {l : Nat} {m : Nat} (hm : m = n / 64 ^ l) (j : Nat) : wd (ins n D) l j = if j = m / 64 then wd D l j ||| 2 ^ (m % 64) else wd D l j := by
  subst hm
  unfold wd
  rw [up_ins]
  split
  · rename_i e
    subst e
    refine (word_or (Nat.mod_lt _ (by decide)) fun k hk => ?_).symm
    unfold ins
    congr 1
    generalize n / 64 ^ l = m
    by_cases e : k = m % 64
    · subst e; rw [Nat.div_add_mod]; simp
    · rw [beq_eq_false_iff_ne.2 e, beq_eq_false_iff_ne.2 (by omega)]
  · rename_i e
    refine word_congr fun k hk => ?_
    unfold ins
    rw [beq_eq_false_iff_ne.2 (by omega), Bool.or_false]
/-- dropping a number: what holds where a level is come to -/
theorem wd_del {D E : Nat → Bool} {l : Nat} {m : Nat} (h : ∀ j, up E l j = (up D l j && j != m)) (j : Nat) : wd E l j = if j = m / 64 then wd D l j &&& (18446744073709551615 - 2 ^ (m % 64)) else wd D l j := by
  unfold wd
  split
  · rename_i e
    subst e
    have hb : m % 64 < 64 := Nat.mod_lt _ (by decide)
    refine (word_ext (Nat.lt_of_le_of_lt Nat.and_le_left (word_lt _)) fun k hk => ?_).symm
    rw [Nat.testBit_and, testBit_word, decide_eq_true hk, Bool.true_and, h]
    congr 1
    have e1 : 18446744073709551615 - 2 ^ (m % 64) = 2 ^ 64 - (2 ^ (m % 64) + 1) := by omega
    rw [e1, Nat.testBit_two_pow_sub_succ (Nat.pow_lt_pow_right (by decide) hb), decide_eq_true hk, Bool.true_and, Nat.testBit_two_pow]
    by_cases e : m % 64 = k
    · subst e; rw [Nat.div_add_mod]; simp
    · rw [decide_eq_false e]; symm; simp; omega
  · rename_i e
    refine word_congr fun k hk => ?_
    rw [h]
    have : (64 * j + k != m) = true := by simp; omega
    rw [this, Bool.and_true]
theorem del_next {D E : Nat → Bool} {l m : Nat} (h : ∀ j, up E l j = (up D l j && j != m)) : (wd E l (m / 64) ≠ 0 → up E (l + 1) = up D (l + 1)) ∧ (wd E l (m / 64) = 0 → ∀ j, up E (l + 1) j = (up D (l + 1) j && j != m / 64)) := by
  have oth : ∀ j, j ≠ m / 64 → (up E (l + 1) j = true ↔ up D (l + 1) j = true) := fun j hj => by
    rw [up_succ, up_succ]
    constructor
    · rintro ⟨i, h1, h2⟩
      rw [h, Bool.and_eq_true] at h2
      exact ⟨i, h1, h2.1⟩
    · rintro ⟨i, h1, h2⟩
      refine ⟨i, h1, ?_⟩
      rw [h, h2, Bool.true_and]
      simp
      intro e
      subst e
      exact hj h1.symm
  constructor
  · intro hz
    funext j
    refine Bool.eq_iff_iff.2 ?_
    by_cases hj : j = m / 64
    · subst hj
      have h1 : up E (l + 1) (m / 64) = true := by
        cases hu : up E (l + 1) (m / 64) with
        | true => rfl
        | false => exact absurd (wd_zero.2 hu) hz
      rw [h1]
      obtain ⟨i, h2, h3⟩ := up_succ.1 h1
      rw [h, Bool.and_eq_true] at h3
      simp only [true_iff]
      exact up_succ.2 ⟨i, h2, h3.1⟩
    · exact oth j hj
  · intro hz j
    by_cases hj : j = m / 64
    · subst hj
      rw [wd_zero.1 hz]; simp
    · have : (j != m / 64) = true := by simpa using hj
      rw [this, Bool.and_true]
      exact Bool.eq_iff_iff.2 (oth j hj)
def leastB (D : Nat → Bool) (n : Nat) : Prop := D n = true ∧ ∀ m, m < n → D m = false
theorem least_one {D : Nat → Bool} {n m : Nat} (h : leastB D n) (h' : leastB D m) : n = m := by
  rcases Nat.lt_trichotomy n m with q | q | q
  · have := h'.2 n q; rw [h.1] at this; cases this
  · exact q
  · have := h.2 m q; rw [h'.1] at this; cases this
/-- the smallest, a level below -/
theorem least_down {D : Nat → Bool} {l n : Nat} (h : leastB (up D (l + 1)) n) : wd D l n ≠ 0 ∧ Lib.ctz 64 (wd D l n) < 64 ∧ leastB (up D l) (n * 64 + Lib.ctz 64 (wd D l n)) := by
  have hz : wd D l n ≠ 0 := fun e => by rw [wd_zero, h.1] at e; cases e
  obtain ⟨h1, h2, h3⟩ := ctz_least (f := fun k => up D l (64 * n + k)) hz
  have e : word (fun k => up D l (64 * n + k)) = wd D l n := rfl
  rw [e] at h1 h2 h3
  refine ⟨hz, h1, ⟨by rw [Nat.mul_comm]; exact h2, fun m hm => ?_⟩⟩
  cases hu : up D l m with
  | false => rfl
  | true =>
    have h4 : up D (l + 1) (m / 64) = true := up_succ.2 ⟨m, rfl, hu⟩
    rcases Nat.lt_trichotomy (m / 64) n with q | q | q
    · rw [h.2 _ q] at h4; cases h4
    · have h5 := h3 (m % 64) (by omega)
      rw [← q, Nat.div_add_mod, hu] at h5
      cases h5
    · omega
/-! ### how many words a level has -/
def szW (many : Nat) : Nat → Nat
  | 0 => (many + 63) / 64
  | l + 1 => (szW many l + 63) / 64
theorem szW_at {many : Nat} : ∀ {l i : Nat}, i < many → i / 64 ^ l / 64 < szW many l
  | 0, i, h => by rw [Nat.pow_zero, Nat.div_one]; unfold szW; omega
  | l + 1, i, h => by
    have := szW_at (l := l) h
    rw [Nat.pow_succ, ← Nat.div_div_eq_div_mul]
    unfold szW
    omega
theorem szW_le {many : Nat} : ∀ l, szW many l ≤ many
  | 0 => by unfold szW; omega
  | l + 1 => by have := szW_le (many := many) l; unfold szW; omega
theorem szW_pos {many : Nat} (h : 0 < many) : ∀ l, 0 < szW many l
  | 0 => by unfold szW; omega
  | l + 1 => by have := szW_pos h l; unfold szW; omega
theorem up_in {D : Nat → Bool} {many l j : Nat} (hD : ∀ i, D i = true → i < many) (h : up D l j = true) : j / 64 < szW many l := by
  obtain ⟨i, rfl, h2⟩ := up_iff.1 h
  exact szW_at (hD i h2)
/-- a row of a level, as cells -/
noncomputable def wrC (D : Nat → Bool) (l m : Nat) : Array Value := ((List.range m).map fun j => (.int .u64 (wd D l j) : Value)).toArray
theorem wrC_size (D : Nat → Bool) (l m : Nat) : (wrC D l m).size = m := by simp [wrC]
theorem wrC_at {D : Nat → Bool} {l m j : Nat} (h : j < m) : (wrC D l m)[j]? = some (.int .u64 (wd D l j)) := by simp [wrC, h]
theorem wrC_ext {D E : Nat → Bool} {l m k : Nat} {x : Nat} (hk : k < m) (h1 : wd E l k = x) (h2 : ∀ j, j < m → j ≠ k → wd E l j = wd D l j) : (wrC D l m).setIfInBounds k (.int .u64 x) = wrC E l m := by
  apply Array.ext_getElem?
  intro j
  rw [Array.getElem?_setIfInBounds]
  by_cases hj : j < m
  · rw [wrC_at (D := E) hj]
    by_cases e : k = j
    · subst e
      rw [if_pos rfl, if_pos (by rw [wrC_size]; exact hk), h1]
    · rw [if_neg e, wrC_at hj, h2 j hj (fun q => e q.symm)]
  · rw [Array.getElem?_eq_none (by rw [wrC_size]; omega)]
    split
    · rw [if_neg (by rw [wrC_size]; omega), Array.getElem?_eq_none (by rw [wrC_size]; omega)]
    · rw [Array.getElem?_eq_none (by rw [wrC_size]; omega)]
theorem wrC_zero (l m : Nat) : madeCells #[.int .u64 0] m = wrC (fun _ => false) l m := by
  have e : ∀ j, wd (fun _ => false) l j = 0 := fun j => by
    rw [wd_zero]
    cases h : up (fun _ => false) (l + 1) j with
    | false => rfl
    | true => obtain ⟨i, _, q⟩ := up_iff.1 h; cases q
  apply Array.ext_getElem?
  intro j
  by_cases hj : j < m
  · rw [wrC_at hj, e]
    simp [madeCells, hj, Nat.mod_one]
  · rw [Array.getElem?_eq_none (by rw [size_madeCells]; omega), Array.getElem?_eq_none (by rw [wrC_size]; omega)]
end Go.Proofs.YtadmpgegolmkgaaDoor
namespace Go.Proofs.YtadmpgegolmkgaaDoor
open Go.RowKit
set_option linter.unusedVariables false
set_option linter.unusedSimpArgs false

/-! ### what is due, in memory: a row of rows of words; E: what each level tells of -/
structure DuE (w : World) (db dc : Nat) (eb : Nat → Nat) (L many : Nat) (E : Nat → Nat → Bool) : Prop where
  row : ∀ l, l < L → w.cell? ⟨db, l, none⟩ = some (.slice (some ⟨eb l, 0, none⟩) (szW many l) (szW many l))
  wrd : ∀ l, l < L → w.heap[eb l]? = some (.cells (wrC (E l) l (szW many l)) 63 (0, 0))
  inj : ∀ l m, l < L → m < L → eb l = eb m → l = m
  ne : ∀ l, l < L → eb l ≠ db
  cap : L ≤ dc
  dlt : db < w.heap.size
  hL : L ≤ 64
  hm : many ≤ 2147483648
theorem DuE.elt {w : World} {db dc : Nat} {eb : Nat → Nat} {L many : Nat} {E : Nat → Nat → Bool} (h : DuE w db dc eb L many E) {l : Nat} (hl : l < L) : eb l < w.heap.size := (Array.getElem?_eq_some_iff.1 (h.wrd l hl)).1
theorem DuE.congr {w : World} {db dc : Nat} {eb : Nat → Nat} {L many : Nat} {E E' : Nat → Nat → Bool} (h : DuE w db dc eb L many E) (he : ∀ l, l < L → wrC (E l) l (szW many l) = wrC (E' l) l (szW many l)) : DuE w db dc eb L many E' := ⟨h.row, fun l hl => by rw [← he l hl]; exact h.wrd l hl, h.inj, h.ne, h.cap, h.dlt, h.hL, h.hm⟩
theorem DuE.fx {P : Nat → Prop} {w w' : World} {db dc : Nat} {eb : Nat → Nat} {L many : Nat} {E : Nat → Nat → Bool} (h : DuE w db dc eb L many E) (hb : Fx P w w') (h1 : ¬ P db) (h2 : ∀ l, l < L → ¬ P (eb l)) : DuE w' db dc eb L many E :=
  ⟨fun l hl => by rw [World.cell?_of_block (w := w) (hb.block db h.dlt h1)]; exact h.row l hl, fun l hl => (hb.block _ (h.elt hl) (h2 l hl)).trans (h.wrd l hl), h.inj, h.ne, h.cap, Nat.lt_of_lt_of_le h.dlt hb.size, h.hL, h.hm⟩
def dOwn (eb : Nat → Nat) (L : Nat) : Nat → Prop := fun k => ∃ l, l < L ∧ k = eb l
theorem DuE.put {w : World} {db dc : Nat} {eb : Nat → Nat} {L many : Nat} {E : Nat → Nat → Bool} (h : DuE w db dc eb L many E) {l k : Nat} (hl : l < L) (hk : k < szW many l) (D' : Nat → Bool) (x : Nat) (h1 : wd D' l k = x) (h2 : ∀ j, j < szW many l → j ≠ k → wd D' l j = wd (E l) l j) (E' : Nat → Nat → Bool) (h3 : ∀ m, m < L → E' m = if m = l then D' else E m) :
    DuE (w.setCell ⟨eb l, k, none⟩ (.int .u64 (x : Int))).drew db dc eb L many E' ∧ Fx (dOwn eb L) w (w.setCell ⟨eb l, k, none⟩ (.int .u64 (x : Int))).drew := by
  have hset : (w.setCell ⟨eb l, k, none⟩ (.int .u64 (x : Int))).heap[eb l]? = some (.cells (wrC D' l (szW many l)) 63 (0, 0)) := by
    have := heap_setCell_same w (eb l) k (wrC (E l) l (szW many l)) 63 (.int .u64 (x : Int)) (h.wrd l hl)
    rw [this, wrC_ext hk h1 h2]
  have hoth : ∀ y, y ≠ eb l → (w.setCell ⟨eb l, k, none⟩ (.int .u64 (x : Int))).heap[y]? = w.heap[y]? := fun y hy => Below.heap_setCell w ⟨eb l, k, none⟩ _ y hy
  refine ⟨⟨fun m hm => ?_, fun m hm => ?_, h.inj, h.ne, h.cap, by simpa using h.dlt, h.hL, h.hm⟩, (Fx.set (p := ⟨eb l, k, none⟩) (Fx.refl _ w) (.inl ⟨l, hl, rfl⟩) _).drew⟩
  · rw [World.cell?_of_block (w := w) (show (w.setCell ⟨eb l, k, none⟩ (.int .u64 (x : Int))).drew.heap[db]? = _ from hoth db (fun e => h.ne l hl e.symm))]
    exact h.row m hm
  · rw [h3 m hm]
    by_cases e : m = l
    · subst e
      rw [if_pos rfl]
      exact hset
    · rw [if_neg e]
      exact (hoth _ (fun q => e (h.inj m l hm hl q))).trans (h.wrd m hm)
theorem pow_u64 (b : Nat) (hb : b < 64) : IntKind.u64.wrap ((2 : Int) ^ b) = ((2 ^ b : Nat) : Int) := by
  have h : 2 ^ b < 2 ^ 64 := Nat.pow_lt_pow_right (by decide) hb
  have e : ((2 : Int) ^ b) = ((2 ^ b : Nat) : Int) := by norm_cast
  rw [IntKind.wrap_u64, e]
  exact Int.emod_eq_of_lt (Int.natCast_nonneg _) (Int.ofNat_lt.2 h)
theorem or_pow (x b : Nat) (hx : x < 18446744073709551616) (hb : b < 64) : bits BinOp.or IntKind.u64 (x : Int) (IntKind.u64.wrap ((2 : Int) ^ b)) = ((x ||| 2 ^ b : Nat) : Int) := by
  rw [pow_u64 b hb]
  exact bits_or_u64_nat x _ hx (Nat.pow_lt_pow_right (by decide) hb)
theorem bits_andNot_u64_nat (a b : Nat) (ha : a < 18446744073709551616) (hb : b < 18446744073709551616) : bits .andNot .u64 (a : Int) (b : Int) = ((a &&& (18446744073709551615 - b) : Nat) : Int) := by
  have hx : a &&& (18446744073709551615 - b) < 2 ^ 64 := Nat.lt_of_le_of_lt Nat.and_le_left (by omega)
  have h1 : (BitVec.ofInt 64 (a : Int)).toNat = a := by
    rw [BitVec.ofInt_natCast, BitVec.toNat_ofNat]; exact Nat.mod_eq_of_lt (by omega)
  have h2 : (BitVec.ofInt 64 (b : Int)).toNat = b := by
    rw [BitVec.ofInt_natCast, BitVec.toNat_ofNat]; exact Nat.mod_eq_of_lt (by omega)
  show IntKind.u64.wrap ((BitVec.ofInt 64 (a : Int) &&& ~~~BitVec.ofInt 64 (b : Int)).toNat : Int) = _
  rw [BitVec.toNat_and, BitVec.toNat_not, h1, h2, IntKind.wrap_u64]
  have e : (2 : Nat) ^ 64 - 1 - b = 18446744073709551615 - b := rfl
  rw [e]
  omega
theorem andNot_pow (x b : Nat) (hx : x < 18446744073709551616) (hb : b < 64) : bits BinOp.andNot IntKind.u64 (x : Int) (IntKind.u64.wrap ((2 : Int) ^ b)) = ((x &&& (18446744073709551615 - 2 ^ b) : Nat) : Int) := by
  rw [pow_u64 b hb]
  exact bits_andNot_u64_nat x _ hx (Nat.pow_lt_pow_right (by decide) hb)
set_option maxRecDepth 100000 in
set_option maxHeartbeats 1000000 in
theorem due_add (w : World) (db dc : Nat) (eb : Nat → Nat) (L many : Nat) (D : Nat → Bool) (h : DuE w db dc eb L many fun _ => D) (n : Nat) (hn : n < many) :
    Calls Tryd.prog 60 #[.slice (some ⟨db, 0, none⟩) L dc, .int .i64 n] w fun e w' => e = .returned (.tuple #[]) ∧ Bx (DuE w' db dc eb L many (fun _ => ins n D) ∧ Fx (dOwn eb L) w w') := by
  have hcap := h.cap
  have hL := h.hL
  have hmn := h.hm
  have H0 : Bx (DuE w db dc eb L many (fun m => if m < 0 then ins n D else D) ∧ Fx (dOwn eb L) w w) := ⟨h, Fx.refl _ _⟩
  clear h
  go_enter Tryd.func60, Tryd.ntmps60
  go_wp2
  go_loopg [1, 8] (L + 1) (fun g v1 v8 wr => ∃ l : Nat, g = L + 1 - l ∧ l ≤ L ∧ v8 = .int .i64 l ∧ v1 = .int .i64 ((n / 64 ^ l : Nat) : Int) ∧ Bx (DuE wr db dc eb L many (fun m => if m < l then ins n D else D) ∧ Fx (dOwn eb L) w wr))
  case atStart => exact ⟨0, by simp, by omega, rfl, by simp, H0⟩
  case round =>
    obtain ⟨l, hg, hl, rfl, rfl, HI⟩ := hrel
    clear H0
    by_cases hlt : l < L
    · obtain ⟨m, hm⟩ : ∃ m, n / 64 ^ l = m := ⟨_, rfl⟩
      have hmm : m / 64 < szW many l := by rw [← hm]; exact szW_at hn
      have hml : m ≤ 2147483648 := by rw [← hm]; exact Nat.le_trans (Nat.div_le_self _ _) (by omega)
      have hsl := szW_le (many := many) l
      rw [hm]
      have c0 := HI.out.1.row l hlt
      have he := HI.out.1.wrd l hlt
      rw [if_neg (Nat.lt_irrefl l)] at he
      have c1 : wr.cell? ⟨eb l, m / 64, none⟩ = some (.int .u64 (wd D l (m / 64))) := (cell_of_row wr _ _ _ _ _ he).trans (wrC_at hmm)
      have f1 : wr.frozen? ⟨eb l, m / 64, none⟩ = false := by simp [World.frozen?, he]
      have hlI : (l : Int) < (L : Int) := by omega
      have hl0 : (0 : Int) ≤ (l : Int) := by omega
      clear he
      have hx : wd D l (m / 64) < 18446744073709551616 := word_lt _
      obtain ⟨sz, hsz⟩ : ∃ sz, sz = szW many l := ⟨_, rfl⟩
      obtain ⟨x, hxe⟩ : ∃ x, wd D l (m / 64) = x := ⟨_, rfl⟩
      rw [hxe] at c1 hx
      rw [← hsz] at c0 hmm hsl
      have HSZ : Bx (sz = szW many l) := ⟨hsz⟩
      have HXE : Bx (wd D l (m / 64) = x) := ⟨hxe⟩
      have HM : Bx (n / 64 ^ l = m) := ⟨hm⟩
      clear hsz hxe hm
      go_wp2
      have hor := or_pow x (m % 64) hx (Nat.mod_lt _ (by decide))
      obtain ⟨y, hy⟩ : ∃ y, x ||| 2 ^ (m % 64) = y := ⟨_, rfl⟩
      have hdv : n / 64 ^ (l + 1) = m / 64 := by rw [Nat.pow_succ, ← Nat.div_div_eq_div_mul, HM.out]
      have HN : Bx _ := ⟨HI.out.1.put (k := m / 64) hlt (by rw [← HSZ.out]; exact hmm) (ins n D) y (by rw [wd_ins HM.out.symm, if_pos rfl, HXE.out]; exact hy) (fun j _ hj => by rw [wd_ins HM.out.symm, if_neg hj, if_neg (Nat.lt_irrefl l)]) (fun k => if k < l + 1 then ins n D else D) (fun k hk => by
        by_cases e : k = l
        · subst e; rw [if_pos rfl, if_pos (Nat.lt_succ_self _)]
        · rw [if_neg e]
          by_cases e2 : k < l
          · rw [if_pos e2, if_pos (by omega)]
          · rw [if_neg e2, if_neg (by omega)])⟩
      have HF : Bx _ := ⟨HI.out.2⟩
      rw [hy] at hor
      clear hx HI hy
      go_region
      go_wp2
      go_roundg (L + 1 - (l + 1))
      case measure => omega
      case rel => exact ⟨l + 1, rfl, by omega, by simp, by rw [hdv]; simp, ⟨HN.out.1, HF.out.trans HN.out.2⟩⟩
    · go_wp2
      go_returns
      exact ⟨rfl, ⟨HI.out.1.congr fun k hk => by rw [if_pos (by omega)], HI.out.2⟩⟩
set_option maxRecDepth 100000 in
set_option maxHeartbeats 1000000 in
theorem due_drop (w : World) (db dc : Nat) (eb : Nat → Nat) (L many : Nat) (D : Nat → Bool) (h : DuE w db dc eb L many fun _ => D) (n : Nat) (hn : n < many) :
    Calls Tryd.prog 64 #[.slice (some ⟨db, 0, none⟩) L dc, .int .i64 n] w fun e w' => e = .returned (.tuple #[]) ∧ Bx (DuE w' db dc eb L many (fun _ => del n D) ∧ Fx (dOwn eb L) w w') := by
  have hcap := h.cap
  have hL := h.hL
  have hmn := h.hm
  have H0 : Bx (DuE w db dc eb L many (fun m => if m < 0 then del n D else D) ∧ Fx (dOwn eb L) w w ∧ ∀ j, up (del n D) 0 j = (up D 0 j && j != n / 64 ^ 0)) := ⟨h, Fx.refl _ _, fun j => by rw [up_zero, up_zero, Nat.pow_zero, Nat.div_one]; rfl⟩
  clear h
  go_enter Tryd.func64, Tryd.ntmps64
  go_wp2
  go_loopg [1, 8] (L + 1) (fun g v1 v8 wr => ∃ l : Nat, g = L + 1 - l ∧ l ≤ L ∧ v8 = .int .i64 l ∧ v1 = .int .i64 ((n / 64 ^ l : Nat) : Int) ∧ Bx (DuE wr db dc eb L many (fun m => if m < l then del n D else D) ∧ Fx (dOwn eb L) w wr ∧ ∀ j, up (del n D) l j = (up D l j && j != n / 64 ^ l)))
  case atStart => exact ⟨0, by simp, by omega, rfl, by simp, H0⟩
  case round =>
    obtain ⟨l, hg, hl, rfl, rfl, HI⟩ := hrel
    clear H0
    by_cases hlt : l < L
    · obtain ⟨m, hm⟩ : ∃ m, n / 64 ^ l = m := ⟨_, rfl⟩
      have hmm : m / 64 < szW many l := by rw [← hm]; exact szW_at hn
      have hml : m ≤ 2147483648 := by rw [← hm]; exact Nat.le_trans (Nat.div_le_self _ _) (by omega)
      have hsl := szW_le (many := many) l
      rw [hm]
      have c0 := HI.out.1.row l hlt
      have he := HI.out.1.wrd l hlt
      rw [if_neg (Nat.lt_irrefl l)] at he
      have c1 : wr.cell? ⟨eb l, m / 64, none⟩ = some (.int .u64 (wd D l (m / 64))) := (cell_of_row wr _ _ _ _ _ he).trans (wrC_at hmm)
      have f1 : wr.frozen? ⟨eb l, m / 64, none⟩ = false := by simp [World.frozen?, he]
      have hlI : (l : Int) < (L : Int) := by omega
      have hl0 : (0 : Int) ≤ (l : Int) := by omega
      clear he
      have hx : wd D l (m / 64) < 18446744073709551616 := word_lt _
      obtain ⟨sz, hsz⟩ : ∃ sz, sz = szW many l := ⟨_, rfl⟩
      obtain ⟨x, hxe⟩ : ∃ x, wd D l (m / 64) = x := ⟨_, rfl⟩
      rw [hxe] at c1 hx
      rw [← hsz] at c0 hmm hsl
      have HSZ : Bx (sz = szW many l) := ⟨hsz⟩
      have HXE : Bx (wd D l (m / 64) = x) := ⟨hxe⟩
      have HM : Bx (n / 64 ^ l = m) := ⟨hm⟩
      have hup := HI.out.2.2
      rw [hm] at hup
      clear hsz hxe hm
      have hor := andNot_pow x (m % 64) hx (Nat.mod_lt _ (by decide))
      obtain ⟨y, hy⟩ : ∃ y, x &&& (18446744073709551615 - 2 ^ (m % 64)) = y := ⟨_, rfl⟩
      have hdv : n / 64 ^ (l + 1) = m / 64 := by rw [Nat.pow_succ, ← Nat.div_div_eq_div_mul, HM.out]
      have hyd : wd (del n D) l (m / 64) = y := by rw [wd_del hup, if_pos rfl, HXE.out]; exact hy
      have HP := HI.out.1.put (k := m / 64) hlt (by rw [← HSZ.out]; exact hmm) (del n D) y hyd (fun j _ hj => by rw [wd_del hup, if_neg hj, if_neg (Nat.lt_irrefl l)]) (fun k => if k < l + 1 then del n D else D) (fun k hk => by
        by_cases e : k = l
        · subst e; rw [if_pos rfl, if_pos (Nat.lt_succ_self _)]
        · rw [if_neg e]
          by_cases e2 : k < l
          · rw [if_pos e2, if_pos (by omega)]
          · rw [if_neg e2, if_neg (by omega)])
      have c2 : ((wr.setCell ⟨eb l, m / 64, none⟩ (.int .u64 (y : Int))).drew).cell? ⟨eb l, m / 64, none⟩ = some (.int .u64 (y : Int)) := by
        have he := HP.1.wrd l hlt
        rw [if_pos (Nat.lt_succ_self _)] at he
        rw [cell_of_row _ _ _ _ _ _ he, wrC_at (by rw [← HSZ.out]; exact hmm), hyd]
      have HN : Bx _ := ⟨HP⟩
      have HF : Bx _ := ⟨HI.out.2.1⟩
      rw [hy] at hor
      have hnx := del_next hup
      rw [hyd] at hnx
      have HNX : Bx _ := ⟨hnx⟩
      clear hx HI hy hyd HP hup hnx
      go_wp2
      by_cases hy0 : y = 0
      · subst hy0
        go_region
        go_wp2
        go_roundg (L + 1 - (l + 1))
        case measure => omega
        case rel => exact ⟨l + 1, rfl, by omega, by simp, by rw [hdv]; simp, ⟨HN.out.1, HF.out.trans HN.out.2, by rw [hdv]; exact HNX.out.2 (by first | rfl | trivial)⟩⟩
      · have hyI : ((y : Int) != 0) = true := by simp; omega
        have hyI2 : ((y : Int) == 0) = false := by simp; omega
        go_region
        go_wp2
        go_returns
        refine ⟨rfl, ⟨HN.out.1.congr fun k hk => ?_, HF.out.trans HN.out.2⟩⟩
        by_cases e : k < l + 1
        · rw [if_pos e]
        · rw [if_neg e]
          have hu : up (del n D) k = up D k := by
            obtain ⟨j, rfl⟩ : ∃ j, k = (l + 1) + j := ⟨k - (l + 1), by omega⟩
            rw [up_add (del n D), up_add D, HNX.out.1 hy0]
          unfold wrC wd
          rw [hu]
    · go_wp2
      go_returns
      exact ⟨rfl, ⟨HI.out.1.congr fun k hk => by rw [if_pos (by omega)], HI.out.2.1⟩⟩
theorem tz_key (x a : Nat) (hx : x < 18446744073709551616) (hx0 : x ≠ 0) (hlow : x &&& (18446744073709551616 - x) = a) :
    IntKind.u64.wrap (bits BinOp.and IntKind.u64 (x : Int) (IntKind.u64.wrap (-(x : Int))) * 285870213051353865) / 288230376151711744 = ((a * 285870213051353865 % 18446744073709551616 / 288230376151711744 : Nat) : Int) := by
  have e1 : IntKind.u64.wrap (-(x : Int)) = ((18446744073709551616 - x : Nat) : Int) := by rw [IntKind.wrap_u64]; omega
  rw [e1, bits_and_u64_nat x _ hx (by omega), hlow, IntKind.wrap_u64]
  omega
theorem db_eq : dbT = Lib.deBruijn64tab.map fun n : Nat => (n : Int) := rfl
theorem db_at (i : Nat) (hi : i < 64) : dbT.getD i 0 = ((Lib.deBruijn64tab.getD i 0 : Nat) : Int) := by
  have hl : Lib.deBruijn64tab.length = 64 := rfl
  rw [db_eq, List.getD_eq_getElem?_getD, List.getD_eq_getElem?_getD, List.getElem?_map, List.getElem?_eq_getElem (by omega)]
  rfl
set_option maxRecDepth 100000 in
set_option maxHeartbeats 1000000 in
theorem tz_core (x k idx : Nat) (w : World) (hx0 : ((x : Int) == 0) = false)
    (key : IntKind.u64.wrap (bits BinOp.and IntKind.u64 (x : Int) (IntKind.u64.wrap (-(x : Int))) * 285870213051353865) / 288230376151711744 = (idx : Int))
    (hi : idx < 64) (hk : k < 64) (hcell : w.cell? ⟨2, idx, none⟩ = some (.int .u8 k)) :
    Calls Tryd.prog 63 #[.int .u64 x] w fun e w' => e = .returned (.int .i64 k) ∧ w = w' := by
  go_enter Tryd.func63, Tryd.ntmps63
  go_wp2_with (simp only [key])
  go_ret
  exact ⟨rfl, rfl⟩
theorem tz_all (x : Nat) (hx : x < 18446744073709551616) (hx0 : x ≠ 0) (w : World) (hV : VW w) : Calls Tryd.prog 63 #[.int .u64 (x : Int)] w fun e w' => e = .returned (.int .i64 (Lib.ctz 64 x)) ∧ w = w' := by
  obtain ⟨hlow, hk⟩ := Lib.lowest_bit 64 x hx0 hx
  obtain ⟨hi, htab⟩ := Lib.deBruijn64_at _ hk
  have hc := hV.db _ hi
  rw [db_at _ hi, htab] at hc
  exact tz_core x _ _ w (by simp; omega) (tz_key x _ hx hx0 hlow) hi hk hc
theorem up_out {D : Nat → Bool} {L many : Nat} (hin : ∀ i, D i = true → i < many) (htop : szW many (L - 1) = 1) (hL : 0 < L) {j : Nat} (h : up D L j = true) : j = 0 := by
  obtain ⟨i, rfl, h2⟩ := up_iff.1 h
  have := szW_at (l := L - 1) (hin i h2)
  rw [htop] at this
  obtain ⟨k, rfl⟩ : ∃ k, L = k + 1 := ⟨L - 1, by omega⟩
  rw [Nat.add_sub_cancel] at this
  rw [Nat.pow_succ, ← Nat.div_div_eq_div_mul]
  generalize i / 64 ^ k = z at *
  omega
set_option maxRecDepth 100000 in
set_option maxHeartbeats 1000000 in
theorem take_none (w : World) (db dc : Nat) (eb : Nat → Nat) (L many : Nat) (D : Nat → Bool) (h : DuE w db dc eb L many fun _ => D) (hz : ∀ i, D i = false) (htop : szW many (L - 1) = 1) (hL0 : 0 < L) :
    Calls Tryd.prog 43 #[.slice (some ⟨db, 0, none⟩) L dc] w fun e w' => e = .returned (.tuple #[.int .i64 0, .bool false]) ∧ w = w' := by
  have hcap := h.cap
  have hL := h.hL
  obtain ⟨k, rfl⟩ : ∃ k, L = k + 1 := ⟨L - 1, by omega⟩
  rw [Nat.add_sub_cancel] at htop
  have c0 := h.row k (Nat.lt_succ_self _)
  have he := h.wrd k (Nat.lt_succ_self _)
  rw [htop] at c0 he
  have hw : wd D k 0 = 0 := by
    rw [wd_zero]
    cases hu : up D (k + 1) 0 with
    | false => rfl
    | true => obtain ⟨i, _, q⟩ := up_iff.1 hu; rw [hz i] at q; cases q
  have c1 : w.cell? ⟨eb k, 0, none⟩ = some (.int .u64 0) := by
    rw [cell_of_row w _ _ _ _ _ he, wrC_at (by omega), hw]; rfl
  have e1 : ((k + 1 : Nat) : Int) - 1 = (k : Int) := by omega
  clear h he hz hw
  go_enter Tryd.func43, Tryd.ntmps43
  go_wp2_with (simp only [e1])
  refine wp_loop_rounds 1 ?_
  rw [rounds_succ]
  go_wp2
  go_returns
  exact ⟨rfl, rfl⟩
end Go.Proofs.YtadmpgegolmkgaaDoor
namespace Go.Proofs.YtadmpgegolmkgaaDoor
open Go.RowKit
set_option linter.unusedVariables false
set_option linter.unusedSimpArgs false

/-! ### rows of one's own -/
theorem run_append_zero {P : Program} {w : World} (base : Nat) (t ty e : TypeId) (i : TypeInfo) (size : Nat) (ht : P.underlying t = some (.slice e)) (hi : P.info? e = some i)
    (v : Value) (n : Nat) (xs : List Value) (hown : w.ownsRow base e size v n xs) (p : Option Addr) (c : Nat) :
    (Builtin.append_ #[t, t] ty #[v, .slice p 0 c]).run P w = .ok v w := by
  have hl : ∀ a : Addr, (Go.loadCells a 0).run P w = .ok #[] w := fun a => by
    have := run_loadCells_list (P := P) w a [] (by simp)
    simpa using this
  rcases hown.2 with ⟨rfl, rfl⟩ | ⟨g, cap, cur, rfl, _, _, hnc, _⟩
  · cases p <;> simp [Builtin.append_, run_underlying ht, sizeOf, typeInfo, hi, Builtin.lenOf, Builtin.firstCells, storeCells, hl]
  · cases p <;> simp [Builtin.append_, run_underlying ht, sizeOf, typeInfo, hi, Builtin.lenOf, Builtin.firstCells, storeCells, hl, hnc]
theorem own_same {W W' : World} {base : Nat} {e : TypeId} {s : Nat} {v : Value} {n : Nat} {cs : List Value} (h : W.ownsRow base e s v n cs) (hb : ∀ g o, v.ownBlock = some g → W.heap[g]? = some o → W'.heap[g]? = some o) : W'.ownsRow base e s v n cs := by
  refine ⟨h.1, ?_⟩
  rcases h.2 with h1 | ⟨g, cap, cur, rfl, h2, h3, h4⟩
  · exact .inl h1
  · exact .inr ⟨g, cap, cur, rfl, h2, hb g _ rfl h3, h4⟩
theorem own_base {W : World} {base : Nat} {e : TypeId} {s : Nat} {v : Value} {n : Nat} {cs : List Value} (h : W.ownsRow base e s v n cs) : ∀ g, v.ownBlock = some g → base ≤ g := by
  intro g hg
  rcases h.2 with ⟨rfl, _⟩ | ⟨g', cap, cur, rfl, h2, _⟩
  · cases hg
  · cases hg; exact h2
theorem own_new {wr X : World} {base : Nat} {e : TypeId} {s : Nat} {v : Value} {n : Nat} {cs : List Value} (h : wr.ownsRow base e s v n cs) (hX : Below wr.heap.size wr X) : X.ownsRow base e s v n cs :=
  own_same h (fun g o _ hg => (hX.block g (Array.getElem?_eq_some_iff.1 hg).1).trans hg)
theorem own_low {W : World} {base base' : Nat} {e : TypeId} {s : Nat} {v : Value} {n : Nat} {cs : List Value} (h : W.ownsRow base e s v n cs) (hb : base' ≤ base) : W.ownsRow base' e s v n cs :=
  ⟨h.1, by
    rcases h.2 with h | ⟨g, cap, cur, e, h1, h2⟩
    · exact .inl h
    · exact .inr ⟨g, cap, cur, e, by omega, h2⟩⟩
theorem block_cells (W : World) (g : Nat) (us : Array Value) (t : TypeId) (hg : W.heap[g]? = some (.cells us t (0, 0))) : ∀ (j : Nat) (x : Value), us.toList[j]? = some x → W.cell? ((⟨g, 0, none⟩ : Addr).add j) = some x := by
  intro j x hx
  have e : (⟨g, 0, none⟩ : Addr).add j = ⟨g, j, none⟩ := by
    cases j with
    | zero => simp [Addr.add]
    | succ j => simp [Addr.add]
  rw [e]
  simp only [World.cell?, hg]
  simpa using hx
theorem owns_same {W W' : World} {B : Nat} {e : TypeId} {s : Nat} {v : Value} {n : Nat} {cs : List Value} (h : W.ownsRow B e s v n cs) (hb : ∀ g, B ≤ g → g < W.heap.size → W'.heap[g]? = W.heap[g]?) : W'.ownsRow B e s v n cs := by
  refine ⟨h.1, ?_⟩
  rcases h.2 with hn | ⟨g, cap, cur, rfl, hB, hgg, rest⟩
  · exact .inl hn
  · exact .inr ⟨g, cap, cur, rfl, hB, by rw [hb g hB (Array.getElem?_eq_some_iff.1 hgg).1]; exact hgg, rest⟩
theorem owns_block {W : World} {B : Nat} {e : TypeId} {s : Nat} {v : Value} {n : Nat} {cs : List Value} (h : W.ownsRow B e s v n cs) {g : Nat} (hg : v.ownBlock = some g) : B ≤ g ∧ g < W.heap.size := by
  rcases h.2 with ⟨rfl, _⟩ | ⟨g', cap, cur, rfl, hB, hgg, rest⟩
  · cases hg
  · simp only [Value.ownBlock, Option.some.injEq] at hg
    subst hg
    exact ⟨hB, (Array.getElem?_eq_some_iff.1 hgg).1⟩
theorem owns_kind {W : World} {B : Nat} {e : TypeId} {s : Nat} {v : Value} {n : Nat} {cs : List Value} (h : W.ownsRow B e s v n cs) : ∀ g, v.ownBlock = some g → ∃ c fz, W.heap[g]? = some (.cells c e fz) := by
  intro g hg
  rcases h.2 with ⟨rfl, _⟩ | ⟨g', cap, cur, rfl, hB, hgg, rest⟩
  · cases hg
  · simp only [Value.ownBlock, Option.some.injEq] at hg
    subst hg
    exact ⟨_, _, hgg⟩
theorem cell_blk {w : World} {b i : Nat} {cs : Array Value} {t : TypeId} {fz : Nat × Nat} {v : Value} (h : w.heap[b]? = some (.cells cs t fz)) (hv : cs[i]? = some v) : w.cell? ⟨b, i, none⟩ = some v := by
  rw [World.cell?]
  simp only [h]
  exact hv
theorem frz_blk {w : World} {b i : Nat} {cs : Array Value} {t : TypeId} (h : w.heap[b]? = some (.cells cs t (0, 0))) : w.frozen? ⟨b, i, none⟩ = false := by simp [World.frozen?, h]
theorem heap_lt {w : World} {b : Nat} {o : Obj} (h : w.heap[b]? = some o) : b < w.heap.size := (Array.getElem?_eq_some_iff.1 h).1
theorem heap_newH (w : World) (o : Obj) (H : Nat) (h : w.heap.size = H) : (w.alloc o).heap[H]? = some o := by subst h; exact World.alloc_heap_new w o
theorem wpList_appI {P : Program} {w w' : World} {ops : Array Oper} {rest : List Oper} {o : Oper} {a : Act} {Q : Exit → Act → World → Prop} (hgd : o.guard = none) (s x : Operand) (t : TypeId)
    (ho : o.op = .call { callee := .builtin .append, args := #[s, x], argTypes := #[t, t] }) {v u r : Value} (hs : a.eval s = v) (hx : a.eval x = u) (hr : ∀ ty, (Builtin.append_ #[t, t] ty #[v, u]).run P w = .ok r w')
    (h : wpList P ops Q rest (a.put o.dst r) w') : wpList P ops Q (o :: rest) a w := by
  refine wpList_plain hgd fun K hK => ?_
  unfold Oper.wp
  simp [execOp, ho, resolve, invoke, builtin, hs, hx, hr, Result.andThen]
  exact hK _ _ h
theorem owns_slice {W : World} {B s n : Nat} {t : TypeId} {v : Value} {cs : List Value} (h : W.ownsRow B t s v n cs) : ∃ a c, v = .slice a n c := by
  rcases h.2 with ⟨rfl, rfl⟩ | ⟨g, cap, cur, rfl, _⟩
  · exact ⟨_, _, rfl⟩
  · exact ⟨_, _, rfl⟩
/-- one element behind a row of one's own -/
theorem app1 {e t : TypeId} {i0 : TypeInfo} {z : Value} {s bt : Nat} (ht : Tryd.prog.underlying t = some (.slice e)) (hi : Tryd.prog.info? e = some i0) (hz : i0.zero = some z) (hs : i0.size = s) (hb : i0.bytes = bt) (hzs : z.cells.size = s) (hs0 : 0 < s)
    (W : World) (B : Nat) (v : Value) (n : Nat) (xs : List Value) (ho : W.ownsRow B e s v n xs) (cs : Array Value) (hcs : cs.toList.length = s) (h1 : ∀ u ∈ cs.toList, u.oneCell' = true) (hn : n + 1 ≤ maxLen) (hby : (n + 1) * bt ≤ 140737488355328) (hB : B ≤ W.heap.size) :
    ∃ g c W3, (∀ ty, (Builtin.append_ #[t, t] ty #[v, .slice (some ⟨W.heap.size, 0, none⟩) 1 1]).run Tryd.prog (W.alloc (.cells cs e)) = .ok (.slice (some ⟨g, 0, none⟩) (n + 1) c) W3) ∧ W3.ownsRow B e s (.slice (some ⟨g, 0, none⟩) (n + 1) c) (n + 1) (xs ++ cs.toList) ∧ W.grownBy W3 v.ownBlock ∧ n + 1 ≤ c ∧ (v.ownBlock = some g ∨ W.heap.size ≤ g) := by
  have ho' : (W.alloc (.cells cs e)).ownsRow B e s v n xs := own_new ho (below1 _ _)
  obtain ⟨g, c, W3, r1, r2, r3, r4, r5⟩ := run_append_lies (P := Tryd.prog) (W.alloc (.cells cs e)) t e B e i0 z s bt ht hi hz hs hb hzs hs0 v n xs ho' ⟨W.heap.size, 0, none⟩ 1 1 cs.toList (by omega) (block_cells _ _ _ _ (World.alloc_heap_new W _)) h1 (by omega) hn hby (by simp; omega) _ rfl
  have hc : n + 1 ≤ c := by
    rcases r2.2 with ⟨e1, _⟩ | ⟨g', cap', cur, e1, _, _, q1, _⟩
    · cases e1
    · simp only [Value.slice.injEq] at e1
      obtain ⟨_, _, rfl⟩ := e1
      exact q1
  refine ⟨g, c, W3, fun ty => r1, r2, ⟨r3.os, r3.tape, r3.output, Nat.le_trans (by simp) r3.size, fun k hk hne => ?_⟩, hc, ?_⟩
  · rw [r3.block k (by simp; omega) hne, Below.heap_alloc W _ k hk]
  · rcases r4 with r4 | r4
    · exact .inl r4
    · exact .inr (by rw [r4]; simp)
/-- a list that lies somewhere, behind a row of one's own -/
theorem appL {e t : TypeId} {i0 : TypeInfo} {z : Value} {s bt : Nat} (ht : Tryd.prog.underlying t = some (.slice e)) (hi : Tryd.prog.info? e = some i0) (hz : i0.zero = some z) (hs : i0.size = s) (hb : i0.bytes = bt) (hzs : z.cells.size = s) (hs0 : 0 < s)
    (W : World) (B : Nat) (v : Value) (n : Nat) (xs : List Value) (ho : W.ownsRow B e s v n xs) (p : Option Addr) (m c : Nat) (news : List Value) (hl : news.length = m * s) (hc : 0 < m → ∃ ad, p = some ad ∧ ∀ j u, news[j]? = some u → W.cell? (ad.add j) = some u) (h1 : ∀ u ∈ news, u.oneCell' = true) (hn : n + m ≤ maxLen) (hby : (n + m) * bt ≤ 140737488355328) (hB : B ≤ W.heap.size) :
    ∃ v' W3, (∀ ty, (Builtin.append_ #[t, t] ty #[v, .slice p m c]).run Tryd.prog W = .ok v' W3) ∧ W3.ownsRow B e s v' (n + m) (xs ++ news) ∧ W.grownBy W3 v.ownBlock := by
  by_cases h0 : 0 < m
  · obtain ⟨ad, rfl, hcc⟩ := hc h0
    obtain ⟨g, c, W3, r1, r2, r3, r4, r5⟩ := run_append_lies (P := Tryd.prog) W t e B e i0 z s bt ht hi hz hs hb hzs hs0 v n xs ho ad m c news hl hcc h1 h0 hn hby hB _ rfl
    exact ⟨_, W3, fun ty => r1, r2, r3⟩
  · obtain rfl : m = 0 := by omega
    have : news = [] := List.eq_nil_of_length_eq_zero (by omega)
    subst this
    exact ⟨v, W, fun ty => run_append_zero (P := Tryd.prog) (w := W) B t ty e i0 s ht hi v n xs ho p c, by simpa using ho, World.grownBy.refl _ _⟩
/-- a row stays where one of another kind grows -/
theorem owns_grown {W W' : World} {B s n : Nat} {t t' : TypeId} {v vv : Value} {cs : List Value} (h : W.ownsRow B t s v n cs) (hg : W.grownBy W' vv.ownBlock) (ht : t' ≠ t) (hne : ∀ g, vv.ownBlock = some g → ∃ c fz, W.heap[g]? = some (.cells c t' fz)) : W'.ownsRow B t s v n cs := by
  refine ⟨h.1, ?_⟩
  rcases h.2 with hn | ⟨g, cap, cur, rfl, hB, hgg, rest⟩
  · exact .inl hn
  · refine .inr ⟨g, cap, cur, rfl, hB, ?_, rest⟩
    rw [hg.block g (heap_lt hgg) (fun e => by
      obtain ⟨c, fz, h2⟩ := hne g e.symm
      rw [h2] at hgg
      injection hgg with hgg
      injection hgg with _ hgg
      exact absurd hgg ht)]
    exact hgg
theorem grown_at {W W' : World} {r : Option Nat} (hg : W.grownBy W' r) {b : Nat} {o : Obj} (h : W.heap[b]? = some o) (hr : r ≠ some b) : W'.heap[b]? = some o := by
  rw [hg.block b (heap_lt h) (fun e => hr (by rw [e]))]; exact h
/-- the beginning of a row -/
theorem owns_cut {w : World} {B g n m c s : Nat} {t : TypeId} {xs ys : List Value} (h : w.ownsRow B t s (.slice (some ⟨g, 0, none⟩) n c) n (xs ++ ys)) (hm : xs.length = m * s) (hmn : m ≤ n) : w.ownsRow B t s (.slice (some ⟨g, 0, none⟩) m c) m xs := by
  rcases h.2 with ⟨e, _⟩ | ⟨g', cap', cur, e, hB, hg, q1, q2, q3, q4⟩
  · cases e
  · simp only [Value.slice.injEq, Option.some.injEq, Addr.mk.injEq] at e
    obtain ⟨⟨rfl, _⟩, _, rfl⟩ := e
    refine ⟨hm, .inr ⟨g, c, cur, rfl, hB, hg, by omega, q2, q3, ?_⟩⟩
    have e2 := congrArg (List.take (m * s)) q4
    have hle : m * s ≤ n * s := Nat.mul_le_mul_right _ hmn
    rw [List.take_take, Nat.min_eq_left hle, List.take_append_of_le_length (by omega)] at e2
    rw [e2]
    exact List.take_of_length_le (by omega)
theorem owns_cellj {w : World} {B s n c g : Nat} {e : TypeId} {xs : List Value} (h : w.ownsRow B e s (.slice (some ⟨g, 0, none⟩) n c) n xs) {j : Nat} {u : Value} (hj : xs[j]? = some u) : w.cell? ⟨g, j, none⟩ = some u := by
  have hl : j < n * s := by
    have := (List.getElem?_eq_some_iff.1 hj).1
    have := h.1
    omega
  rw [h.cellAt j hl]; exact hj
end Go.Proofs.YtadmpgegolmkgaaDoor
namespace Go.Proofs.YtadmpgegolmkgaaDoor
open Go.RowKit
set_option linter.unusedVariables false
set_option linter.unusedSimpArgs false

theorem szW_small {many : Nat} : ∀ l, szW many l ≤ many / 2 ^ l + 1
  | 0 => by unfold szW; omega
  | l + 1 => by
    have h := szW_small (many := many) l
    unfold szW
    rw [Nat.pow_succ, ← Nat.div_div_eq_div_mul]
    generalize many / 2 ^ l = z at *
    omega
set_option maxRecDepth 100000 in
set_option maxHeartbeats 1000000 in
theorem take_some (w : World) (hV : VW w) (db dc : Nat) (eb : Nat → Nat) (L many : Nat) (D : Nat → Bool) (h : DuE w db dc eb L many fun _ => D) (hin : ∀ i, D i = true → i < many) (hz : ∃ i, D i = true) (htop : szW many (L - 1) = 1) (hL0 : 0 < L) :
    Calls Tryd.prog 43 #[.slice (some ⟨db, 0, none⟩) L dc] w fun e w' => ∃ n, leastB D n ∧ n < many ∧ e = .returned (.tuple #[.int .i64 (n : Int), .bool true]) ∧ Bx (DuE w' db dc eb L many (fun _ => del n D) ∧ Fx (dOwn eb L) w w') := by
  have hcap := h.cap
  have hL := h.hL
  have hmn := h.hm
  have H : Bx (DuE w db dc eb L many fun _ => D) := ⟨h⟩
  have HT : Bx (VW w) := ⟨hV⟩
  have H0 : Bx (leastB (up D L) 0) := ⟨by
    obtain ⟨i, hi⟩ := hz
    have h1 : up D L (i / 64 ^ L) = true := up_iff.2 ⟨i, rfl, hi⟩
    have h2 := up_out hin htop hL0 h1
    rw [h2] at h1
    exact ⟨h1, fun m hm => by omega⟩⟩
  have HI : Bx (∀ i, D i = true → i < many) := ⟨hin⟩
  clear h hV hin hz htop
  go_enter Tryd.func43, Tryd.ntmps43
  go_wp2
  go_loopg [4, 5] (L + 1) (fun g v4 v5 wr => ∃ l n : Nat, g = l + 1 ∧ l ≤ L ∧ v5 = .int .i64 ((l : Int) - 1) ∧ v4 = .int .i64 (n : Int) ∧ Bx (leastB (up D l) n ∧ w = wr))
  case atStart => exact ⟨L, 0, rfl, Nat.le_refl _, rfl, rfl, ⟨H0.out, rfl⟩⟩
  case round =>
    obtain ⟨l, n, hg, hl, rfl, rfl, HR⟩ := hrel
    clear H0
    obtain ⟨hle, hw⟩ := HR.out
    subst hw
    cases l with
    | succ k =>
      have e1 : ((k + 1 : Nat) : Int) - 1 = (k : Int) := by omega
      rw [e1]
      obtain ⟨q1, q2, q3⟩ := least_down hle
      have c0 := H.out.row k (by omega)
      have he := H.out.wrd k (by omega)
      have hn : n < szW many k := by
        obtain ⟨i, hi1, hi2⟩ := up_iff.1 hle.1
        have := szW_at (l := k) (HI.out i hi2)
        rw [Nat.pow_succ, ← Nat.div_div_eq_div_mul] at hi1
        rw [hi1] at this
        exact this
      have hsm := szW_le (many := many) k
      have c1 : w.cell? ⟨eb k, n, none⟩ = some (.int .u64 (wd D k n)) := (cell_of_row w _ _ _ _ _ he).trans (wrC_at hn)
      have HTZ : Bx (Calls Tryd.prog 63 #[.int .u64 ((wd D k n : Nat) : Int)] w fun e w' => e = .returned (.int .i64 ((Lib.ctz 64 (wd D k n) : Nat) : Int)) ∧ w = w') := ⟨tz_all _ (word_lt _) q1 w HT.out⟩
      have HN : Bx (leastB (up D k) (n * 64 + Lib.ctz 64 (wd D k n))) := ⟨q3⟩
      have hx0 : (((wd D k n : Nat) : Int) == 0) = false := by simp; omega
      clear he hle q1 q3 HR H
      obtain ⟨c, hc⟩ : ∃ c, Lib.ctz 64 (wd D k n) = c := ⟨_, rfl⟩
      rw [hc] at HTZ HN q2
      clear hc
      generalize wd D k n = x at *
      have hkI : (0 : Int) ≤ (k : Int) := by omega
      have hkL : (k : Int) < (L : Int) := by omega
      obtain ⟨sz, hsz⟩ : ∃ sz, szW many k = sz := ⟨_, rfl⟩
      rw [hsz] at c0 hn hsm
      clear hsz
      go_wp2_with (first
        | (go_at_call 63; refine HTZ.out.mono ?_; rintro e w1 ⟨rfl, rfl⟩))
      go_roundg (k + 1)
      case measure => omega
      case rel => exact ⟨k, n * 64 + c, rfl, by omega, by simp, by simp, ⟨HN.out, rfl⟩⟩
    | zero =>
      have e1 : ((0 : Nat) : Int) - 1 = -1 := by omega
      rw [e1]
      rw [up_zero] at hle
      have hnm := HI.out n hle.1
      have HLE : Bx (leastB D n) := ⟨hle⟩
      have HD := due_drop w db dc eb L many D H.out n hnm
      clear hle HR HI
      go_wp2_with (first
        | (go_at_call 64; refine HD.mono ?_; rintro e w1 ⟨rfl, HX⟩))
      go_returns
      exact ⟨n, HLE.out, hnm, rfl, HX⟩
end Go.Proofs.YtadmpgegolmkgaaDoor
