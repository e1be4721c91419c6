namespace Go.Proofs.YtblhklbpcalglaaGreatDoor
def blankI (c : Int) : Bool := c == 9 || c == 10 || c == 13 || c == 32
def remI (c : Int) : Bool := c != 10
def wsI (c : Int) : Bool := (decide (97 ≤ c) && decide (c ≤ 122)) || (decide (65 ≤ c) && decide (c ≤ 90)) || c == 95
def digI (c : Int) : Bool := decide (48 ≤ c) && decide (c ≤ 57)
def wbI (c : Int) : Bool := wsI c || digI c
def spanL (p : Int → Bool) : List UInt8 → Nat
  | [] => 0
  | b :: r => if p b.toNat then spanL p r + 1 else 0
theorem spanL_le (p : Int → Bool) : ∀ l : List UInt8, spanL p l ≤ l.length
  | [] => Nat.le_refl _
  | b :: r => by
    have := spanL_le p r
    simp only [spanL, List.length_cons]
    split <;> omega
def skipL : Bool → List UInt8 → Nat
  | _, [] => 0
  | true, b :: r => if remI b.toNat then skipL true r + 1 else skipL false r + 1
  | false, b :: r => if blankI b.toNat then skipL false r + 1 else if (b.toNat : Int) == 35 then skipL true r + 1 else 0
theorem skipL_le : ∀ (t : Bool) (l : List UInt8), skipL t l ≤ l.length
  | _, [] => by simp [skipL]
  | true, b :: r => by
    have h1 := skipL_le true r
    have h2 := skipL_le false r
    simp only [skipL, List.length_cons]
    split <;> omega
  | false, b :: r => by
    have h1 := skipL_le true r
    have h2 := skipL_le false r
    simp only [skipL, List.length_cons]
    split
    · omega
    · split <;> omega
theorem skipL_rem : ∀ l : List UInt8, skipL true l = spanL remI l + skipL false (l.drop (spanL remI l))
  | [] => by simp [skipL, spanL]
  | b :: r => by
    by_cases h : remI (b.toNat : Int) = true
    · have ih := skipL_rem r
      simp only [skipL, spanL, h, if_true, List.drop_succ_cons]
      omega
    · have h10 : blankI (b.toNat : Int) = true := by
        simp only [remI, bne_iff_ne, ne_eq, Decidable.not_not] at h
        rw [h]; rfl
      simp [skipL, spanL, h, h10]
theorem drop_at (xs : List UInt8) (k : Nat) (h : k < xs.length) : xs.drop k = xs[k] :: xs.drop (k + 1) := List.drop_eq_getElem_cons h
def spanTo (p : Int → Bool) (xs : List UInt8) (k : Nat) : Nat := k + spanL p (xs.drop k)
def skipTo (xs : List UInt8) (k : Nat) : Nat := k + skipL false (xs.drop k)
theorem spanTo_le (p : Int → Bool) (xs : List UInt8) (k : Nat) (h : k ≤ xs.length) : k ≤ spanTo p xs k ∧ spanTo p xs k ≤ xs.length := by
  have := spanL_le p (xs.drop k)
  simp only [List.length_drop] at this
  unfold spanTo
  omega
theorem skipTo_le (xs : List UInt8) (k : Nat) (h : k ≤ xs.length) : k ≤ skipTo xs k ∧ skipTo xs k ≤ xs.length := by
  have := skipL_le false (xs.drop k)
  simp only [List.length_drop] at this
  unfold skipTo
  omega
theorem spanTo_yes (p : Int → Bool) (xs : List UInt8) (k : Nat) (h : k < xs.length) (hp : p (xs[k].toNat : Int) = true) : spanTo p xs k = spanTo p xs (k + 1) := by
  unfold spanTo
  rw [drop_at xs k h]
  simp only [spanL, hp, if_true]
  omega
theorem spanTo_no (p : Int → Bool) (xs : List UInt8) (k : Nat) (h : k < xs.length) (hp : p (xs[k].toNat : Int) = false) : spanTo p xs k = k := by
  unfold spanTo
  rw [drop_at xs k h]
  simp [spanL, hp]
theorem spanTo_end (p : Int → Bool) (xs : List UInt8) (k : Nat) (h : xs.length ≤ k) : spanTo p xs k = k := by
  unfold spanTo
  rw [List.drop_eq_nil_of_le h]
  simp [spanL]
theorem skipTo_blank (xs : List UInt8) (k : Nat) (h : k < xs.length) (hp : blankI (xs[k].toNat : Int) = true) : skipTo xs k = skipTo xs (k + 1) := by
  unfold skipTo
  rw [drop_at xs k h]
  simp only [skipL, hp, if_true]
  omega
theorem skipTo_rem (xs : List UInt8) (k : Nat) (h : k < xs.length) (hp : blankI (xs[k].toNat : Int) = false) (hr : ((xs[k].toNat : Int) == 35) = true) : skipTo xs k = skipTo xs (spanTo remI xs k) := by
  have hre : remI (xs[k].toNat : Int) = true := by
    simp only [beq_iff_eq] at hr
    rw [hr]; rfl
  rw [spanTo_yes remI xs k h hre]
  unfold skipTo spanTo
  rw [drop_at xs k h]
  simp only [skipL, hp, hr, if_true, skipL_rem, Bool.false_eq_true, if_false, List.drop_drop]
  omega
theorem skipTo_no (xs : List UInt8) (k : Nat) (h : k < xs.length) (hp : blankI (xs[k].toNat : Int) = false) (hr : ((xs[k].toNat : Int) == 35) = false) : skipTo xs k = k := by
  unfold skipTo
  rw [drop_at xs k h]
  simp [skipL, hp, hr]
theorem skipTo_end (xs : List UInt8) (k : Nat) (h : xs.length ≤ k) : skipTo xs k = k := by
  unfold skipTo
  rw [List.drop_eq_nil_of_le h]
  simp [skipL]
theorem spanTo_rem_gt (xs : List UInt8) (k : Nat) (h : k < xs.length) (hr : ((xs[k].toNat : Int) == 35) = true) : k < spanTo remI xs k := by
  have hre : remI (xs[k].toNat : Int) = true := by
    simp only [beq_iff_eq] at hr
    rw [hr]; rfl
  rw [spanTo_yes remI xs k h hre]
  have := (spanTo_le remI xs (k + 1) (by omega)).1
  omega
end Go.Proofs.YtblhklbpcalglaaGreatDoor
