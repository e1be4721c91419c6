import Derived.Test.YtecodpdfckjalaaGreatDoorChecked
import Derived.WalkKit
import Derived.WalkSpells
import Derived.WalkLawsBesides
namespace Go.Proofs.YtecodpdfckjalaaGreatDoor

def blankI (c : Int) : Bool := c == 9 || c == 10 || c == 13 || c == 32
def remI (c : Int) : Bool := c != 10
def wsI (c : Int) : Bool := (decide (97 ≤ c) && decide (c ≤ 122)) || (decide (65 ≤ c) && decide (c ≤ 90)) || c == 95
def digI (c : Int) : Bool := decide (48 ≤ c) && decide (c ≤ 57)
def wbI (c : Int) : Bool := wsI c || digI c

/-- how many bytes at the head are of one class -/
def spanL (p : Int → Bool) : List UInt8 → Nat
  | [] => 0
  | b :: r => if p b.toNat then spanL p r + 1 else 0

theorem spanL_le (p : Int → Bool) : ∀ l : List UInt8, spanL p l ≤ l.length
  | [] => Nat.le_refl _
  | b :: r => by
    have := spanL_le p r
    simp only [spanL, List.length_cons]
    split <;> omega

/-- how many bytes at the head are blanks and remarks; true: inside a remark -/
def skipL : Bool → List UInt8 → Nat
  | _, [] => 0
  | true, b :: r => if remI b.toNat then skipL true r + 1 else skipL false r + 1
  | false, b :: r => if blankI b.toNat then skipL false r + 1 else if (b.toNat : Int) == 35 then skipL true r + 1 else 0

theorem skipL_le : ∀ (t : Bool) (l : List UInt8), skipL t l ≤ l.length
  | _, [] => by simp [skipL]
  | true, b :: r => by
    have h1 := skipL_le true r
    have h2 := skipL_le false r
    simp only [skipL, List.length_cons]
    split <;> omega
  | false, b :: r => by
    have h1 := skipL_le true r
    have h2 := skipL_le false r
    simp only [skipL, List.length_cons]
    split
    · omega
    · split <;> omega

theorem skipL_rem : ∀ l : List UInt8, skipL true l = spanL remI l + skipL false (l.drop (spanL remI l))
  | [] => by simp [skipL, spanL]
  | b :: r => by
    by_cases h : remI (b.toNat : Int) = true
    · have ih := skipL_rem r
      simp only [skipL, spanL, h, if_true, List.drop_succ_cons]
      omega
    · have h10 : blankI (b.toNat : Int) = true := by
        simp only [remI, bne_iff_ne, ne_eq, Decidable.not_not] at h
        rw [h]; rfl
      simp [skipL, spanL, h, h10]

theorem drop_at (xs : List UInt8) (k : Nat) (h : k < xs.length) : xs.drop k = xs[k] :: xs.drop (k + 1) := List.drop_eq_getElem_cons h

/-- where a run that begins at k ends -/
def spanTo (p : Int → Bool) (xs : List UInt8) (k : Nat) : Nat := k + spanL p (xs.drop k)
/-- the first place from k on where neither a blank nor a remark stands -/
def skipTo (xs : List UInt8) (k : Nat) : Nat := k + skipL false (xs.drop k)

theorem spanTo_le (p : Int → Bool) (xs : List UInt8) (k : Nat) (h : k ≤ xs.length) : k ≤ spanTo p xs k ∧ spanTo p xs k ≤ xs.length := by
  have := spanL_le p (xs.drop k)
  simp only [List.length_drop] at this
  unfold spanTo
  omega
theorem skipTo_le (xs : List UInt8) (k : Nat) (h : k ≤ xs.length) : k ≤ skipTo xs k ∧ skipTo xs k ≤ xs.length := by
  have := skipL_le false (xs.drop k)
  simp only [List.length_drop] at this
  unfold skipTo
  omega
theorem spanTo_yes (p : Int → Bool) (xs : List UInt8) (k : Nat) (h : k < xs.length) (hp : p (xs[k].toNat : Int) = true) : spanTo p xs k = spanTo p xs (k + 1) := by
  unfold spanTo
  rw [drop_at xs k h]
  simp only [spanL, hp, if_true]
  omega
theorem spanTo_no (p : Int → Bool) (xs : List UInt8) (k : Nat) (h : k < xs.length) (hp : p (xs[k].toNat : Int) = false) : spanTo p xs k = k := by
  unfold spanTo
  rw [drop_at xs k h]
  simp [spanL, hp]
theorem spanTo_end (p : Int → Bool) (xs : List UInt8) (k : Nat) (h : xs.length ≤ k) : spanTo p xs k = k := by
  unfold spanTo
  rw [List.drop_eq_nil_of_le h]
  simp [spanL]
theorem skipTo_blank (xs : List UInt8) (k : Nat) (h : k < xs.length) (hp : blankI (xs[k].toNat : Int) = true) : skipTo xs k = skipTo xs (k + 1) := by
  unfold skipTo
  rw [drop_at xs k h]
  simp only [skipL, hp, if_true]
  omega
theorem skipTo_rem (xs : List UInt8) (k : Nat) (h : k < xs.length) (hp : blankI (xs[k].toNat : Int) = false) (hr : ((xs[k].toNat : Int) == 35) = true) : skipTo xs k = skipTo xs (spanTo remI xs k) := by
  have hre : remI (xs[k].toNat : Int) = true := by
    simp only [beq_iff_eq] at hr
    rw [hr]; rfl
  rw [spanTo_yes remI xs k h hre]
  unfold skipTo spanTo
  rw [drop_at xs k h]
  simp only [skipL, hp, hr, if_true, skipL_rem, Bool.false_eq_true, if_false, List.drop_drop]
  omega
theorem skipTo_no (xs : List UInt8) (k : Nat) (h : k < xs.length) (hp : blankI (xs[k].toNat : Int) = false) (hr : ((xs[k].toNat : Int) == 35) = false) : skipTo xs k = k := by
  unfold skipTo
  rw [drop_at xs k h]
  simp [skipL, hp, hr]
theorem skipTo_end (xs : List UInt8) (k : Nat) (h : xs.length ≤ k) : skipTo xs k = k := by
  unfold skipTo
  rw [List.drop_eq_nil_of_le h]
  simp [skipL]
theorem spanTo_rem_gt (xs : List UInt8) (k : Nat) (h : k < xs.length) (hr : ((xs[k].toNat : Int) == 35) = true) : k < spanTo remI xs k := by
  have hre : remI (xs[k].toNat : Int) = true := by
    simp only [beq_iff_eq] at hr
    rw [hr]; rfl
  rw [spanTo_yes remI xs k h hre]
  have := (spanTo_le remI xs (k + 1) (by omega)).1
  omega

end Go.Proofs.YtecodpdfckjalaaGreatDoor
namespace Go.Proofs.YtecodpdfckjalaaGreatDoor
open Go.RowKit
set_option linter.unusedVariables false
set_option linter.unusedSimpArgs false

theorem ret_int {k : IntKind} {a b : Int} (h : a = b) : Ending.returned (.int k a) = .returned (.int k b) := by rw [h]

theorem isRemark_any (c : Int) (w : World) : Calls Tryz.prog 60 #[.int .u8 c] w fun e w' => e = .returned (.bool (remI c)) ∧ w = w' := by
  go_enter Tryz.func60, Tryz.ntmps60
  go_wp2
  go_ret
  exact ⟨rfl, rfl⟩

theorem isDigit_any (c : Int) (w : World) : Calls Tryz.prog 63 #[.int .u8 c] w fun e w' => e = .returned (.bool (digI c)) ∧ w = w' := by
  unfold digI
  by_cases h1 : 48 ≤ c
  · go_enter Tryz.func63, Tryz.ntmps63
    go_wp2
    go_ret
    exact ⟨by simp [h1], rfl⟩
  · have h2 : decide (48 ≤ c) = false := by simpa using h1
    rw [h2]
    go_enter Tryz.func63, Tryz.ntmps63
    go_wp2
    go_ret
    exact ⟨by simp, rfl⟩

theorem isBlank_any (c : Int) (w : World) : Calls Tryz.prog 58 #[.int .u8 c] w fun e w' => e = .returned (.bool (blankI c)) ∧ w = w' := by
  unfold blankI
  cases h1 : (c == 9)
  · cases h2 : (c == 10)
    · cases h3 : (c == 13)
      · go_enter Tryz.func58, Tryz.ntmps58
        go_wp2
        go_ret
        exact ⟨by simp, rfl⟩
      · go_enter Tryz.func58, Tryz.ntmps58
        go_wp2
        go_ret
        exact ⟨by simp, rfl⟩
    · go_enter Tryz.func58, Tryz.ntmps58
      go_wp2
      go_ret
      exact ⟨by simp, rfl⟩
  · go_enter Tryz.func58, Tryz.ntmps58
    go_wp2
    go_ret
    exact ⟨by simp, rfl⟩

theorem isWordStart_any (c : Int) (w : World) : Calls Tryz.prog 61 #[.int .u8 c] w fun e w' => e = .returned (.bool (wsI c)) ∧ w = w' := by
  unfold wsI
  cases h1 : decide (97 ≤ c) <;> cases h2 : decide (c ≤ 122) <;> cases h3 : decide (65 ≤ c) <;> cases h4 : decide (c ≤ 90) <;>
    (go_enter Tryz.func61, Tryz.ntmps61
     go_wp2
     go_ret
     exact ⟨by simp, rfl⟩)

theorem isWordByte_any (c : Int) (w : World) : Calls Tryz.prog 79 #[.int .u8 c] w fun e w' => e = .returned (.bool (wbI c)) ∧ w = w' := by
  unfold wbI
  cases h1 : wsI c
  · go_enter Tryz.func79, Tryz.ntmps79
    go_wp2_with (first | (go_at_call 61; refine (isWordStart_any _ _).mono ?_; rintro e w' ⟨rfl, rfl⟩) | (go_at_call 63; refine (isDigit_any _ _).mono ?_; rintro e w' ⟨rfl, rfl⟩))
    go_ret
    exact ⟨by simp, rfl⟩
  · go_enter Tryz.func79, Tryz.ntmps79
    go_wp2_with (first | (go_at_call 61; refine (isWordStart_any _ _).mono ?_; rintro e w' ⟨rfl, rfl⟩) | (go_at_call 63; refine (isDigit_any _ _).mono ?_; rintro e w' ⟨rfl, rfl⟩))
    go_ret
    exact ⟨by simp, rfl⟩

def Src (w : World) (b o : Nat) (xs : List UInt8) : Prop := ∀ i (h : i < xs.length), w.cell? ⟨b, o + i, none⟩ = some (.int .u8 (xs[i].toNat : Int))

theorem span33_any (b o cap : Nat) (xs : List UInt8) (k : Nat) (w : World) (hs : Src w b o xs) (hl : xs.length ≤ maxLen) (hk : k ≤ xs.length) :
    Calls Tryz.prog 59 #[.slice (some ⟨b, o, none⟩) xs.length cap, .int .i64 k, .func (.func 60) #[] #[]] w fun e w' => e = .returned (.int .i64 (spanTo remI xs k)) ∧ w = w' := by
  unfold maxLen at hl
  go_enter Tryz.func59, Tryz.ntmps59
  go_wp2
  go_loop [1] (fun i => ∃ j : Nat, j ≤ xs.length ∧ i = .int .i64 j ∧ Hid (spanTo remI xs k = spanTo remI xs j)) (fun i => xs.length - (intOf i).toNat)
  case atStart => exact ⟨k, hk, rfl, rfl⟩
  case round =>
    obtain ⟨j, hj, rfl, H⟩ := hrel
    by_cases hlt : j < xs.length
    · have hc := hs j hlt
      cases hb : remI (xs[j].toNat : Int)
      · go_wp2_with (first | (go_at_call 60; refine (isRemark_any _ _).mono ?_; rintro e w' ⟨rfl, rfl⟩))
        go_ret
        exact ⟨ret_int (by rw [H.out, spanTo_no _ _ _ hlt hb]), rfl⟩
      · go_wp2_with (first | (go_at_call 60; refine (isRemark_any _ _).mono ?_; rintro e w' ⟨rfl, rfl⟩))
        go_round
        case rel => exact ⟨j + 1, by omega, by go_num, by rw [H.out]; exact spanTo_yes _ _ _ hlt hb⟩
        case measure => simp [intOf]; omega
    · go_wp2
      go_ret
      exact ⟨ret_int (by rw [H.out, spanTo_end _ _ _ (by omega)]), rfl⟩

theorem span36_any (b o cap : Nat) (xs : List UInt8) (k : Nat) (w : World) (hs : Src w b o xs) (hl : xs.length ≤ maxLen) (hk : k ≤ xs.length) :
    Calls Tryz.prog 59 #[.slice (some ⟨b, o, none⟩) xs.length cap, .int .i64 k, .func (.func 63) #[] #[]] w fun e w' => e = .returned (.int .i64 (spanTo digI xs k)) ∧ w = w' := by
  unfold maxLen at hl
  go_enter Tryz.func59, Tryz.ntmps59
  go_wp2
  go_loop [1] (fun i => ∃ j : Nat, j ≤ xs.length ∧ i = .int .i64 j ∧ Hid (spanTo digI xs k = spanTo digI xs j)) (fun i => xs.length - (intOf i).toNat)
  case atStart => exact ⟨k, hk, rfl, rfl⟩
  case round =>
    obtain ⟨j, hj, rfl, H⟩ := hrel
    by_cases hlt : j < xs.length
    · have hc := hs j hlt
      cases hb : digI (xs[j].toNat : Int)
      · go_wp2_with (first | (go_at_call 63; refine (isDigit_any _ _).mono ?_; rintro e w' ⟨rfl, rfl⟩))
        go_ret
        exact ⟨ret_int (by rw [H.out, spanTo_no _ _ _ hlt hb]), rfl⟩
      · go_wp2_with (first | (go_at_call 63; refine (isDigit_any _ _).mono ?_; rintro e w' ⟨rfl, rfl⟩))
        go_round
        case rel => exact ⟨j + 1, by omega, by go_num, by rw [H.out]; exact spanTo_yes _ _ _ hlt hb⟩
        case measure => simp [intOf]; omega
    · go_wp2
      go_ret
      exact ⟨ret_int (by rw [H.out, spanTo_end _ _ _ (by omega)]), rfl⟩

theorem span39_any (b o cap : Nat) (xs : List UInt8) (k : Nat) (w : World) (hs : Src w b o xs) (hl : xs.length ≤ maxLen) (hk : k ≤ xs.length) :
    Calls Tryz.prog 59 #[.slice (some ⟨b, o, none⟩) xs.length cap, .int .i64 k, .func (.func 79) #[] #[]] w fun e w' => e = .returned (.int .i64 (spanTo wbI xs k)) ∧ w = w' := by
  unfold maxLen at hl
  go_enter Tryz.func59, Tryz.ntmps59
  go_wp2
  go_loop [1] (fun i => ∃ j : Nat, j ≤ xs.length ∧ i = .int .i64 j ∧ Hid (spanTo wbI xs k = spanTo wbI xs j)) (fun i => xs.length - (intOf i).toNat)
  case atStart => exact ⟨k, hk, rfl, rfl⟩
  case round =>
    obtain ⟨j, hj, rfl, H⟩ := hrel
    by_cases hlt : j < xs.length
    · have hc := hs j hlt
      cases hb : wbI (xs[j].toNat : Int)
      · go_wp2_with (first | (go_at_call 79; refine (isWordByte_any _ _).mono ?_; rintro e w' ⟨rfl, rfl⟩))
        go_ret
        exact ⟨ret_int (by rw [H.out, spanTo_no _ _ _ hlt hb]), rfl⟩
      · go_wp2_with (first | (go_at_call 79; refine (isWordByte_any _ _).mono ?_; rintro e w' ⟨rfl, rfl⟩))
        go_round
        case rel => exact ⟨j + 1, by omega, by go_num, by rw [H.out]; exact spanTo_yes _ _ _ hlt hb⟩
        case measure => simp [intOf]; omega
    · go_wp2
      go_ret
      exact ⟨ret_int (by rw [H.out, spanTo_end _ _ _ (by omega)]), rfl⟩

theorem skip_any (b o cap : Nat) (xs : List UInt8) (k : Nat) (w : World) (hs : Src w b o xs) (hl : xs.length ≤ maxLen) (hk : k ≤ xs.length) :
    Calls Tryz.prog 35 #[.slice (some ⟨b, o, none⟩) xs.length cap, .int .i64 k] w fun e w' => e = .returned (.int .i64 (skipTo xs k)) ∧ w = w' := by
  have hl0 := hl
  unfold maxLen at hl
  go_enter Tryz.func35, Tryz.ntmps35
  go_wp2
  go_loop [1] (fun i => ∃ j : Nat, j ≤ xs.length ∧ i = .int .i64 j ∧ Hid (skipTo xs k = skipTo xs j)) (fun i => xs.length - (intOf i).toNat)
  case atStart => exact ⟨k, hk, rfl, rfl⟩
  case round =>
    obtain ⟨j, hj, rfl, H⟩ := hrel
    by_cases hlt : j < xs.length
    · have hc := hs j hlt
      cases hb : blankI (xs[j].toNat : Int)
      · cases hr : ((xs[j].toNat : Int) == 35)
        · go_wp2_with (first | (go_at_call 58; refine (isBlank_any _ _).mono ?_; rintro e w' ⟨rfl, rfl⟩))
          go_ret
          exact ⟨ret_int (by rw [H.out, skipTo_no _ _ hlt hb hr]), rfl⟩
        · have hgt := spanTo_rem_gt xs j hlt hr
          have hle := (spanTo_le remI xs j hj).2
          go_wp2_with (first | (go_at_call 58; refine (isBlank_any _ _).mono ?_; rintro e w' ⟨rfl, rfl⟩) | (go_at_call 59; refine (span33_any _ _ _ _ _ _ hs hl0 hj).mono ?_; rintro e w' ⟨rfl, rfl⟩))
          go_round
          case rel => exact ⟨spanTo remI xs j, hle, rfl, by rw [H.out]; exact skipTo_rem _ _ hlt hb hr⟩
          case measure => simp [intOf]; omega
      · go_wp2_with (first | (go_at_call 58; refine (isBlank_any _ _).mono ?_; rintro e w' ⟨rfl, rfl⟩))
        go_round
        case rel => exact ⟨j + 1, by omega, by go_num, by rw [H.out]; exact skipTo_blank _ _ hlt hb⟩
        case measure => simp [intOf]; omega
    · go_wp2
      go_ret
      exact ⟨ret_int (by rw [H.out, skipTo_end _ _ (by omega)]), rfl⟩

/-- of no bytes, wherever it leads -/
theorem skip_none (a : Option Addr) (cap : Nat) (w : World) :
    Calls Tryz.prog 35 #[.slice a 0 cap, .int .i64 0] w fun e w' => e = .returned (.int .i64 0) ∧ w = w' := by
  go_enter Tryz.func35, Tryz.ntmps35
  go_wp2
  go_loop [1] (fun i => i = .int .i64 0) (fun _ => 0)
  case atStart => rfl
  case round =>
    subst hrel
    go_wp2
    go_ret
    exact ⟨rfl, rfl⟩
end Go.Proofs.YtecodpdfckjalaaGreatDoor
namespace Go.Proofs.YtecodpdfckjalaaGreatDoor
open Go.RowKit
set_option linter.unusedVariables false
set_option linter.unusedSimpArgs false

def wordsT : List (List UInt8) := [[97, 114, 114, 97, 121], [98, 101, 103, 105, 110], [98, 111, 111, 108], [99, 97, 115, 101], [99, 104, 97, 110], [101, 108, 115, 101], [102, 97, 108, 115, 101], [102, 105, 108, 108], [105, 102], [105, 110, 116], [108, 101, 110], [109, 97, 107, 101], [111, 102], [112, 114, 111, 103], [114, 101, 116, 117, 114, 110], [115, 101, 108, 101, 99, 116], [116, 114, 117, 101], [116, 121, 112, 101], [118, 97, 108], [118, 97, 114], [119, 104, 105, 108, 101]]
def signsT : List (List UInt8) := [[40], [41], [91], [93], [123], [125], [44], [59], [58], [46], [61], [61, 61], [33, 61], [60], [60, 61], [62], [62, 61], [43], [45], [42], [47], [37], [38, 38], [124, 124], [33], [60, 45], [60, 45, 61]]

def strV (l : List UInt8) : Value := .string ⟨l.toArray⟩
def TabAt (w : World) (g : Nat) (T : List (List UInt8)) : Prop := ∀ i, i < T.length → w.cell? ⟨g, i, none⟩ = some (.string ⟨(T.getD i []).toArray⟩)

/-- the first of a table that a text is; 0, if none is -/
def kindFrom : List (List UInt8) → Nat → List UInt8 → Nat
  | [], _, _ => 0
  | x :: r, n, t => if x == t then n else kindFrom r (n + 1) t


theorem kindFrom_yes (T : List (List UInt8)) (j n : Nat) (t : List UInt8) (h : j < T.length) (hq : (T[j]?.getD [] == t) = true) : kindFrom (T.drop j) n t = n := by
  rw [List.drop_eq_getElem_cons h]
  rw [List.getElem?_eq_getElem h, Option.getD_some] at hq
  simp only [kindFrom, hq, if_true]
theorem kindFrom_no (T : List (List UInt8)) (j n : Nat) (t : List UInt8) (h : j < T.length) (hq : (T[j]?.getD [] == t) = false) : kindFrom (T.drop j) n t = kindFrom (T.drop (j + 1)) (n + 1) t := by
  rw [List.drop_eq_getElem_cons h]
  rw [List.getElem?_eq_getElem h, Option.getD_some] at hq
  simp only [kindFrom, hq, Bool.false_eq_true, if_false]
theorem kindFrom_le : ∀ (T : List (List UInt8)) (n : Nat) (t : List UInt8), kindFrom T n t ≤ n + T.length
  | [], n, t => by simp [kindFrom]
  | x :: r, n, t => by
    have := kindFrom_le r (n + 1) t
    simp only [kindFrom, List.length_cons]
    split <;> omega

def wordK (t : List UInt8) : Nat := kindFrom wordsT 10 t
def signK (t : List UInt8) : Nat := kindFrom signsT 40 t
def kindK (t : List UInt8) : Nat := if wordK t = 0 then signK t else wordK t
theorem wordK_le (t : List UInt8) : wordK t ≤ 31 := kindFrom_le wordsT 10 t
theorem signK_le (t : List UInt8) : signK t ≤ 67 := kindFrom_le signsT 40 t

theorem wordKind_any (s : ByteArray) (w : World) (ht : TabAt w 1 wordsT) :
    Calls Tryz.prog 80 #[.string s] w fun e w' => e = .returned (.int .i64 (wordK s.toList)) ∧ w = w' := by
  go_enter Tryz.func80, Tryz.ntmps80
  go_wp2
  go_loop [4] (fun i => ∃ j : Nat, j ≤ 21 ∧ i = .int .i64 j ∧ Hid (wordK s.toList = kindFrom (wordsT.drop j) (10 + j) s.toList)) (fun i => 21 - (intOf i).toNat)
  case atStart => exact ⟨0, by omega, rfl, rfl⟩
  case round =>
    obtain ⟨j, hj, rfl, H⟩ := hrel
    by_cases hlt : j < 21
    · have hc := ht j hlt
      cases hq : (wordsT[j]?.getD [] == s.toList)
      · have HQ : Hid (wordK s.toList = kindFrom (wordsT.drop (j + 1)) (10 + (j + 1)) s.toList) := by
          have := kindFrom_no wordsT j (10 + j) s.toList hlt hq
          exact H.out.trans this
        go_wp2
        go_round
        case rel => exact ⟨j + 1, by omega, by go_num, HQ⟩
        case measure => simp [intOf]; omega
      · have HQ : Hid (wordK s.toList = 10 + j) := H.out.trans (kindFrom_yes wordsT j (10 + j) s.toList hlt hq)
        go_wp2
        go_ret
        exact ⟨ret_int (by rw [HQ.out]; omega), rfl⟩
    · have HQ : Hid (wordK s.toList = 0) := H.out.trans (by rw [List.drop_eq_nil_of_le (show wordsT.length ≤ j from Nat.le_of_not_lt hlt)]; rfl)
      go_wp2
      go_ret
      exact ⟨ret_int (by rw [HQ.out]; rfl), rfl⟩

/-- the text of a kind, the empty one if it has none -/
def textK (k : Int) : List UInt8 := if 10 ≤ k ∧ k < 31 then wordsT.getD (k - 10).toNat [] else if 40 ≤ k ∧ k < 67 then signsT.getD (k - 40).toNat [] else []

end Go.Proofs.YtecodpdfckjalaaGreatDoor
