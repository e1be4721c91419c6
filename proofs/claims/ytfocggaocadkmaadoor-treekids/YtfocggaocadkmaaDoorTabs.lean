import Derived.Test.YtfocggaocadkmaaDoorLeaf
namespace Go.Proofs.YtfocggaocadkmaaDoor
open Go.RowKit
set_option linter.unusedVariables false
set_option linter.unusedSimpArgs false

def wordsT : List (List UInt8) := [[97, 114, 114, 97, 121], [98, 101, 103, 105, 110], [98, 111, 111, 108], [99, 97, 115, 101], [99, 104, 97, 110], [101, 108, 115, 101], [102, 97, 108, 115, 101], [102, 105, 108, 108], [105, 102], [105, 110, 116], [108, 101, 110], [109, 97, 107, 101], [111, 102], [112, 114, 111, 103], [114, 101, 116, 117, 114, 110], [115, 101, 108, 101, 99, 116], [116, 114, 117, 101], [116, 121, 112, 101], [118, 97, 108], [118, 97, 114], [119, 104, 105, 108, 101]]
def signsT : List (List UInt8) := [[40], [41], [91], [93], [123], [125], [44], [59], [58], [46], [61], [61, 61], [33, 61], [60], [60, 61], [62], [62, 61], [43], [45], [42], [47], [37], [38, 38], [124, 124], [33], [60, 45], [60, 45, 61]]

def strV (l : List UInt8) : Value := .string ⟨l.toArray⟩
def TabAt (w : World) (g : Nat) (T : List (List UInt8)) : Prop := ∀ i, i < T.length → w.cell? ⟨g, i, none⟩ = some (.string ⟨(T.getD i []).toArray⟩)

/-- the first of a table that a text is; 0, if none is -/
def kindFrom : List (List UInt8) → Nat → List UInt8 → Nat
  | [], _, _ => 0
  | x :: r, n, t => if x == t then n else kindFrom r (n + 1) t


theorem kindFrom_yes (T : List (List UInt8)) (j n : Nat) (t : List UInt8) (h : j < T.length) (hq : (T[j]?.getD [] == t) = true) : kindFrom (T.drop j) n t = n := by
  rw [List.drop_eq_getElem_cons h]
  rw [List.getElem?_eq_getElem h, Option.getD_some] at hq
  simp only [kindFrom, hq, if_true]
theorem kindFrom_no (T : List (List UInt8)) (j n : Nat) (t : List UInt8) (h : j < T.length) (hq : (T[j]?.getD [] == t) = false) : kindFrom (T.drop j) n t = kindFrom (T.drop (j + 1)) (n + 1) t := by
  rw [List.drop_eq_getElem_cons h]
  rw [List.getElem?_eq_getElem h, Option.getD_some] at hq
  simp only [kindFrom, hq, Bool.false_eq_true, if_false]
theorem kindFrom_le : ∀ (T : List (List UInt8)) (n : Nat) (t : List UInt8), kindFrom T n t ≤ n + T.length
  | [], n, t => by simp [kindFrom]
  | x :: r, n, t => by
    have := kindFrom_le r (n + 1) t
    simp only [kindFrom, List.length_cons]
    split <;> omega

def wordK (t : List UInt8) : Nat := kindFrom wordsT 10 t
def signK (t : List UInt8) : Nat := kindFrom signsT 40 t
def kindK (t : List UInt8) : Nat := if wordK t = 0 then signK t else wordK t
theorem wordK_le (t : List UInt8) : wordK t ≤ 31 := kindFrom_le wordsT 10 t
theorem signK_le (t : List UInt8) : signK t ≤ 67 := kindFrom_le signsT 40 t

theorem wordKind_any (s : ByteArray) (w : World) (ht : TabAt w 1 wordsT) :
    Calls Tryd.prog 67 #[.string s] w fun e w' => e = .returned (.int .i64 (wordK s.toList)) ∧ w = w' := by
  go_enter Tryd.func67, Tryd.ntmps67
  go_wp2
  go_loop [4] (fun i => ∃ j : Nat, j ≤ 21 ∧ i = .int .i64 j ∧ Hid (wordK s.toList = kindFrom (wordsT.drop j) (10 + j) s.toList)) (fun i => 21 - (intOf i).toNat)
  case atStart => exact ⟨0, by omega, rfl, rfl⟩
  case round =>
    obtain ⟨j, hj, rfl, H⟩ := hrel
    by_cases hlt : j < 21
    · have hc := ht j hlt
      cases hq : (wordsT[j]?.getD [] == s.toList)
      · have HQ : Hid (wordK s.toList = kindFrom (wordsT.drop (j + 1)) (10 + (j + 1)) s.toList) := by
          have := kindFrom_no wordsT j (10 + j) s.toList hlt hq
          exact H.out.trans this
        go_wp2
        go_round
        case rel => exact ⟨j + 1, by omega, by go_num, HQ⟩
        case measure => simp [intOf]; omega
      · have HQ : Hid (wordK s.toList = 10 + j) := H.out.trans (kindFrom_yes wordsT j (10 + j) s.toList hlt hq)
        go_wp2
        go_ret
        exact ⟨ret_int (by rw [HQ.out]; omega), rfl⟩
    · have HQ : Hid (wordK s.toList = 0) := H.out.trans (by rw [List.drop_eq_nil_of_le (show wordsT.length ≤ j from Nat.le_of_not_lt hlt)]; rfl)
      go_wp2
      go_ret
      exact ⟨ret_int (by rw [HQ.out]; rfl), rfl⟩

/-- the text of a kind, the empty one if it has none -/
def textK (k : Int) : List UInt8 := if 10 ≤ k ∧ k < 31 then wordsT.getD (k - 10).toNat [] else if 40 ≤ k ∧ k < 67 then signsT.getD (k - 40).toNat [] else []

end Go.Proofs.YtfocggaocadkmaaDoor
