import Derived.Test.YtjabdhmkibahlaaCGM
namespace Go.Proofs.Ytjabdhmkibahlaa
open Go.RowKit
set_option linter.unusedVariables false
set_option linter.unusedSimpArgs false

/-! ### what is counted -/
def totA : List Ag → Nat
  | [] => 0
  | a :: r => a.arms.length + a.held.length + 1 + totA r
theorem totA_app (l m : List Ag) : totA (l ++ m) = totA l + totA m := by
  induction l with
  | nil => simp [totA]
  | cons a r ih => rw [List.cons_append, totA, totA, ih]; omega
theorem totA_take (l : List Ag) (i : Nat) (h : i < l.length) : totA (l.take (i + 1)) = totA (l.take i) + (l[i].arms.length + l[i].held.length + 1) := by
  rw [List.take_succ_eq_append_getElem h, totA_app]
  simp [totA]
structure CapN (x : Int) (t : Nat) : Prop where
  lo : (t : Int) ≤ 2147483647 → x = t
  hi : 2147483647 < (t : Int) → x = 2147483648
def moreN (n k : Int) : Int := if n + k ≤ 2147483647 then n + k else 2147483648
theorem moreN_r {n k : Int} (h : 0 ≤ n) (h' : 0 ≤ k) : 0 ≤ moreN n k ∧ moreN n k ≤ 2147483648 := by unfold moreN; split <;> omega
theorem CapN.more {x : Int} {t k : Nat} (h : CapN x t) : CapN (moreN x k) (t + k) := by
  obtain ⟨h1, h2⟩ := h
  unfold moreN
  constructor
  · intro h
    rw [h1 (by omega), if_pos (by omega)]
    omega
  · intro h
    by_cases ht : (t : Int) ≤ 2147483647
    · rw [h1 ht, if_neg (by omega)]
    · rw [h2 (by omega), if_neg (by omega)]
end Go.Proofs.Ytjabdhmkibahlaa
namespace Go.Proofs.Ytjabdhmkibahlaa
set_option linter.unusedVariables false
set_option linter.unusedSimpArgs false

def wldI (h : Hd) : Bool := h.chan == 1 && !h.send || h.chan == 2 && h.send
def Meets (s : List Ag) (i : Nat) (h : Hd) (k : Nat) : Prop := ∃ hk : k < s.length, k ≠ i ∧ ((s[k].awake = true ∧ h.chan ∈ s[k].held) ∨ ∃ b ∈ s[k].arms, b.chan = h.chan ∧ b.send = !h.send)
/-- one arm has somebody at its other end -/
def GoodA (s : List Ag) (i : Nat) (h : Hd) : Prop := h.chan ≠ 0 ∧ (wldI h = true ∨ ∃ k, Meets s i h k)
def Good (s : List Ag) (i : Nat) : Prop := ∃ hi : i < s.length, ∃ h ∈ s[i].arms, GoodA s i h
theorem wld_1 (b : Bool) : wldI ⟨1, b⟩ = !b := by cases b <;> rfl
theorem wld_2 (b : Bool) : wldI ⟨2, b⟩ = b := by cases b <;> rfl
theorem wld_no {c : Int} (h1 : (c == 1) = false) (h2 : (c == 2) = false) (b : Bool) : wldI ⟨c, b⟩ = false := by unfold wldI; simp only [h1, h2, Bool.false_and, Bool.or_false]
/-- what 'any' says: there is one, or what was looked at had none -/
structure AnyI (G P : Prop) (x : Bool) : Prop where
  yes : x = true → G
  no : x = false → P
theorem AnyI.to {G P Q : Prop} {x : Bool} (h : AnyI G P x) (f : P → Q) : AnyI G Q x := ⟨h.yes, fun e => f (h.no e)⟩
end Go.Proofs.Ytjabdhmkibahlaa
