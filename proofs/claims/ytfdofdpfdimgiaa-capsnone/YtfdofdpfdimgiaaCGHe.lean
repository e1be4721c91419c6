import Derived.Test.YtfdofdpfdimgiaaCGHc
namespace Go.Proofs.Ytfdofdpfdimgiaa
set_option linter.unusedVariables false
set_option linter.unusedSimpArgs false

def wldI (h : Hd) : Bool := h.chan == 1 && !h.send || h.chan == 2 && h.send
def Meets (s : List Ag) (i : Nat) (h : Hd) (k : Nat) : Prop := ∃ hk : k < s.length, k ≠ i ∧ ((s[k].awake = true ∧ h.chan ∈ s[k].held) ∨ ∃ b ∈ s[k].arms, b.chan = h.chan ∧ b.send = !h.send)
/-- one arm has somebody at its other end -/
def GoodA (s : List Ag) (i : Nat) (h : Hd) : Prop := h.chan ≠ 0 ∧ (wldI h = true ∨ ∃ k, Meets s i h k)
def Good (s : List Ag) (i : Nat) : Prop := ∃ hi : i < s.length, ∃ h ∈ s[i].arms, GoodA s i h
theorem wld_1 (b : Bool) : wldI ⟨1, b⟩ = !b := by cases b <;> rfl
theorem wld_2 (b : Bool) : wldI ⟨2, b⟩ = b := by cases b <;> rfl
theorem wld_no {c : Int} (h1 : (c == 1) = false) (h2 : (c == 2) = false) (b : Bool) : wldI ⟨c, b⟩ = false := by unfold wldI; simp only [h1, h2, Bool.false_and, Bool.or_false]
/-- what 'any' says: there is one, or what was looked at had none -/
structure AnyI (G P : Prop) (x : Bool) : Prop where
  yes : x = true → G
  no : x = false → P
theorem AnyI.to {G P Q : Prop} {x : Bool} (h : AnyI G P x) (f : P → Q) : AnyI G Q x := ⟨h.yes, fun e => f (h.no e)⟩
end Go.Proofs.Ytfdofdpfdimgiaa
