import Derived.Test.YtllgaholkminnaaDoorCTKfa
import Derived.Test.YtllgaholkminnaaDoorCTKfb
import Derived.Test.YtllgaholkminnaaDoorCTKfc
import Derived.Test.YtllgaholkminnaaDoorCTKfd
import Derived.Test.YtllgaholkminnaaDoorCTKfe
import Derived.Test.YtllgaholkminnaaDoorCTKff
import Derived.Test.YtllgaholkminnaaDoorCTKfg
namespace Go.Proofs.YtllgaholkminnaaDoor
open Go.RowKit
set_option linter.unusedVariables false
set_option linter.unusedSimpArgs false

theorem kind_cases (k : Int) (h : kindI k = true) : k = 1 ∨ k = 2 ∨ k = 3 ∨ k = 4 ∨ k = 5 ∨ k = 6 ∨ k = 7 ∨ k = 11 ∨ k = 12 ∨ k = 13 ∨ k = 14 ∨ k = 15 ∨ k = 16 ∨ k = 17 ∨ k = 18 ∨ k = 19 ∨ k = 20 ∨ k = 21 ∨ k = 22 ∨ k = 23 ∨ k = 24 ∨ k = 25 ∨ k = 31 ∨ k = 32 ∨ k = 33 ∨ k = 34 ∨ k = 35 ∨ k = 36 ∨ k = 37 ∨ k = 38 ∨ k = 39 ∨ k = 40 ∨ k = 41 ∨ k = 42 ∨ k = 43 ∨ k = 44 ∨ k = 45 ∨ k = 46 := by
  unfold kindI typI exprI statI at h
  simp at h
  omega

theorem kidsFit_any (w : World) (ka : Option Addr) (kc nb no nc : Nat) (l : List Nd) (k p num : Int) (ks : List Nat) (nm : ByteArray) (hk : kindI k = true) (h46 : k = 46 → ∃ m : Nat, num = (m : Int) ∧ m ≤ maxLen)
    (H : KSt w nb no nc l num (kW w ka kc nb no nc l.length k p num ks.length nm) (ks, false)) : KFit w ka kc nb no nc l k p num ks nm := by
  rcases kind_cases k hk with rfl | rfl | rfl | rfl | rfl | rfl | rfl | rfl | rfl | rfl | rfl | rfl | rfl | rfl | rfl | rfl | rfl | rfl | rfl | rfl | rfl | rfl | rfl | rfl | rfl | rfl | rfl | rfl | rfl | rfl | rfl | rfl | rfl | rfl | rfl | rfl | rfl | rfl
  · exact kidsFit_1 w ka kc nb no nc l p num ks nm ⟨H⟩
  · exact kidsFit_2 w ka kc nb no nc l p num ks nm ⟨H⟩
  · exact kidsFit_3 w ka kc nb no nc l p num ks nm ⟨H⟩
  · exact kidsFit_4 w ka kc nb no nc l p num ks nm ⟨H⟩
  · exact kidsFit_5 w ka kc nb no nc l p num ks nm ⟨H⟩
  · exact kidsFit_6 w ka kc nb no nc l p num ks nm ⟨H⟩
  · exact kidsFit_7 w ka kc nb no nc l p num ks nm ⟨H⟩
  · exact kidsFit_11 w ka kc nb no nc l p num ks nm ⟨H⟩
  · exact kidsFit_12 w ka kc nb no nc l p num ks nm ⟨H⟩
  · exact kidsFit_13 w ka kc nb no nc l p num ks nm ⟨H⟩
  · exact kidsFit_14 w ka kc nb no nc l p num ks nm ⟨H⟩
  · exact kidsFit_15 w ka kc nb no nc l p num ks nm ⟨H⟩
  · exact kidsFit_16 w ka kc nb no nc l p num ks nm ⟨H⟩
  · exact kidsFit_17 w ka kc nb no nc l p num ks nm ⟨H⟩
  · exact kidsFit_18 w ka kc nb no nc l p num ks nm ⟨H⟩
  · exact kidsFit_19 w ka kc nb no nc l p num ks nm ⟨H⟩
  · exact kidsFit_20 w ka kc nb no nc l p num ks nm ⟨H⟩
  · exact kidsFit_21 w ka kc nb no nc l p num ks nm ⟨H⟩
  · exact kidsFit_22 w ka kc nb no nc l p num ks nm ⟨H⟩
  · exact kidsFit_23 w ka kc nb no nc l p num ks nm ⟨H⟩
  · exact kidsFit_24 w ka kc nb no nc l p num ks nm ⟨H⟩
  · exact kidsFit_25 w ka kc nb no nc l p num ks nm ⟨H⟩
  · exact kidsFit_31 w ka kc nb no nc l p num ks nm ⟨H⟩
  · exact kidsFit_32 w ka kc nb no nc l p num ks nm ⟨H⟩
  · exact kidsFit_33 w ka kc nb no nc l p num ks nm ⟨H⟩
  · exact kidsFit_34 w ka kc nb no nc l p num ks nm ⟨H⟩
  · exact kidsFit_35 w ka kc nb no nc l p num ks nm ⟨H⟩
  · exact kidsFit_36 w ka kc nb no nc l p num ks nm ⟨H⟩
  · exact kidsFit_37 w ka kc nb no nc l p num ks nm ⟨H⟩
  · exact kidsFit_38 w ka kc nb no nc l p num ks nm ⟨H⟩
  · exact kidsFit_39 w ka kc nb no nc l p num ks nm ⟨H⟩
  · exact kidsFit_40 w ka kc nb no nc l p num ks nm ⟨H⟩
  · exact kidsFit_41 w ka kc nb no nc l p num ks nm ⟨H⟩
  · exact kidsFit_42 w ka kc nb no nc l p num ks nm ⟨H⟩
  · exact kidsFit_43 w ka kc nb no nc l p num ks nm ⟨H⟩
  · exact kidsFit_44 w ka kc nb no nc l p num ks nm ⟨H⟩
  · exact kidsFit_45 w ka kc nb no nc l p num ks nm ⟨H⟩
  · obtain ⟨m, rfl, hm⟩ := h46 rfl
    exact kidsFit_46 w ka kc nb no nc l p m hm ks nm ⟨H⟩
end Go.Proofs.YtllgaholkminnaaDoor
