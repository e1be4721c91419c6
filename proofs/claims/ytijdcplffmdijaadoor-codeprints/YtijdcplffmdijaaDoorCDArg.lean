import Derived.Test.YtijdcplffmdijaaDoorCLaidC
import Derived.Below
import Derived.Lib.SmallJoins
import Derived.Deep.Slices
namespace Go.Proofs.YtijdcplffmdijaaDoor
open Go.ChangeShapes Go.WideShapes Go.ChangeAt Go.RowKit
set_option linter.unusedVariables false
set_option linter.unusedSimpArgs false

section
variable {H : Type} {enc : TypeId × Value → H} {W : World} {base : Nat} {sp : Nat → Bool} {held : Bool}
set_option maxRecDepth 100000 in
/-- A NUMBER THAT CAME IN -/
theorem int_of {v : Value} {ba : Nat} {d : DataW H} {p : List MemPlace} (hv : Value.okWide Tryd.prog W .any ba 3 v) (h : ∃ fuel, DataW.trod enc Tryd.prog W base sp held fuel 3 v.cells.toList = some (d, p)) :
    ∃ n : Int, v = .int .i64 n ∧ I64 n := by
  obtain ⟨n, rfl⟩ := okWide_int Tryd.underlying3 hv
  obtain ⟨fuel, hf⟩ := h
  obtain ⟨k, e, _, w0⟩ := DataW.trod_int Tryd.underlying3 (show DataW.trod enc Tryd.prog W base sp held fuel 3 [.int .i64 n] = some (d, p) by simpa [Value.cells] using hf)
  simp only [List.cons.injEq, and_true, Value.int.injEq, true_and] at e
  subst e
  exact ⟨n, rfl, bounds_i64 w0⟩
set_option maxRecDepth 100000 in
/-- A TEXT THAT CAME IN -/
theorem str_of {v : Value} {ba : Nat} {d : DataW H} {p : List MemPlace} (hv : Value.okWide Tryd.prog W .any ba 9 v) (h : ∃ fuel, DataW.trod enc Tryd.prog W base sp held fuel 9 v.cells.toList = some (d, p)) : ∃ s : ByteArray, v = .string s ∧ s.size ≤ maxLen := by
  obtain ⟨n, rfl⟩ := okWide_string Tryd.underlying9 hv
  obtain ⟨fuel, hf⟩ := h
  obtain ⟨k, e, _, w0⟩ := DataW.trod_string Tryd.underlying9 (show DataW.trod enc Tryd.prog W base sp held fuel 9 [.string n] = some (d, p) by simpa [Value.cells] using hf)
  simp only [List.cons.injEq, and_true, Value.string.injEq] at e
  subst e
  exact ⟨n, rfl, w0⟩
end
end Go.Proofs.YtijdcplffmdijaaDoor
