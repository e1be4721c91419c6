import Derived.Test.YtfdofdpfdimgiaaCGIc
namespace Go.Proofs.Ytfdofdpfdimgiaa
open Go.RowKit
set_option linter.unusedVariables false
set_option linter.unusedSimpArgs false

/-- CapsKeeps, of whatever agents and whatever number -/
theorem keeps_walk (w : World) (p : Option Addr) (c : Nat) (s : List Ag) (h : AgsR w p c s) (n : Int) (hn : I64 n) :
    Calls Try.prog 5 #[.slice p s.length c, .int .i64 n] w fun e w' => e = .returned (.bool true) ∧ Below w.heap.size w w' := by
  cases hok : stOk s with
  | true => exact keeps_yes w p c s n h hn hok
  | false => exact keeps_no w p c s n h hok
end Go.Proofs.Ytfdofdpfdimgiaa
