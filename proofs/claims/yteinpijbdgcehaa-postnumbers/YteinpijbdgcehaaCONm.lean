import Derived.Test.YteinpijbdgcehaaCOSh
namespace Go.Proofs.Yteinpijbdgcehaa
open Go.RowKit
set_option linter.unusedVariables false
theorem onum_walk (w : World) : Calls Try.prog 5 #[] w fun e w' => e = .returned (.bool true) ∧ Below w.heap.size w w' := by
  go_enter Try.func5, Try.ntmps5
  go_wp2_with (first | (go_at_call 6; refine (shown_any w).mono ?_; rintro e w1 ⟨rfl, hb1⟩))
  go_ret
  exact ⟨rfl, hb1⟩
end Go.Proofs.Yteinpijbdgcehaa
