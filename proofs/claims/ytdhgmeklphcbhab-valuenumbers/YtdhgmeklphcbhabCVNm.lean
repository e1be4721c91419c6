import Derived.Test.YtdhgmeklphcbhabCVSh
namespace Go.Proofs.Ytdhgmeklphcbhab
open Go.RowKit
set_option linter.unusedVariables false
theorem vnum_walk (w : World) : Calls Try.prog 3 #[] w fun e w' => e = .returned (.bool true) ∧ Below w.heap.size w w' := by
  go_enter Try.func3, Try.ntmps3
  go_wp2_with (first | (go_at_call 4; refine (shown_any w).mono ?_; rintro e w1 ⟨rfl, hb1⟩))
  go_ret
  exact ⟨rfl, hb1⟩
end Go.Proofs.Ytdhgmeklphcbhab
