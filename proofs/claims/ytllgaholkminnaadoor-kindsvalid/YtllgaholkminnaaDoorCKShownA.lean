import Derived.Test.YtllgaholkminnaaDoorCKShown
import Derived.Test.YtllgaholkminnaaDoorCKOpen
namespace Go.Proofs.YtllgaholkminnaaDoor
open Go.RowKit
theorem shown_any (w : World) (hL : Laid w) : Calls Tryd.prog 10 #[] w fun e w' => e = .returned (.bool true) ∧ Below w.heap.size w w' :=
  shown_of (fun w B nb no nc l mb mn mc hn h0 hl hf => firstOpen_leaf w B nb no nc l mb mn mc hn h0 hl hf) w hL
end Go.Proofs.YtllgaholkminnaaDoor
namespace Go.Proofs.YtllgaholkminnaaDoor
open Go.RowKit
set_option linter.unusedVariables false
/-- shown, in whatever world that has grown -/
theorem shown_in (w : World) (hL : Laid w) : ∀ W, Below w.heap.size w W → Calls Tryd.prog 10 #[] W fun e w' => e = .returned (.bool true) ∧ Below W.heap.size W w' := fun W hb => shown_any W (hL.below hb)
end Go.Proofs.YtllgaholkminnaaDoor
