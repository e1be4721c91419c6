import Derived.Test.YtecodpdfckjalaaGreatDoorZPSg
import Derived.Test.YtecodpdfckjalaaGreatDoorZRShR
import Derived.Test.YtecodpdfckjalaaGreatDoorZTTks
import Derived.Test.YtecodpdfckjalaaGreatDoorZTPlain
set_option linter.unusedVariables false
set_option linter.unusedSimpArgs false
set_option maxHeartbeats 4000000
set_option maxRecDepth 100000
namespace Go.Proofs.YtecodpdfckjalaaGreatDoor
open Go.RowKit
theorem BH (pre s z : List UInt8) : cut (pre ++ (s ++ z)) pre.length (pre.length + s.length) = s := by
 unfold cut
 rw [List.drop_left, show pre.length + s.length - pre.length = s.length by omega, List.take_left]
theorem k21 : (xx [109, 97, 107, 101]).kind = 21 := by kernel_rfl
theorem k22 : (xx [111, 102]).kind = 22 := by kernel_rfl
theorem k23 : (xx [112, 114, 111, 103]).kind = 23 := by kernel_rfl
theorem k30 : (xx [119, 104, 105, 108, 101]).kind = 30 := by kernel_rfl
def Stop (s : List ax) : Prop := kd s ≠ 40 /\ kd s ≠ 42 /\ kd s ≠ 49 /\ kd s ≠ 48




def er (n : Nd) : Nd := ⟨n.kind, 0, n.kids, n.name, n.num⟩
end Go.Proofs.YtecodpdfckjalaaGreatDoor
namespace Go.Proofs.YtecodpdfckjalaaGreatDoor

end Go.Proofs.YtecodpdfckjalaaGreatDoor
