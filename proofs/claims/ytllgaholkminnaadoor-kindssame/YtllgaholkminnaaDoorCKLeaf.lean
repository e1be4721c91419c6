import Derived.Test.YtllgaholkminnaaDoorCKTP
namespace Go.Proofs.YtllgaholkminnaaDoor
/-- each declaration's type is neither a name nor a tuple -/
def LeafD (l : List Nd) : Prop := ∀ i, i < l.length → kdN l i = 45 → ∃ (m : Nat) (r : List Int), (ndN l i).kids = (m : Int) :: r ∧ m < l.length ∧ kdN l m ≠ 3 ∧ kdN l m ≠ 5
end Go.Proofs.YtllgaholkminnaaDoor
