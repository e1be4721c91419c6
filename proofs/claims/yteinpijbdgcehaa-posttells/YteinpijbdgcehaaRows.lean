/-
  NARROWER THAN 'FOR EVERY INPUT', by the rows' own cells (each row's printed sentence says how): PostTells: loops · PostLaws: loops.
  DERIVED. THE GIVEN ROWS OF THIS SEAT. 3 by the template 'for every input the law returns true; each argument reads behind the call as it read before'; 0 by the template 'total and deterministic' (their statements: YteinpijbdgcehaaTotals.lean).
  GIVEN WITH THE SEED: the statements are not yours to turn. If you find one false, say at which input.
  Laid BY PROGRAM, IN A SANDBOX (cutbox-rows.mjs): the forced cells as the released guide's own fill.sh prints them over the translation cea99d7a13483292… (all of the seat's roots in one cut). By AI agents, Wed Nov 11 2026. No macro, syntax, notation, axiom, sorry.
-/
import Derived.Test.YteinpijbdgcehaaChecked
import GoSem.Claim
import GoSem.ClaimJoined
import GoSem.ClaimMapViews
import Derived.JoinedTies
import Derived.KernelRfl
namespace Go.Proofs.Yteinpijbdgcehaa
/- THE CELL 'sum', in the pinned program and in every row, IS THE sha256 OF THE DUMP (.gsa) THAT YteinpijbdgcehaaProg.lean LOADS. Nothing in Lean hashes anything: it is a label: what it is worth is what the hold of that sum in a sandbox is worth. -/
noncomputable def Try.pinned : Pinned := { name := "yteinpijbdgcehaa", sum := "cea99d7a13483292f7af90d7267040f86a329d17f11ec1c4760ae9f7f6b21ab1", checked := Try.checked }
namespace Rows
def none {H : Type} : Left H := { results := [], args := [] }

/-- 'squintlaw13.PostTells': WHATEVER THE INPUT: true; the input reads as it did. -/
def postTellsSpec : ChangeSpec := { name := "postTells", fn := fun _ => fun
  | [d1, d2] => { results := [.lit (.bool true)], args := [d1, d2] }
  | _ => none }
def postTellsRow : OpenClaim := { program := "yteinpijbdgcehaa", sum := "cea99d7a13483292f7af90d7267040f86a329d17f11ec1c4760ae9f7f6b21ab1", func := "squint/squintlaw13.PostTells", spec := "postTells", unfollowed := true, recurses := true, loops := true, apart := false }
def PostTellsSaid : Prop := postTellsRow.holds Try.pinned (OpenSpec.ofChange postTellsSpec)

/-- ITS FALSE NEIGHBOUR: 'it returns false'. Refute it at one input. -/
def postTellsWrong : ChangeSpec := { name := "postTells", fn := fun _ => fun
  | [d1, d2] => { results := [.lit (.bool false)], args := [d1, d2] }
  | _ => none }
def PostTellsWrongFalsely : Prop := postTellsRow.holds Try.pinned (OpenSpec.ofChange postTellsWrong)

/-- 'squintlaw13.PostLaws': WHATEVER THE INPUT: true; the input reads as it did. -/
def postLawsSpec : ChangeSpec := { name := "postLaws", fn := fun _ => fun
  | [d1, d2] => { results := [.lit (.bool true)], args := [d1, d2] }
  | _ => none }
def postLawsRow : OpenClaim := { program := "yteinpijbdgcehaa", sum := "cea99d7a13483292f7af90d7267040f86a329d17f11ec1c4760ae9f7f6b21ab1", func := "squint/squintlaw13.PostLaws", spec := "postLaws", unfollowed := true, recurses := true, loops := true, apart := false }
def PostLawsSaid : Prop := postLawsRow.holds Try.pinned (OpenSpec.ofChange postLawsSpec)

/-- ITS FALSE NEIGHBOUR: 'it returns false'. Refute it at one input. -/
def postLawsWrong : ChangeSpec := { name := "postLaws", fn := fun _ => fun
  | [d1, d2] => { results := [.lit (.bool false)], args := [d1, d2] }
  | _ => none }
def PostLawsWrongFalsely : Prop := postLawsRow.holds Try.pinned (OpenSpec.ofChange postLawsWrong)

/-- 'squintlaw13.PostNumbers': WHATEVER THE INPUT: true; the input reads as it did. -/
def postNumbersSpec : ChangeSpec := { name := "postNumbers", fn := fun _ => fun
  | [] => { results := [.lit (.bool true)], args := [] }
  | _ => none }
def postNumbersRow : OpenClaim := { program := "yteinpijbdgcehaa", sum := "cea99d7a13483292f7af90d7267040f86a329d17f11ec1c4760ae9f7f6b21ab1", func := "squint/squintlaw13.PostNumbers", spec := "postNumbers", unfollowed := true, recurses := true, apart := false }
def PostNumbersSaid : Prop := postNumbersRow.holds Try.pinned (OpenSpec.ofChange postNumbersSpec)

/-- ITS FALSE NEIGHBOUR: 'it returns false'. Refute it at one input. -/
def postNumbersWrong : ChangeSpec := { name := "postNumbers", fn := fun _ => fun
  | [] => { results := [.lit (.bool false)], args := [] }
  | _ => none }
def PostNumbersWrongFalsely : Prop := postNumbersRow.holds Try.pinned (OpenSpec.ofChange postNumbersWrong)

/- THE SECOND FORM. 'bulk': how many values and letters a reading holds, each counted each time it is reached (what is shared counts as often as it is met; a slice's spare places count too). A statement '..UptoSaid' is the law's where the arguments, and the package variables that the reading takes, are together of bulk at most 1048576: NARROWER than '..Said'. Prove '..Said' where nothing that the law and all that it calls make is longer than what came in: it says more and counts as full. Else prove '..UptoSaid'. A law counts once. -/
mutual
def uptoBulk {H : Type} : DataW H → Nat
  | .lit (.string bytes) => bytes.length + 1
  | .lit _ => 1
  | .nil => 1
  | .ptr d => uptoBulk d + 1
  | .slice elems spare => uptoBulkAll elems + uptoBulkAll spare + 1
  | .agg parts => uptoBulkAll parts + 1
  | .iface _ d => uptoBulk d + 1
  | .map entries => uptoBulkEntries entries + 1
  | .held _ => 1
def uptoBulkAll {H : Type} : List (DataW H) → Nat
  | [] => 0
  | d :: r => uptoBulk d + uptoBulkAll r
def uptoBulkEntries {H : Type} : List (Lit × DataW H) → Nat
  | [] => 0
  | x :: r => uptoBulkEntry x + uptoBulkEntries r
def uptoBulkEntry {H : Type} : Lit × DataW H → Nat
  | (.string bytes, d) => bytes.length + uptoBulk d + 1
  | (_, d) => uptoBulk d + 1
 end
def uptoSmall : (H : Type) → List (DataW H) → Bool := fun _ ds => decide (uptoBulkAll ds ≤ 1048576)
def OpenSpec.upto (s : _root_.Go.ChangeSpec) : _root_.Go.OpenSpec := { _root_.Go.OpenSpec.ofChange s with cond := some uptoSmall }

/-- 'squintlaw13.PostTells', WHERE WHAT IT READS IS OF BULK AT MOST 1048576: true; the input reads as it did. -/
def postTellsUptoRow : OpenClaim := { program := "yteinpijbdgcehaa", sum := "cea99d7a13483292f7af90d7267040f86a329d17f11ec1c4760ae9f7f6b21ab1", func := "squint/squintlaw13.PostTells", spec := "postTells", unfollowed := true, recurses := true, loops := true, apart := false, narrowed := true }
def PostTellsUptoSaid : Prop := postTellsUptoRow.holds Try.pinned (OpenSpec.upto postTellsSpec)

/-- 'squintlaw13.PostLaws', WHERE WHAT IT READS IS OF BULK AT MOST 1048576: true; the input reads as it did. -/
def postLawsUptoRow : OpenClaim := { program := "yteinpijbdgcehaa", sum := "cea99d7a13483292f7af90d7267040f86a329d17f11ec1c4760ae9f7f6b21ab1", func := "squint/squintlaw13.PostLaws", spec := "postLaws", unfollowed := true, recurses := true, loops := true, apart := false, narrowed := true }
def PostLawsUptoSaid : Prop := postLawsUptoRow.holds Try.pinned (OpenSpec.upto postLawsSpec)

/-- 'squintlaw13.PostNumbers', WHERE WHAT IT READS IS OF BULK AT MOST 1048576: true; the input reads as it did. -/
def postNumbersUptoRow : OpenClaim := { program := "yteinpijbdgcehaa", sum := "cea99d7a13483292f7af90d7267040f86a329d17f11ec1c4760ae9f7f6b21ab1", func := "squint/squintlaw13.PostNumbers", spec := "postNumbers", unfollowed := true, recurses := true, apart := false, narrowed := true }
def PostNumbersUptoSaid : Prop := postNumbersUptoRow.holds Try.pinned (OpenSpec.upto postNumbersSpec)

end Rows
end Go.Proofs.Yteinpijbdgcehaa
