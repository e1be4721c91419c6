/-
  No cell of these rows narrows 'for every input' (looked for: loops, veiled, ifaces, maps, wideKeys, modest, calm, conditions, laid).
  DERIVED. THE GIVEN ROWS OF THIS SEAT. 3 by the template 'for every input the law returns true; each argument reads behind the call as it read before'; 0 by the template 'total and deterministic' (their statements: YtjabdhmkibahlaaTotals.lean).
  GIVEN WITH THE SEED: the statements are not yours to turn. If you find one false, say at which input.
  Laid BY PROGRAM, IN A SANDBOX (cutbox-rows.mjs): the forced cells as the released guide's own fill.sh prints them over the translation 5d94d51a7782f6c7… (all of the seat's roots in one cut). By AI agents, Wed Nov 11 2026. No macro, syntax, notation, axiom, sorry.
-/
import Derived.Test.YtjabdhmkibahlaaChecked
import GoSem.Claim
import GoSem.ClaimJoined
import GoSem.ClaimMapViews
import Derived.JoinedTies
import Derived.KernelRfl
namespace Go.Proofs.Ytjabdhmkibahlaa
/- THE CELL 'sum', in the pinned program and in every row, IS THE sha256 OF THE DUMP (.gsa) THAT YtjabdhmkibahlaaProg.lean LOADS. Nothing in Lean hashes anything: it is a label: what it is worth is what the hold of that sum in a sandbox is worth. -/
noncomputable def Try.pinned : Pinned := { name := "ytjabdhmkibahlaa", sum := "5d94d51a7782f6c7f7a3c3ac6ab7c5a53d0bd81ce95b0b1ad5de39cfba0614f4", checked := Try.checked }
namespace Rows
def none {H : Type} : Left H := { results := [], args := [] }

/-- 'squintlaw14.CapsChecks': WHATEVER THE INPUT: true; the input reads as it did. -/
def capsChecksSpec : ChangeSpec := { name := "capsChecks", fn := fun _ => fun
  | [d1, d2, d3] => { results := [.lit (.bool true)], args := [d1, d2, d3] }
  | _ => none }
def capsChecksRow : OpenClaim := { program := "ytjabdhmkibahlaa", sum := "5d94d51a7782f6c7f7a3c3ac6ab7c5a53d0bd81ce95b0b1ad5de39cfba0614f4", func := "squint/squintlaw14.CapsChecks", spec := "capsChecks", unfollowed := true, recurses := true, plainKeys := false, apart := false }
def CapsChecksSaid : Prop := capsChecksRow.holds Try.pinned (OpenSpec.ofChange capsChecksSpec)

/-- ITS FALSE NEIGHBOUR: 'it returns false'. Refute it at one input. -/
def capsChecksWrong : ChangeSpec := { name := "capsChecks", fn := fun _ => fun
  | [d1, d2, d3] => { results := [.lit (.bool false)], args := [d1, d2, d3] }
  | _ => none }
def CapsChecksWrongFalsely : Prop := capsChecksRow.holds Try.pinned (OpenSpec.ofChange capsChecksWrong)

/-- 'squintlaw14.CapsTakes': WHATEVER THE INPUT: true; the input reads as it did. -/
def capsTakesSpec : ChangeSpec := { name := "capsTakes", fn := fun _ => fun
  | [d1, d2] => { results := [.lit (.bool true)], args := [d1, d2] }
  | _ => none }
def capsTakesRow : OpenClaim := { program := "ytjabdhmkibahlaa", sum := "5d94d51a7782f6c7f7a3c3ac6ab7c5a53d0bd81ce95b0b1ad5de39cfba0614f4", func := "squint/squintlaw14.CapsTakes", spec := "capsTakes", unfollowed := true, recurses := true, plainKeys := false, apart := false }
def CapsTakesSaid : Prop := capsTakesRow.holds Try.pinned (OpenSpec.ofChange capsTakesSpec)

/-- ITS FALSE NEIGHBOUR: 'it returns false'. Refute it at one input. -/
def capsTakesWrong : ChangeSpec := { name := "capsTakes", fn := fun _ => fun
  | [d1, d2] => { results := [.lit (.bool false)], args := [d1, d2] }
  | _ => none }
def CapsTakesWrongFalsely : Prop := capsTakesRow.holds Try.pinned (OpenSpec.ofChange capsTakesWrong)

/-- 'squintlaw15.DetectDead': WHATEVER THE INPUT: true; the input reads as it did. -/
def detectDeadSpec : ChangeSpec := { name := "detectDead", fn := fun _ => fun
  | [d1, d2] => { results := [.lit (.bool true)], args := [d1, d2] }
  | _ => none }
def detectDeadRow : OpenClaim := { program := "ytjabdhmkibahlaa", sum := "5d94d51a7782f6c7f7a3c3ac6ab7c5a53d0bd81ce95b0b1ad5de39cfba0614f4", func := "squint/squintlaw15.DetectDead", spec := "detectDead", unfollowed := true, recurses := true, plainKeys := false, apart := false }
def DetectDeadSaid : Prop := detectDeadRow.holds Try.pinned (OpenSpec.ofChange detectDeadSpec)

/-- ITS FALSE NEIGHBOUR: 'it returns false'. Refute it at one input. -/
def detectDeadWrong : ChangeSpec := { name := "detectDead", fn := fun _ => fun
  | [d1, d2] => { results := [.lit (.bool false)], args := [d1, d2] }
  | _ => none }
def DetectDeadWrongFalsely : Prop := detectDeadRow.holds Try.pinned (OpenSpec.ofChange detectDeadWrong)

/- THE SECOND FORM. 'bulk': how many values and letters a reading holds, each counted each time it is reached (what is shared counts as often as it is met; a slice's spare places count too). A statement '..UptoSaid' is the law's where the arguments, and the package variables that the reading takes, are together of bulk at most 1048576: NARROWER than '..Said'. Prove '..Said' where nothing that the law and all that it calls make is longer than what came in: it says more and counts as full. Else prove '..UptoSaid'. A law counts once. -/
mutual
def uptoBulk {H : Type} : DataW H → Nat
  | .lit (.string bytes) => bytes.length + 1
  | .lit _ => 1
  | .nil => 1
  | .ptr d => uptoBulk d + 1
  | .slice elems spare => uptoBulkAll elems + uptoBulkAll spare + 1
  | .agg parts => uptoBulkAll parts + 1
  | .iface _ d => uptoBulk d + 1
  | .map entries => uptoBulkEntries entries + 1
  | .held _ => 1
def uptoBulkAll {H : Type} : List (DataW H) → Nat
  | [] => 0
  | d :: r => uptoBulk d + uptoBulkAll r
def uptoBulkEntries {H : Type} : List (Lit × DataW H) → Nat
  | [] => 0
  | x :: r => uptoBulkEntry x + uptoBulkEntries r
def uptoBulkEntry {H : Type} : Lit × DataW H → Nat
  | (.string bytes, d) => bytes.length + uptoBulk d + 1
  | (_, d) => uptoBulk d + 1
 end
def uptoSmall : (H : Type) → List (DataW H) → Bool := fun _ ds => decide (uptoBulkAll ds ≤ 1048576)
def OpenSpec.upto (s : _root_.Go.ChangeSpec) : _root_.Go.OpenSpec := { _root_.Go.OpenSpec.ofChange s with cond := some uptoSmall }

/-- 'squintlaw14.CapsChecks', WHERE WHAT IT READS IS OF BULK AT MOST 1048576: true; the input reads as it did. -/
def capsChecksUptoRow : OpenClaim := { program := "ytjabdhmkibahlaa", sum := "5d94d51a7782f6c7f7a3c3ac6ab7c5a53d0bd81ce95b0b1ad5de39cfba0614f4", func := "squint/squintlaw14.CapsChecks", spec := "capsChecks", unfollowed := true, recurses := true, plainKeys := false, apart := false, narrowed := true }
def CapsChecksUptoSaid : Prop := capsChecksUptoRow.holds Try.pinned (OpenSpec.upto capsChecksSpec)

/-- 'squintlaw14.CapsTakes', WHERE WHAT IT READS IS OF BULK AT MOST 1048576: true; the input reads as it did. -/
def capsTakesUptoRow : OpenClaim := { program := "ytjabdhmkibahlaa", sum := "5d94d51a7782f6c7f7a3c3ac6ab7c5a53d0bd81ce95b0b1ad5de39cfba0614f4", func := "squint/squintlaw14.CapsTakes", spec := "capsTakes", unfollowed := true, recurses := true, plainKeys := false, apart := false, narrowed := true }
def CapsTakesUptoSaid : Prop := capsTakesUptoRow.holds Try.pinned (OpenSpec.upto capsTakesSpec)

/-- 'squintlaw15.DetectDead', WHERE WHAT IT READS IS OF BULK AT MOST 1048576: true; the input reads as it did. -/
def detectDeadUptoRow : OpenClaim := { program := "ytjabdhmkibahlaa", sum := "5d94d51a7782f6c7f7a3c3ac6ab7c5a53d0bd81ce95b0b1ad5de39cfba0614f4", func := "squint/squintlaw15.DetectDead", spec := "detectDead", unfollowed := true, recurses := true, plainKeys := false, apart := false, narrowed := true }
def DetectDeadUptoSaid : Prop := detectDeadUptoRow.holds Try.pinned (OpenSpec.upto detectDeadSpec)

end Rows
end Go.Proofs.Ytjabdhmkibahlaa
