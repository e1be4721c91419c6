/-
  No cell of these rows narrows 'for every input' (looked for: loops, veiled, ifaces, maps, wideKeys, modest, calm, conditions, laid).
  DERIVED. THE GIVEN ROWS OF THIS SEAT. 5 by the template 'for every input the law returns true; each argument reads behind the call as it read before'; 0 by the template 'total and deterministic' (their statements: YtjfabholalnbeabTotals.lean).
  GIVEN WITH THE SEED: the statements are not yours to turn. If you find one false, say at which input.
  Laid BY PROGRAM, IN A SANDBOX (cutbox-rows.mjs): the forced cells as the released guide's own fill.sh prints them over the translation ebcc7f2bfc07ddda… (all of the seat's roots in one cut). By AI agents, Wed Nov 11 2026. No macro, syntax, notation, axiom, sorry.
-/
import Derived.Test.YtjfabholalnbeabChecked
import GoSem.Claim
import GoSem.ClaimJoined
import GoSem.ClaimMapViews
import Derived.JoinedTies
import Derived.KernelRfl
namespace Go.Proofs.Ytjfabholalnbeab
/- THE CELL 'sum', in the pinned program and in every row, IS THE sha256 OF THE DUMP (.gsa) THAT YtjfabholalnbeabProg.lean LOADS. Nothing in Lean hashes anything: it is a label: what it is worth is what the hold of that sum in a sandbox is worth. -/
noncomputable def Try.pinned : Pinned := { name := "ytjfabholalnbeab", sum := "ebcc7f2bfc07ddda5d564fdf08173b55e2411aedd36e2bfd346a9eb2bda13e17", checked := Try.checked }
namespace Rows
def none {H : Type} : Left H := { results := [], args := [] }

/-- 'squintlaw15.DetectChains': WHATEVER THE INPUT: true; the input reads as it did. -/
def detectChainsSpec : ChangeSpec := { name := "detectChains", fn := fun _ => fun
  | [d] => { results := [.lit (.bool true)], args := [d] }
  | _ => none }
def detectChainsRow : OpenClaim := { program := "ytjfabholalnbeab", sum := "ebcc7f2bfc07ddda5d564fdf08173b55e2411aedd36e2bfd346a9eb2bda13e17", func := "squint/squintlaw15.DetectChains", spec := "detectChains", unfollowed := true, recurses := true, plainKeys := false, apart := false }
def DetectChainsSaid : Prop := detectChainsRow.holds Try.pinned (OpenSpec.ofChange detectChainsSpec)

/-- ITS FALSE NEIGHBOUR: 'it returns false'. Refute it at one input. -/
def detectChainsWrong : ChangeSpec := { name := "detectChains", fn := fun _ => fun
  | [d] => { results := [.lit (.bool false)], args := [d] }
  | _ => none }
def DetectChainsWrongFalsely : Prop := detectChainsRow.holds Try.pinned (OpenSpec.ofChange detectChainsWrong)

/-- 'squintlaw15.DetectStays': WHATEVER THE INPUT: true; the input reads as it did. -/
def detectStaysSpec : ChangeSpec := { name := "detectStays", fn := fun _ => fun
  | [d1, d2] => { results := [.lit (.bool true)], args := [d1, d2] }
  | _ => none }
def detectStaysRow : OpenClaim := { program := "ytjfabholalnbeab", sum := "ebcc7f2bfc07ddda5d564fdf08173b55e2411aedd36e2bfd346a9eb2bda13e17", func := "squint/squintlaw15.DetectStays", spec := "detectStays", unfollowed := true, recurses := true, plainKeys := false, apart := false }
def DetectStaysSaid : Prop := detectStaysRow.holds Try.pinned (OpenSpec.ofChange detectStaysSpec)

/-- ITS FALSE NEIGHBOUR: 'it returns false'. Refute it at one input. -/
def detectStaysWrong : ChangeSpec := { name := "detectStays", fn := fun _ => fun
  | [d1, d2] => { results := [.lit (.bool false)], args := [d1, d2] }
  | _ => none }
def DetectStaysWrongFalsely : Prop := detectStaysRow.holds Try.pinned (OpenSpec.ofChange detectStaysWrong)

/-- 'squintlaw15.DetectGone': WHATEVER THE INPUT: true; the input reads as it did. -/
def detectGoneSpec : ChangeSpec := { name := "detectGone", fn := fun _ => fun
  | [d] => { results := [.lit (.bool true)], args := [d] }
  | _ => none }
def detectGoneRow : OpenClaim := { program := "ytjfabholalnbeab", sum := "ebcc7f2bfc07ddda5d564fdf08173b55e2411aedd36e2bfd346a9eb2bda13e17", func := "squint/squintlaw15.DetectGone", spec := "detectGone", unfollowed := true, recurses := true, plainKeys := false, apart := false }
def DetectGoneSaid : Prop := detectGoneRow.holds Try.pinned (OpenSpec.ofChange detectGoneSpec)

/-- ITS FALSE NEIGHBOUR: 'it returns false'. Refute it at one input. -/
def detectGoneWrong : ChangeSpec := { name := "detectGone", fn := fun _ => fun
  | [d] => { results := [.lit (.bool false)], args := [d] }
  | _ => none }
def DetectGoneWrongFalsely : Prop := detectGoneRow.holds Try.pinned (OpenSpec.ofChange detectGoneWrong)

/-- 'squintlaw15.DetectMore': WHATEVER THE INPUT: true; the input reads as it did. -/
def detectMoreSpec : ChangeSpec := { name := "detectMore", fn := fun _ => fun
  | [d1, d2, d3, d4] => { results := [.lit (.bool true)], args := [d1, d2, d3, d4] }
  | _ => none }
def detectMoreRow : OpenClaim := { program := "ytjfabholalnbeab", sum := "ebcc7f2bfc07ddda5d564fdf08173b55e2411aedd36e2bfd346a9eb2bda13e17", func := "squint/squintlaw15.DetectMore", spec := "detectMore", unfollowed := true, recurses := true, plainKeys := false, apart := false }
def DetectMoreSaid : Prop := detectMoreRow.holds Try.pinned (OpenSpec.ofChange detectMoreSpec)

/-- ITS FALSE NEIGHBOUR: 'it returns false'. Refute it at one input. -/
def detectMoreWrong : ChangeSpec := { name := "detectMore", fn := fun _ => fun
  | [d1, d2, d3, d4] => { results := [.lit (.bool false)], args := [d1, d2, d3, d4] }
  | _ => none }
def DetectMoreWrongFalsely : Prop := detectMoreRow.holds Try.pinned (OpenSpec.ofChange detectMoreWrong)

/-- 'squintlaw15.DetectOrder': WHATEVER THE INPUT: true; the input reads as it did. -/
def detectOrderSpec : ChangeSpec := { name := "detectOrder", fn := fun _ => fun
  | [d1, d2] => { results := [.lit (.bool true)], args := [d1, d2] }
  | _ => none }
def detectOrderRow : OpenClaim := { program := "ytjfabholalnbeab", sum := "ebcc7f2bfc07ddda5d564fdf08173b55e2411aedd36e2bfd346a9eb2bda13e17", func := "squint/squintlaw15.DetectOrder", spec := "detectOrder", unfollowed := true, recurses := true, plainKeys := false, apart := false }
def DetectOrderSaid : Prop := detectOrderRow.holds Try.pinned (OpenSpec.ofChange detectOrderSpec)

/-- ITS FALSE NEIGHBOUR: 'it returns false'. Refute it at one input. -/
def detectOrderWrong : ChangeSpec := { name := "detectOrder", fn := fun _ => fun
  | [d1, d2] => { results := [.lit (.bool false)], args := [d1, d2] }
  | _ => none }
def DetectOrderWrongFalsely : Prop := detectOrderRow.holds Try.pinned (OpenSpec.ofChange detectOrderWrong)

/- THE SECOND FORM. 'bulk': how many values and letters a reading holds, each counted each time it is reached (what is shared counts as often as it is met; a slice's spare places count too). A statement '..UptoSaid' is the law's where the arguments, and the package variables that the reading takes, are together of bulk at most 1048576: NARROWER than '..Said'. Prove '..Said' where nothing that the law and all that it calls make is longer than what came in: it says more and counts as full. Else prove '..UptoSaid'. A law counts once. -/
mutual
def uptoBulk {H : Type} : DataW H → Nat
  | .lit (.string bytes) => bytes.length + 1
  | .lit _ => 1
  | .nil => 1
  | .ptr d => uptoBulk d + 1
  | .slice elems spare => uptoBulkAll elems + uptoBulkAll spare + 1
  | .agg parts => uptoBulkAll parts + 1
  | .iface _ d => uptoBulk d + 1
  | .map entries => uptoBulkEntries entries + 1
  | .held _ => 1
def uptoBulkAll {H : Type} : List (DataW H) → Nat
  | [] => 0
  | d :: r => uptoBulk d + uptoBulkAll r
def uptoBulkEntries {H : Type} : List (Lit × DataW H) → Nat
  | [] => 0
  | x :: r => uptoBulkEntry x + uptoBulkEntries r
def uptoBulkEntry {H : Type} : Lit × DataW H → Nat
  | (.string bytes, d) => bytes.length + uptoBulk d + 1
  | (_, d) => uptoBulk d + 1
 end
def uptoSmall : (H : Type) → List (DataW H) → Bool := fun _ ds => decide (uptoBulkAll ds ≤ 1048576)
def OpenSpec.upto (s : _root_.Go.ChangeSpec) : _root_.Go.OpenSpec := { _root_.Go.OpenSpec.ofChange s with cond := some uptoSmall }

/-- 'squintlaw15.DetectChains', WHERE WHAT IT READS IS OF BULK AT MOST 1048576: true; the input reads as it did. -/
def detectChainsUptoRow : OpenClaim := { program := "ytjfabholalnbeab", sum := "ebcc7f2bfc07ddda5d564fdf08173b55e2411aedd36e2bfd346a9eb2bda13e17", func := "squint/squintlaw15.DetectChains", spec := "detectChains", unfollowed := true, recurses := true, plainKeys := false, apart := false, narrowed := true }
def DetectChainsUptoSaid : Prop := detectChainsUptoRow.holds Try.pinned (OpenSpec.upto detectChainsSpec)

/-- 'squintlaw15.DetectStays', WHERE WHAT IT READS IS OF BULK AT MOST 1048576: true; the input reads as it did. -/
def detectStaysUptoRow : OpenClaim := { program := "ytjfabholalnbeab", sum := "ebcc7f2bfc07ddda5d564fdf08173b55e2411aedd36e2bfd346a9eb2bda13e17", func := "squint/squintlaw15.DetectStays", spec := "detectStays", unfollowed := true, recurses := true, plainKeys := false, apart := false, narrowed := true }
def DetectStaysUptoSaid : Prop := detectStaysUptoRow.holds Try.pinned (OpenSpec.upto detectStaysSpec)

/-- 'squintlaw15.DetectGone', WHERE WHAT IT READS IS OF BULK AT MOST 1048576: true; the input reads as it did. -/
def detectGoneUptoRow : OpenClaim := { program := "ytjfabholalnbeab", sum := "ebcc7f2bfc07ddda5d564fdf08173b55e2411aedd36e2bfd346a9eb2bda13e17", func := "squint/squintlaw15.DetectGone", spec := "detectGone", unfollowed := true, recurses := true, plainKeys := false, apart := false, narrowed := true }
def DetectGoneUptoSaid : Prop := detectGoneUptoRow.holds Try.pinned (OpenSpec.upto detectGoneSpec)

/-- 'squintlaw15.DetectMore', WHERE WHAT IT READS IS OF BULK AT MOST 1048576: true; the input reads as it did. -/
def detectMoreUptoRow : OpenClaim := { program := "ytjfabholalnbeab", sum := "ebcc7f2bfc07ddda5d564fdf08173b55e2411aedd36e2bfd346a9eb2bda13e17", func := "squint/squintlaw15.DetectMore", spec := "detectMore", unfollowed := true, recurses := true, plainKeys := false, apart := false, narrowed := true }
def DetectMoreUptoSaid : Prop := detectMoreUptoRow.holds Try.pinned (OpenSpec.upto detectMoreSpec)

/-- 'squintlaw15.DetectOrder', WHERE WHAT IT READS IS OF BULK AT MOST 1048576: true; the input reads as it did. -/
def detectOrderUptoRow : OpenClaim := { program := "ytjfabholalnbeab", sum := "ebcc7f2bfc07ddda5d564fdf08173b55e2411aedd36e2bfd346a9eb2bda13e17", func := "squint/squintlaw15.DetectOrder", spec := "detectOrder", unfollowed := true, recurses := true, plainKeys := false, apart := false, narrowed := true }
def DetectOrderUptoSaid : Prop := detectOrderUptoRow.holds Try.pinned (OpenSpec.upto detectOrderSpec)

end Rows
end Go.Proofs.Ytjfabholalnbeab
