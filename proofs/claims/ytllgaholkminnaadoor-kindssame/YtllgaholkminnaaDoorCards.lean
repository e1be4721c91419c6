/-
  DERIVED. GIVEN WITH THE SEED: THE CARDS: each row of YtllgaholkminnaaDoorRows.lean that lists a variable, with what it lists TIED to the program's text (the seventh form; the later family's looks); each row that meets fmt, with fmt's text TOLD by the authors' own Lean function (tested against real Go, not proved from fmt's source: count such statements apart). THE CARD IS WHAT COUNTS. Prove the row's statement (the work); the ties are given (YtllgaholkminnaaDoorTie.lean); close each card by the builder's one call (the guide's Derived/Test/ToyasCard.lean, 'card_holds'). Laid BY PROGRAM, IN A SANDBOX (cutbox-door.mjs). By AI agents, Wed Nov 11 2026. No macro, syntax, notation, axiom, sorry.
-/
import Derived.Test.YtllgaholkminnaaDoorRows
import GoSem.ClaimSeven
namespace Go.Proofs.YtllgaholkminnaaDoor
namespace Rows

/-- THE TIED CARD OF 'squintlaw04.KindsValid'. -/
def kindsValidCard : Claim7 := { stood := { row := kindsValidRow, standIns := [], harness := (true, "dacb22350656a981de6a32af80fb231cc9e89073fbc7cf78ae87d47b6fc60b23"), looks := true }, kinds := [], alts := [], laidByText := true, laidKinds := [.data, .data, .data, .sentinel, .sentinel, .data, .data], laidTests := true, laidLooks := .later }
def KindsValidCardSaid : Prop := Claim7.holds Tryd.pinned (.plain (OpenSpec.ofChange kindsValidSpec)) kindsValidCard

/-- THE TIED CARD OF 'squintlaw04.KindsSame'. -/
def kindsSameCard : Claim7 := { stood := { row := kindsSameRow, standIns := [], harness := (true, "dacb22350656a981de6a32af80fb231cc9e89073fbc7cf78ae87d47b6fc60b23"), looks := true }, kinds := [], alts := [], laidByText := true, laidKinds := [.data, .data, .data, .sentinel, .sentinel, .data, .data], laidTests := true, laidLooks := .later }
def KindsSameCardSaid : Prop := Claim7.holds Tryd.pinned (.plain (OpenSpec.ofChange kindsSameSpec)) kindsSameCard

/-- THE TIED CARD OF 'squintlaw04.KindsLaws'. -/
def kindsLawsCard : Claim7 := { stood := { row := kindsLawsRow, standIns := [], harness := (true, "dacb22350656a981de6a32af80fb231cc9e89073fbc7cf78ae87d47b6fc60b23"), looks := true }, kinds := [], alts := [], laidByText := true, laidKinds := [.data, .data, .data, .sentinel, .sentinel, .data, .data], laidTests := true, laidLooks := .later }
def KindsLawsCardSaid : Prop := Claim7.holds Tryd.pinned (.plain (OpenSpec.ofChange kindsLawsSpec)) kindsLawsCard

/-- THE TIED CARD OF 'squintlaw04.KindsWays'. -/
def kindsWaysCard : Claim7 := { stood := { row := kindsWaysRow, standIns := [], harness := (true, "dacb22350656a981de6a32af80fb231cc9e89073fbc7cf78ae87d47b6fc60b23"), looks := true }, kinds := [], alts := [], laidByText := true, laidKinds := [.data, .data, .data, .sentinel, .sentinel, .data, .data], laidTests := true, laidLooks := .later }
def KindsWaysCardSaid : Prop := Claim7.holds Tryd.pinned (.plain (OpenSpec.ofChange kindsWaysSpec)) kindsWaysCard

/-- THE TIED CARD OF 'squintlaw04.KindsNumbers'. -/
def kindsNumbersCard : Claim7 := { stood := { row := kindsNumbersRow, standIns := [], harness := (true, "dacb22350656a981de6a32af80fb231cc9e89073fbc7cf78ae87d47b6fc60b23"), looks := true }, kinds := [], alts := [], laidByText := true, laidKinds := [.data, .data, .data, .sentinel, .sentinel, .data, .data], laidTests := true, laidLooks := .later }
def KindsNumbersCardSaid : Prop := Claim7.holds Tryd.pinned (.plain (OpenSpec.ofChange kindsNumbersSpec)) kindsNumbersCard

/-- THE SECOND FORM's CARD OF 'squintlaw04.KindsValid'. -/
def kindsValidUptoCard : Claim7 := { stood := { row := kindsValidUptoRow, standIns := [], harness := (true, "dacb22350656a981de6a32af80fb231cc9e89073fbc7cf78ae87d47b6fc60b23"), looks := true }, kinds := [], alts := [], laidByText := true, laidKinds := [.data, .data, .data, .sentinel, .sentinel, .data, .data], laidTests := true, laidLooks := .later }
def KindsValidUptoCardSaid : Prop := Claim7.holds Tryd.pinned (.plain (OpenSpec.upto kindsValidSpec)) kindsValidUptoCard

/-- THE SECOND FORM's CARD OF 'squintlaw04.KindsSame'. -/
def kindsSameUptoCard : Claim7 := { stood := { row := kindsSameUptoRow, standIns := [], harness := (true, "dacb22350656a981de6a32af80fb231cc9e89073fbc7cf78ae87d47b6fc60b23"), looks := true }, kinds := [], alts := [], laidByText := true, laidKinds := [.data, .data, .data, .sentinel, .sentinel, .data, .data], laidTests := true, laidLooks := .later }
def KindsSameUptoCardSaid : Prop := Claim7.holds Tryd.pinned (.plain (OpenSpec.upto kindsSameSpec)) kindsSameUptoCard

/-- THE SECOND FORM's CARD OF 'squintlaw04.KindsLaws'. -/
def kindsLawsUptoCard : Claim7 := { stood := { row := kindsLawsUptoRow, standIns := [], harness := (true, "dacb22350656a981de6a32af80fb231cc9e89073fbc7cf78ae87d47b6fc60b23"), looks := true }, kinds := [], alts := [], laidByText := true, laidKinds := [.data, .data, .data, .sentinel, .sentinel, .data, .data], laidTests := true, laidLooks := .later }
def KindsLawsUptoCardSaid : Prop := Claim7.holds Tryd.pinned (.plain (OpenSpec.upto kindsLawsSpec)) kindsLawsUptoCard

/-- THE SECOND FORM's CARD OF 'squintlaw04.KindsWays'. -/
def kindsWaysUptoCard : Claim7 := { stood := { row := kindsWaysUptoRow, standIns := [], harness := (true, "dacb22350656a981de6a32af80fb231cc9e89073fbc7cf78ae87d47b6fc60b23"), looks := true }, kinds := [], alts := [], laidByText := true, laidKinds := [.data, .data, .data, .sentinel, .sentinel, .data, .data], laidTests := true, laidLooks := .later }
def KindsWaysUptoCardSaid : Prop := Claim7.holds Tryd.pinned (.plain (OpenSpec.upto kindsWaysSpec)) kindsWaysUptoCard

/-- THE SECOND FORM's CARD OF 'squintlaw04.KindsNumbers'. -/
def kindsNumbersUptoCard : Claim7 := { stood := { row := kindsNumbersUptoRow, standIns := [], harness := (true, "dacb22350656a981de6a32af80fb231cc9e89073fbc7cf78ae87d47b6fc60b23"), looks := true }, kinds := [], alts := [], laidByText := true, laidKinds := [.data, .data, .data, .sentinel, .sentinel, .data, .data], laidTests := true, laidLooks := .later }
def KindsNumbersUptoCardSaid : Prop := Claim7.holds Tryd.pinned (.plain (OpenSpec.upto kindsNumbersSpec)) kindsNumbersUptoCard
end Rows
end Go.Proofs.YtllgaholkminnaaDoor
