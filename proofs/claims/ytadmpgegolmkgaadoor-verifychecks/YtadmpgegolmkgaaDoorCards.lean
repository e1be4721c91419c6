/-
  DERIVED. GIVEN WITH THE SEED: THE CARDS: each row of YtadmpgegolmkgaaDoorRows.lean that lists a variable, with what it lists TIED to the program's text (the seventh form; the later family's looks); each row that meets fmt, with fmt's text TOLD by the authors' own Lean function (tested against real Go, not proved from fmt's source: count such statements apart). THE CARD IS WHAT COUNTS. Prove the row's statement (the work); the ties are given (YtadmpgegolmkgaaDoorTie.lean); close each card by the builder's one call (the guide's Derived/Test/ToyasCard.lean, 'card_holds'). Laid BY PROGRAM, IN A SANDBOX (cutbox-door.mjs). By AI agents, Wed Nov 11 2026. No macro, syntax, notation, axiom, sorry.
-/
import Derived.Test.YtadmpgegolmkgaaDoorRows
import GoSem.ClaimSeven
namespace Go.Proofs.YtadmpgegolmkgaaDoor
namespace Rows

/-- THE TIED CARD OF 'squintlaw09.VerifyChecks'. -/
def verifyChecksCard : Claim7 := { stood := { row := verifyChecksRow, standIns := [], harness := (true, "20d113b1bd17562bb540da0abb70fbbc598ee4fa4ec5d2fbdf1192aac43ef98e"), looks := false }, kinds := [], alts := [], laidByText := true, laidKinds := [.data, .data, .data], laidTests := true, laidLooks := .later }
def VerifyChecksCardSaid : Prop := Claim7.holds Tryd.pinned (.plain (OpenSpec.ofChange verifyChecksSpec)) verifyChecksCard

/-- THE TIED CARD OF 'squintlaw09.VerifyWays'. -/
def verifyWaysCard : Claim7 := { stood := { row := verifyWaysRow, standIns := [], harness := (true, "20d113b1bd17562bb540da0abb70fbbc598ee4fa4ec5d2fbdf1192aac43ef98e"), looks := false }, kinds := [], alts := [], laidByText := true, laidKinds := [.data, .data, .data], laidTests := true, laidLooks := .later }
def VerifyWaysCardSaid : Prop := Claim7.holds Tryd.pinned (.plain (OpenSpec.ofChange verifyWaysSpec)) verifyWaysCard

/-- THE TIED CARD OF 'squintlaw09.VerifyFree'. -/
def verifyFreeCard : Claim7 := { stood := { row := verifyFreeRow, standIns := [], harness := (true, "20d113b1bd17562bb540da0abb70fbbc598ee4fa4ec5d2fbdf1192aac43ef98e"), looks := false }, kinds := [], alts := [], laidByText := true, laidKinds := [.data, .data, .data], laidTests := true, laidLooks := .later }
def VerifyFreeCardSaid : Prop := Claim7.holds Tryd.pinned (.plain (OpenSpec.ofChange verifyFreeSpec)) verifyFreeCard

/-- THE SECOND FORM's CARD OF 'squintlaw09.VerifyChecks'. -/
def verifyChecksUptoCard : Claim7 := { stood := { row := verifyChecksUptoRow, standIns := [], harness := (true, "20d113b1bd17562bb540da0abb70fbbc598ee4fa4ec5d2fbdf1192aac43ef98e"), looks := false }, kinds := [], alts := [], laidByText := true, laidKinds := [.data, .data, .data], laidTests := true, laidLooks := .later }
def VerifyChecksUptoCardSaid : Prop := Claim7.holds Tryd.pinned (.plain (OpenSpec.upto verifyChecksSpec)) verifyChecksUptoCard

/-- THE SECOND FORM's CARD OF 'squintlaw09.VerifyWays'. -/
def verifyWaysUptoCard : Claim7 := { stood := { row := verifyWaysUptoRow, standIns := [], harness := (true, "20d113b1bd17562bb540da0abb70fbbc598ee4fa4ec5d2fbdf1192aac43ef98e"), looks := false }, kinds := [], alts := [], laidByText := true, laidKinds := [.data, .data, .data], laidTests := true, laidLooks := .later }
def VerifyWaysUptoCardSaid : Prop := Claim7.holds Tryd.pinned (.plain (OpenSpec.upto verifyWaysSpec)) verifyWaysUptoCard

/-- THE SECOND FORM's CARD OF 'squintlaw09.VerifyFree'. -/
def verifyFreeUptoCard : Claim7 := { stood := { row := verifyFreeUptoRow, standIns := [], harness := (true, "20d113b1bd17562bb540da0abb70fbbc598ee4fa4ec5d2fbdf1192aac43ef98e"), looks := false }, kinds := [], alts := [], laidByText := true, laidKinds := [.data, .data, .data], laidTests := true, laidLooks := .later }
def VerifyFreeUptoCardSaid : Prop := Claim7.holds Tryd.pinned (.plain (OpenSpec.upto verifyFreeSpec)) verifyFreeUptoCard
end Rows
end Go.Proofs.YtadmpgegolmkgaaDoor
