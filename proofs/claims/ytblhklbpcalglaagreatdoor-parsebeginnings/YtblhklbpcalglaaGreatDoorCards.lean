/-
  DERIVED. GIVEN WITH THE SEED: THE CARDS: each row of YtblhklbpcalglaaGreatDoorRows.lean that lists a variable, with what it lists TIED to the program's text (the seventh form; the later family's looks); each row that meets fmt, with fmt's text TOLD by the authors' own Lean function (tested against real Go, not proved from fmt's source: count such statements apart). THE CARD IS WHAT COUNTS. Prove the row's statement (the work); the ties are given (YtblhklbpcalglaaGreatDoorTie.lean); close each card by the builder's one call (the guide's Derived/Test/ToyasCard.lean, 'card_holds'). Laid BY PROGRAM, IN A SANDBOX (cutbox-door.mjs). By AI agents, Wed Nov 11 2026. No macro, syntax, notation, axiom, sorry.
-/
import Derived.Test.YtblhklbpcalglaaGreatDoorRows
import GoSem.ClaimSeven
namespace Go.Proofs.YtblhklbpcalglaaGreatDoor
namespace Rows

/-- THE TIED CARD OF 'squintlaw03.ParseBeginnings'. -/
def parseBeginningsCard : Claim7 := { stood := { row := parseBeginningsRow, standIns := [], harness := (true, "bdcafe959c9ac3c5c8eae6fcf6fbb8ef93a5fb50b1a3eb991789664bec2d8a5a"), looks := true }, kinds := [], alts := [], laidByText := true, laidKinds := [.data, .data, .data, .sentinel, .sentinel, .data, .data], laidTests := true, laidLooks := .later }
def ParseBeginningsCardSaid : Prop := Claim7.holds Tryz.pinned (.plain (OpenSpec.ofChange parseBeginningsSpec)) parseBeginningsCard

/-- THE SECOND FORM's CARD OF 'squintlaw03.ParseBeginnings'. -/
def parseBeginningsUptoCard : Claim7 := { stood := { row := parseBeginningsUptoRow, standIns := [], harness := (true, "bdcafe959c9ac3c5c8eae6fcf6fbb8ef93a5fb50b1a3eb991789664bec2d8a5a"), looks := true }, kinds := [], alts := [], laidByText := true, laidKinds := [.data, .data, .data, .sentinel, .sentinel, .data, .data], laidTests := true, laidLooks := .later }
def ParseBeginningsUptoCardSaid : Prop := Claim7.holds Tryz.pinned (.plain (OpenSpec.upto parseBeginningsSpec)) parseBeginningsUptoCard
end Rows
end Go.Proofs.YtblhklbpcalglaaGreatDoor
