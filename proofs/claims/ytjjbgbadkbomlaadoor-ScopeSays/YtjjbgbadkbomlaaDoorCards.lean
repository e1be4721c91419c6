/-
  DERIVED. GIVEN WITH THE SEED: THE CARDS: each row of YtjjbgbadkbomlaaDoorRows.lean that lists a variable, with what it lists TIED to the program's text (the seventh form; the later family's looks); each row that meets fmt, with fmt's text TOLD by the authors' own Lean function (tested against real Go, not proved from fmt's source: count such statements apart). THE CARD IS WHAT COUNTS. Prove the row's statement (the work); the ties are given (YtjjbgbadkbomlaaDoorTie.lean); close each card by the builder's one call (the guide's Derived/Test/ToyasCard.lean, 'card_holds'). Laid BY PROGRAM, IN A SANDBOX (cutbox-door.mjs). By AI agents, Wed Nov 11 2026. No macro, syntax, notation, axiom, sorry.
-/
import Derived.Test.YtjjbgbadkbomlaaDoorRows
import GoSem.ClaimSeven
namespace Go.Proofs.YtjjbgbadkbomlaaDoor
namespace Rows

/-- THE TIED CARD OF 'squintlaw05.ScopeSays'. -/
def scopeSaysCard : Claim7 := { stood := { row := scopeSaysRow, standIns := [], harness := (true, "b7e391aa7d4938c07cbec4c2fdecf0a9523861947e21a5661e0da5a1dc02f463"), looks := true }, kinds := [], alts := [], laidByText := true, laidKinds := [.data, .data, .data, .sentinel, .sentinel, .data, .data], laidTests := true, laidLooks := .later }
def ScopeSaysCardSaid : Prop := Claim7.holds Tryd.pinned (.plain (OpenSpec.ofChange scopeSaysSpec)) scopeSaysCard

/-- THE TIED CARD OF 'squintlaw05.ScopeBlind'. -/
def scopeBlindCard : Claim7 := { stood := { row := scopeBlindRow, standIns := [], harness := (true, "b7e391aa7d4938c07cbec4c2fdecf0a9523861947e21a5661e0da5a1dc02f463"), looks := true }, kinds := [], alts := [], laidByText := true, laidKinds := [.data, .data, .data, .sentinel, .sentinel, .data, .data], laidTests := true, laidLooks := .later }
def ScopeBlindCardSaid : Prop := Claim7.holds Tryd.pinned (.plain (OpenSpec.ofChange scopeBlindSpec)) scopeBlindCard

/-- THE TIED CARD OF 'squintlaw05.ScopeRenames'. -/
def scopeRenamesCard : Claim7 := { stood := { row := scopeRenamesRow, standIns := [], harness := (true, "b7e391aa7d4938c07cbec4c2fdecf0a9523861947e21a5661e0da5a1dc02f463"), looks := true }, kinds := [], alts := [], laidByText := true, laidKinds := [.data, .data, .data, .sentinel, .sentinel, .data, .data], laidTests := true, laidLooks := .later }
def ScopeRenamesCardSaid : Prop := Claim7.holds Tryd.pinned (.plain (OpenSpec.ofChange scopeRenamesSpec)) scopeRenamesCard

/-- THE TIED CARD OF 'squintlaw05.ScopeFits'. -/
def scopeFitsCard : Claim7 := { stood := { row := scopeFitsRow, standIns := [], harness := (true, "b7e391aa7d4938c07cbec4c2fdecf0a9523861947e21a5661e0da5a1dc02f463"), looks := true }, kinds := [], alts := [], laidByText := true, laidKinds := [.data, .data, .data, .sentinel, .sentinel, .data, .data], laidTests := true, laidLooks := .later }
def ScopeFitsCardSaid : Prop := Claim7.holds Tryd.pinned (.plain (OpenSpec.ofChange scopeFitsSpec)) scopeFitsCard

/-- THE SECOND FORM's CARD OF 'squintlaw05.ScopeSays'. -/
def scopeSaysUptoCard : Claim7 := { stood := { row := scopeSaysUptoRow, standIns := [], harness := (true, "b7e391aa7d4938c07cbec4c2fdecf0a9523861947e21a5661e0da5a1dc02f463"), looks := true }, kinds := [], alts := [], laidByText := true, laidKinds := [.data, .data, .data, .sentinel, .sentinel, .data, .data], laidTests := true, laidLooks := .later }
def ScopeSaysUptoCardSaid : Prop := Claim7.holds Tryd.pinned (.plain (OpenSpec.upto scopeSaysSpec)) scopeSaysUptoCard

/-- THE SECOND FORM's CARD OF 'squintlaw05.ScopeBlind'. -/
def scopeBlindUptoCard : Claim7 := { stood := { row := scopeBlindUptoRow, standIns := [], harness := (true, "b7e391aa7d4938c07cbec4c2fdecf0a9523861947e21a5661e0da5a1dc02f463"), looks := true }, kinds := [], alts := [], laidByText := true, laidKinds := [.data, .data, .data, .sentinel, .sentinel, .data, .data], laidTests := true, laidLooks := .later }
def ScopeBlindUptoCardSaid : Prop := Claim7.holds Tryd.pinned (.plain (OpenSpec.upto scopeBlindSpec)) scopeBlindUptoCard

/-- THE SECOND FORM's CARD OF 'squintlaw05.ScopeRenames'. -/
def scopeRenamesUptoCard : Claim7 := { stood := { row := scopeRenamesUptoRow, standIns := [], harness := (true, "b7e391aa7d4938c07cbec4c2fdecf0a9523861947e21a5661e0da5a1dc02f463"), looks := true }, kinds := [], alts := [], laidByText := true, laidKinds := [.data, .data, .data, .sentinel, .sentinel, .data, .data], laidTests := true, laidLooks := .later }
def ScopeRenamesUptoCardSaid : Prop := Claim7.holds Tryd.pinned (.plain (OpenSpec.upto scopeRenamesSpec)) scopeRenamesUptoCard

/-- THE SECOND FORM's CARD OF 'squintlaw05.ScopeFits'. -/
def scopeFitsUptoCard : Claim7 := { stood := { row := scopeFitsUptoRow, standIns := [], harness := (true, "b7e391aa7d4938c07cbec4c2fdecf0a9523861947e21a5661e0da5a1dc02f463"), looks := true }, kinds := [], alts := [], laidByText := true, laidKinds := [.data, .data, .data, .sentinel, .sentinel, .data, .data], laidTests := true, laidLooks := .later }
def ScopeFitsUptoCardSaid : Prop := Claim7.holds Tryd.pinned (.plain (OpenSpec.upto scopeFitsSpec)) scopeFitsUptoCard
end Rows
end Go.Proofs.YtjjbgbadkbomlaaDoor
