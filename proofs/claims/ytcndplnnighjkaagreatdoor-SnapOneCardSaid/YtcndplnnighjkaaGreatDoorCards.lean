/-
  DERIVED. GIVEN WITH THE SEED: THE CARDS: each row of YtcndplnnighjkaaGreatDoorRows.lean that lists a variable, with what it lists TIED to the program's text (the seventh form; the later family's looks); each row that meets fmt, with fmt's text TOLD by the authors' own Lean function (tested against real Go, not proved from fmt's source: count such statements apart). THE CARD IS WHAT COUNTS. Prove the row's statement (the work); the ties are given (YtcndplnnighjkaaGreatDoorTie.lean); close each card by the builder's one call (the guide's Derived/Test/ToyasCard.lean, 'card_holds'). Laid BY PROGRAM, IN A SANDBOX (cutbox-door.mjs). By AI agents, Wed Nov 11 2026. No macro, syntax, notation, axiom, sorry.
-/
import Derived.Test.YtcndplnnighjkaaGreatDoorRows
import GoSem.ClaimSeven
namespace Go.Proofs.YtcndplnnighjkaaGreatDoor
namespace Rows

/-- THE TIED CARD OF 'treillagelaw13.SnapKids'. -/
def snapKidsCard : Claim7 := { stood := { row := snapKidsRow, standIns := [], harness := (true, "dc6e1732da4c174ebaa5b1735add0699113c7b108d589e663f63684263490881"), looks := true }, kinds := [], alts := [], laidByText := true, laidKinds := [.data, .data, .pinned], laidTests := true, laidLooks := .later }
def SnapKidsCardSaid : Prop := Claim7.holds Tryz.pinned (.plain (OpenSpec.ofChange snapKidsSpec)) snapKidsCard

/-- THE TIED CARD OF 'treillagelaw13.SnapErrors'. -/
def snapErrorsCard : Claim7 := { stood := { row := snapErrorsRow, standIns := [], harness := (true, "dc6e1732da4c174ebaa5b1735add0699113c7b108d589e663f63684263490881"), looks := true }, kinds := [], alts := [], laidByText := true, laidKinds := [.data, .data, .pinned], laidTests := true, laidLooks := .later }
def SnapErrorsCardSaid : Prop := Claim7.holds Tryz.pinned (.plain (OpenSpec.ofChange snapErrorsSpec)) snapErrorsCard

/-- THE TIED CARD OF 'treillagelaw13.SnapOne'. -/
def snapOneCard : Claim7 := { stood := { row := snapOneRow, standIns := [], harness := (true, "dc6e1732da4c174ebaa5b1735add0699113c7b108d589e663f63684263490881"), looks := true }, kinds := [], alts := [], laidByText := true, laidKinds := [.data, .data, .pinned], laidTests := true, laidLooks := .later }
def SnapOneCardSaid : Prop := Claim7.holds Tryz.pinned (.plain (OpenSpec.ofChange snapOneSpec)) snapOneCard

/-- THE SECOND FORM's CARD OF 'treillagelaw13.SnapKids'. -/
def snapKidsUptoCard : Claim7 := { stood := { row := snapKidsUptoRow, standIns := [], harness := (true, "dc6e1732da4c174ebaa5b1735add0699113c7b108d589e663f63684263490881"), looks := true }, kinds := [], alts := [], laidByText := true, laidKinds := [.data, .data, .pinned], laidTests := true, laidLooks := .later }
def SnapKidsUptoCardSaid : Prop := Claim7.holds Tryz.pinned (.plain (OpenSpec.upto snapKidsSpec)) snapKidsUptoCard

/-- THE SECOND FORM's CARD OF 'treillagelaw13.SnapErrors'. -/
def snapErrorsUptoCard : Claim7 := { stood := { row := snapErrorsUptoRow, standIns := [], harness := (true, "dc6e1732da4c174ebaa5b1735add0699113c7b108d589e663f63684263490881"), looks := true }, kinds := [], alts := [], laidByText := true, laidKinds := [.data, .data, .pinned], laidTests := true, laidLooks := .later }
def SnapErrorsUptoCardSaid : Prop := Claim7.holds Tryz.pinned (.plain (OpenSpec.upto snapErrorsSpec)) snapErrorsUptoCard

/-- THE SECOND FORM's CARD OF 'treillagelaw13.SnapOne'. -/
def snapOneUptoCard : Claim7 := { stood := { row := snapOneUptoRow, standIns := [], harness := (true, "dc6e1732da4c174ebaa5b1735add0699113c7b108d589e663f63684263490881"), looks := true }, kinds := [], alts := [], laidByText := true, laidKinds := [.data, .data, .pinned], laidTests := true, laidLooks := .later }
def SnapOneUptoCardSaid : Prop := Claim7.holds Tryz.pinned (.plain (OpenSpec.upto snapOneSpec)) snapOneUptoCard
end Rows
end Go.Proofs.YtcndplnnighjkaaGreatDoor
