/-
  DERIVED. GIVEN WITH THE SEED: THE CARDS: each row of YtcndplnnighjkabGreatDoorRows.lean that lists a variable, with what it lists TIED to the program's text (the seventh form; the later family's looks); each row that meets fmt, with fmt's text TOLD by the authors' own Lean function (tested against real Go, not proved from fmt's source: count such statements apart). THE CARD IS WHAT COUNTS. Prove the row's statement (the work); the ties are given (YtcndplnnighjkabGreatDoorTie.lean); close each card by the builder's one call (the guide's Derived/Test/ToyasCard.lean, 'card_holds'). Laid BY PROGRAM, IN A SANDBOX (cutbox-door.mjs). By AI agents, Wed Nov 11 2026. No macro, syntax, notation, axiom, sorry.
-/
import Derived.Test.YtcndplnnighjkabGreatDoorRows
import GoSem.ClaimSeven
namespace Go.Proofs.YtcndplnnighjkabGreatDoor
namespace Rows

/-- THE TIED CARD OF 'treillagelaw12.TreeLive'. -/
def treeLiveCard : Claim7 := { stood := { row := treeLiveRow, standIns := [], harness := (true, "54d8b590e9fb3d22630def5b41d46ff5b65793a727a285f2914113d3ebc36df7"), looks := false }, kinds := [], alts := [], laidByText := true, laidKinds := [.data, .data, .pinned], laidTests := true, laidLooks := .later }
def TreeLiveCardSaid : Prop := Claim7.holds Tryz.pinned (.plain (OpenSpec.ofChange treeLiveSpec)) treeLiveCard

/-- THE SECOND FORM's CARD OF 'treillagelaw12.TreeLive'. -/
def treeLiveUptoCard : Claim7 := { stood := { row := treeLiveUptoRow, standIns := [], harness := (true, "54d8b590e9fb3d22630def5b41d46ff5b65793a727a285f2914113d3ebc36df7"), looks := false }, kinds := [], alts := [], laidByText := true, laidKinds := [.data, .data, .pinned], laidTests := true, laidLooks := .later }
def TreeLiveUptoCardSaid : Prop := Claim7.holds Tryz.pinned (.plain (OpenSpec.upto treeLiveSpec)) treeLiveUptoCard
end Rows
end Go.Proofs.YtcndplnnighjkabGreatDoor
