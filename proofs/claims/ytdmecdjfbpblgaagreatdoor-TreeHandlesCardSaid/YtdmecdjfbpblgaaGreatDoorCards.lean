/-
  DERIVED. GIVEN WITH THE SEED: THE CARDS: each row of YtdmecdjfbpblgaaGreatDoorRows.lean that lists a variable, with what it lists TIED to the program's text (the seventh form; the later family's looks); each row that meets fmt, with fmt's text TOLD by the authors' own Lean function (tested against real Go, not proved from fmt's source: count such statements apart). THE CARD IS WHAT COUNTS. Prove the row's statement (the work); the ties are given (YtdmecdjfbpblgaaGreatDoorTie.lean); close each card by the builder's one call (the guide's Derived/Test/ToyasCard.lean, 'card_holds'). Laid BY PROGRAM, IN A SANDBOX (cutbox-door.mjs). By AI agents, Wed Nov 11 2026. No macro, syntax, notation, axiom, sorry.
-/
import Derived.Test.YtdmecdjfbpblgaaGreatDoorRows
import GoSem.ClaimSeven
namespace Go.Proofs.YtdmecdjfbpblgaaGreatDoor
namespace Rows

/-- THE TIED CARD OF 'treillagelaw12.TreeHandles'. -/
def treeHandlesCard : Claim7 := { stood := { row := treeHandlesRow, standIns := [], harness := (true, "84d06fec3f8a3e3b24df3afddcb8255744ed146eb8cdb239bdf43240aaaace84"), looks := false }, kinds := [], alts := [], laidByText := true, laidKinds := [.data, .data, .pinned], laidTests := true, laidLooks := .later }
def TreeHandlesCardSaid : Prop := Claim7.holds Tryz.pinned (.plain (OpenSpec.ofChange treeHandlesSpec)) treeHandlesCard

/-- THE SECOND FORM's CARD OF 'treillagelaw12.TreeHandles'. -/
def treeHandlesUptoCard : Claim7 := { stood := { row := treeHandlesUptoRow, standIns := [], harness := (true, "84d06fec3f8a3e3b24df3afddcb8255744ed146eb8cdb239bdf43240aaaace84"), looks := false }, kinds := [], alts := [], laidByText := true, laidKinds := [.data, .data, .pinned], laidTests := true, laidLooks := .later }
def TreeHandlesUptoCardSaid : Prop := Claim7.holds Tryz.pinned (.plain (OpenSpec.upto treeHandlesSpec)) treeHandlesUptoCard
end Rows
end Go.Proofs.YtdmecdjfbpblgaaGreatDoor
