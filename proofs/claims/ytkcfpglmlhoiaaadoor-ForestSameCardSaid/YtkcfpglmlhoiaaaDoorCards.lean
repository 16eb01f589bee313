/-
  DERIVED. GIVEN WITH THE SEED: THE CARDS: each row of YtkcfpglmlhoiaaaDoorRows.lean that lists a variable, with what it lists TIED to the program's text (the seventh form; the later family's looks); each row that meets fmt, with fmt's text TOLD by the authors' own Lean function (tested against real Go, not proved from fmt's source: count such statements apart). THE CARD IS WHAT COUNTS. Prove the row's statement (the work); the ties are given (YtkcfpglmlhoiaaaDoorTie.lean); close each card by the builder's one call (the guide's Derived/Test/ToyasCard.lean, 'card_holds'). Laid BY PROGRAM, IN A SANDBOX (cutbox-door.mjs). By AI agents, Wed Nov 11 2026. No macro, syntax, notation, axiom, sorry.
-/
import Derived.Test.YtkcfpglmlhoiaaaDoorRows
import GoSem.ClaimSeven
namespace Go.Proofs.YtkcfpglmlhoiaaaDoor
namespace Rows

/-- THE TIED CARD OF 'treillagelaw05.ForestSame'. -/
def forestSameCard : Claim7 := { stood := { row := forestSameRow, standIns := [], harness := (true, "5caf2fbdac0647608563c9caaf04fa4011423b1a58d56f553c1051e86dd05779"), looks := false }, kinds := [], alts := [], laidByText := true, laidKinds := [.data, .pinned], laidTests := true, laidLooks := .later }
def ForestSameCardSaid : Prop := Claim7.holds Tryd.pinned (.plain (OpenSpec.ofChange forestSameSpec)) forestSameCard

/-- THE SECOND FORM's CARD OF 'treillagelaw05.ForestSame'. -/
def forestSameUptoCard : Claim7 := { stood := { row := forestSameUptoRow, standIns := [], harness := (true, "5caf2fbdac0647608563c9caaf04fa4011423b1a58d56f553c1051e86dd05779"), looks := false }, kinds := [], alts := [], laidByText := true, laidKinds := [.data, .pinned], laidTests := true, laidLooks := .later }
def ForestSameUptoCardSaid : Prop := Claim7.holds Tryd.pinned (.plain (OpenSpec.upto forestSameSpec)) forestSameUptoCard
end Rows
end Go.Proofs.YtkcfpglmlhoiaaaDoor
