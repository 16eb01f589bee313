/-
  DERIVED. GIVEN WITH THE SEED: THE CARDS: each row of YthfeonmaajiajaaDoorRows.lean that lists a variable, with what it lists TIED to the program's text (the seventh form; the later family's looks); each row that meets fmt, with fmt's text TOLD by the authors' own Lean function (tested against real Go, not proved from fmt's source: count such statements apart). THE CARD IS WHAT COUNTS. Prove the row's statement (the work); the ties are given (YthfeonmaajiajaaDoorTie.lean); close each card by the builder's one call (the guide's Derived/Test/ToyasCard.lean, 'card_holds'). Laid BY PROGRAM, IN A SANDBOX (cutbox-door.mjs). By AI agents, Wed Nov 11 2026. No macro, syntax, notation, axiom, sorry.
-/
import Derived.Test.YthfeonmaajiajaaDoorRows
import GoSem.ClaimSeven
namespace Go.Proofs.YthfeonmaajiajaaDoor
namespace Rows

/-- THE TIED CARD OF 'treillagelaw11.RecTells'. -/
def recTellsCard : Claim7 := { stood := { row := recTellsRow, standIns := [], harness := (true, "5a7481147f538df1d586f4d21dfe4254a551626b47bcc1e35a25e6c5178dff8a"), looks := false }, kinds := [], alts := [], laidByText := true, laidKinds := [.data, .data, .data], laidTests := true, laidLooks := .later }
def RecTellsCardSaid : Prop := Claim7.holds Tryd.pinned (.plain (OpenSpec.ofChange recTellsSpec)) recTellsCard

/-- THE SECOND FORM's CARD OF 'treillagelaw11.RecTells'. -/
def recTellsUptoCard : Claim7 := { stood := { row := recTellsUptoRow, standIns := [], harness := (true, "5a7481147f538df1d586f4d21dfe4254a551626b47bcc1e35a25e6c5178dff8a"), looks := false }, kinds := [], alts := [], laidByText := true, laidKinds := [.data, .data, .data], laidTests := true, laidLooks := .later }
def RecTellsUptoCardSaid : Prop := Claim7.holds Tryd.pinned (.plain (OpenSpec.upto recTellsSpec)) recTellsUptoCard
end Rows
end Go.Proofs.YthfeonmaajiajaaDoor
