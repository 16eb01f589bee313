/-
  DERIVED. GIVEN WITH THE SEED: THE CARDS: each row of YtbicaombdcnciaaDoorRows.lean that lists a variable, with what it lists TIED to the program's text (the seventh form; the later family's looks); each row that meets fmt, with fmt's text TOLD by the authors' own Lean function (tested against real Go, not proved from fmt's source: count such statements apart). THE CARD IS WHAT COUNTS. Prove the row's statement (the work); the ties are given (YtbicaombdcnciaaDoorTie.lean); close each card by the builder's one call (the guide's Derived/Test/ToyasCard.lean, 'card_holds'). Laid BY PROGRAM, IN A SANDBOX (cutbox-door.mjs). By AI agents, Wed Nov 11 2026. No macro, syntax, notation, axiom, sorry.
-/
import Derived.Test.YtbicaombdcnciaaDoorRows
import GoSem.ClaimSeven
namespace Go.Proofs.YtbicaombdcnciaaDoor
namespace Rows

/-- THE TIED CARD OF 'treillagelaw05.ForestSame'. -/
def forestSameCard : Claim7 := { stood := { row := forestSameRow, standIns := [], harness := (true, "b75a64e7927b34042cf26b2357961e3b402f240d9a5514f59121f9a53728fa13"), looks := false }, kinds := [], alts := [], laidByText := true, laidKinds := [.data, .pinned], laidTests := true, laidLooks := .later }
def ForestSameCardSaid : Prop := Claim7.holds Tryd.pinned (.plain (OpenSpec.ofChange forestSameSpec)) forestSameCard

/-- THE TIED CARD OF 'treillagelaw05.ForestTops'. -/
def forestTopsCard : Claim7 := { stood := { row := forestTopsRow, standIns := [], harness := (true, "b75a64e7927b34042cf26b2357961e3b402f240d9a5514f59121f9a53728fa13"), looks := false }, kinds := [], alts := [], laidByText := true, laidKinds := [.data, .pinned], laidTests := true, laidLooks := .later }
def ForestTopsCardSaid : Prop := Claim7.holds Tryd.pinned (.plain (OpenSpec.ofChange forestTopsSpec)) forestTopsCard

/-- THE TIED CARD OF 'treillagelaw05.ForestPrints'. -/
def forestPrintsCard : Claim7 := { stood := { row := forestPrintsRow, standIns := [], harness := (true, "b75a64e7927b34042cf26b2357961e3b402f240d9a5514f59121f9a53728fa13"), looks := false }, kinds := [], alts := [], laidByText := true, laidKinds := [.data, .pinned], laidTests := true, laidLooks := .later }
def ForestPrintsCardSaid : Prop := Claim7.holds Tryd.pinned (.plain (OpenSpec.ofChange forestPrintsSpec)) forestPrintsCard

/-- THE TIED CARD OF 'treillagelaw05.ForestKinds'. -/
def forestKindsCard : Claim7 := { stood := { row := forestKindsRow, standIns := [], harness := (true, "b75a64e7927b34042cf26b2357961e3b402f240d9a5514f59121f9a53728fa13"), looks := false }, kinds := [], alts := [], laidByText := true, laidKinds := [.data, .pinned], laidTests := true, laidLooks := .later }
def ForestKindsCardSaid : Prop := Claim7.holds Tryd.pinned (.plain (OpenSpec.ofChange forestKindsSpec)) forestKindsCard

/-- THE SECOND FORM's CARD OF 'treillagelaw05.ForestSame'. -/
def forestSameUptoCard : Claim7 := { stood := { row := forestSameUptoRow, standIns := [], harness := (true, "b75a64e7927b34042cf26b2357961e3b402f240d9a5514f59121f9a53728fa13"), looks := false }, kinds := [], alts := [], laidByText := true, laidKinds := [.data, .pinned], laidTests := true, laidLooks := .later }
def ForestSameUptoCardSaid : Prop := Claim7.holds Tryd.pinned (.plain (OpenSpec.upto forestSameSpec)) forestSameUptoCard

/-- THE SECOND FORM's CARD OF 'treillagelaw05.ForestTops'. -/
def forestTopsUptoCard : Claim7 := { stood := { row := forestTopsUptoRow, standIns := [], harness := (true, "b75a64e7927b34042cf26b2357961e3b402f240d9a5514f59121f9a53728fa13"), looks := false }, kinds := [], alts := [], laidByText := true, laidKinds := [.data, .pinned], laidTests := true, laidLooks := .later }
def ForestTopsUptoCardSaid : Prop := Claim7.holds Tryd.pinned (.plain (OpenSpec.upto forestTopsSpec)) forestTopsUptoCard

/-- THE SECOND FORM's CARD OF 'treillagelaw05.ForestPrints'. -/
def forestPrintsUptoCard : Claim7 := { stood := { row := forestPrintsUptoRow, standIns := [], harness := (true, "b75a64e7927b34042cf26b2357961e3b402f240d9a5514f59121f9a53728fa13"), looks := false }, kinds := [], alts := [], laidByText := true, laidKinds := [.data, .pinned], laidTests := true, laidLooks := .later }
def ForestPrintsUptoCardSaid : Prop := Claim7.holds Tryd.pinned (.plain (OpenSpec.upto forestPrintsSpec)) forestPrintsUptoCard

/-- THE SECOND FORM's CARD OF 'treillagelaw05.ForestKinds'. -/
def forestKindsUptoCard : Claim7 := { stood := { row := forestKindsUptoRow, standIns := [], harness := (true, "b75a64e7927b34042cf26b2357961e3b402f240d9a5514f59121f9a53728fa13"), looks := false }, kinds := [], alts := [], laidByText := true, laidKinds := [.data, .pinned], laidTests := true, laidLooks := .later }
def ForestKindsUptoCardSaid : Prop := Claim7.holds Tryd.pinned (.plain (OpenSpec.upto forestKindsSpec)) forestKindsUptoCard
end Rows
end Go.Proofs.YtbicaombdcnciaaDoor
