/-
  DERIVED. GIVEN WITH THE SEED: THE CARDS: each row of YtfmciefodohdgaaGreatDoorRows.lean that lists a variable, with what it lists TIED to the program's text (the seventh form; the later family's looks); each row that meets fmt, with fmt's text TOLD by the authors' own Lean function (tested against real Go, not proved from fmt's source: count such statements apart). THE CARD IS WHAT COUNTS. Prove the row's statement (the work); the ties are given (YtfmciefodohdgaaGreatDoorTie.lean); close each card by the builder's one call (the guide's Derived/Test/ToyasCard.lean, 'card_holds'). Laid BY PROGRAM, IN A SANDBOX (cutbox-door.mjs). By AI agents, Wed Nov 11 2026. No macro, syntax, notation, axiom, sorry.
-/
import Derived.Test.YtfmciefodohdgaaGreatDoorRows
import GoSem.ClaimSeven
namespace Go.Proofs.YtfmciefodohdgaaGreatDoor
namespace Rows

/-- THE TIED CARD OF 'treillagelaw07.ApplyOnes'. -/
def applyOnesCard : Claim7 := { stood := { row := applyOnesRow, standIns := [], harness := (true, "af06124fc7edb0c51a97a8287b3fc032c3c772f002b4149200461633fa71ac4a"), looks := false }, kinds := [], alts := [], laidByText := true, laidKinds := [.data, .data, .pinned], laidTests := true, laidLooks := .later }
def ApplyOnesCardSaid : Prop := Claim7.holds Tryz.pinned (.plain (OpenSpec.ofChange applyOnesSpec)) applyOnesCard

/-- THE TIED CARD OF 'treillagelaw07.ApplyAll'. -/
def applyAllCard : Claim7 := { stood := { row := applyAllRow, standIns := [], harness := (true, "af06124fc7edb0c51a97a8287b3fc032c3c772f002b4149200461633fa71ac4a"), looks := false }, kinds := [], alts := [], laidByText := true, laidKinds := [.data, .data, .pinned], laidTests := true, laidLooks := .later }
def ApplyAllCardSaid : Prop := Claim7.holds Tryz.pinned (.plain (OpenSpec.ofChange applyAllSpec)) applyAllCard

/-- THE TIED CARD OF 'treillagelaw07.ApplyParts'. -/
def applyPartsCard : Claim7 := { stood := { row := applyPartsRow, standIns := [], harness := (true, "af06124fc7edb0c51a97a8287b3fc032c3c772f002b4149200461633fa71ac4a"), looks := false }, kinds := [], alts := [], laidByText := true, laidKinds := [.data, .data, .pinned], laidTests := true, laidLooks := .later }
def ApplyPartsCardSaid : Prop := Claim7.holds Tryz.pinned (.plain (OpenSpec.ofChange applyPartsSpec)) applyPartsCard

/-- THE TIED CARD OF 'treillagelaw07.ApplyMoves'. -/
def applyMovesCard : Claim7 := { stood := { row := applyMovesRow, standIns := [], harness := (true, "af06124fc7edb0c51a97a8287b3fc032c3c772f002b4149200461633fa71ac4a"), looks := false }, kinds := [], alts := [], laidByText := true, laidKinds := [.data, .data, .pinned], laidTests := true, laidLooks := .later }
def ApplyMovesCardSaid : Prop := Claim7.holds Tryz.pinned (.plain (OpenSpec.ofChange applyMovesSpec)) applyMovesCard

/-- THE TIED CARD OF 'treillagelaw07.ApplyFresh'. -/
def applyFreshCard : Claim7 := { stood := { row := applyFreshRow, standIns := [], harness := (true, "af06124fc7edb0c51a97a8287b3fc032c3c772f002b4149200461633fa71ac4a"), looks := false }, kinds := [], alts := [], laidByText := true, laidKinds := [.data, .data, .pinned], laidTests := true, laidLooks := .later }
def ApplyFreshCardSaid : Prop := Claim7.holds Tryz.pinned (.plain (OpenSpec.ofChange applyFreshSpec)) applyFreshCard

/-- THE TIED CARD OF 'treillagelaw07.ApplyUnknown'. -/
def applyUnknownCard : Claim7 := { stood := { row := applyUnknownRow, standIns := [], harness := (true, "af06124fc7edb0c51a97a8287b3fc032c3c772f002b4149200461633fa71ac4a"), looks := false }, kinds := [], alts := [], laidByText := true, laidKinds := [.data, .data, .pinned], laidTests := true, laidLooks := .later }
def ApplyUnknownCardSaid : Prop := Claim7.holds Tryz.pinned (.plain (OpenSpec.ofChange applyUnknownSpec)) applyUnknownCard

/-- THE TIED CARD OF 'treillagelaw07.ApplyAttrs'. -/
def applyAttrsCard : Claim7 := { stood := { row := applyAttrsRow, standIns := [], harness := (true, "af06124fc7edb0c51a97a8287b3fc032c3c772f002b4149200461633fa71ac4a"), looks := false }, kinds := [], alts := [], laidByText := true, laidKinds := [.data, .data, .pinned], laidTests := true, laidLooks := .later }
def ApplyAttrsCardSaid : Prop := Claim7.holds Tryz.pinned (.plain (OpenSpec.ofChange applyAttrsSpec)) applyAttrsCard

/-- THE TIED CARD OF 'treillagelaw07.ApplyKeeps'. -/
def applyKeepsCard : Claim7 := { stood := { row := applyKeepsRow, standIns := [], harness := (true, "af06124fc7edb0c51a97a8287b3fc032c3c772f002b4149200461633fa71ac4a"), looks := false }, kinds := [], alts := [], laidByText := true, laidKinds := [.data, .data, .pinned], laidTests := true, laidLooks := .later }
def ApplyKeepsCardSaid : Prop := Claim7.holds Tryz.pinned (.plain (OpenSpec.ofChange applyKeepsSpec)) applyKeepsCard

/-- THE TIED CARD OF 'treillagelaw08.WalkKids'. -/
def walkKidsCard : Claim7 := { stood := { row := walkKidsRow, standIns := [], harness := (true, "af06124fc7edb0c51a97a8287b3fc032c3c772f002b4149200461633fa71ac4a"), looks := false }, kinds := [], alts := [], laidByText := true, laidKinds := [.data], laidTests := true, laidLooks := .later }
def WalkKidsCardSaid : Prop := Claim7.holds Tryz.pinned (.plain (OpenSpec.ofChange walkKidsSpec)) walkKidsCard

/-- THE SECOND FORM's CARD OF 'treillagelaw07.ApplyOnes'. -/
def applyOnesUptoCard : Claim7 := { stood := { row := applyOnesUptoRow, standIns := [], harness := (true, "af06124fc7edb0c51a97a8287b3fc032c3c772f002b4149200461633fa71ac4a"), looks := false }, kinds := [], alts := [], laidByText := true, laidKinds := [.data, .data, .pinned], laidTests := true, laidLooks := .later }
def ApplyOnesUptoCardSaid : Prop := Claim7.holds Tryz.pinned (.plain (OpenSpec.upto applyOnesSpec)) applyOnesUptoCard

/-- THE SECOND FORM's CARD OF 'treillagelaw07.ApplyAll'. -/
def applyAllUptoCard : Claim7 := { stood := { row := applyAllUptoRow, standIns := [], harness := (true, "af06124fc7edb0c51a97a8287b3fc032c3c772f002b4149200461633fa71ac4a"), looks := false }, kinds := [], alts := [], laidByText := true, laidKinds := [.data, .data, .pinned], laidTests := true, laidLooks := .later }
def ApplyAllUptoCardSaid : Prop := Claim7.holds Tryz.pinned (.plain (OpenSpec.upto applyAllSpec)) applyAllUptoCard

/-- THE SECOND FORM's CARD OF 'treillagelaw07.ApplyParts'. -/
def applyPartsUptoCard : Claim7 := { stood := { row := applyPartsUptoRow, standIns := [], harness := (true, "af06124fc7edb0c51a97a8287b3fc032c3c772f002b4149200461633fa71ac4a"), looks := false }, kinds := [], alts := [], laidByText := true, laidKinds := [.data, .data, .pinned], laidTests := true, laidLooks := .later }
def ApplyPartsUptoCardSaid : Prop := Claim7.holds Tryz.pinned (.plain (OpenSpec.upto applyPartsSpec)) applyPartsUptoCard

/-- THE SECOND FORM's CARD OF 'treillagelaw07.ApplyMoves'. -/
def applyMovesUptoCard : Claim7 := { stood := { row := applyMovesUptoRow, standIns := [], harness := (true, "af06124fc7edb0c51a97a8287b3fc032c3c772f002b4149200461633fa71ac4a"), looks := false }, kinds := [], alts := [], laidByText := true, laidKinds := [.data, .data, .pinned], laidTests := true, laidLooks := .later }
def ApplyMovesUptoCardSaid : Prop := Claim7.holds Tryz.pinned (.plain (OpenSpec.upto applyMovesSpec)) applyMovesUptoCard

/-- THE SECOND FORM's CARD OF 'treillagelaw07.ApplyFresh'. -/
def applyFreshUptoCard : Claim7 := { stood := { row := applyFreshUptoRow, standIns := [], harness := (true, "af06124fc7edb0c51a97a8287b3fc032c3c772f002b4149200461633fa71ac4a"), looks := false }, kinds := [], alts := [], laidByText := true, laidKinds := [.data, .data, .pinned], laidTests := true, laidLooks := .later }
def ApplyFreshUptoCardSaid : Prop := Claim7.holds Tryz.pinned (.plain (OpenSpec.upto applyFreshSpec)) applyFreshUptoCard

/-- THE SECOND FORM's CARD OF 'treillagelaw07.ApplyUnknown'. -/
def applyUnknownUptoCard : Claim7 := { stood := { row := applyUnknownUptoRow, standIns := [], harness := (true, "af06124fc7edb0c51a97a8287b3fc032c3c772f002b4149200461633fa71ac4a"), looks := false }, kinds := [], alts := [], laidByText := true, laidKinds := [.data, .data, .pinned], laidTests := true, laidLooks := .later }
def ApplyUnknownUptoCardSaid : Prop := Claim7.holds Tryz.pinned (.plain (OpenSpec.upto applyUnknownSpec)) applyUnknownUptoCard

/-- THE SECOND FORM's CARD OF 'treillagelaw07.ApplyAttrs'. -/
def applyAttrsUptoCard : Claim7 := { stood := { row := applyAttrsUptoRow, standIns := [], harness := (true, "af06124fc7edb0c51a97a8287b3fc032c3c772f002b4149200461633fa71ac4a"), looks := false }, kinds := [], alts := [], laidByText := true, laidKinds := [.data, .data, .pinned], laidTests := true, laidLooks := .later }
def ApplyAttrsUptoCardSaid : Prop := Claim7.holds Tryz.pinned (.plain (OpenSpec.upto applyAttrsSpec)) applyAttrsUptoCard

/-- THE SECOND FORM's CARD OF 'treillagelaw07.ApplyKeeps'. -/
def applyKeepsUptoCard : Claim7 := { stood := { row := applyKeepsUptoRow, standIns := [], harness := (true, "af06124fc7edb0c51a97a8287b3fc032c3c772f002b4149200461633fa71ac4a"), looks := false }, kinds := [], alts := [], laidByText := true, laidKinds := [.data, .data, .pinned], laidTests := true, laidLooks := .later }
def ApplyKeepsUptoCardSaid : Prop := Claim7.holds Tryz.pinned (.plain (OpenSpec.upto applyKeepsSpec)) applyKeepsUptoCard

/-- THE SECOND FORM's CARD OF 'treillagelaw08.WalkKids'. -/
def walkKidsUptoCard : Claim7 := { stood := { row := walkKidsUptoRow, standIns := [], harness := (true, "af06124fc7edb0c51a97a8287b3fc032c3c772f002b4149200461633fa71ac4a"), looks := false }, kinds := [], alts := [], laidByText := true, laidKinds := [.data], laidTests := true, laidLooks := .later }
def WalkKidsUptoCardSaid : Prop := Claim7.holds Tryz.pinned (.plain (OpenSpec.upto walkKidsSpec)) walkKidsUptoCard
end Rows
end Go.Proofs.YtfmciefodohdgaaGreatDoor
