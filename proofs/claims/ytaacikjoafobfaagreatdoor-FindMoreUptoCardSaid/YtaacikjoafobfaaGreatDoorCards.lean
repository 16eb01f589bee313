/-
  DERIVED. GIVEN WITH THE SEED: THE CARDS: each row of YtaacikjoafobfaaGreatDoorRows.lean that lists a variable, with what it lists TIED to the program's text (the seventh form; the later family's looks); each row that meets fmt, with fmt's text TOLD by the authors' own Lean function (tested against real Go, not proved from fmt's source: count such statements apart). THE CARD IS WHAT COUNTS. Prove the row's statement (the work); the ties are given (YtaacikjoafobfaaGreatDoorTie.lean); close each card by the builder's one call (the guide's Derived/Test/ToyasCard.lean, 'card_holds'). Laid BY PROGRAM, IN A SANDBOX (cutbox-door.mjs). By AI agents, Wed Nov 11 2026. No macro, syntax, notation, axiom, sorry.
-/
import Derived.Test.YtaacikjoafobfaaGreatDoorRows
import GoSem.ClaimSeven
namespace Go.Proofs.YtaacikjoafobfaaGreatDoor
namespace Rows

/-- THE TIED CARD OF 'treillagelaw10.FindTells'. -/
def findTellsCard : Claim7 := { stood := { row := findTellsRow, standIns := [], harness := (true, "31ad01dbd5993a1aee0616d83f94559acdb191a09f042d4ee67536018dfd1658"), looks := true }, kinds := [], alts := [], laidByText := true, laidKinds := [.data], laidTests := true, laidLooks := .later }
def FindTellsCardSaid : Prop := Claim7.holds Tryz.pinned (.plain (OpenSpec.ofChange findTellsSpec)) findTellsCard

/-- THE TIED CARD OF 'treillagelaw10.FindTexts'. -/
def findTextsCard : Claim7 := { stood := { row := findTextsRow, standIns := [], harness := (true, "31ad01dbd5993a1aee0616d83f94559acdb191a09f042d4ee67536018dfd1658"), looks := true }, kinds := [], alts := [], laidByText := true, laidKinds := [.data], laidTests := true, laidLooks := .later }
def FindTextsCardSaid : Prop := Claim7.holds Tryz.pinned (.plain (OpenSpec.ofChange findTextsSpec)) findTextsCard

/-- THE TIED CARD OF 'treillagelaw10.FindBoth'. -/
def findBothCard : Claim7 := { stood := { row := findBothRow, standIns := [], harness := (true, "31ad01dbd5993a1aee0616d83f94559acdb191a09f042d4ee67536018dfd1658"), looks := true }, kinds := [], alts := [], laidByText := true, laidKinds := [.data], laidTests := true, laidLooks := .later }
def FindBothCardSaid : Prop := Claim7.holds Tryz.pinned (.plain (OpenSpec.ofChange findBothSpec)) findBothCard

/-- THE TIED CARD OF 'treillagelaw10.FindBelow'. -/
def findBelowCard : Claim7 := { stood := { row := findBelowRow, standIns := [], harness := (true, "31ad01dbd5993a1aee0616d83f94559acdb191a09f042d4ee67536018dfd1658"), looks := true }, kinds := [], alts := [], laidByText := true, laidKinds := [.data], laidTests := true, laidLooks := .later }
def FindBelowCardSaid : Prop := Claim7.holds Tryz.pinned (.plain (OpenSpec.ofChange findBelowSpec)) findBelowCard

/-- THE TIED CARD OF 'treillagelaw10.FindStar'. -/
def findStarCard : Claim7 := { stood := { row := findStarRow, standIns := [], harness := (true, "31ad01dbd5993a1aee0616d83f94559acdb191a09f042d4ee67536018dfd1658"), looks := true }, kinds := [], alts := [], laidByText := true, laidKinds := [.data], laidTests := true, laidLooks := .later }
def FindStarCardSaid : Prop := Claim7.holds Tryz.pinned (.plain (OpenSpec.ofChange findStarSpec)) findStarCard

/-- THE TIED CARD OF 'treillagelaw10.FindIds'. -/
def findIdsCard : Claim7 := { stood := { row := findIdsRow, standIns := [], harness := (true, "31ad01dbd5993a1aee0616d83f94559acdb191a09f042d4ee67536018dfd1658"), looks := true }, kinds := [], alts := [], laidByText := true, laidKinds := [.data], laidTests := true, laidLooks := .later }
def FindIdsCardSaid : Prop := Claim7.holds Tryz.pinned (.plain (OpenSpec.ofChange findIdsSpec)) findIdsCard

/-- THE TIED CARD OF 'treillagelaw10.FindMore'. -/
def findMoreCard : Claim7 := { stood := { row := findMoreRow, standIns := [], harness := (true, "31ad01dbd5993a1aee0616d83f94559acdb191a09f042d4ee67536018dfd1658"), looks := true }, kinds := [], alts := [], laidByText := true, laidKinds := [.data], laidTests := true, laidLooks := .later }
def FindMoreCardSaid : Prop := Claim7.holds Tryz.pinned (.plain (OpenSpec.ofChange findMoreSpec)) findMoreCard

/-- THE TIED CARD OF 'treillagelaw08.WalkTells'. -/
def walkTellsCard : Claim7 := { stood := { row := walkTellsRow, standIns := [], harness := (true, "31ad01dbd5993a1aee0616d83f94559acdb191a09f042d4ee67536018dfd1658"), looks := true }, kinds := [], alts := [], laidByText := true, laidKinds := [.data], laidTests := true, laidLooks := .later }
def WalkTellsCardSaid : Prop := Claim7.holds Tryz.pinned (.plain (OpenSpec.ofChange walkTellsSpec)) walkTellsCard

/-- THE SECOND FORM's CARD OF 'treillagelaw10.FindTells'. -/
def findTellsUptoCard : Claim7 := { stood := { row := findTellsUptoRow, standIns := [], harness := (true, "31ad01dbd5993a1aee0616d83f94559acdb191a09f042d4ee67536018dfd1658"), looks := true }, kinds := [], alts := [], laidByText := true, laidKinds := [.data], laidTests := true, laidLooks := .later }
def FindTellsUptoCardSaid : Prop := Claim7.holds Tryz.pinned (.plain (OpenSpec.upto findTellsSpec)) findTellsUptoCard

/-- THE SECOND FORM's CARD OF 'treillagelaw10.FindTexts'. -/
def findTextsUptoCard : Claim7 := { stood := { row := findTextsUptoRow, standIns := [], harness := (true, "31ad01dbd5993a1aee0616d83f94559acdb191a09f042d4ee67536018dfd1658"), looks := true }, kinds := [], alts := [], laidByText := true, laidKinds := [.data], laidTests := true, laidLooks := .later }
def FindTextsUptoCardSaid : Prop := Claim7.holds Tryz.pinned (.plain (OpenSpec.upto findTextsSpec)) findTextsUptoCard

/-- THE SECOND FORM's CARD OF 'treillagelaw10.FindBoth'. -/
def findBothUptoCard : Claim7 := { stood := { row := findBothUptoRow, standIns := [], harness := (true, "31ad01dbd5993a1aee0616d83f94559acdb191a09f042d4ee67536018dfd1658"), looks := true }, kinds := [], alts := [], laidByText := true, laidKinds := [.data], laidTests := true, laidLooks := .later }
def FindBothUptoCardSaid : Prop := Claim7.holds Tryz.pinned (.plain (OpenSpec.upto findBothSpec)) findBothUptoCard

/-- THE SECOND FORM's CARD OF 'treillagelaw10.FindBelow'. -/
def findBelowUptoCard : Claim7 := { stood := { row := findBelowUptoRow, standIns := [], harness := (true, "31ad01dbd5993a1aee0616d83f94559acdb191a09f042d4ee67536018dfd1658"), looks := true }, kinds := [], alts := [], laidByText := true, laidKinds := [.data], laidTests := true, laidLooks := .later }
def FindBelowUptoCardSaid : Prop := Claim7.holds Tryz.pinned (.plain (OpenSpec.upto findBelowSpec)) findBelowUptoCard

/-- THE SECOND FORM's CARD OF 'treillagelaw10.FindStar'. -/
def findStarUptoCard : Claim7 := { stood := { row := findStarUptoRow, standIns := [], harness := (true, "31ad01dbd5993a1aee0616d83f94559acdb191a09f042d4ee67536018dfd1658"), looks := true }, kinds := [], alts := [], laidByText := true, laidKinds := [.data], laidTests := true, laidLooks := .later }
def FindStarUptoCardSaid : Prop := Claim7.holds Tryz.pinned (.plain (OpenSpec.upto findStarSpec)) findStarUptoCard

/-- THE SECOND FORM's CARD OF 'treillagelaw10.FindIds'. -/
def findIdsUptoCard : Claim7 := { stood := { row := findIdsUptoRow, standIns := [], harness := (true, "31ad01dbd5993a1aee0616d83f94559acdb191a09f042d4ee67536018dfd1658"), looks := true }, kinds := [], alts := [], laidByText := true, laidKinds := [.data], laidTests := true, laidLooks := .later }
def FindIdsUptoCardSaid : Prop := Claim7.holds Tryz.pinned (.plain (OpenSpec.upto findIdsSpec)) findIdsUptoCard

/-- THE SECOND FORM's CARD OF 'treillagelaw10.FindMore'. -/
def findMoreUptoCard : Claim7 := { stood := { row := findMoreUptoRow, standIns := [], harness := (true, "31ad01dbd5993a1aee0616d83f94559acdb191a09f042d4ee67536018dfd1658"), looks := true }, kinds := [], alts := [], laidByText := true, laidKinds := [.data], laidTests := true, laidLooks := .later }
def FindMoreUptoCardSaid : Prop := Claim7.holds Tryz.pinned (.plain (OpenSpec.upto findMoreSpec)) findMoreUptoCard

/-- THE SECOND FORM's CARD OF 'treillagelaw08.WalkTells'. -/
def walkTellsUptoCard : Claim7 := { stood := { row := walkTellsUptoRow, standIns := [], harness := (true, "31ad01dbd5993a1aee0616d83f94559acdb191a09f042d4ee67536018dfd1658"), looks := true }, kinds := [], alts := [], laidByText := true, laidKinds := [.data], laidTests := true, laidLooks := .later }
def WalkTellsUptoCardSaid : Prop := Claim7.holds Tryz.pinned (.plain (OpenSpec.upto walkTellsSpec)) walkTellsUptoCard
end Rows
end Go.Proofs.YtaacikjoafobfaaGreatDoor
