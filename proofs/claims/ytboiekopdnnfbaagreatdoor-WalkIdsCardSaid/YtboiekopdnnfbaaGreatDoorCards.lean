/-
  DERIVED. GIVEN WITH THE SEED: THE CARDS: each row of YtboiekopdnnfbaaGreatDoorRows.lean that lists a variable, with what it lists TIED to the program's text (the seventh form; the later family's looks); each row that meets fmt, with fmt's text TOLD by the authors' own Lean function (tested against real Go, not proved from fmt's source: count such statements apart). THE CARD IS WHAT COUNTS. Prove the row's statement (the work); the ties are given (YtboiekopdnnfbaaGreatDoorTie.lean); close each card by the builder's one call (the guide's Derived/Test/ToyasCard.lean, 'card_holds'). Laid BY PROGRAM, IN A SANDBOX (cutbox-door.mjs). By AI agents, Wed Nov 11 2026. No macro, syntax, notation, axiom, sorry.
-/
import Derived.Test.YtboiekopdnnfbaaGreatDoorRows
import GoSem.ClaimSeven
namespace Go.Proofs.YtboiekopdnnfbaaGreatDoor
namespace Rows

/-- THE TIED CARD OF 'treillagelaw07.ApplyOnes'. -/
def applyOnesCard : Claim7 := { stood := { row := applyOnesRow, standIns := [], harness := (true, "4af611395e864149af87c466066be7881b5ad9ebf1a25f35b436b55e31053668"), looks := false }, kinds := [], alts := [], laidByText := true, laidKinds := [.data, .data, .pinned], laidTests := true, laidLooks := .later }
def ApplyOnesCardSaid : Prop := Claim7.holds Tryz.pinned (.plain (OpenSpec.ofChange applyOnesSpec)) applyOnesCard

/-- THE TIED CARD OF 'treillagelaw07.ApplyAll'. -/
def applyAllCard : Claim7 := { stood := { row := applyAllRow, standIns := [], harness := (true, "4af611395e864149af87c466066be7881b5ad9ebf1a25f35b436b55e31053668"), looks := false }, kinds := [], alts := [], laidByText := true, laidKinds := [.data, .data, .pinned], laidTests := true, laidLooks := .later }
def ApplyAllCardSaid : Prop := Claim7.holds Tryz.pinned (.plain (OpenSpec.ofChange applyAllSpec)) applyAllCard

/-- THE TIED CARD OF 'treillagelaw08.WalkTells'. -/
def walkTellsCard : Claim7 := { stood := { row := walkTellsRow, standIns := [], harness := (true, "4af611395e864149af87c466066be7881b5ad9ebf1a25f35b436b55e31053668"), looks := false }, kinds := [], alts := [], laidByText := true, laidKinds := [.data], laidTests := true, laidLooks := .later }
def WalkTellsCardSaid : Prop := Claim7.holds Tryz.pinned (.plain (OpenSpec.ofChange walkTellsSpec)) walkTellsCard

/-- THE TIED CARD OF 'treillagelaw08.WalkIds'. -/
def walkIdsCard : Claim7 := { stood := { row := walkIdsRow, standIns := [], harness := (true, "4af611395e864149af87c466066be7881b5ad9ebf1a25f35b436b55e31053668"), looks := false }, kinds := [], alts := [], laidByText := true, laidKinds := [.data], laidTests := true, laidLooks := .later }
def WalkIdsCardSaid : Prop := Claim7.holds Tryz.pinned (.plain (OpenSpec.ofChange walkIdsSpec)) walkIdsCard

/-- THE TIED CARD OF 'treillagelaw08.WalkKids'. -/
def walkKidsCard : Claim7 := { stood := { row := walkKidsRow, standIns := [], harness := (true, "4af611395e864149af87c466066be7881b5ad9ebf1a25f35b436b55e31053668"), looks := false }, kinds := [], alts := [], laidByText := true, laidKinds := [.data], laidTests := true, laidLooks := .later }
def WalkKidsCardSaid : Prop := Claim7.holds Tryz.pinned (.plain (OpenSpec.ofChange walkKidsSpec)) walkKidsCard

/-- THE SECOND FORM's CARD OF 'treillagelaw07.ApplyOnes'. -/
def applyOnesUptoCard : Claim7 := { stood := { row := applyOnesUptoRow, standIns := [], harness := (true, "4af611395e864149af87c466066be7881b5ad9ebf1a25f35b436b55e31053668"), looks := false }, kinds := [], alts := [], laidByText := true, laidKinds := [.data, .data, .pinned], laidTests := true, laidLooks := .later }
def ApplyOnesUptoCardSaid : Prop := Claim7.holds Tryz.pinned (.plain (OpenSpec.upto applyOnesSpec)) applyOnesUptoCard

/-- THE SECOND FORM's CARD OF 'treillagelaw07.ApplyAll'. -/
def applyAllUptoCard : Claim7 := { stood := { row := applyAllUptoRow, standIns := [], harness := (true, "4af611395e864149af87c466066be7881b5ad9ebf1a25f35b436b55e31053668"), looks := false }, kinds := [], alts := [], laidByText := true, laidKinds := [.data, .data, .pinned], laidTests := true, laidLooks := .later }
def ApplyAllUptoCardSaid : Prop := Claim7.holds Tryz.pinned (.plain (OpenSpec.upto applyAllSpec)) applyAllUptoCard

/-- THE SECOND FORM's CARD OF 'treillagelaw08.WalkTells'. -/
def walkTellsUptoCard : Claim7 := { stood := { row := walkTellsUptoRow, standIns := [], harness := (true, "4af611395e864149af87c466066be7881b5ad9ebf1a25f35b436b55e31053668"), looks := false }, kinds := [], alts := [], laidByText := true, laidKinds := [.data], laidTests := true, laidLooks := .later }
def WalkTellsUptoCardSaid : Prop := Claim7.holds Tryz.pinned (.plain (OpenSpec.upto walkTellsSpec)) walkTellsUptoCard

/-- THE SECOND FORM's CARD OF 'treillagelaw08.WalkIds'. -/
def walkIdsUptoCard : Claim7 := { stood := { row := walkIdsUptoRow, standIns := [], harness := (true, "4af611395e864149af87c466066be7881b5ad9ebf1a25f35b436b55e31053668"), looks := false }, kinds := [], alts := [], laidByText := true, laidKinds := [.data], laidTests := true, laidLooks := .later }
def WalkIdsUptoCardSaid : Prop := Claim7.holds Tryz.pinned (.plain (OpenSpec.upto walkIdsSpec)) walkIdsUptoCard

/-- THE SECOND FORM's CARD OF 'treillagelaw08.WalkKids'. -/
def walkKidsUptoCard : Claim7 := { stood := { row := walkKidsUptoRow, standIns := [], harness := (true, "4af611395e864149af87c466066be7881b5ad9ebf1a25f35b436b55e31053668"), looks := false }, kinds := [], alts := [], laidByText := true, laidKinds := [.data], laidTests := true, laidLooks := .later }
def WalkKidsUptoCardSaid : Prop := Claim7.holds Tryz.pinned (.plain (OpenSpec.upto walkKidsSpec)) walkKidsUptoCard
end Rows
end Go.Proofs.YtboiekopdnnfbaaGreatDoor
