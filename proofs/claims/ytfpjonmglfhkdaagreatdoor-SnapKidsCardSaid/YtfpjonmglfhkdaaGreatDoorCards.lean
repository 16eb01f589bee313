/-
  DERIVED. GIVEN WITH THE SEED: THE CARDS: each row of YtfpjonmglfhkdaaGreatDoorRows.lean that lists a variable, with what it lists TIED to the program's text (the seventh form; the later family's looks); each row that meets fmt, with fmt's text TOLD by the authors' own Lean function (tested against real Go, not proved from fmt's source: count such statements apart). THE CARD IS WHAT COUNTS. Prove the row's statement (the work); the ties are given (YtfpjonmglfhkdaaGreatDoorTie.lean); close each card by the builder's one call (the guide's Derived/Test/ToyasCard.lean, 'card_holds'). Laid BY PROGRAM, IN A SANDBOX (cutbox-door.mjs). By AI agents, Wed Nov 11 2026. No macro, syntax, notation, axiom, sorry.
-/
import Derived.Test.YtfpjonmglfhkdaaGreatDoorRows
import GoSem.ClaimSeven
namespace Go.Proofs.YtfpjonmglfhkdaaGreatDoor
namespace Rows

/-- THE TIED CARD OF 'treillagelaw12.TreeReads'. -/
def treeReadsCard : Claim7 := { stood := { row := treeReadsRow, standIns := [], harness := (true, "deb6ffc33760a47a8c818606ee2442de823a90cad4fd9451e6b923d06ee9014f"), looks := true }, kinds := [], alts := [], laidByText := true, laidKinds := [.data, .data, .pinned], laidTests := true, laidLooks := .later }
def TreeReadsCardSaid : Prop := Claim7.holds Tryz.pinned (.plain (OpenSpec.ofChange treeReadsSpec)) treeReadsCard

/-- THE TIED CARD OF 'treillagelaw12.TreeKeeps'. -/
def treeKeepsCard : Claim7 := { stood := { row := treeKeepsRow, standIns := [], harness := (true, "deb6ffc33760a47a8c818606ee2442de823a90cad4fd9451e6b923d06ee9014f"), looks := true }, kinds := [], alts := [], laidByText := true, laidKinds := [.data, .data, .pinned], laidTests := true, laidLooks := .later }
def TreeKeepsCardSaid : Prop := Claim7.holds Tryz.pinned (.plain (OpenSpec.ofChange treeKeepsSpec)) treeKeepsCard

/-- THE TIED CARD OF 'treillagelaw12.TreeLive'. -/
def treeLiveCard : Claim7 := { stood := { row := treeLiveRow, standIns := [], harness := (true, "deb6ffc33760a47a8c818606ee2442de823a90cad4fd9451e6b923d06ee9014f"), looks := true }, kinds := [], alts := [], laidByText := true, laidKinds := [.data, .data, .pinned], laidTests := true, laidLooks := .later }
def TreeLiveCardSaid : Prop := Claim7.holds Tryz.pinned (.plain (OpenSpec.ofChange treeLiveSpec)) treeLiveCard

/-- THE TIED CARD OF 'treillagelaw12.TreeNone'. -/
def treeNoneCard : Claim7 := { stood := { row := treeNoneRow, standIns := [], harness := (true, "deb6ffc33760a47a8c818606ee2442de823a90cad4fd9451e6b923d06ee9014f"), looks := true }, kinds := [], alts := [], laidByText := true, laidKinds := [.data, .data, .pinned], laidTests := true, laidLooks := .later }
def TreeNoneCardSaid : Prop := Claim7.holds Tryz.pinned (.plain (OpenSpec.ofChange treeNoneSpec)) treeNoneCard

/-- THE TIED CARD OF 'treillagelaw12.TreeShares'. -/
def treeSharesCard : Claim7 := { stood := { row := treeSharesRow, standIns := [], harness := (true, "deb6ffc33760a47a8c818606ee2442de823a90cad4fd9451e6b923d06ee9014f"), looks := true }, kinds := [], alts := [], laidByText := true, laidKinds := [.data, .data, .pinned], laidTests := true, laidLooks := .later }
def TreeSharesCardSaid : Prop := Claim7.holds Tryz.pinned (.plain (OpenSpec.ofChange treeSharesSpec)) treeSharesCard

/-- THE TIED CARD OF 'treillagelaw12.TreeFull'. -/
def treeFullCard : Claim7 := { stood := { row := treeFullRow, standIns := [], harness := (true, "deb6ffc33760a47a8c818606ee2442de823a90cad4fd9451e6b923d06ee9014f"), looks := true }, kinds := [], alts := [], laidByText := true, laidKinds := [.data, .data, .pinned], laidTests := true, laidLooks := .later }
def TreeFullCardSaid : Prop := Claim7.holds Tryz.pinned (.plain (OpenSpec.ofChange treeFullSpec)) treeFullCard

/-- THE TIED CARD OF 'treillagelaw12.TreeHandles'. -/
def treeHandlesCard : Claim7 := { stood := { row := treeHandlesRow, standIns := [], harness := (true, "deb6ffc33760a47a8c818606ee2442de823a90cad4fd9451e6b923d06ee9014f"), looks := true }, kinds := [], alts := [], laidByText := true, laidKinds := [.data, .data, .pinned], laidTests := true, laidLooks := .later }
def TreeHandlesCardSaid : Prop := Claim7.holds Tryz.pinned (.plain (OpenSpec.ofChange treeHandlesSpec)) treeHandlesCard

/-- THE TIED CARD OF 'treillagelaw13.SnapOf'. -/
def snapOfCard : Claim7 := { stood := { row := snapOfRow, standIns := [], harness := (true, "deb6ffc33760a47a8c818606ee2442de823a90cad4fd9451e6b923d06ee9014f"), looks := true }, kinds := [], alts := [], laidByText := true, laidKinds := [.data, .data, .pinned], laidTests := true, laidLooks := .later }
def SnapOfCardSaid : Prop := Claim7.holds Tryz.pinned (.plain (OpenSpec.ofChange snapOfSpec)) snapOfCard

/-- THE TIED CARD OF 'treillagelaw13.SnapAsk'. -/
def snapAskCard : Claim7 := { stood := { row := snapAskRow, standIns := [], harness := (true, "deb6ffc33760a47a8c818606ee2442de823a90cad4fd9451e6b923d06ee9014f"), looks := true }, kinds := [], alts := [], laidByText := true, laidKinds := [.data, .data, .pinned], laidTests := true, laidLooks := .later }
def SnapAskCardSaid : Prop := Claim7.holds Tryz.pinned (.plain (OpenSpec.ofChange snapAskSpec)) snapAskCard

/-- THE TIED CARD OF 'treillagelaw13.SnapKeeps'. -/
def snapKeepsCard : Claim7 := { stood := { row := snapKeepsRow, standIns := [], harness := (true, "deb6ffc33760a47a8c818606ee2442de823a90cad4fd9451e6b923d06ee9014f"), looks := true }, kinds := [], alts := [], laidByText := true, laidKinds := [.data, .data, .pinned], laidTests := true, laidLooks := .later }
def SnapKeepsCardSaid : Prop := Claim7.holds Tryz.pinned (.plain (OpenSpec.ofChange snapKeepsSpec)) snapKeepsCard

/-- THE TIED CARD OF 'treillagelaw13.SnapKids'. -/
def snapKidsCard : Claim7 := { stood := { row := snapKidsRow, standIns := [], harness := (true, "deb6ffc33760a47a8c818606ee2442de823a90cad4fd9451e6b923d06ee9014f"), looks := true }, kinds := [], alts := [], laidByText := true, laidKinds := [.data, .data, .pinned], laidTests := true, laidLooks := .later }
def SnapKidsCardSaid : Prop := Claim7.holds Tryz.pinned (.plain (OpenSpec.ofChange snapKidsSpec)) snapKidsCard

/-- THE TIED CARD OF 'treillagelaw13.SnapErrors'. -/
def snapErrorsCard : Claim7 := { stood := { row := snapErrorsRow, standIns := [], harness := (true, "deb6ffc33760a47a8c818606ee2442de823a90cad4fd9451e6b923d06ee9014f"), looks := true }, kinds := [], alts := [], laidByText := true, laidKinds := [.data, .data, .pinned], laidTests := true, laidLooks := .later }
def SnapErrorsCardSaid : Prop := Claim7.holds Tryz.pinned (.plain (OpenSpec.ofChange snapErrorsSpec)) snapErrorsCard

/-- THE TIED CARD OF 'treillagelaw13.SnapOne'. -/
def snapOneCard : Claim7 := { stood := { row := snapOneRow, standIns := [], harness := (true, "deb6ffc33760a47a8c818606ee2442de823a90cad4fd9451e6b923d06ee9014f"), looks := true }, kinds := [], alts := [], laidByText := true, laidKinds := [.data, .data, .pinned], laidTests := true, laidLooks := .later }
def SnapOneCardSaid : Prop := Claim7.holds Tryz.pinned (.plain (OpenSpec.ofChange snapOneSpec)) snapOneCard

/-- THE SECOND FORM's CARD OF 'treillagelaw12.TreeReads'. -/
def treeReadsUptoCard : Claim7 := { stood := { row := treeReadsUptoRow, standIns := [], harness := (true, "deb6ffc33760a47a8c818606ee2442de823a90cad4fd9451e6b923d06ee9014f"), looks := true }, kinds := [], alts := [], laidByText := true, laidKinds := [.data, .data, .pinned], laidTests := true, laidLooks := .later }
def TreeReadsUptoCardSaid : Prop := Claim7.holds Tryz.pinned (.plain (OpenSpec.upto treeReadsSpec)) treeReadsUptoCard

/-- THE SECOND FORM's CARD OF 'treillagelaw12.TreeKeeps'. -/
def treeKeepsUptoCard : Claim7 := { stood := { row := treeKeepsUptoRow, standIns := [], harness := (true, "deb6ffc33760a47a8c818606ee2442de823a90cad4fd9451e6b923d06ee9014f"), looks := true }, kinds := [], alts := [], laidByText := true, laidKinds := [.data, .data, .pinned], laidTests := true, laidLooks := .later }
def TreeKeepsUptoCardSaid : Prop := Claim7.holds Tryz.pinned (.plain (OpenSpec.upto treeKeepsSpec)) treeKeepsUptoCard

/-- THE SECOND FORM's CARD OF 'treillagelaw12.TreeLive'. -/
def treeLiveUptoCard : Claim7 := { stood := { row := treeLiveUptoRow, standIns := [], harness := (true, "deb6ffc33760a47a8c818606ee2442de823a90cad4fd9451e6b923d06ee9014f"), looks := true }, kinds := [], alts := [], laidByText := true, laidKinds := [.data, .data, .pinned], laidTests := true, laidLooks := .later }
def TreeLiveUptoCardSaid : Prop := Claim7.holds Tryz.pinned (.plain (OpenSpec.upto treeLiveSpec)) treeLiveUptoCard

/-- THE SECOND FORM's CARD OF 'treillagelaw12.TreeNone'. -/
def treeNoneUptoCard : Claim7 := { stood := { row := treeNoneUptoRow, standIns := [], harness := (true, "deb6ffc33760a47a8c818606ee2442de823a90cad4fd9451e6b923d06ee9014f"), looks := true }, kinds := [], alts := [], laidByText := true, laidKinds := [.data, .data, .pinned], laidTests := true, laidLooks := .later }
def TreeNoneUptoCardSaid : Prop := Claim7.holds Tryz.pinned (.plain (OpenSpec.upto treeNoneSpec)) treeNoneUptoCard

/-- THE SECOND FORM's CARD OF 'treillagelaw12.TreeShares'. -/
def treeSharesUptoCard : Claim7 := { stood := { row := treeSharesUptoRow, standIns := [], harness := (true, "deb6ffc33760a47a8c818606ee2442de823a90cad4fd9451e6b923d06ee9014f"), looks := true }, kinds := [], alts := [], laidByText := true, laidKinds := [.data, .data, .pinned], laidTests := true, laidLooks := .later }
def TreeSharesUptoCardSaid : Prop := Claim7.holds Tryz.pinned (.plain (OpenSpec.upto treeSharesSpec)) treeSharesUptoCard

/-- THE SECOND FORM's CARD OF 'treillagelaw12.TreeFull'. -/
def treeFullUptoCard : Claim7 := { stood := { row := treeFullUptoRow, standIns := [], harness := (true, "deb6ffc33760a47a8c818606ee2442de823a90cad4fd9451e6b923d06ee9014f"), looks := true }, kinds := [], alts := [], laidByText := true, laidKinds := [.data, .data, .pinned], laidTests := true, laidLooks := .later }
def TreeFullUptoCardSaid : Prop := Claim7.holds Tryz.pinned (.plain (OpenSpec.upto treeFullSpec)) treeFullUptoCard

/-- THE SECOND FORM's CARD OF 'treillagelaw12.TreeHandles'. -/
def treeHandlesUptoCard : Claim7 := { stood := { row := treeHandlesUptoRow, standIns := [], harness := (true, "deb6ffc33760a47a8c818606ee2442de823a90cad4fd9451e6b923d06ee9014f"), looks := true }, kinds := [], alts := [], laidByText := true, laidKinds := [.data, .data, .pinned], laidTests := true, laidLooks := .later }
def TreeHandlesUptoCardSaid : Prop := Claim7.holds Tryz.pinned (.plain (OpenSpec.upto treeHandlesSpec)) treeHandlesUptoCard

/-- THE SECOND FORM's CARD OF 'treillagelaw13.SnapOf'. -/
def snapOfUptoCard : Claim7 := { stood := { row := snapOfUptoRow, standIns := [], harness := (true, "deb6ffc33760a47a8c818606ee2442de823a90cad4fd9451e6b923d06ee9014f"), looks := true }, kinds := [], alts := [], laidByText := true, laidKinds := [.data, .data, .pinned], laidTests := true, laidLooks := .later }
def SnapOfUptoCardSaid : Prop := Claim7.holds Tryz.pinned (.plain (OpenSpec.upto snapOfSpec)) snapOfUptoCard

/-- THE SECOND FORM's CARD OF 'treillagelaw13.SnapAsk'. -/
def snapAskUptoCard : Claim7 := { stood := { row := snapAskUptoRow, standIns := [], harness := (true, "deb6ffc33760a47a8c818606ee2442de823a90cad4fd9451e6b923d06ee9014f"), looks := true }, kinds := [], alts := [], laidByText := true, laidKinds := [.data, .data, .pinned], laidTests := true, laidLooks := .later }
def SnapAskUptoCardSaid : Prop := Claim7.holds Tryz.pinned (.plain (OpenSpec.upto snapAskSpec)) snapAskUptoCard

/-- THE SECOND FORM's CARD OF 'treillagelaw13.SnapKeeps'. -/
def snapKeepsUptoCard : Claim7 := { stood := { row := snapKeepsUptoRow, standIns := [], harness := (true, "deb6ffc33760a47a8c818606ee2442de823a90cad4fd9451e6b923d06ee9014f"), looks := true }, kinds := [], alts := [], laidByText := true, laidKinds := [.data, .data, .pinned], laidTests := true, laidLooks := .later }
def SnapKeepsUptoCardSaid : Prop := Claim7.holds Tryz.pinned (.plain (OpenSpec.upto snapKeepsSpec)) snapKeepsUptoCard

/-- THE SECOND FORM's CARD OF 'treillagelaw13.SnapKids'. -/
def snapKidsUptoCard : Claim7 := { stood := { row := snapKidsUptoRow, standIns := [], harness := (true, "deb6ffc33760a47a8c818606ee2442de823a90cad4fd9451e6b923d06ee9014f"), looks := true }, kinds := [], alts := [], laidByText := true, laidKinds := [.data, .data, .pinned], laidTests := true, laidLooks := .later }
def SnapKidsUptoCardSaid : Prop := Claim7.holds Tryz.pinned (.plain (OpenSpec.upto snapKidsSpec)) snapKidsUptoCard

/-- THE SECOND FORM's CARD OF 'treillagelaw13.SnapErrors'. -/
def snapErrorsUptoCard : Claim7 := { stood := { row := snapErrorsUptoRow, standIns := [], harness := (true, "deb6ffc33760a47a8c818606ee2442de823a90cad4fd9451e6b923d06ee9014f"), looks := true }, kinds := [], alts := [], laidByText := true, laidKinds := [.data, .data, .pinned], laidTests := true, laidLooks := .later }
def SnapErrorsUptoCardSaid : Prop := Claim7.holds Tryz.pinned (.plain (OpenSpec.upto snapErrorsSpec)) snapErrorsUptoCard

/-- THE SECOND FORM's CARD OF 'treillagelaw13.SnapOne'. -/
def snapOneUptoCard : Claim7 := { stood := { row := snapOneUptoRow, standIns := [], harness := (true, "deb6ffc33760a47a8c818606ee2442de823a90cad4fd9451e6b923d06ee9014f"), looks := true }, kinds := [], alts := [], laidByText := true, laidKinds := [.data, .data, .pinned], laidTests := true, laidLooks := .later }
def SnapOneUptoCardSaid : Prop := Claim7.holds Tryz.pinned (.plain (OpenSpec.upto snapOneSpec)) snapOneUptoCard
end Rows
end Go.Proofs.YtfpjonmglfhkdaaGreatDoor
