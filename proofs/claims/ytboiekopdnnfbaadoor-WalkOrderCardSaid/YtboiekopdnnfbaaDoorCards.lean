/-
  DERIVED. GIVEN WITH THE SEED: THE CARDS: each row of YtboiekopdnnfbaaDoorRows.lean that lists a variable, with what it lists TIED to the program's text (the seventh form; the later family's looks); each row that meets fmt, with fmt's text TOLD by the authors' own Lean function (tested against real Go, not proved from fmt's source: count such statements apart). THE CARD IS WHAT COUNTS. Prove the row's statement (the work); the ties are given (YtboiekopdnnfbaaDoorTie.lean); close each card by the builder's one call (the guide's Derived/Test/ToyasCard.lean, 'card_holds'). Laid BY PROGRAM, IN A SANDBOX (cutbox-door.mjs). By AI agents, Wed Nov 11 2026. No macro, syntax, notation, axiom, sorry.
-/
import Derived.Test.YtboiekopdnnfbaaDoorRows
import GoSem.ClaimSeven
namespace Go.Proofs.YtboiekopdnnfbaaDoor
namespace Rows

/-- THE TIED CARD OF 'treillagelaw08.WalkOrder'. -/
def walkOrderCard : Claim7 := { stood := { row := walkOrderRow, standIns := [], harness := (true, "2b81a12b31470b33a7a77f6e5568c1d9d2a7f27ecd1986b6ab722d3c6c34c384"), looks := false }, kinds := [], alts := [], laidByText := true, laidKinds := [.data], laidTests := true, laidLooks := .later }
def WalkOrderCardSaid : Prop := Claim7.holds Tryd.pinned (.plain (OpenSpec.ofChange walkOrderSpec)) walkOrderCard

/-- THE TIED CARD OF 'treillagelaw08.WalkBeside'. -/
def walkBesideCard : Claim7 := { stood := { row := walkBesideRow, standIns := [], harness := (true, "2b81a12b31470b33a7a77f6e5568c1d9d2a7f27ecd1986b6ab722d3c6c34c384"), looks := false }, kinds := [], alts := [], laidByText := true, laidKinds := [.data], laidTests := true, laidLooks := .later }
def WalkBesideCardSaid : Prop := Claim7.holds Tryd.pinned (.plain (OpenSpec.ofChange walkBesideSpec)) walkBesideCard

/-- THE TIED CARD OF 'treillagelaw08.WalkContent'. -/
def walkContentCard : Claim7 := { stood := { row := walkContentRow, standIns := [], harness := (true, "2b81a12b31470b33a7a77f6e5568c1d9d2a7f27ecd1986b6ab722d3c6c34c384"), looks := false }, kinds := [], alts := [], laidByText := true, laidKinds := [.data], laidTests := true, laidLooks := .later }
def WalkContentCardSaid : Prop := Claim7.holds Tryd.pinned (.plain (OpenSpec.ofChange walkContentSpec)) walkContentCard

/-- THE TIED CARD OF 'treillagelaw08.WalkUp'. -/
def walkUpCard : Claim7 := { stood := { row := walkUpRow, standIns := [], harness := (true, "2b81a12b31470b33a7a77f6e5568c1d9d2a7f27ecd1986b6ab722d3c6c34c384"), looks := false }, kinds := [], alts := [], laidByText := true, laidKinds := [.data], laidTests := true, laidLooks := .later }
def WalkUpCardSaid : Prop := Claim7.holds Tryd.pinned (.plain (OpenSpec.ofChange walkUpSpec)) walkUpCard

/-- THE SECOND FORM's CARD OF 'treillagelaw08.WalkOrder'. -/
def walkOrderUptoCard : Claim7 := { stood := { row := walkOrderUptoRow, standIns := [], harness := (true, "2b81a12b31470b33a7a77f6e5568c1d9d2a7f27ecd1986b6ab722d3c6c34c384"), looks := false }, kinds := [], alts := [], laidByText := true, laidKinds := [.data], laidTests := true, laidLooks := .later }
def WalkOrderUptoCardSaid : Prop := Claim7.holds Tryd.pinned (.plain (OpenSpec.upto walkOrderSpec)) walkOrderUptoCard

/-- THE SECOND FORM's CARD OF 'treillagelaw08.WalkBeside'. -/
def walkBesideUptoCard : Claim7 := { stood := { row := walkBesideUptoRow, standIns := [], harness := (true, "2b81a12b31470b33a7a77f6e5568c1d9d2a7f27ecd1986b6ab722d3c6c34c384"), looks := false }, kinds := [], alts := [], laidByText := true, laidKinds := [.data], laidTests := true, laidLooks := .later }
def WalkBesideUptoCardSaid : Prop := Claim7.holds Tryd.pinned (.plain (OpenSpec.upto walkBesideSpec)) walkBesideUptoCard

/-- THE SECOND FORM's CARD OF 'treillagelaw08.WalkContent'. -/
def walkContentUptoCard : Claim7 := { stood := { row := walkContentUptoRow, standIns := [], harness := (true, "2b81a12b31470b33a7a77f6e5568c1d9d2a7f27ecd1986b6ab722d3c6c34c384"), looks := false }, kinds := [], alts := [], laidByText := true, laidKinds := [.data], laidTests := true, laidLooks := .later }
def WalkContentUptoCardSaid : Prop := Claim7.holds Tryd.pinned (.plain (OpenSpec.upto walkContentSpec)) walkContentUptoCard

/-- THE SECOND FORM's CARD OF 'treillagelaw08.WalkUp'. -/
def walkUpUptoCard : Claim7 := { stood := { row := walkUpUptoRow, standIns := [], harness := (true, "2b81a12b31470b33a7a77f6e5568c1d9d2a7f27ecd1986b6ab722d3c6c34c384"), looks := false }, kinds := [], alts := [], laidByText := true, laidKinds := [.data], laidTests := true, laidLooks := .later }
def WalkUpUptoCardSaid : Prop := Claim7.holds Tryd.pinned (.plain (OpenSpec.upto walkUpSpec)) walkUpUptoCard
end Rows
end Go.Proofs.YtboiekopdnnfbaaDoor
