/-
  DERIVED. GIVEN WITH THE SEED: THE CARDS: each row of YtibcbopemccolaaDoorRows.lean that lists a variable, with what it lists TIED to the program's text (the seventh form; the later family's looks); each row that meets fmt, with fmt's text TOLD by the authors' own Lean function (tested against real Go, not proved from fmt's source: count such statements apart). THE CARD IS WHAT COUNTS. Prove the row's statement (the work); the ties are given (YtibcbopemccolaaDoorTie.lean); close each card by the builder's one call (the guide's Derived/Test/ToyasCard.lean, 'card_holds'). Laid BY PROGRAM, IN A SANDBOX (cutbox-door.mjs). By AI agents, Wed Nov 11 2026. No macro, syntax, notation, axiom, sorry.
-/
import Derived.Test.YtibcbopemccolaaDoorRows
import GoSem.ClaimSeven
namespace Go.Proofs.YtibcbopemccolaaDoor
namespace Rows

/-- THE TIED CARD OF 'treillagelaw11.RecTells'. -/
def recTellsCard : Claim7 := { stood := { row := recTellsRow, standIns := [], harness := (true, "01bcd341432b6a8f55ecb5811e9e874113924aca5f3de6c87daab29e34cba5a2"), looks := false }, kinds := [], alts := [], laidByText := true, laidKinds := [.data, .data, .data], laidTests := true, laidLooks := .later }
def RecTellsCardSaid : Prop := Claim7.holds Tryd.pinned (.plain (OpenSpec.ofChange recTellsSpec)) recTellsCard

/-- THE TIED CARD OF 'treillagelaw11.RecBack'. -/
def recBackCard : Claim7 := { stood := { row := recBackRow, standIns := [], harness := (true, "01bcd341432b6a8f55ecb5811e9e874113924aca5f3de6c87daab29e34cba5a2"), looks := false }, kinds := [], alts := [], laidByText := true, laidKinds := [.data, .data, .data], laidTests := true, laidLooks := .later }
def RecBackCardSaid : Prop := Claim7.holds Tryd.pinned (.plain (OpenSpec.ofChange recBackSpec)) recBackCard

/-- THE TIED CARD OF 'treillagelaw11.RecWords'. -/
def recWordsCard : Claim7 := { stood := { row := recWordsRow, standIns := [], harness := (true, "01bcd341432b6a8f55ecb5811e9e874113924aca5f3de6c87daab29e34cba5a2"), looks := false }, kinds := [], alts := [], laidByText := true, laidKinds := [.data, .data, .data], laidTests := true, laidLooks := .later }
def RecWordsCardSaid : Prop := Claim7.holds Tryd.pinned (.plain (OpenSpec.ofChange recWordsSpec)) recWordsCard

/-- THE TIED CARD OF 'treillagelaw11.RecLong'. -/
def recLongCard : Claim7 := { stood := { row := recLongRow, standIns := [], harness := (true, "01bcd341432b6a8f55ecb5811e9e874113924aca5f3de6c87daab29e34cba5a2"), looks := false }, kinds := [], alts := [], laidByText := true, laidKinds := [.data, .data, .data], laidTests := true, laidLooks := .later }
def RecLongCardSaid : Prop := Claim7.holds Tryd.pinned (.plain (OpenSpec.ofChange recLongSpec)) recLongCard

/-- THE TIED CARD OF 'treillagelaw11.RecApart'. -/
def recApartCard : Claim7 := { stood := { row := recApartRow, standIns := [], harness := (true, "01bcd341432b6a8f55ecb5811e9e874113924aca5f3de6c87daab29e34cba5a2"), looks := false }, kinds := [], alts := [], laidByText := true, laidKinds := [.data, .data, .data], laidTests := true, laidLooks := .later }
def RecApartCardSaid : Prop := Claim7.holds Tryd.pinned (.plain (OpenSpec.ofChange recApartSpec)) recApartCard

/-- THE TIED CARD OF 'treillagelaw11.RecTexts'. -/
def recTextsCard : Claim7 := { stood := { row := recTextsRow, standIns := [], harness := (true, "01bcd341432b6a8f55ecb5811e9e874113924aca5f3de6c87daab29e34cba5a2"), looks := false }, kinds := [], alts := [], laidByText := true, laidKinds := [.data, .data, .data], laidTests := true, laidLooks := .later }
def RecTextsCardSaid : Prop := Claim7.holds Tryd.pinned (.plain (OpenSpec.ofChange recTextsSpec)) recTextsCard

/-- THE SECOND FORM's CARD OF 'treillagelaw11.RecTells'. -/
def recTellsUptoCard : Claim7 := { stood := { row := recTellsUptoRow, standIns := [], harness := (true, "01bcd341432b6a8f55ecb5811e9e874113924aca5f3de6c87daab29e34cba5a2"), looks := false }, kinds := [], alts := [], laidByText := true, laidKinds := [.data, .data, .data], laidTests := true, laidLooks := .later }
def RecTellsUptoCardSaid : Prop := Claim7.holds Tryd.pinned (.plain (OpenSpec.upto recTellsSpec)) recTellsUptoCard

/-- THE SECOND FORM's CARD OF 'treillagelaw11.RecBack'. -/
def recBackUptoCard : Claim7 := { stood := { row := recBackUptoRow, standIns := [], harness := (true, "01bcd341432b6a8f55ecb5811e9e874113924aca5f3de6c87daab29e34cba5a2"), looks := false }, kinds := [], alts := [], laidByText := true, laidKinds := [.data, .data, .data], laidTests := true, laidLooks := .later }
def RecBackUptoCardSaid : Prop := Claim7.holds Tryd.pinned (.plain (OpenSpec.upto recBackSpec)) recBackUptoCard

/-- THE SECOND FORM's CARD OF 'treillagelaw11.RecWords'. -/
def recWordsUptoCard : Claim7 := { stood := { row := recWordsUptoRow, standIns := [], harness := (true, "01bcd341432b6a8f55ecb5811e9e874113924aca5f3de6c87daab29e34cba5a2"), looks := false }, kinds := [], alts := [], laidByText := true, laidKinds := [.data, .data, .data], laidTests := true, laidLooks := .later }
def RecWordsUptoCardSaid : Prop := Claim7.holds Tryd.pinned (.plain (OpenSpec.upto recWordsSpec)) recWordsUptoCard

/-- THE SECOND FORM's CARD OF 'treillagelaw11.RecLong'. -/
def recLongUptoCard : Claim7 := { stood := { row := recLongUptoRow, standIns := [], harness := (true, "01bcd341432b6a8f55ecb5811e9e874113924aca5f3de6c87daab29e34cba5a2"), looks := false }, kinds := [], alts := [], laidByText := true, laidKinds := [.data, .data, .data], laidTests := true, laidLooks := .later }
def RecLongUptoCardSaid : Prop := Claim7.holds Tryd.pinned (.plain (OpenSpec.upto recLongSpec)) recLongUptoCard

/-- THE SECOND FORM's CARD OF 'treillagelaw11.RecApart'. -/
def recApartUptoCard : Claim7 := { stood := { row := recApartUptoRow, standIns := [], harness := (true, "01bcd341432b6a8f55ecb5811e9e874113924aca5f3de6c87daab29e34cba5a2"), looks := false }, kinds := [], alts := [], laidByText := true, laidKinds := [.data, .data, .data], laidTests := true, laidLooks := .later }
def RecApartUptoCardSaid : Prop := Claim7.holds Tryd.pinned (.plain (OpenSpec.upto recApartSpec)) recApartUptoCard

/-- THE SECOND FORM's CARD OF 'treillagelaw11.RecTexts'. -/
def recTextsUptoCard : Claim7 := { stood := { row := recTextsUptoRow, standIns := [], harness := (true, "01bcd341432b6a8f55ecb5811e9e874113924aca5f3de6c87daab29e34cba5a2"), looks := false }, kinds := [], alts := [], laidByText := true, laidKinds := [.data, .data, .data], laidTests := true, laidLooks := .later }
def RecTextsUptoCardSaid : Prop := Claim7.holds Tryd.pinned (.plain (OpenSpec.upto recTextsSpec)) recTextsUptoCard
end Rows
end Go.Proofs.YtibcbopemccolaaDoor
