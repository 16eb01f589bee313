/-
  NARROWER THAN 'FOR EVERY INPUT', by the rows' own cells (each row's printed sentence says how): FindTells: laid · FindTexts: laid · FindBoth: laid · FindBelow: laid · FindStar: laid · FindIds: laid · FindMore: laid · WalkTells: laid.
  DERIVED. THE GIVEN ROWS OF THIS SEAT. 8 by the template 'for every input the law returns true; each argument reads behind the call as it read before'; 0 by the template 'total and deterministic' (their statements: YtaacikjoafobfaaGreatDoorTotals.lean).
  GIVEN WITH THE SEED: the statements are not yours to turn. If you find one false, say at which input.
  Laid BY PROGRAM, IN A SANDBOX (cutbox-rows.mjs): the forced cells as the released guide's own fill.sh prints them over the translation be2d19641a067fc4… (all of the seat's roots in one cut). By AI agents, Wed Nov 11 2026. No macro, syntax, notation, axiom, sorry.
-/
import Derived.Test.YtaacikjoafobfaaGreatDoorChecked
import GoSem.Claim
import GoSem.ClaimJoined
import GoSem.ClaimMapViews
import Derived.JoinedTies
import Derived.KernelRfl
namespace Go.Proofs.YtaacikjoafobfaaGreatDoor
/- THE CELL 'sum', in the pinned program and in every row, IS THE sha256 OF THE DUMP (.gsa) THAT YtaacikjoafobfaaGreatDoorProg.lean LOADS. Nothing in Lean hashes anything: it is a label: what it is worth is what the hold of that sum in a sandbox is worth. -/
noncomputable def Tryz.pinned : Pinned := { name := "ytaacikjoafobfaagreatdoor", sum := "be2d19641a067fc44510c686fe10ddb40e44bbb8cae2d9725fe010e6e0428df4", checked := Tryz.checked }
namespace Rows
def none {H : Type} : Left H := { results := [], args := [] }

/- WHAT THE LISTED PACKAGE-LEVEL VARIABLES READ AS WHEN THE CALL BEGINS. Each datum BY PROGRAM (the guide's laid-datum.mjs) off the statement by which the dump's own 'gosem.cut.vars' lays the variable. In a bare row this is a premise. The card (YtaacikjoafobfaaGreatDoorCards.lean) ties it to the program's text. -/
def laid_treillage_op_kinds {H : Type} : DataW H := .agg [.agg [.lit (.string []), .lit (.bool false), .lit (.bool false), .lit (.bool false), .lit (.bool false), .lit (.bool false)], .agg [.lit (.string [101, 108, 101, 109, 101, 110, 116]), .lit (.bool false), .lit (.bool false), .lit (.bool false), .lit (.bool true), .lit (.bool false)], .agg [.lit (.string [116, 101, 120, 116]), .lit (.bool false), .lit (.bool false), .lit (.bool false), .lit (.bool false), .lit (.bool true)], .agg [.lit (.string [99, 111, 109, 109, 101, 110, 116]), .lit (.bool false), .lit (.bool false), .lit (.bool false), .lit (.bool false), .lit (.bool true)], .agg [.lit (.string [105, 110, 115, 101, 114, 116]), .lit (.bool true), .lit (.bool true), .lit (.bool true), .lit (.bool false), .lit (.bool false)], .agg [.lit (.string [114, 101, 109, 111, 118, 101]), .lit (.bool true), .lit (.bool false), .lit (.bool false), .lit (.bool false), .lit (.bool false)], .agg [.lit (.string [115, 101, 116]), .lit (.bool true), .lit (.bool false), .lit (.bool false), .lit (.bool true), .lit (.bool true)], .agg [.lit (.string [117, 110, 115, 101, 116]), .lit (.bool true), .lit (.bool false), .lit (.bool false), .lit (.bool true), .lit (.bool false)], .agg [.lit (.string [99, 104, 97, 110, 103, 101]), .lit (.bool true), .lit (.bool false), .lit (.bool false), .lit (.bool false), .lit (.bool true)]]

/-- 'treillagelaw10.FindTells': WHATEVER THE INPUT: true; the input reads as it did. -/
def findTellsSpec : ChangeSpec := { name := "findTells", fn := fun _ => fun
  | [d1, d2, d3] => { results := [.lit (.bool true)], args := [d1, d2, d3] }
  | _ => none }
def findTellsRow : OpenClaim := { program := "ytaacikjoafobfaagreatdoor", sum := "be2d19641a067fc44510c686fe10ddb40e44bbb8cae2d9725fe010e6e0428df4", func := "treillage/treillagelaw10.FindTells", spec := "findTells", inPlace := ["slices.overlaps[int]"], unfollowed := true, recurses := true, named := ["treillage/op.kinds"], apart := false, laid := [("treillage/op.kinds", laid_treillage_op_kinds)] }
def FindTellsSaid : Prop := findTellsRow.holds Tryz.pinned (OpenSpec.ofChange findTellsSpec)

/-- ITS FALSE NEIGHBOUR: 'it returns false'. Refute it at one input. -/
def findTellsWrong : ChangeSpec := { name := "findTells", fn := fun _ => fun
  | [d1, d2, d3] => { results := [.lit (.bool false)], args := [d1, d2, d3] }
  | _ => none }
def FindTellsWrongFalsely : Prop := findTellsRow.holds Tryz.pinned (OpenSpec.ofChange findTellsWrong)

/-- 'treillagelaw10.FindTexts': WHATEVER THE INPUT: true; the input reads as it did. -/
def findTextsSpec : ChangeSpec := { name := "findTexts", fn := fun _ => fun
  | [d1, d2] => { results := [.lit (.bool true)], args := [d1, d2] }
  | _ => none }
def findTextsRow : OpenClaim := { program := "ytaacikjoafobfaagreatdoor", sum := "be2d19641a067fc44510c686fe10ddb40e44bbb8cae2d9725fe010e6e0428df4", func := "treillage/treillagelaw10.FindTexts", spec := "findTexts", inPlace := ["slices.overlaps[int]"], unfollowed := true, recurses := true, named := ["treillage/op.kinds"], apart := false, laid := [("treillage/op.kinds", laid_treillage_op_kinds)] }
def FindTextsSaid : Prop := findTextsRow.holds Tryz.pinned (OpenSpec.ofChange findTextsSpec)

/-- ITS FALSE NEIGHBOUR: 'it returns false'. Refute it at one input. -/
def findTextsWrong : ChangeSpec := { name := "findTexts", fn := fun _ => fun
  | [d1, d2] => { results := [.lit (.bool false)], args := [d1, d2] }
  | _ => none }
def FindTextsWrongFalsely : Prop := findTextsRow.holds Tryz.pinned (OpenSpec.ofChange findTextsWrong)

/-- 'treillagelaw10.FindBoth': WHATEVER THE INPUT: true; the input reads as it did. -/
def findBothSpec : ChangeSpec := { name := "findBoth", fn := fun _ => fun
  | [d1, d2, d3, d4] => { results := [.lit (.bool true)], args := [d1, d2, d3, d4] }
  | _ => none }
def findBothRow : OpenClaim := { program := "ytaacikjoafobfaagreatdoor", sum := "be2d19641a067fc44510c686fe10ddb40e44bbb8cae2d9725fe010e6e0428df4", func := "treillage/treillagelaw10.FindBoth", spec := "findBoth", inPlace := ["slices.overlaps[int]"], unfollowed := true, recurses := true, named := ["treillage/op.kinds"], apart := false, laid := [("treillage/op.kinds", laid_treillage_op_kinds)] }
def FindBothSaid : Prop := findBothRow.holds Tryz.pinned (OpenSpec.ofChange findBothSpec)

/-- ITS FALSE NEIGHBOUR: 'it returns false'. Refute it at one input. -/
def findBothWrong : ChangeSpec := { name := "findBoth", fn := fun _ => fun
  | [d1, d2, d3, d4] => { results := [.lit (.bool false)], args := [d1, d2, d3, d4] }
  | _ => none }
def FindBothWrongFalsely : Prop := findBothRow.holds Tryz.pinned (OpenSpec.ofChange findBothWrong)

/-- 'treillagelaw10.FindBelow': WHATEVER THE INPUT: true; the input reads as it did. -/
def findBelowSpec : ChangeSpec := { name := "findBelow", fn := fun _ => fun
  | [d1, d2, d3, d4] => { results := [.lit (.bool true)], args := [d1, d2, d3, d4] }
  | _ => none }
def findBelowRow : OpenClaim := { program := "ytaacikjoafobfaagreatdoor", sum := "be2d19641a067fc44510c686fe10ddb40e44bbb8cae2d9725fe010e6e0428df4", func := "treillage/treillagelaw10.FindBelow", spec := "findBelow", inPlace := ["slices.overlaps[int]"], unfollowed := true, recurses := true, named := ["treillage/op.kinds"], apart := false, laid := [("treillage/op.kinds", laid_treillage_op_kinds)] }
def FindBelowSaid : Prop := findBelowRow.holds Tryz.pinned (OpenSpec.ofChange findBelowSpec)

/-- ITS FALSE NEIGHBOUR: 'it returns false'. Refute it at one input. -/
def findBelowWrong : ChangeSpec := { name := "findBelow", fn := fun _ => fun
  | [d1, d2, d3, d4] => { results := [.lit (.bool false)], args := [d1, d2, d3, d4] }
  | _ => none }
def FindBelowWrongFalsely : Prop := findBelowRow.holds Tryz.pinned (OpenSpec.ofChange findBelowWrong)

/-- 'treillagelaw10.FindStar': WHATEVER THE INPUT: true; the input reads as it did. -/
def findStarSpec : ChangeSpec := { name := "findStar", fn := fun _ => fun
  | [d1, d2] => { results := [.lit (.bool true)], args := [d1, d2] }
  | _ => none }
def findStarRow : OpenClaim := { program := "ytaacikjoafobfaagreatdoor", sum := "be2d19641a067fc44510c686fe10ddb40e44bbb8cae2d9725fe010e6e0428df4", func := "treillage/treillagelaw10.FindStar", spec := "findStar", inPlace := ["slices.overlaps[int]"], unfollowed := true, recurses := true, named := ["treillage/op.kinds"], apart := false, laid := [("treillage/op.kinds", laid_treillage_op_kinds)] }
def FindStarSaid : Prop := findStarRow.holds Tryz.pinned (OpenSpec.ofChange findStarSpec)

/-- ITS FALSE NEIGHBOUR: 'it returns false'. Refute it at one input. -/
def findStarWrong : ChangeSpec := { name := "findStar", fn := fun _ => fun
  | [d1, d2] => { results := [.lit (.bool false)], args := [d1, d2] }
  | _ => none }
def FindStarWrongFalsely : Prop := findStarRow.holds Tryz.pinned (OpenSpec.ofChange findStarWrong)

/-- 'treillagelaw10.FindIds': WHATEVER THE INPUT: true; the input reads as it did. -/
def findIdsSpec : ChangeSpec := { name := "findIds", fn := fun _ => fun
  | [d1, d2] => { results := [.lit (.bool true)], args := [d1, d2] }
  | _ => none }
def findIdsRow : OpenClaim := { program := "ytaacikjoafobfaagreatdoor", sum := "be2d19641a067fc44510c686fe10ddb40e44bbb8cae2d9725fe010e6e0428df4", func := "treillage/treillagelaw10.FindIds", spec := "findIds", inPlace := ["slices.overlaps[int]"], unfollowed := true, recurses := true, named := ["treillage/op.kinds"], apart := false, laid := [("treillage/op.kinds", laid_treillage_op_kinds)] }
def FindIdsSaid : Prop := findIdsRow.holds Tryz.pinned (OpenSpec.ofChange findIdsSpec)

/-- ITS FALSE NEIGHBOUR: 'it returns false'. Refute it at one input. -/
def findIdsWrong : ChangeSpec := { name := "findIds", fn := fun _ => fun
  | [d1, d2] => { results := [.lit (.bool false)], args := [d1, d2] }
  | _ => none }
def FindIdsWrongFalsely : Prop := findIdsRow.holds Tryz.pinned (OpenSpec.ofChange findIdsWrong)

/-- 'treillagelaw10.FindMore': WHATEVER THE INPUT: true; the input reads as it did. -/
def findMoreSpec : ChangeSpec := { name := "findMore", fn := fun _ => fun
  | [d1, d2, d3, d4] => { results := [.lit (.bool true)], args := [d1, d2, d3, d4] }
  | _ => none }
def findMoreRow : OpenClaim := { program := "ytaacikjoafobfaagreatdoor", sum := "be2d19641a067fc44510c686fe10ddb40e44bbb8cae2d9725fe010e6e0428df4", func := "treillage/treillagelaw10.FindMore", spec := "findMore", inPlace := ["slices.overlaps[int]"], unfollowed := true, recurses := true, named := ["treillage/op.kinds"], apart := false, laid := [("treillage/op.kinds", laid_treillage_op_kinds)] }
def FindMoreSaid : Prop := findMoreRow.holds Tryz.pinned (OpenSpec.ofChange findMoreSpec)

/-- ITS FALSE NEIGHBOUR: 'it returns false'. Refute it at one input. -/
def findMoreWrong : ChangeSpec := { name := "findMore", fn := fun _ => fun
  | [d1, d2, d3, d4] => { results := [.lit (.bool false)], args := [d1, d2, d3, d4] }
  | _ => none }
def FindMoreWrongFalsely : Prop := findMoreRow.holds Tryz.pinned (OpenSpec.ofChange findMoreWrong)

/-- 'treillagelaw08.WalkTells': WHATEVER THE INPUT: true; the input reads as it did. -/
def walkTellsSpec : ChangeSpec := { name := "walkTells", fn := fun _ => fun
  | [d1, d2, d3, d4] => { results := [.lit (.bool true)], args := [d1, d2, d3, d4] }
  | _ => none }
def walkTellsRow : OpenClaim := { program := "ytaacikjoafobfaagreatdoor", sum := "be2d19641a067fc44510c686fe10ddb40e44bbb8cae2d9725fe010e6e0428df4", func := "treillage/treillagelaw08.WalkTells", spec := "walkTells", inPlace := ["slices.overlaps[int]", "internal/abi.NoEscape"], unfollowed := true, recurses := true, named := ["treillage/op.kinds"], apart := false, laid := [("treillage/op.kinds", laid_treillage_op_kinds)] }
def WalkTellsSaid : Prop := walkTellsRow.holds Tryz.pinned (OpenSpec.ofChange walkTellsSpec)

/-- ITS FALSE NEIGHBOUR: 'it returns false'. Refute it at one input. -/
def walkTellsWrong : ChangeSpec := { name := "walkTells", fn := fun _ => fun
  | [d1, d2, d3, d4] => { results := [.lit (.bool false)], args := [d1, d2, d3, d4] }
  | _ => none }
def WalkTellsWrongFalsely : Prop := walkTellsRow.holds Tryz.pinned (OpenSpec.ofChange walkTellsWrong)

/- THE SECOND FORM. 'bulk': how many values and letters a reading holds, each counted each time it is reached (what is shared counts as often as it is met; a slice's spare places count too). A statement '..UptoSaid' is the law's where the arguments, and the package variables that the reading takes, are together of bulk at most 1048576: NARROWER than '..Said'. Prove '..Said' where nothing that the law and all that it calls make is longer than what came in: it says more and counts as full. Else prove '..UptoSaid'. A law counts once. -/
mutual
def uptoBulk {H : Type} : DataW H → Nat
  | .lit (.string bytes) => bytes.length + 1
  | .lit _ => 1
  | .nil => 1
  | .ptr d => uptoBulk d + 1
  | .slice elems spare => uptoBulkAll elems + uptoBulkAll spare + 1
  | .agg parts => uptoBulkAll parts + 1
  | .iface _ d => uptoBulk d + 1
  | .map entries => uptoBulkEntries entries + 1
  | .held _ => 1
def uptoBulkAll {H : Type} : List (DataW H) → Nat
  | [] => 0
  | d :: r => uptoBulk d + uptoBulkAll r
def uptoBulkEntries {H : Type} : List (Lit × DataW H) → Nat
  | [] => 0
  | x :: r => uptoBulkEntry x + uptoBulkEntries r
def uptoBulkEntry {H : Type} : Lit × DataW H → Nat
  | (.string bytes, d) => bytes.length + uptoBulk d + 1
  | (_, d) => uptoBulk d + 1
 end
def uptoSmall : (H : Type) → List (DataW H) → Bool := fun _ ds => decide (uptoBulkAll ds ≤ 1048576)
def OpenSpec.upto (s : _root_.Go.ChangeSpec) : _root_.Go.OpenSpec := { _root_.Go.OpenSpec.ofChange s with cond := some uptoSmall }

/-- 'treillagelaw10.FindTells', WHERE WHAT IT READS IS OF BULK AT MOST 1048576: true; the input reads as it did. -/
def findTellsUptoRow : OpenClaim := { program := "ytaacikjoafobfaagreatdoor", sum := "be2d19641a067fc44510c686fe10ddb40e44bbb8cae2d9725fe010e6e0428df4", func := "treillage/treillagelaw10.FindTells", spec := "findTells", inPlace := ["slices.overlaps[int]"], unfollowed := true, recurses := true, named := ["treillage/op.kinds"], apart := false, laid := [("treillage/op.kinds", laid_treillage_op_kinds)], narrowed := true }
def FindTellsUptoSaid : Prop := findTellsUptoRow.holds Tryz.pinned (OpenSpec.upto findTellsSpec)

/-- 'treillagelaw10.FindTexts', WHERE WHAT IT READS IS OF BULK AT MOST 1048576: true; the input reads as it did. -/
def findTextsUptoRow : OpenClaim := { program := "ytaacikjoafobfaagreatdoor", sum := "be2d19641a067fc44510c686fe10ddb40e44bbb8cae2d9725fe010e6e0428df4", func := "treillage/treillagelaw10.FindTexts", spec := "findTexts", inPlace := ["slices.overlaps[int]"], unfollowed := true, recurses := true, named := ["treillage/op.kinds"], apart := false, laid := [("treillage/op.kinds", laid_treillage_op_kinds)], narrowed := true }
def FindTextsUptoSaid : Prop := findTextsUptoRow.holds Tryz.pinned (OpenSpec.upto findTextsSpec)

/-- 'treillagelaw10.FindBoth', WHERE WHAT IT READS IS OF BULK AT MOST 1048576: true; the input reads as it did. -/
def findBothUptoRow : OpenClaim := { program := "ytaacikjoafobfaagreatdoor", sum := "be2d19641a067fc44510c686fe10ddb40e44bbb8cae2d9725fe010e6e0428df4", func := "treillage/treillagelaw10.FindBoth", spec := "findBoth", inPlace := ["slices.overlaps[int]"], unfollowed := true, recurses := true, named := ["treillage/op.kinds"], apart := false, laid := [("treillage/op.kinds", laid_treillage_op_kinds)], narrowed := true }
def FindBothUptoSaid : Prop := findBothUptoRow.holds Tryz.pinned (OpenSpec.upto findBothSpec)

/-- 'treillagelaw10.FindBelow', WHERE WHAT IT READS IS OF BULK AT MOST 1048576: true; the input reads as it did. -/
def findBelowUptoRow : OpenClaim := { program := "ytaacikjoafobfaagreatdoor", sum := "be2d19641a067fc44510c686fe10ddb40e44bbb8cae2d9725fe010e6e0428df4", func := "treillage/treillagelaw10.FindBelow", spec := "findBelow", inPlace := ["slices.overlaps[int]"], unfollowed := true, recurses := true, named := ["treillage/op.kinds"], apart := false, laid := [("treillage/op.kinds", laid_treillage_op_kinds)], narrowed := true }
def FindBelowUptoSaid : Prop := findBelowUptoRow.holds Tryz.pinned (OpenSpec.upto findBelowSpec)

/-- 'treillagelaw10.FindStar', WHERE WHAT IT READS IS OF BULK AT MOST 1048576: true; the input reads as it did. -/
def findStarUptoRow : OpenClaim := { program := "ytaacikjoafobfaagreatdoor", sum := "be2d19641a067fc44510c686fe10ddb40e44bbb8cae2d9725fe010e6e0428df4", func := "treillage/treillagelaw10.FindStar", spec := "findStar", inPlace := ["slices.overlaps[int]"], unfollowed := true, recurses := true, named := ["treillage/op.kinds"], apart := false, laid := [("treillage/op.kinds", laid_treillage_op_kinds)], narrowed := true }
def FindStarUptoSaid : Prop := findStarUptoRow.holds Tryz.pinned (OpenSpec.upto findStarSpec)

/-- 'treillagelaw10.FindIds', WHERE WHAT IT READS IS OF BULK AT MOST 1048576: true; the input reads as it did. -/
def findIdsUptoRow : OpenClaim := { program := "ytaacikjoafobfaagreatdoor", sum := "be2d19641a067fc44510c686fe10ddb40e44bbb8cae2d9725fe010e6e0428df4", func := "treillage/treillagelaw10.FindIds", spec := "findIds", inPlace := ["slices.overlaps[int]"], unfollowed := true, recurses := true, named := ["treillage/op.kinds"], apart := false, laid := [("treillage/op.kinds", laid_treillage_op_kinds)], narrowed := true }
def FindIdsUptoSaid : Prop := findIdsUptoRow.holds Tryz.pinned (OpenSpec.upto findIdsSpec)

/-- 'treillagelaw10.FindMore', WHERE WHAT IT READS IS OF BULK AT MOST 1048576: true; the input reads as it did. -/
def findMoreUptoRow : OpenClaim := { program := "ytaacikjoafobfaagreatdoor", sum := "be2d19641a067fc44510c686fe10ddb40e44bbb8cae2d9725fe010e6e0428df4", func := "treillage/treillagelaw10.FindMore", spec := "findMore", inPlace := ["slices.overlaps[int]"], unfollowed := true, recurses := true, named := ["treillage/op.kinds"], apart := false, laid := [("treillage/op.kinds", laid_treillage_op_kinds)], narrowed := true }
def FindMoreUptoSaid : Prop := findMoreUptoRow.holds Tryz.pinned (OpenSpec.upto findMoreSpec)

/-- 'treillagelaw08.WalkTells', WHERE WHAT IT READS IS OF BULK AT MOST 1048576: true; the input reads as it did. -/
def walkTellsUptoRow : OpenClaim := { program := "ytaacikjoafobfaagreatdoor", sum := "be2d19641a067fc44510c686fe10ddb40e44bbb8cae2d9725fe010e6e0428df4", func := "treillage/treillagelaw08.WalkTells", spec := "walkTells", inPlace := ["slices.overlaps[int]", "internal/abi.NoEscape"], unfollowed := true, recurses := true, named := ["treillage/op.kinds"], apart := false, laid := [("treillage/op.kinds", laid_treillage_op_kinds)], narrowed := true }
def WalkTellsUptoSaid : Prop := walkTellsUptoRow.holds Tryz.pinned (OpenSpec.upto walkTellsSpec)

end Rows
end Go.Proofs.YtaacikjoafobfaaGreatDoor
