/-
  NARROWER THAN 'FOR EVERY INPUT', by the rows' own cells (each row's printed sentence says how): ApplyOnes: laid · ApplyAll: laid · WalkTells: laid · WalkIds: laid · WalkKids: laid.
  DERIVED. THE GIVEN ROWS OF THIS SEAT. 5 by the template 'for every input the law returns true; each argument reads behind the call as it read before'; 0 by the template 'total and deterministic' (their statements: YtboiekopdnnfbaaGreatDoorTotals.lean).
  GIVEN WITH THE SEED: the statements are not yours to turn. If you find one false, say at which input.
  Laid BY PROGRAM, IN A SANDBOX (cutbox-rows.mjs): the forced cells as the released guide's own fill.sh prints them over the translation bb8e625688d485db… (all of the seat's roots in one cut). By AI agents, Wed Nov 11 2026. No macro, syntax, notation, axiom, sorry.
-/
import Derived.Test.YtboiekopdnnfbaaGreatDoorChecked
import GoSem.PinnedTables
import GoSem.Claim
import GoSem.ClaimJoined
import GoSem.ClaimMapViews
import Derived.JoinedTies
import Derived.KernelRfl
namespace Go.Proofs.YtboiekopdnnfbaaGreatDoor
/- THE CELL 'sum', in the pinned program and in every row, IS THE sha256 OF THE DUMP (.gsa) THAT YtboiekopdnnfbaaGreatDoorProg.lean LOADS. Nothing in Lean hashes anything: it is a label: what it is worth is what the hold of that sum in a sandbox is worth. -/
noncomputable def Tryz.pinned : Pinned := { name := "ytboiekopdnnfbaagreatdoor", sum := "bb8e625688d485db520bf52fa6cad65a13959ad08e6232d20328ccf7a56650fe", checked := Tryz.checked }
namespace Rows
def none {H : Type} : Left H := { results := [], args := [] }

/- WHAT THE LISTED PACKAGE-LEVEL VARIABLES READ AS WHEN THE CALL BEGINS. Each datum BY PROGRAM (the guide's laid-datum.mjs) off the statement by which the dump's own 'gosem.cut.vars' lays the variable. In a bare row this is a premise. The card (YtboiekopdnnfbaaGreatDoorCards.lean) ties it to the program's text. -/
def laid_unicode_utf8_acceptRanges {H : Type} : DataW H := .agg [.agg [.lit (.int .u8 128), .lit (.int .u8 191)], .agg [.lit (.int .u8 160), .lit (.int .u8 191)], .agg [.lit (.int .u8 128), .lit (.int .u8 159)], .agg [.lit (.int .u8 144), .lit (.int .u8 191)], .agg [.lit (.int .u8 128), .lit (.int .u8 143)], .agg [.lit (.int .u8 0), .lit (.int .u8 0)], .agg [.lit (.int .u8 0), .lit (.int .u8 0)], .agg [.lit (.int .u8 0), .lit (.int .u8 0)], .agg [.lit (.int .u8 0), .lit (.int .u8 0)], .agg [.lit (.int .u8 0), .lit (.int .u8 0)], .agg [.lit (.int .u8 0), .lit (.int .u8 0)], .agg [.lit (.int .u8 0), .lit (.int .u8 0)], .agg [.lit (.int .u8 0), .lit (.int .u8 0)], .agg [.lit (.int .u8 0), .lit (.int .u8 0)], .agg [.lit (.int .u8 0), .lit (.int .u8 0)], .agg [.lit (.int .u8 0), .lit (.int .u8 0)]]
def laid_treillage_op_kinds {H : Type} : DataW H := .agg [.agg [.lit (.string []), .lit (.bool false), .lit (.bool false), .lit (.bool false), .lit (.bool false), .lit (.bool false)], .agg [.lit (.string [101, 108, 101, 109, 101, 110, 116]), .lit (.bool false), .lit (.bool false), .lit (.bool false), .lit (.bool true), .lit (.bool false)], .agg [.lit (.string [116, 101, 120, 116]), .lit (.bool false), .lit (.bool false), .lit (.bool false), .lit (.bool false), .lit (.bool true)], .agg [.lit (.string [99, 111, 109, 109, 101, 110, 116]), .lit (.bool false), .lit (.bool false), .lit (.bool false), .lit (.bool false), .lit (.bool true)], .agg [.lit (.string [105, 110, 115, 101, 114, 116]), .lit (.bool true), .lit (.bool true), .lit (.bool true), .lit (.bool false), .lit (.bool false)], .agg [.lit (.string [114, 101, 109, 111, 118, 101]), .lit (.bool true), .lit (.bool false), .lit (.bool false), .lit (.bool false), .lit (.bool false)], .agg [.lit (.string [115, 101, 116]), .lit (.bool true), .lit (.bool false), .lit (.bool false), .lit (.bool true), .lit (.bool true)], .agg [.lit (.string [117, 110, 115, 101, 116]), .lit (.bool true), .lit (.bool false), .lit (.bool false), .lit (.bool true), .lit (.bool false)], .agg [.lit (.string [99, 104, 97, 110, 103, 101]), .lit (.bool true), .lit (.bool false), .lit (.bool false), .lit (.bool false), .lit (.bool true)]]
/-- One of Go's own tables, pinned by name: the form's constant. -/
def laid_unicode_utf8_first : DataW Unit := Go.Pinned.utf8First

/-- 'treillagelaw07.ApplyOnes': WHATEVER THE INPUT: true; the input reads as it did. -/
def applyOnesSpec : ChangeSpec := { name := "applyOnes", fn := fun _ => fun
  | [d] => { results := [.lit (.bool true)], args := [d] }
  | _ => none }
def applyOnesRow : OpenClaim := { program := "ytboiekopdnnfbaagreatdoor", sum := "bb8e625688d485db520bf52fa6cad65a13959ad08e6232d20328ccf7a56650fe", func := "treillage/treillagelaw07.ApplyOnes", spec := "applyOnes", inPlace := ["slices.overlaps[int]", "internal/abi.NoEscape", "internal/bytealg.CountString", "internal/bytealg.IndexByteString", "internal/bytealg.IndexString", "internal/bytealg.MakeNoZero"], unfollowed := true, recurses := true, named := ["treillage/op.kinds", "internal/bytealg.MaxLen", "unicode/utf8.first", "unicode/utf8.acceptRanges"], apart := false, laid := [("unicode/utf8.acceptRanges", laid_unicode_utf8_acceptRanges), ("treillage/op.kinds", laid_treillage_op_kinds), ("unicode/utf8.first", laid_unicode_utf8_first)] }
def ApplyOnesSaid : Prop := applyOnesRow.holds Tryz.pinned (OpenSpec.ofChange applyOnesSpec)

/-- ITS FALSE NEIGHBOUR: 'it returns false'. Refute it at one input. -/
def applyOnesWrong : ChangeSpec := { name := "applyOnes", fn := fun _ => fun
  | [d] => { results := [.lit (.bool false)], args := [d] }
  | _ => none }
def ApplyOnesWrongFalsely : Prop := applyOnesRow.holds Tryz.pinned (OpenSpec.ofChange applyOnesWrong)

/-- 'treillagelaw07.ApplyAll': WHATEVER THE INPUT: true; the input reads as it did. -/
def applyAllSpec : ChangeSpec := { name := "applyAll", fn := fun _ => fun
  | [d1, d2] => { results := [.lit (.bool true)], args := [d1, d2] }
  | _ => none }
def applyAllRow : OpenClaim := { program := "ytboiekopdnnfbaagreatdoor", sum := "bb8e625688d485db520bf52fa6cad65a13959ad08e6232d20328ccf7a56650fe", func := "treillage/treillagelaw07.ApplyAll", spec := "applyAll", inPlace := ["slices.overlaps[int]", "internal/abi.NoEscape", "internal/bytealg.CountString", "internal/bytealg.IndexByteString", "internal/bytealg.IndexString", "internal/bytealg.MakeNoZero"], unfollowed := true, recurses := true, named := ["treillage/op.kinds", "internal/bytealg.MaxLen", "unicode/utf8.first", "unicode/utf8.acceptRanges"], apart := false, laid := [("unicode/utf8.acceptRanges", laid_unicode_utf8_acceptRanges), ("treillage/op.kinds", laid_treillage_op_kinds), ("unicode/utf8.first", laid_unicode_utf8_first)] }
def ApplyAllSaid : Prop := applyAllRow.holds Tryz.pinned (OpenSpec.ofChange applyAllSpec)

/-- ITS FALSE NEIGHBOUR: 'it returns false'. Refute it at one input. -/
def applyAllWrong : ChangeSpec := { name := "applyAll", fn := fun _ => fun
  | [d1, d2] => { results := [.lit (.bool false)], args := [d1, d2] }
  | _ => none }
def ApplyAllWrongFalsely : Prop := applyAllRow.holds Tryz.pinned (OpenSpec.ofChange applyAllWrong)

/-- 'treillagelaw08.WalkTells': WHATEVER THE INPUT: true; the input reads as it did. -/
def walkTellsSpec : ChangeSpec := { name := "walkTells", fn := fun _ => fun
  | [d1, d2, d3, d4] => { results := [.lit (.bool true)], args := [d1, d2, d3, d4] }
  | _ => none }
def walkTellsRow : OpenClaim := { program := "ytboiekopdnnfbaagreatdoor", sum := "bb8e625688d485db520bf52fa6cad65a13959ad08e6232d20328ccf7a56650fe", func := "treillage/treillagelaw08.WalkTells", spec := "walkTells", inPlace := ["slices.overlaps[int]", "internal/abi.NoEscape"], unfollowed := true, recurses := true, named := ["treillage/op.kinds"], apart := false, laid := [("treillage/op.kinds", laid_treillage_op_kinds)] }
def WalkTellsSaid : Prop := walkTellsRow.holds Tryz.pinned (OpenSpec.ofChange walkTellsSpec)

/-- ITS FALSE NEIGHBOUR: 'it returns false'. Refute it at one input. -/
def walkTellsWrong : ChangeSpec := { name := "walkTells", fn := fun _ => fun
  | [d1, d2, d3, d4] => { results := [.lit (.bool false)], args := [d1, d2, d3, d4] }
  | _ => none }
def WalkTellsWrongFalsely : Prop := walkTellsRow.holds Tryz.pinned (OpenSpec.ofChange walkTellsWrong)

/-- 'treillagelaw08.WalkIds': WHATEVER THE INPUT: true; the input reads as it did. -/
def walkIdsSpec : ChangeSpec := { name := "walkIds", fn := fun _ => fun
  | [d1, d2] => { results := [.lit (.bool true)], args := [d1, d2] }
  | _ => none }
def walkIdsRow : OpenClaim := { program := "ytboiekopdnnfbaagreatdoor", sum := "bb8e625688d485db520bf52fa6cad65a13959ad08e6232d20328ccf7a56650fe", func := "treillage/treillagelaw08.WalkIds", spec := "walkIds", inPlace := ["slices.overlaps[int]", "internal/abi.NoEscape"], unfollowed := true, recurses := true, named := ["treillage/op.kinds"], apart := false, laid := [("treillage/op.kinds", laid_treillage_op_kinds)] }
def WalkIdsSaid : Prop := walkIdsRow.holds Tryz.pinned (OpenSpec.ofChange walkIdsSpec)

/-- ITS FALSE NEIGHBOUR: 'it returns false'. Refute it at one input. -/
def walkIdsWrong : ChangeSpec := { name := "walkIds", fn := fun _ => fun
  | [d1, d2] => { results := [.lit (.bool false)], args := [d1, d2] }
  | _ => none }
def WalkIdsWrongFalsely : Prop := walkIdsRow.holds Tryz.pinned (OpenSpec.ofChange walkIdsWrong)

/-- 'treillagelaw08.WalkKids': WHATEVER THE INPUT: true; the input reads as it did. -/
def walkKidsSpec : ChangeSpec := { name := "walkKids", fn := fun _ => fun
  | [d] => { results := [.lit (.bool true)], args := [d] }
  | _ => none }
def walkKidsRow : OpenClaim := { program := "ytboiekopdnnfbaagreatdoor", sum := "bb8e625688d485db520bf52fa6cad65a13959ad08e6232d20328ccf7a56650fe", func := "treillage/treillagelaw08.WalkKids", spec := "walkKids", inPlace := ["slices.overlaps[int]", "internal/abi.NoEscape"], unfollowed := true, recurses := true, named := ["treillage/op.kinds"], apart := false, laid := [("treillage/op.kinds", laid_treillage_op_kinds)] }
def WalkKidsSaid : Prop := walkKidsRow.holds Tryz.pinned (OpenSpec.ofChange walkKidsSpec)

/-- ITS FALSE NEIGHBOUR: 'it returns false'. Refute it at one input. -/
def walkKidsWrong : ChangeSpec := { name := "walkKids", fn := fun _ => fun
  | [d] => { results := [.lit (.bool false)], args := [d] }
  | _ => none }
def WalkKidsWrongFalsely : Prop := walkKidsRow.holds Tryz.pinned (OpenSpec.ofChange walkKidsWrong)

/- THE SECOND FORM. 'bulk': how many values and letters a reading holds, each counted each time it is reached (what is shared counts as often as it is met; a slice's spare places count too). A statement '..UptoSaid' is the law's where the arguments, and the package variables that the reading takes, are together of bulk at most 1048576: NARROWER than '..Said'. Prove '..Said' where nothing that the law and all that it calls make is longer than what came in: it says more and counts as full. Else prove '..UptoSaid'. A law counts once. -/
mutual
def uptoBulk {H : Type} : DataW H → Nat
  | .lit (.string bytes) => bytes.length + 1
  | .lit _ => 1
  | .nil => 1
  | .ptr d => uptoBulk d + 1
  | .slice elems spare => uptoBulkAll elems + uptoBulkAll spare + 1
  | .agg parts => uptoBulkAll parts + 1
  | .iface _ d => uptoBulk d + 1
  | .map entries => uptoBulkEntries entries + 1
  | .held _ => 1
def uptoBulkAll {H : Type} : List (DataW H) → Nat
  | [] => 0
  | d :: r => uptoBulk d + uptoBulkAll r
def uptoBulkEntries {H : Type} : List (Lit × DataW H) → Nat
  | [] => 0
  | x :: r => uptoBulkEntry x + uptoBulkEntries r
def uptoBulkEntry {H : Type} : Lit × DataW H → Nat
  | (.string bytes, d) => bytes.length + uptoBulk d + 1
  | (_, d) => uptoBulk d + 1
 end
def uptoSmall : (H : Type) → List (DataW H) → Bool := fun _ ds => decide (uptoBulkAll ds ≤ 1048576)
def OpenSpec.upto (s : _root_.Go.ChangeSpec) : _root_.Go.OpenSpec := { _root_.Go.OpenSpec.ofChange s with cond := some uptoSmall }

/-- 'treillagelaw07.ApplyOnes', WHERE WHAT IT READS IS OF BULK AT MOST 1048576: true; the input reads as it did. -/
def applyOnesUptoRow : OpenClaim := { program := "ytboiekopdnnfbaagreatdoor", sum := "bb8e625688d485db520bf52fa6cad65a13959ad08e6232d20328ccf7a56650fe", func := "treillage/treillagelaw07.ApplyOnes", spec := "applyOnes", inPlace := ["slices.overlaps[int]", "internal/abi.NoEscape", "internal/bytealg.CountString", "internal/bytealg.IndexByteString", "internal/bytealg.IndexString", "internal/bytealg.MakeNoZero"], unfollowed := true, recurses := true, named := ["treillage/op.kinds", "internal/bytealg.MaxLen", "unicode/utf8.first", "unicode/utf8.acceptRanges"], apart := false, laid := [("unicode/utf8.acceptRanges", laid_unicode_utf8_acceptRanges), ("treillage/op.kinds", laid_treillage_op_kinds), ("unicode/utf8.first", laid_unicode_utf8_first)], narrowed := true }
def ApplyOnesUptoSaid : Prop := applyOnesUptoRow.holds Tryz.pinned (OpenSpec.upto applyOnesSpec)

/-- 'treillagelaw07.ApplyAll', WHERE WHAT IT READS IS OF BULK AT MOST 1048576: true; the input reads as it did. -/
def applyAllUptoRow : OpenClaim := { program := "ytboiekopdnnfbaagreatdoor", sum := "bb8e625688d485db520bf52fa6cad65a13959ad08e6232d20328ccf7a56650fe", func := "treillage/treillagelaw07.ApplyAll", spec := "applyAll", inPlace := ["slices.overlaps[int]", "internal/abi.NoEscape", "internal/bytealg.CountString", "internal/bytealg.IndexByteString", "internal/bytealg.IndexString", "internal/bytealg.MakeNoZero"], unfollowed := true, recurses := true, named := ["treillage/op.kinds", "internal/bytealg.MaxLen", "unicode/utf8.first", "unicode/utf8.acceptRanges"], apart := false, laid := [("unicode/utf8.acceptRanges", laid_unicode_utf8_acceptRanges), ("treillage/op.kinds", laid_treillage_op_kinds), ("unicode/utf8.first", laid_unicode_utf8_first)], narrowed := true }
def ApplyAllUptoSaid : Prop := applyAllUptoRow.holds Tryz.pinned (OpenSpec.upto applyAllSpec)

/-- 'treillagelaw08.WalkTells', WHERE WHAT IT READS IS OF BULK AT MOST 1048576: true; the input reads as it did. -/
def walkTellsUptoRow : OpenClaim := { program := "ytboiekopdnnfbaagreatdoor", sum := "bb8e625688d485db520bf52fa6cad65a13959ad08e6232d20328ccf7a56650fe", func := "treillage/treillagelaw08.WalkTells", spec := "walkTells", inPlace := ["slices.overlaps[int]", "internal/abi.NoEscape"], unfollowed := true, recurses := true, named := ["treillage/op.kinds"], apart := false, laid := [("treillage/op.kinds", laid_treillage_op_kinds)], narrowed := true }
def WalkTellsUptoSaid : Prop := walkTellsUptoRow.holds Tryz.pinned (OpenSpec.upto walkTellsSpec)

/-- 'treillagelaw08.WalkIds', WHERE WHAT IT READS IS OF BULK AT MOST 1048576: true; the input reads as it did. -/
def walkIdsUptoRow : OpenClaim := { program := "ytboiekopdnnfbaagreatdoor", sum := "bb8e625688d485db520bf52fa6cad65a13959ad08e6232d20328ccf7a56650fe", func := "treillage/treillagelaw08.WalkIds", spec := "walkIds", inPlace := ["slices.overlaps[int]", "internal/abi.NoEscape"], unfollowed := true, recurses := true, named := ["treillage/op.kinds"], apart := false, laid := [("treillage/op.kinds", laid_treillage_op_kinds)], narrowed := true }
def WalkIdsUptoSaid : Prop := walkIdsUptoRow.holds Tryz.pinned (OpenSpec.upto walkIdsSpec)

/-- 'treillagelaw08.WalkKids', WHERE WHAT IT READS IS OF BULK AT MOST 1048576: true; the input reads as it did. -/
def walkKidsUptoRow : OpenClaim := { program := "ytboiekopdnnfbaagreatdoor", sum := "bb8e625688d485db520bf52fa6cad65a13959ad08e6232d20328ccf7a56650fe", func := "treillage/treillagelaw08.WalkKids", spec := "walkKids", inPlace := ["slices.overlaps[int]", "internal/abi.NoEscape"], unfollowed := true, recurses := true, named := ["treillage/op.kinds"], apart := false, laid := [("treillage/op.kinds", laid_treillage_op_kinds)], narrowed := true }
def WalkKidsUptoSaid : Prop := walkKidsUptoRow.holds Tryz.pinned (OpenSpec.upto walkKidsSpec)

end Rows
end Go.Proofs.YtboiekopdnnfbaaGreatDoor
