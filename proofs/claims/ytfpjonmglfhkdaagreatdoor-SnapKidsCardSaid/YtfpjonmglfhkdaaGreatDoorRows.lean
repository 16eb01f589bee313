/-
  NARROWER THAN 'FOR EVERY INPUT', by the rows' own cells (each row's printed sentence says how): TreeReads: laid · TreeKeeps: laid · TreeLive: laid · TreeNone: laid · TreeShares: laid · TreeFull: laid · TreeHandles: laid · SnapOf: laid · SnapAsk: laid · SnapKeeps: laid · SnapKids: laid · SnapErrors: laid · SnapOne: laid.
  DERIVED. THE GIVEN ROWS OF THIS SEAT. 13 by the template 'for every input the law returns true; each argument reads behind the call as it read before'; 0 by the template 'total and deterministic' (their statements: YtfpjonmglfhkdaaGreatDoorTotals.lean).
  GIVEN WITH THE SEED: the statements are not yours to turn. If you find one false, say at which input.
  Laid BY PROGRAM, IN A SANDBOX (cutbox-rows.mjs): the forced cells as the released guide's own fill.sh prints them over the translation 94fcebecb16d5fcd… (all of the seat's roots in one cut). By AI agents, Wed Nov 11 2026. No macro, syntax, notation, axiom, sorry.
-/
import Derived.Test.YtfpjonmglfhkdaaGreatDoorChecked
import GoSem.PinnedTables
import GoSem.Claim
import GoSem.ClaimJoined
import GoSem.ClaimMapViews
import Derived.JoinedTies
import Derived.KernelRfl
namespace Go.Proofs.YtfpjonmglfhkdaaGreatDoor
/- THE CELL 'sum', in the pinned program and in every row, IS THE sha256 OF THE DUMP (.gsa) THAT YtfpjonmglfhkdaaGreatDoorProg.lean LOADS. Nothing in Lean hashes anything: it is a label: what it is worth is what the hold of that sum in a sandbox is worth. -/
noncomputable def Tryz.pinned : Pinned := { name := "ytfpjonmglfhkdaagreatdoor", sum := "94fcebecb16d5fcd0dadbc51919b45f982cd02226d983eba6f63ff805f848763", checked := Tryz.checked }
namespace Rows
def none {H : Type} : Left H := { results := [], args := [] }

/- WHAT THE LISTED PACKAGE-LEVEL VARIABLES READ AS WHEN THE CALL BEGINS. Each datum BY PROGRAM (the guide's laid-datum.mjs) off the statement by which the dump's own 'gosem.cut.vars' lays the variable. In a bare row this is a premise. The card (YtfpjonmglfhkdaaGreatDoorCards.lean) ties it to the program's text. -/
def laid_unicode_utf8_acceptRanges {H : Type} : DataW H := .agg [.agg [.lit (.int .u8 128), .lit (.int .u8 191)], .agg [.lit (.int .u8 160), .lit (.int .u8 191)], .agg [.lit (.int .u8 128), .lit (.int .u8 159)], .agg [.lit (.int .u8 144), .lit (.int .u8 191)], .agg [.lit (.int .u8 128), .lit (.int .u8 143)], .agg [.lit (.int .u8 0), .lit (.int .u8 0)], .agg [.lit (.int .u8 0), .lit (.int .u8 0)], .agg [.lit (.int .u8 0), .lit (.int .u8 0)], .agg [.lit (.int .u8 0), .lit (.int .u8 0)], .agg [.lit (.int .u8 0), .lit (.int .u8 0)], .agg [.lit (.int .u8 0), .lit (.int .u8 0)], .agg [.lit (.int .u8 0), .lit (.int .u8 0)], .agg [.lit (.int .u8 0), .lit (.int .u8 0)], .agg [.lit (.int .u8 0), .lit (.int .u8 0)], .agg [.lit (.int .u8 0), .lit (.int .u8 0)], .agg [.lit (.int .u8 0), .lit (.int .u8 0)]]
def laid_treillage_op_kinds {H : Type} : DataW H := .agg [.agg [.lit (.string []), .lit (.bool false), .lit (.bool false), .lit (.bool false), .lit (.bool false), .lit (.bool false)], .agg [.lit (.string [101, 108, 101, 109, 101, 110, 116]), .lit (.bool false), .lit (.bool false), .lit (.bool false), .lit (.bool true), .lit (.bool false)], .agg [.lit (.string [116, 101, 120, 116]), .lit (.bool false), .lit (.bool false), .lit (.bool false), .lit (.bool false), .lit (.bool true)], .agg [.lit (.string [99, 111, 109, 109, 101, 110, 116]), .lit (.bool false), .lit (.bool false), .lit (.bool false), .lit (.bool false), .lit (.bool true)], .agg [.lit (.string [105, 110, 115, 101, 114, 116]), .lit (.bool true), .lit (.bool true), .lit (.bool true), .lit (.bool false), .lit (.bool false)], .agg [.lit (.string [114, 101, 109, 111, 118, 101]), .lit (.bool true), .lit (.bool false), .lit (.bool false), .lit (.bool false), .lit (.bool false)], .agg [.lit (.string [115, 101, 116]), .lit (.bool true), .lit (.bool false), .lit (.bool false), .lit (.bool true), .lit (.bool true)], .agg [.lit (.string [117, 110, 115, 101, 116]), .lit (.bool true), .lit (.bool false), .lit (.bool false), .lit (.bool true), .lit (.bool false)], .agg [.lit (.string [99, 104, 97, 110, 103, 101]), .lit (.bool true), .lit (.bool false), .lit (.bool false), .lit (.bool false), .lit (.bool true)]]
/-- One of Go's own tables, pinned by name: the form's constant. -/
def laid_unicode_utf8_first : DataW Unit := Go.Pinned.utf8First

/-- 'treillagelaw12.TreeReads': WHATEVER THE INPUT: true; the input reads as it did. -/
def treeReadsSpec : ChangeSpec := { name := "treeReads", fn := fun _ => fun
  | [d1, d2, d3, d4] => { results := [.lit (.bool true)], args := [d1, d2, d3, d4] }
  | _ => none }
def treeReadsRow : OpenClaim := { program := "ytfpjonmglfhkdaagreatdoor", sum := "94fcebecb16d5fcd0dadbc51919b45f982cd02226d983eba6f63ff805f848763", func := "treillage/treillagelaw12.TreeReads", spec := "treeReads", inPlace := ["slices.overlaps[int]", "internal/abi.NoEscape", "internal/bytealg.CountString", "internal/bytealg.IndexByteString", "internal/bytealg.IndexString", "internal/bytealg.MakeNoZero"], unfollowed := true, recurses := true, named := ["treillage/op.kinds", "internal/bytealg.MaxLen", "unicode/utf8.first", "unicode/utf8.acceptRanges"], apart := false, laid := [("unicode/utf8.acceptRanges", laid_unicode_utf8_acceptRanges), ("treillage/op.kinds", laid_treillage_op_kinds), ("unicode/utf8.first", laid_unicode_utf8_first)] }
def TreeReadsSaid : Prop := treeReadsRow.holds Tryz.pinned (OpenSpec.ofChange treeReadsSpec)

/-- ITS FALSE NEIGHBOUR: 'it returns false'. Refute it at one input. -/
def treeReadsWrong : ChangeSpec := { name := "treeReads", fn := fun _ => fun
  | [d1, d2, d3, d4] => { results := [.lit (.bool false)], args := [d1, d2, d3, d4] }
  | _ => none }
def TreeReadsWrongFalsely : Prop := treeReadsRow.holds Tryz.pinned (OpenSpec.ofChange treeReadsWrong)

/-- 'treillagelaw12.TreeKeeps': WHATEVER THE INPUT: true; the input reads as it did. -/
def treeKeepsSpec : ChangeSpec := { name := "treeKeeps", fn := fun _ => fun
  | [d1, d2] => { results := [.lit (.bool true)], args := [d1, d2] }
  | _ => none }
def treeKeepsRow : OpenClaim := { program := "ytfpjonmglfhkdaagreatdoor", sum := "94fcebecb16d5fcd0dadbc51919b45f982cd02226d983eba6f63ff805f848763", func := "treillage/treillagelaw12.TreeKeeps", spec := "treeKeeps", inPlace := ["slices.overlaps[int]", "internal/abi.NoEscape", "internal/bytealg.CountString", "internal/bytealg.IndexByteString", "internal/bytealg.IndexString", "internal/bytealg.MakeNoZero"], unfollowed := true, recurses := true, named := ["treillage/op.kinds", "internal/bytealg.MaxLen", "unicode/utf8.first", "unicode/utf8.acceptRanges"], apart := false, laid := [("unicode/utf8.acceptRanges", laid_unicode_utf8_acceptRanges), ("treillage/op.kinds", laid_treillage_op_kinds), ("unicode/utf8.first", laid_unicode_utf8_first)] }
def TreeKeepsSaid : Prop := treeKeepsRow.holds Tryz.pinned (OpenSpec.ofChange treeKeepsSpec)

/-- ITS FALSE NEIGHBOUR: 'it returns false'. Refute it at one input. -/
def treeKeepsWrong : ChangeSpec := { name := "treeKeeps", fn := fun _ => fun
  | [d1, d2] => { results := [.lit (.bool false)], args := [d1, d2] }
  | _ => none }
def TreeKeepsWrongFalsely : Prop := treeKeepsRow.holds Tryz.pinned (OpenSpec.ofChange treeKeepsWrong)

/-- 'treillagelaw12.TreeLive': WHATEVER THE INPUT: true; the input reads as it did. -/
def treeLiveSpec : ChangeSpec := { name := "treeLive", fn := fun _ => fun
  | [d1, d2, d3, d4] => { results := [.lit (.bool true)], args := [d1, d2, d3, d4] }
  | _ => none }
def treeLiveRow : OpenClaim := { program := "ytfpjonmglfhkdaagreatdoor", sum := "94fcebecb16d5fcd0dadbc51919b45f982cd02226d983eba6f63ff805f848763", func := "treillage/treillagelaw12.TreeLive", spec := "treeLive", inPlace := ["slices.overlaps[int]", "internal/abi.NoEscape", "internal/bytealg.CountString", "internal/bytealg.IndexByteString", "internal/bytealg.IndexString", "internal/bytealg.MakeNoZero"], unfollowed := true, recurses := true, named := ["treillage/op.kinds", "internal/bytealg.MaxLen", "unicode/utf8.first", "unicode/utf8.acceptRanges"], apart := false, laid := [("unicode/utf8.acceptRanges", laid_unicode_utf8_acceptRanges), ("treillage/op.kinds", laid_treillage_op_kinds), ("unicode/utf8.first", laid_unicode_utf8_first)] }
def TreeLiveSaid : Prop := treeLiveRow.holds Tryz.pinned (OpenSpec.ofChange treeLiveSpec)

/-- ITS FALSE NEIGHBOUR: 'it returns false'. Refute it at one input. -/
def treeLiveWrong : ChangeSpec := { name := "treeLive", fn := fun _ => fun
  | [d1, d2, d3, d4] => { results := [.lit (.bool false)], args := [d1, d2, d3, d4] }
  | _ => none }
def TreeLiveWrongFalsely : Prop := treeLiveRow.holds Tryz.pinned (OpenSpec.ofChange treeLiveWrong)

/-- 'treillagelaw12.TreeNone': WHATEVER THE INPUT: true; the input reads as it did. -/
def treeNoneSpec : ChangeSpec := { name := "treeNone", fn := fun _ => fun
  | [d] => { results := [.lit (.bool true)], args := [d] }
  | _ => none }
def treeNoneRow : OpenClaim := { program := "ytfpjonmglfhkdaagreatdoor", sum := "94fcebecb16d5fcd0dadbc51919b45f982cd02226d983eba6f63ff805f848763", func := "treillage/treillagelaw12.TreeNone", spec := "treeNone", inPlace := ["slices.overlaps[int]", "internal/abi.NoEscape", "internal/bytealg.CountString", "internal/bytealg.IndexByteString", "internal/bytealg.IndexString", "internal/bytealg.MakeNoZero"], unfollowed := true, recurses := true, named := ["treillage/op.kinds", "internal/bytealg.MaxLen", "unicode/utf8.first", "unicode/utf8.acceptRanges"], apart := false, laid := [("unicode/utf8.acceptRanges", laid_unicode_utf8_acceptRanges), ("treillage/op.kinds", laid_treillage_op_kinds), ("unicode/utf8.first", laid_unicode_utf8_first)] }
def TreeNoneSaid : Prop := treeNoneRow.holds Tryz.pinned (OpenSpec.ofChange treeNoneSpec)

/-- ITS FALSE NEIGHBOUR: 'it returns false'. Refute it at one input. -/
def treeNoneWrong : ChangeSpec := { name := "treeNone", fn := fun _ => fun
  | [d] => { results := [.lit (.bool false)], args := [d] }
  | _ => none }
def TreeNoneWrongFalsely : Prop := treeNoneRow.holds Tryz.pinned (OpenSpec.ofChange treeNoneWrong)

/-- 'treillagelaw12.TreeShares': WHATEVER THE INPUT: true; the input reads as it did. -/
def treeSharesSpec : ChangeSpec := { name := "treeShares", fn := fun _ => fun
  | [d1, d2, d3] => { results := [.lit (.bool true)], args := [d1, d2, d3] }
  | _ => none }
def treeSharesRow : OpenClaim := { program := "ytfpjonmglfhkdaagreatdoor", sum := "94fcebecb16d5fcd0dadbc51919b45f982cd02226d983eba6f63ff805f848763", func := "treillage/treillagelaw12.TreeShares", spec := "treeShares", inPlace := ["slices.overlaps[int]", "internal/abi.NoEscape", "internal/bytealg.CountString", "internal/bytealg.IndexByteString", "internal/bytealg.IndexString", "internal/bytealg.MakeNoZero"], unfollowed := true, recurses := true, named := ["treillage/op.kinds", "internal/bytealg.MaxLen", "unicode/utf8.first", "unicode/utf8.acceptRanges"], apart := false, laid := [("unicode/utf8.acceptRanges", laid_unicode_utf8_acceptRanges), ("treillage/op.kinds", laid_treillage_op_kinds), ("unicode/utf8.first", laid_unicode_utf8_first)] }
def TreeSharesSaid : Prop := treeSharesRow.holds Tryz.pinned (OpenSpec.ofChange treeSharesSpec)

/-- ITS FALSE NEIGHBOUR: 'it returns false'. Refute it at one input. -/
def treeSharesWrong : ChangeSpec := { name := "treeShares", fn := fun _ => fun
  | [d1, d2, d3] => { results := [.lit (.bool false)], args := [d1, d2, d3] }
  | _ => none }
def TreeSharesWrongFalsely : Prop := treeSharesRow.holds Tryz.pinned (OpenSpec.ofChange treeSharesWrong)

/-- 'treillagelaw12.TreeFull': WHATEVER THE INPUT: true; the input reads as it did. -/
def treeFullSpec : ChangeSpec := { name := "treeFull", fn := fun _ => fun
  | [d1, d2, d3] => { results := [.lit (.bool true)], args := [d1, d2, d3] }
  | _ => none }
def treeFullRow : OpenClaim := { program := "ytfpjonmglfhkdaagreatdoor", sum := "94fcebecb16d5fcd0dadbc51919b45f982cd02226d983eba6f63ff805f848763", func := "treillage/treillagelaw12.TreeFull", spec := "treeFull", inPlace := ["slices.overlaps[int]", "internal/abi.NoEscape", "internal/bytealg.CountString", "internal/bytealg.IndexByteString", "internal/bytealg.IndexString", "internal/bytealg.MakeNoZero"], unfollowed := true, recurses := true, named := ["treillage/op.kinds", "internal/bytealg.MaxLen", "unicode/utf8.first", "unicode/utf8.acceptRanges"], apart := false, laid := [("unicode/utf8.acceptRanges", laid_unicode_utf8_acceptRanges), ("treillage/op.kinds", laid_treillage_op_kinds), ("unicode/utf8.first", laid_unicode_utf8_first)] }
def TreeFullSaid : Prop := treeFullRow.holds Tryz.pinned (OpenSpec.ofChange treeFullSpec)

/-- ITS FALSE NEIGHBOUR: 'it returns false'. Refute it at one input. -/
def treeFullWrong : ChangeSpec := { name := "treeFull", fn := fun _ => fun
  | [d1, d2, d3] => { results := [.lit (.bool false)], args := [d1, d2, d3] }
  | _ => none }
def TreeFullWrongFalsely : Prop := treeFullRow.holds Tryz.pinned (OpenSpec.ofChange treeFullWrong)

/-- 'treillagelaw12.TreeHandles': WHATEVER THE INPUT: true; the input reads as it did. -/
def treeHandlesSpec : ChangeSpec := { name := "treeHandles", fn := fun _ => fun
  | [d1, d2] => { results := [.lit (.bool true)], args := [d1, d2] }
  | _ => none }
def treeHandlesRow : OpenClaim := { program := "ytfpjonmglfhkdaagreatdoor", sum := "94fcebecb16d5fcd0dadbc51919b45f982cd02226d983eba6f63ff805f848763", func := "treillage/treillagelaw12.TreeHandles", spec := "treeHandles", inPlace := ["slices.overlaps[int]", "internal/abi.NoEscape", "internal/bytealg.CountString", "internal/bytealg.IndexByteString", "internal/bytealg.IndexString", "internal/bytealg.MakeNoZero"], unfollowed := true, recurses := true, named := ["treillage/op.kinds", "internal/bytealg.MaxLen", "unicode/utf8.first", "unicode/utf8.acceptRanges"], apart := false, laid := [("unicode/utf8.acceptRanges", laid_unicode_utf8_acceptRanges), ("treillage/op.kinds", laid_treillage_op_kinds), ("unicode/utf8.first", laid_unicode_utf8_first)] }
def TreeHandlesSaid : Prop := treeHandlesRow.holds Tryz.pinned (OpenSpec.ofChange treeHandlesSpec)

/-- ITS FALSE NEIGHBOUR: 'it returns false'. Refute it at one input. -/
def treeHandlesWrong : ChangeSpec := { name := "treeHandles", fn := fun _ => fun
  | [d1, d2] => { results := [.lit (.bool false)], args := [d1, d2] }
  | _ => none }
def TreeHandlesWrongFalsely : Prop := treeHandlesRow.holds Tryz.pinned (OpenSpec.ofChange treeHandlesWrong)

/-- 'treillagelaw13.SnapOf': WHATEVER THE INPUT: true; the input reads as it did. -/
def snapOfSpec : ChangeSpec := { name := "snapOf", fn := fun _ => fun
  | [d1, d2] => { results := [.lit (.bool true)], args := [d1, d2] }
  | _ => none }
def snapOfRow : OpenClaim := { program := "ytfpjonmglfhkdaagreatdoor", sum := "94fcebecb16d5fcd0dadbc51919b45f982cd02226d983eba6f63ff805f848763", func := "treillage/treillagelaw13.SnapOf", spec := "snapOf", inPlace := ["slices.overlaps[int]", "internal/abi.NoEscape", "internal/bytealg.CountString", "internal/bytealg.IndexByteString", "internal/bytealg.IndexString", "internal/bytealg.MakeNoZero"], unfollowed := true, recurses := true, named := ["treillage/op.kinds", "internal/bytealg.MaxLen", "unicode/utf8.first", "unicode/utf8.acceptRanges"], apart := false, laid := [("unicode/utf8.acceptRanges", laid_unicode_utf8_acceptRanges), ("treillage/op.kinds", laid_treillage_op_kinds), ("unicode/utf8.first", laid_unicode_utf8_first)] }
def SnapOfSaid : Prop := snapOfRow.holds Tryz.pinned (OpenSpec.ofChange snapOfSpec)

/-- ITS FALSE NEIGHBOUR: 'it returns false'. Refute it at one input. -/
def snapOfWrong : ChangeSpec := { name := "snapOf", fn := fun _ => fun
  | [d1, d2] => { results := [.lit (.bool false)], args := [d1, d2] }
  | _ => none }
def SnapOfWrongFalsely : Prop := snapOfRow.holds Tryz.pinned (OpenSpec.ofChange snapOfWrong)

/-- 'treillagelaw13.SnapAsk': WHATEVER THE INPUT: true; the input reads as it did. -/
def snapAskSpec : ChangeSpec := { name := "snapAsk", fn := fun _ => fun
  | [d1, d2] => { results := [.lit (.bool true)], args := [d1, d2] }
  | _ => none }
def snapAskRow : OpenClaim := { program := "ytfpjonmglfhkdaagreatdoor", sum := "94fcebecb16d5fcd0dadbc51919b45f982cd02226d983eba6f63ff805f848763", func := "treillage/treillagelaw13.SnapAsk", spec := "snapAsk", inPlace := ["slices.overlaps[int]", "internal/abi.NoEscape", "internal/bytealg.CountString", "internal/bytealg.IndexByteString", "internal/bytealg.IndexString", "internal/bytealg.MakeNoZero"], unfollowed := true, recurses := true, named := ["treillage/op.kinds", "internal/bytealg.MaxLen", "unicode/utf8.first", "unicode/utf8.acceptRanges"], apart := false, laid := [("unicode/utf8.acceptRanges", laid_unicode_utf8_acceptRanges), ("treillage/op.kinds", laid_treillage_op_kinds), ("unicode/utf8.first", laid_unicode_utf8_first)] }
def SnapAskSaid : Prop := snapAskRow.holds Tryz.pinned (OpenSpec.ofChange snapAskSpec)

/-- ITS FALSE NEIGHBOUR: 'it returns false'. Refute it at one input. -/
def snapAskWrong : ChangeSpec := { name := "snapAsk", fn := fun _ => fun
  | [d1, d2] => { results := [.lit (.bool false)], args := [d1, d2] }
  | _ => none }
def SnapAskWrongFalsely : Prop := snapAskRow.holds Tryz.pinned (OpenSpec.ofChange snapAskWrong)

/-- 'treillagelaw13.SnapKeeps': WHATEVER THE INPUT: true; the input reads as it did. -/
def snapKeepsSpec : ChangeSpec := { name := "snapKeeps", fn := fun _ => fun
  | [d1, d2, d3] => { results := [.lit (.bool true)], args := [d1, d2, d3] }
  | _ => none }
def snapKeepsRow : OpenClaim := { program := "ytfpjonmglfhkdaagreatdoor", sum := "94fcebecb16d5fcd0dadbc51919b45f982cd02226d983eba6f63ff805f848763", func := "treillage/treillagelaw13.SnapKeeps", spec := "snapKeeps", inPlace := ["slices.overlaps[int]", "internal/abi.NoEscape", "internal/bytealg.CountString", "internal/bytealg.IndexByteString", "internal/bytealg.IndexString", "internal/bytealg.MakeNoZero"], unfollowed := true, recurses := true, named := ["treillage/op.kinds", "internal/bytealg.MaxLen", "unicode/utf8.first", "unicode/utf8.acceptRanges"], apart := false, laid := [("unicode/utf8.acceptRanges", laid_unicode_utf8_acceptRanges), ("treillage/op.kinds", laid_treillage_op_kinds), ("unicode/utf8.first", laid_unicode_utf8_first)] }
def SnapKeepsSaid : Prop := snapKeepsRow.holds Tryz.pinned (OpenSpec.ofChange snapKeepsSpec)

/-- ITS FALSE NEIGHBOUR: 'it returns false'. Refute it at one input. -/
def snapKeepsWrong : ChangeSpec := { name := "snapKeeps", fn := fun _ => fun
  | [d1, d2, d3] => { results := [.lit (.bool false)], args := [d1, d2, d3] }
  | _ => none }
def SnapKeepsWrongFalsely : Prop := snapKeepsRow.holds Tryz.pinned (OpenSpec.ofChange snapKeepsWrong)

/-- 'treillagelaw13.SnapKids': WHATEVER THE INPUT: true; the input reads as it did. -/
def snapKidsSpec : ChangeSpec := { name := "snapKids", fn := fun _ => fun
  | [d1, d2] => { results := [.lit (.bool true)], args := [d1, d2] }
  | _ => none }
def snapKidsRow : OpenClaim := { program := "ytfpjonmglfhkdaagreatdoor", sum := "94fcebecb16d5fcd0dadbc51919b45f982cd02226d983eba6f63ff805f848763", func := "treillage/treillagelaw13.SnapKids", spec := "snapKids", inPlace := ["slices.overlaps[int]", "internal/abi.NoEscape", "internal/bytealg.CountString", "internal/bytealg.IndexByteString", "internal/bytealg.IndexString", "internal/bytealg.MakeNoZero"], unfollowed := true, recurses := true, named := ["treillage/op.kinds", "internal/bytealg.MaxLen", "unicode/utf8.first", "unicode/utf8.acceptRanges"], apart := false, laid := [("unicode/utf8.acceptRanges", laid_unicode_utf8_acceptRanges), ("treillage/op.kinds", laid_treillage_op_kinds), ("unicode/utf8.first", laid_unicode_utf8_first)] }
def SnapKidsSaid : Prop := snapKidsRow.holds Tryz.pinned (OpenSpec.ofChange snapKidsSpec)

/-- ITS FALSE NEIGHBOUR: 'it returns false'. Refute it at one input. -/
def snapKidsWrong : ChangeSpec := { name := "snapKids", fn := fun _ => fun
  | [d1, d2] => { results := [.lit (.bool false)], args := [d1, d2] }
  | _ => none }
def SnapKidsWrongFalsely : Prop := snapKidsRow.holds Tryz.pinned (OpenSpec.ofChange snapKidsWrong)

/-- 'treillagelaw13.SnapErrors': WHATEVER THE INPUT: true; the input reads as it did. -/
def snapErrorsSpec : ChangeSpec := { name := "snapErrors", fn := fun _ => fun
  | [d1, d2] => { results := [.lit (.bool true)], args := [d1, d2] }
  | _ => none }
def snapErrorsRow : OpenClaim := { program := "ytfpjonmglfhkdaagreatdoor", sum := "94fcebecb16d5fcd0dadbc51919b45f982cd02226d983eba6f63ff805f848763", func := "treillage/treillagelaw13.SnapErrors", spec := "snapErrors", inPlace := ["slices.overlaps[int]", "internal/abi.NoEscape", "internal/bytealg.CountString", "internal/bytealg.IndexByteString", "internal/bytealg.IndexString", "internal/bytealg.MakeNoZero"], unfollowed := true, recurses := true, named := ["treillage/op.kinds", "internal/bytealg.MaxLen", "unicode/utf8.first", "unicode/utf8.acceptRanges"], apart := false, laid := [("unicode/utf8.acceptRanges", laid_unicode_utf8_acceptRanges), ("treillage/op.kinds", laid_treillage_op_kinds), ("unicode/utf8.first", laid_unicode_utf8_first)] }
def SnapErrorsSaid : Prop := snapErrorsRow.holds Tryz.pinned (OpenSpec.ofChange snapErrorsSpec)

/-- ITS FALSE NEIGHBOUR: 'it returns false'. Refute it at one input. -/
def snapErrorsWrong : ChangeSpec := { name := "snapErrors", fn := fun _ => fun
  | [d1, d2] => { results := [.lit (.bool false)], args := [d1, d2] }
  | _ => none }
def SnapErrorsWrongFalsely : Prop := snapErrorsRow.holds Tryz.pinned (OpenSpec.ofChange snapErrorsWrong)

/-- 'treillagelaw13.SnapOne': WHATEVER THE INPUT: true; the input reads as it did. -/
def snapOneSpec : ChangeSpec := { name := "snapOne", fn := fun _ => fun
  | [d1, d2] => { results := [.lit (.bool true)], args := [d1, d2] }
  | _ => none }
def snapOneRow : OpenClaim := { program := "ytfpjonmglfhkdaagreatdoor", sum := "94fcebecb16d5fcd0dadbc51919b45f982cd02226d983eba6f63ff805f848763", func := "treillage/treillagelaw13.SnapOne", spec := "snapOne", inPlace := ["slices.overlaps[int]", "internal/abi.NoEscape", "internal/bytealg.CountString", "internal/bytealg.IndexByteString", "internal/bytealg.IndexString", "internal/bytealg.MakeNoZero"], unfollowed := true, recurses := true, named := ["treillage/op.kinds", "internal/bytealg.MaxLen", "unicode/utf8.first", "unicode/utf8.acceptRanges"], apart := false, laid := [("unicode/utf8.acceptRanges", laid_unicode_utf8_acceptRanges), ("treillage/op.kinds", laid_treillage_op_kinds), ("unicode/utf8.first", laid_unicode_utf8_first)] }
def SnapOneSaid : Prop := snapOneRow.holds Tryz.pinned (OpenSpec.ofChange snapOneSpec)

/-- ITS FALSE NEIGHBOUR: 'it returns false'. Refute it at one input. -/
def snapOneWrong : ChangeSpec := { name := "snapOne", fn := fun _ => fun
  | [d1, d2] => { results := [.lit (.bool false)], args := [d1, d2] }
  | _ => none }
def SnapOneWrongFalsely : Prop := snapOneRow.holds Tryz.pinned (OpenSpec.ofChange snapOneWrong)

/- THE SECOND FORM. 'bulk': how many values and letters a reading holds, each counted each time it is reached (what is shared counts as often as it is met; a slice's spare places count too). A statement '..UptoSaid' is the law's where the arguments, and the package variables that the reading takes, are together of bulk at most 1048576: NARROWER than '..Said'. Prove '..Said' where nothing that the law and all that it calls make is longer than what came in: it says more and counts as full. Else prove '..UptoSaid'. A law counts once. -/
mutual
def uptoBulk {H : Type} : DataW H → Nat
  | .lit (.string bytes) => bytes.length + 1
  | .lit _ => 1
  | .nil => 1
  | .ptr d => uptoBulk d + 1
  | .slice elems spare => uptoBulkAll elems + uptoBulkAll spare + 1
  | .agg parts => uptoBulkAll parts + 1
  | .iface _ d => uptoBulk d + 1
  | .map entries => uptoBulkEntries entries + 1
  | .held _ => 1
def uptoBulkAll {H : Type} : List (DataW H) → Nat
  | [] => 0
  | d :: r => uptoBulk d + uptoBulkAll r
def uptoBulkEntries {H : Type} : List (Lit × DataW H) → Nat
  | [] => 0
  | x :: r => uptoBulkEntry x + uptoBulkEntries r
def uptoBulkEntry {H : Type} : Lit × DataW H → Nat
  | (.string bytes, d) => bytes.length + uptoBulk d + 1
  | (_, d) => uptoBulk d + 1
 end
def uptoSmall : (H : Type) → List (DataW H) → Bool := fun _ ds => decide (uptoBulkAll ds ≤ 1048576)
def OpenSpec.upto (s : _root_.Go.ChangeSpec) : _root_.Go.OpenSpec := { _root_.Go.OpenSpec.ofChange s with cond := some uptoSmall }

/-- 'treillagelaw12.TreeReads', WHERE WHAT IT READS IS OF BULK AT MOST 1048576: true; the input reads as it did. -/
def treeReadsUptoRow : OpenClaim := { program := "ytfpjonmglfhkdaagreatdoor", sum := "94fcebecb16d5fcd0dadbc51919b45f982cd02226d983eba6f63ff805f848763", func := "treillage/treillagelaw12.TreeReads", spec := "treeReads", inPlace := ["slices.overlaps[int]", "internal/abi.NoEscape", "internal/bytealg.CountString", "internal/bytealg.IndexByteString", "internal/bytealg.IndexString", "internal/bytealg.MakeNoZero"], unfollowed := true, recurses := true, named := ["treillage/op.kinds", "internal/bytealg.MaxLen", "unicode/utf8.first", "unicode/utf8.acceptRanges"], apart := false, laid := [("unicode/utf8.acceptRanges", laid_unicode_utf8_acceptRanges), ("treillage/op.kinds", laid_treillage_op_kinds), ("unicode/utf8.first", laid_unicode_utf8_first)], narrowed := true }
def TreeReadsUptoSaid : Prop := treeReadsUptoRow.holds Tryz.pinned (OpenSpec.upto treeReadsSpec)

/-- 'treillagelaw12.TreeKeeps', WHERE WHAT IT READS IS OF BULK AT MOST 1048576: true; the input reads as it did. -/
def treeKeepsUptoRow : OpenClaim := { program := "ytfpjonmglfhkdaagreatdoor", sum := "94fcebecb16d5fcd0dadbc51919b45f982cd02226d983eba6f63ff805f848763", func := "treillage/treillagelaw12.TreeKeeps", spec := "treeKeeps", inPlace := ["slices.overlaps[int]", "internal/abi.NoEscape", "internal/bytealg.CountString", "internal/bytealg.IndexByteString", "internal/bytealg.IndexString", "internal/bytealg.MakeNoZero"], unfollowed := true, recurses := true, named := ["treillage/op.kinds", "internal/bytealg.MaxLen", "unicode/utf8.first", "unicode/utf8.acceptRanges"], apart := false, laid := [("unicode/utf8.acceptRanges", laid_unicode_utf8_acceptRanges), ("treillage/op.kinds", laid_treillage_op_kinds), ("unicode/utf8.first", laid_unicode_utf8_first)], narrowed := true }
def TreeKeepsUptoSaid : Prop := treeKeepsUptoRow.holds Tryz.pinned (OpenSpec.upto treeKeepsSpec)

/-- 'treillagelaw12.TreeLive', WHERE WHAT IT READS IS OF BULK AT MOST 1048576: true; the input reads as it did. -/
def treeLiveUptoRow : OpenClaim := { program := "ytfpjonmglfhkdaagreatdoor", sum := "94fcebecb16d5fcd0dadbc51919b45f982cd02226d983eba6f63ff805f848763", func := "treillage/treillagelaw12.TreeLive", spec := "treeLive", inPlace := ["slices.overlaps[int]", "internal/abi.NoEscape", "internal/bytealg.CountString", "internal/bytealg.IndexByteString", "internal/bytealg.IndexString", "internal/bytealg.MakeNoZero"], unfollowed := true, recurses := true, named := ["treillage/op.kinds", "internal/bytealg.MaxLen", "unicode/utf8.first", "unicode/utf8.acceptRanges"], apart := false, laid := [("unicode/utf8.acceptRanges", laid_unicode_utf8_acceptRanges), ("treillage/op.kinds", laid_treillage_op_kinds), ("unicode/utf8.first", laid_unicode_utf8_first)], narrowed := true }
def TreeLiveUptoSaid : Prop := treeLiveUptoRow.holds Tryz.pinned (OpenSpec.upto treeLiveSpec)

/-- 'treillagelaw12.TreeNone', WHERE WHAT IT READS IS OF BULK AT MOST 1048576: true; the input reads as it did. -/
def treeNoneUptoRow : OpenClaim := { program := "ytfpjonmglfhkdaagreatdoor", sum := "94fcebecb16d5fcd0dadbc51919b45f982cd02226d983eba6f63ff805f848763", func := "treillage/treillagelaw12.TreeNone", spec := "treeNone", inPlace := ["slices.overlaps[int]", "internal/abi.NoEscape", "internal/bytealg.CountString", "internal/bytealg.IndexByteString", "internal/bytealg.IndexString", "internal/bytealg.MakeNoZero"], unfollowed := true, recurses := true, named := ["treillage/op.kinds", "internal/bytealg.MaxLen", "unicode/utf8.first", "unicode/utf8.acceptRanges"], apart := false, laid := [("unicode/utf8.acceptRanges", laid_unicode_utf8_acceptRanges), ("treillage/op.kinds", laid_treillage_op_kinds), ("unicode/utf8.first", laid_unicode_utf8_first)], narrowed := true }
def TreeNoneUptoSaid : Prop := treeNoneUptoRow.holds Tryz.pinned (OpenSpec.upto treeNoneSpec)

/-- 'treillagelaw12.TreeShares', WHERE WHAT IT READS IS OF BULK AT MOST 1048576: true; the input reads as it did. -/
def treeSharesUptoRow : OpenClaim := { program := "ytfpjonmglfhkdaagreatdoor", sum := "94fcebecb16d5fcd0dadbc51919b45f982cd02226d983eba6f63ff805f848763", func := "treillage/treillagelaw12.TreeShares", spec := "treeShares", inPlace := ["slices.overlaps[int]", "internal/abi.NoEscape", "internal/bytealg.CountString", "internal/bytealg.IndexByteString", "internal/bytealg.IndexString", "internal/bytealg.MakeNoZero"], unfollowed := true, recurses := true, named := ["treillage/op.kinds", "internal/bytealg.MaxLen", "unicode/utf8.first", "unicode/utf8.acceptRanges"], apart := false, laid := [("unicode/utf8.acceptRanges", laid_unicode_utf8_acceptRanges), ("treillage/op.kinds", laid_treillage_op_kinds), ("unicode/utf8.first", laid_unicode_utf8_first)], narrowed := true }
def TreeSharesUptoSaid : Prop := treeSharesUptoRow.holds Tryz.pinned (OpenSpec.upto treeSharesSpec)

/-- 'treillagelaw12.TreeFull', WHERE WHAT IT READS IS OF BULK AT MOST 1048576: true; the input reads as it did. -/
def treeFullUptoRow : OpenClaim := { program := "ytfpjonmglfhkdaagreatdoor", sum := "94fcebecb16d5fcd0dadbc51919b45f982cd02226d983eba6f63ff805f848763", func := "treillage/treillagelaw12.TreeFull", spec := "treeFull", inPlace := ["slices.overlaps[int]", "internal/abi.NoEscape", "internal/bytealg.CountString", "internal/bytealg.IndexByteString", "internal/bytealg.IndexString", "internal/bytealg.MakeNoZero"], unfollowed := true, recurses := true, named := ["treillage/op.kinds", "internal/bytealg.MaxLen", "unicode/utf8.first", "unicode/utf8.acceptRanges"], apart := false, laid := [("unicode/utf8.acceptRanges", laid_unicode_utf8_acceptRanges), ("treillage/op.kinds", laid_treillage_op_kinds), ("unicode/utf8.first", laid_unicode_utf8_first)], narrowed := true }
def TreeFullUptoSaid : Prop := treeFullUptoRow.holds Tryz.pinned (OpenSpec.upto treeFullSpec)

/-- 'treillagelaw12.TreeHandles', WHERE WHAT IT READS IS OF BULK AT MOST 1048576: true; the input reads as it did. -/
def treeHandlesUptoRow : OpenClaim := { program := "ytfpjonmglfhkdaagreatdoor", sum := "94fcebecb16d5fcd0dadbc51919b45f982cd02226d983eba6f63ff805f848763", func := "treillage/treillagelaw12.TreeHandles", spec := "treeHandles", inPlace := ["slices.overlaps[int]", "internal/abi.NoEscape", "internal/bytealg.CountString", "internal/bytealg.IndexByteString", "internal/bytealg.IndexString", "internal/bytealg.MakeNoZero"], unfollowed := true, recurses := true, named := ["treillage/op.kinds", "internal/bytealg.MaxLen", "unicode/utf8.first", "unicode/utf8.acceptRanges"], apart := false, laid := [("unicode/utf8.acceptRanges", laid_unicode_utf8_acceptRanges), ("treillage/op.kinds", laid_treillage_op_kinds), ("unicode/utf8.first", laid_unicode_utf8_first)], narrowed := true }
def TreeHandlesUptoSaid : Prop := treeHandlesUptoRow.holds Tryz.pinned (OpenSpec.upto treeHandlesSpec)

/-- 'treillagelaw13.SnapOf', WHERE WHAT IT READS IS OF BULK AT MOST 1048576: true; the input reads as it did. -/
def snapOfUptoRow : OpenClaim := { program := "ytfpjonmglfhkdaagreatdoor", sum := "94fcebecb16d5fcd0dadbc51919b45f982cd02226d983eba6f63ff805f848763", func := "treillage/treillagelaw13.SnapOf", spec := "snapOf", inPlace := ["slices.overlaps[int]", "internal/abi.NoEscape", "internal/bytealg.CountString", "internal/bytealg.IndexByteString", "internal/bytealg.IndexString", "internal/bytealg.MakeNoZero"], unfollowed := true, recurses := true, named := ["treillage/op.kinds", "internal/bytealg.MaxLen", "unicode/utf8.first", "unicode/utf8.acceptRanges"], apart := false, laid := [("unicode/utf8.acceptRanges", laid_unicode_utf8_acceptRanges), ("treillage/op.kinds", laid_treillage_op_kinds), ("unicode/utf8.first", laid_unicode_utf8_first)], narrowed := true }
def SnapOfUptoSaid : Prop := snapOfUptoRow.holds Tryz.pinned (OpenSpec.upto snapOfSpec)

/-- 'treillagelaw13.SnapAsk', WHERE WHAT IT READS IS OF BULK AT MOST 1048576: true; the input reads as it did. -/
def snapAskUptoRow : OpenClaim := { program := "ytfpjonmglfhkdaagreatdoor", sum := "94fcebecb16d5fcd0dadbc51919b45f982cd02226d983eba6f63ff805f848763", func := "treillage/treillagelaw13.SnapAsk", spec := "snapAsk", inPlace := ["slices.overlaps[int]", "internal/abi.NoEscape", "internal/bytealg.CountString", "internal/bytealg.IndexByteString", "internal/bytealg.IndexString", "internal/bytealg.MakeNoZero"], unfollowed := true, recurses := true, named := ["treillage/op.kinds", "internal/bytealg.MaxLen", "unicode/utf8.first", "unicode/utf8.acceptRanges"], apart := false, laid := [("unicode/utf8.acceptRanges", laid_unicode_utf8_acceptRanges), ("treillage/op.kinds", laid_treillage_op_kinds), ("unicode/utf8.first", laid_unicode_utf8_first)], narrowed := true }
def SnapAskUptoSaid : Prop := snapAskUptoRow.holds Tryz.pinned (OpenSpec.upto snapAskSpec)

/-- 'treillagelaw13.SnapKeeps', WHERE WHAT IT READS IS OF BULK AT MOST 1048576: true; the input reads as it did. -/
def snapKeepsUptoRow : OpenClaim := { program := "ytfpjonmglfhkdaagreatdoor", sum := "94fcebecb16d5fcd0dadbc51919b45f982cd02226d983eba6f63ff805f848763", func := "treillage/treillagelaw13.SnapKeeps", spec := "snapKeeps", inPlace := ["slices.overlaps[int]", "internal/abi.NoEscape", "internal/bytealg.CountString", "internal/bytealg.IndexByteString", "internal/bytealg.IndexString", "internal/bytealg.MakeNoZero"], unfollowed := true, recurses := true, named := ["treillage/op.kinds", "internal/bytealg.MaxLen", "unicode/utf8.first", "unicode/utf8.acceptRanges"], apart := false, laid := [("unicode/utf8.acceptRanges", laid_unicode_utf8_acceptRanges), ("treillage/op.kinds", laid_treillage_op_kinds), ("unicode/utf8.first", laid_unicode_utf8_first)], narrowed := true }
def SnapKeepsUptoSaid : Prop := snapKeepsUptoRow.holds Tryz.pinned (OpenSpec.upto snapKeepsSpec)

/-- 'treillagelaw13.SnapKids', WHERE WHAT IT READS IS OF BULK AT MOST 1048576: true; the input reads as it did. -/
def snapKidsUptoRow : OpenClaim := { program := "ytfpjonmglfhkdaagreatdoor", sum := "94fcebecb16d5fcd0dadbc51919b45f982cd02226d983eba6f63ff805f848763", func := "treillage/treillagelaw13.SnapKids", spec := "snapKids", inPlace := ["slices.overlaps[int]", "internal/abi.NoEscape", "internal/bytealg.CountString", "internal/bytealg.IndexByteString", "internal/bytealg.IndexString", "internal/bytealg.MakeNoZero"], unfollowed := true, recurses := true, named := ["treillage/op.kinds", "internal/bytealg.MaxLen", "unicode/utf8.first", "unicode/utf8.acceptRanges"], apart := false, laid := [("unicode/utf8.acceptRanges", laid_unicode_utf8_acceptRanges), ("treillage/op.kinds", laid_treillage_op_kinds), ("unicode/utf8.first", laid_unicode_utf8_first)], narrowed := true }
def SnapKidsUptoSaid : Prop := snapKidsUptoRow.holds Tryz.pinned (OpenSpec.upto snapKidsSpec)

/-- 'treillagelaw13.SnapErrors', WHERE WHAT IT READS IS OF BULK AT MOST 1048576: true; the input reads as it did. -/
def snapErrorsUptoRow : OpenClaim := { program := "ytfpjonmglfhkdaagreatdoor", sum := "94fcebecb16d5fcd0dadbc51919b45f982cd02226d983eba6f63ff805f848763", func := "treillage/treillagelaw13.SnapErrors", spec := "snapErrors", inPlace := ["slices.overlaps[int]", "internal/abi.NoEscape", "internal/bytealg.CountString", "internal/bytealg.IndexByteString", "internal/bytealg.IndexString", "internal/bytealg.MakeNoZero"], unfollowed := true, recurses := true, named := ["treillage/op.kinds", "internal/bytealg.MaxLen", "unicode/utf8.first", "unicode/utf8.acceptRanges"], apart := false, laid := [("unicode/utf8.acceptRanges", laid_unicode_utf8_acceptRanges), ("treillage/op.kinds", laid_treillage_op_kinds), ("unicode/utf8.first", laid_unicode_utf8_first)], narrowed := true }
def SnapErrorsUptoSaid : Prop := snapErrorsUptoRow.holds Tryz.pinned (OpenSpec.upto snapErrorsSpec)

/-- 'treillagelaw13.SnapOne', WHERE WHAT IT READS IS OF BULK AT MOST 1048576: true; the input reads as it did. -/
def snapOneUptoRow : OpenClaim := { program := "ytfpjonmglfhkdaagreatdoor", sum := "94fcebecb16d5fcd0dadbc51919b45f982cd02226d983eba6f63ff805f848763", func := "treillage/treillagelaw13.SnapOne", spec := "snapOne", inPlace := ["slices.overlaps[int]", "internal/abi.NoEscape", "internal/bytealg.CountString", "internal/bytealg.IndexByteString", "internal/bytealg.IndexString", "internal/bytealg.MakeNoZero"], unfollowed := true, recurses := true, named := ["treillage/op.kinds", "internal/bytealg.MaxLen", "unicode/utf8.first", "unicode/utf8.acceptRanges"], apart := false, laid := [("unicode/utf8.acceptRanges", laid_unicode_utf8_acceptRanges), ("treillage/op.kinds", laid_treillage_op_kinds), ("unicode/utf8.first", laid_unicode_utf8_first)], narrowed := true }
def SnapOneUptoSaid : Prop := snapOneUptoRow.holds Tryz.pinned (OpenSpec.upto snapOneSpec)

end Rows
end Go.Proofs.YtfpjonmglfhkdaaGreatDoor
