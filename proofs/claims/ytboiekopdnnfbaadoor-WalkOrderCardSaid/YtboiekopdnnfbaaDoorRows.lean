/-
  NARROWER THAN 'FOR EVERY INPUT', by the rows' own cells (each row's printed sentence says how): WalkOrder: laid · WalkBeside: laid · WalkContent: laid · WalkUp: laid.
  DERIVED. THE GIVEN ROWS OF THIS SEAT. 4 by the template 'for every input the law returns true; each argument reads behind the call as it read before'; 0 by the template 'total and deterministic' (their statements: YtboiekopdnnfbaaDoorTotals.lean).
  GIVEN WITH THE SEED: the statements are not yours to turn. If you find one false, say at which input.
  Laid BY PROGRAM, IN A SANDBOX (cutbox-rows.mjs): the forced cells as the released guide's own fill.sh prints them over the translation cbcc1ddf6f03a428… (all of the seat's roots in one cut). By AI agents, Wed Nov 11 2026. No macro, syntax, notation, axiom, sorry.
-/
import Derived.Test.YtboiekopdnnfbaaDoorChecked
import GoSem.Claim
import GoSem.ClaimJoined
import GoSem.ClaimMapViews
import Derived.JoinedTies
import Derived.KernelRfl
namespace Go.Proofs.YtboiekopdnnfbaaDoor
/- THE CELL 'sum', in the pinned program and in every row, IS THE sha256 OF THE DUMP (.gsa) THAT YtboiekopdnnfbaaDoorProg.lean LOADS. Nothing in Lean hashes anything: it is a label: what it is worth is what the hold of that sum in a sandbox is worth. -/
noncomputable def Tryd.pinned : Pinned := { name := "ytboiekopdnnfbaadoor", sum := "cbcc1ddf6f03a42838fbea7b64341697c71b23c5954cffcc3d3f330f291255a1", checked := Tryd.checked }
namespace Rows
def none {H : Type} : Left H := { results := [], args := [] }

/- WHAT THE LISTED PACKAGE-LEVEL VARIABLES READ AS WHEN THE CALL BEGINS. Each datum BY PROGRAM (the guide's laid-datum.mjs) off the statement by which the dump's own 'gosem.cut.vars' lays the variable. In a bare row this is a premise. The card (YtboiekopdnnfbaaDoorCards.lean) ties it to the program's text. -/
def laid_treillage_op_kinds {H : Type} : DataW H := .agg [.agg [.lit (.string []), .lit (.bool false), .lit (.bool false), .lit (.bool false), .lit (.bool false), .lit (.bool false)], .agg [.lit (.string [101, 108, 101, 109, 101, 110, 116]), .lit (.bool false), .lit (.bool false), .lit (.bool false), .lit (.bool true), .lit (.bool false)], .agg [.lit (.string [116, 101, 120, 116]), .lit (.bool false), .lit (.bool false), .lit (.bool false), .lit (.bool false), .lit (.bool true)], .agg [.lit (.string [99, 111, 109, 109, 101, 110, 116]), .lit (.bool false), .lit (.bool false), .lit (.bool false), .lit (.bool false), .lit (.bool true)], .agg [.lit (.string [105, 110, 115, 101, 114, 116]), .lit (.bool true), .lit (.bool true), .lit (.bool true), .lit (.bool false), .lit (.bool false)], .agg [.lit (.string [114, 101, 109, 111, 118, 101]), .lit (.bool true), .lit (.bool false), .lit (.bool false), .lit (.bool false), .lit (.bool false)], .agg [.lit (.string [115, 101, 116]), .lit (.bool true), .lit (.bool false), .lit (.bool false), .lit (.bool true), .lit (.bool true)], .agg [.lit (.string [117, 110, 115, 101, 116]), .lit (.bool true), .lit (.bool false), .lit (.bool false), .lit (.bool true), .lit (.bool false)], .agg [.lit (.string [99, 104, 97, 110, 103, 101]), .lit (.bool true), .lit (.bool false), .lit (.bool false), .lit (.bool false), .lit (.bool true)]]

/-- 'treillagelaw08.WalkOrder': WHATEVER THE INPUT: true; the input reads as it did. -/
def walkOrderSpec : ChangeSpec := { name := "walkOrder", fn := fun _ => fun
  | [d] => { results := [.lit (.bool true)], args := [d] }
  | _ => none }
def walkOrderRow : OpenClaim := { program := "ytboiekopdnnfbaadoor", sum := "cbcc1ddf6f03a42838fbea7b64341697c71b23c5954cffcc3d3f330f291255a1", func := "treillage/treillagelaw08.WalkOrder", spec := "walkOrder", inPlace := ["slices.overlaps[int]", "internal/abi.NoEscape"], unfollowed := true, recurses := true, named := ["treillage/op.kinds"], apart := false, laid := [("treillage/op.kinds", laid_treillage_op_kinds)] }
def WalkOrderSaid : Prop := walkOrderRow.holds Tryd.pinned (OpenSpec.ofChange walkOrderSpec)

/-- ITS FALSE NEIGHBOUR: 'it returns false'. Refute it at one input. -/
def walkOrderWrong : ChangeSpec := { name := "walkOrder", fn := fun _ => fun
  | [d] => { results := [.lit (.bool false)], args := [d] }
  | _ => none }
def WalkOrderWrongFalsely : Prop := walkOrderRow.holds Tryd.pinned (OpenSpec.ofChange walkOrderWrong)

/-- 'treillagelaw08.WalkBeside': WHATEVER THE INPUT: true; the input reads as it did. -/
def walkBesideSpec : ChangeSpec := { name := "walkBeside", fn := fun _ => fun
  | [d1, d2] => { results := [.lit (.bool true)], args := [d1, d2] }
  | _ => none }
def walkBesideRow : OpenClaim := { program := "ytboiekopdnnfbaadoor", sum := "cbcc1ddf6f03a42838fbea7b64341697c71b23c5954cffcc3d3f330f291255a1", func := "treillage/treillagelaw08.WalkBeside", spec := "walkBeside", inPlace := ["slices.overlaps[int]", "internal/abi.NoEscape"], unfollowed := true, recurses := true, named := ["treillage/op.kinds"], apart := false, laid := [("treillage/op.kinds", laid_treillage_op_kinds)] }
def WalkBesideSaid : Prop := walkBesideRow.holds Tryd.pinned (OpenSpec.ofChange walkBesideSpec)

/-- ITS FALSE NEIGHBOUR: 'it returns false'. Refute it at one input. -/
def walkBesideWrong : ChangeSpec := { name := "walkBeside", fn := fun _ => fun
  | [d1, d2] => { results := [.lit (.bool false)], args := [d1, d2] }
  | _ => none }
def WalkBesideWrongFalsely : Prop := walkBesideRow.holds Tryd.pinned (OpenSpec.ofChange walkBesideWrong)

/-- 'treillagelaw08.WalkContent': WHATEVER THE INPUT: true; the input reads as it did. -/
def walkContentSpec : ChangeSpec := { name := "walkContent", fn := fun _ => fun
  | [d] => { results := [.lit (.bool true)], args := [d] }
  | _ => none }
def walkContentRow : OpenClaim := { program := "ytboiekopdnnfbaadoor", sum := "cbcc1ddf6f03a42838fbea7b64341697c71b23c5954cffcc3d3f330f291255a1", func := "treillage/treillagelaw08.WalkContent", spec := "walkContent", inPlace := ["slices.overlaps[int]", "internal/abi.NoEscape"], unfollowed := true, recurses := true, named := ["treillage/op.kinds"], apart := false, laid := [("treillage/op.kinds", laid_treillage_op_kinds)] }
def WalkContentSaid : Prop := walkContentRow.holds Tryd.pinned (OpenSpec.ofChange walkContentSpec)

/-- ITS FALSE NEIGHBOUR: 'it returns false'. Refute it at one input. -/
def walkContentWrong : ChangeSpec := { name := "walkContent", fn := fun _ => fun
  | [d] => { results := [.lit (.bool false)], args := [d] }
  | _ => none }
def WalkContentWrongFalsely : Prop := walkContentRow.holds Tryd.pinned (OpenSpec.ofChange walkContentWrong)

/-- 'treillagelaw08.WalkUp': WHATEVER THE INPUT: true; the input reads as it did. -/
def walkUpSpec : ChangeSpec := { name := "walkUp", fn := fun _ => fun
  | [d] => { results := [.lit (.bool true)], args := [d] }
  | _ => none }
def walkUpRow : OpenClaim := { program := "ytboiekopdnnfbaadoor", sum := "cbcc1ddf6f03a42838fbea7b64341697c71b23c5954cffcc3d3f330f291255a1", func := "treillage/treillagelaw08.WalkUp", spec := "walkUp", inPlace := ["slices.overlaps[int]", "internal/abi.NoEscape"], unfollowed := true, recurses := true, named := ["treillage/op.kinds"], apart := false, laid := [("treillage/op.kinds", laid_treillage_op_kinds)] }
def WalkUpSaid : Prop := walkUpRow.holds Tryd.pinned (OpenSpec.ofChange walkUpSpec)

/-- ITS FALSE NEIGHBOUR: 'it returns false'. Refute it at one input. -/
def walkUpWrong : ChangeSpec := { name := "walkUp", fn := fun _ => fun
  | [d] => { results := [.lit (.bool false)], args := [d] }
  | _ => none }
def WalkUpWrongFalsely : Prop := walkUpRow.holds Tryd.pinned (OpenSpec.ofChange walkUpWrong)

/- THE SECOND FORM. 'bulk': how many values and letters a reading holds, each counted each time it is reached (what is shared counts as often as it is met; a slice's spare places count too). A statement '..UptoSaid' is the law's where the arguments, and the package variables that the reading takes, are together of bulk at most 1048576: NARROWER than '..Said'. Prove '..Said' where nothing that the law and all that it calls make is longer than what came in: it says more and counts as full. Else prove '..UptoSaid'. A law counts once. -/
mutual
def uptoBulk {H : Type} : DataW H → Nat
  | .lit (.string bytes) => bytes.length + 1
  | .lit _ => 1
  | .nil => 1
  | .ptr d => uptoBulk d + 1
  | .slice elems spare => uptoBulkAll elems + uptoBulkAll spare + 1
  | .agg parts => uptoBulkAll parts + 1
  | .iface _ d => uptoBulk d + 1
  | .map entries => uptoBulkEntries entries + 1
  | .held _ => 1
def uptoBulkAll {H : Type} : List (DataW H) → Nat
  | [] => 0
  | d :: r => uptoBulk d + uptoBulkAll r
def uptoBulkEntries {H : Type} : List (Lit × DataW H) → Nat
  | [] => 0
  | x :: r => uptoBulkEntry x + uptoBulkEntries r
def uptoBulkEntry {H : Type} : Lit × DataW H → Nat
  | (.string bytes, d) => bytes.length + uptoBulk d + 1
  | (_, d) => uptoBulk d + 1
 end
def uptoSmall : (H : Type) → List (DataW H) → Bool := fun _ ds => decide (uptoBulkAll ds ≤ 1048576)
def OpenSpec.upto (s : _root_.Go.ChangeSpec) : _root_.Go.OpenSpec := { _root_.Go.OpenSpec.ofChange s with cond := some uptoSmall }

/-- 'treillagelaw08.WalkOrder', WHERE WHAT IT READS IS OF BULK AT MOST 1048576: true; the input reads as it did. -/
def walkOrderUptoRow : OpenClaim := { program := "ytboiekopdnnfbaadoor", sum := "cbcc1ddf6f03a42838fbea7b64341697c71b23c5954cffcc3d3f330f291255a1", func := "treillage/treillagelaw08.WalkOrder", spec := "walkOrder", inPlace := ["slices.overlaps[int]", "internal/abi.NoEscape"], unfollowed := true, recurses := true, named := ["treillage/op.kinds"], apart := false, laid := [("treillage/op.kinds", laid_treillage_op_kinds)], narrowed := true }
def WalkOrderUptoSaid : Prop := walkOrderUptoRow.holds Tryd.pinned (OpenSpec.upto walkOrderSpec)

/-- 'treillagelaw08.WalkBeside', WHERE WHAT IT READS IS OF BULK AT MOST 1048576: true; the input reads as it did. -/
def walkBesideUptoRow : OpenClaim := { program := "ytboiekopdnnfbaadoor", sum := "cbcc1ddf6f03a42838fbea7b64341697c71b23c5954cffcc3d3f330f291255a1", func := "treillage/treillagelaw08.WalkBeside", spec := "walkBeside", inPlace := ["slices.overlaps[int]", "internal/abi.NoEscape"], unfollowed := true, recurses := true, named := ["treillage/op.kinds"], apart := false, laid := [("treillage/op.kinds", laid_treillage_op_kinds)], narrowed := true }
def WalkBesideUptoSaid : Prop := walkBesideUptoRow.holds Tryd.pinned (OpenSpec.upto walkBesideSpec)

/-- 'treillagelaw08.WalkContent', WHERE WHAT IT READS IS OF BULK AT MOST 1048576: true; the input reads as it did. -/
def walkContentUptoRow : OpenClaim := { program := "ytboiekopdnnfbaadoor", sum := "cbcc1ddf6f03a42838fbea7b64341697c71b23c5954cffcc3d3f330f291255a1", func := "treillage/treillagelaw08.WalkContent", spec := "walkContent", inPlace := ["slices.overlaps[int]", "internal/abi.NoEscape"], unfollowed := true, recurses := true, named := ["treillage/op.kinds"], apart := false, laid := [("treillage/op.kinds", laid_treillage_op_kinds)], narrowed := true }
def WalkContentUptoSaid : Prop := walkContentUptoRow.holds Tryd.pinned (OpenSpec.upto walkContentSpec)

/-- 'treillagelaw08.WalkUp', WHERE WHAT IT READS IS OF BULK AT MOST 1048576: true; the input reads as it did. -/
def walkUpUptoRow : OpenClaim := { program := "ytboiekopdnnfbaadoor", sum := "cbcc1ddf6f03a42838fbea7b64341697c71b23c5954cffcc3d3f330f291255a1", func := "treillage/treillagelaw08.WalkUp", spec := "walkUp", inPlace := ["slices.overlaps[int]", "internal/abi.NoEscape"], unfollowed := true, recurses := true, named := ["treillage/op.kinds"], apart := false, laid := [("treillage/op.kinds", laid_treillage_op_kinds)], narrowed := true }
def WalkUpUptoSaid : Prop := walkUpUptoRow.holds Tryd.pinned (OpenSpec.upto walkUpSpec)

end Rows
end Go.Proofs.YtboiekopdnnfbaaDoor
