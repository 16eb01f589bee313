/-
  No cell of these rows narrows 'for every input' (looked for: loops, veiled, ifaces, maps, wideKeys, modest, calm, conditions, laid).
  DERIVED. THE GIVEN ROWS OF THIS SEAT. 9 by the template 'for every input the law returns true; each argument reads behind the call as it read before'; 0 by the template 'total and deterministic' (their statements: YtoinjaihfocjfaaTotals.lean).
  GIVEN WITH THE SEED: the statements are not yours to turn. If you find one false, say at which input.
  Laid BY PROGRAM, IN A SANDBOX (cutbox-rows.mjs): the forced cells as the released guide's own fill.sh prints them over the translation 01208981130fd81c… (all of the seat's roots in one cut). By AI agents, Wed Nov 11 2026. No macro, syntax, notation, axiom, sorry.
-/
import Derived.Test.YtoinjaihfocjfaaChecked
import GoSem.Claim
import GoSem.ClaimJoined
import GoSem.ClaimMapViews
import Derived.JoinedTies
import Derived.KernelRfl
namespace Go.Proofs.Ytoinjaihfocjfaa
/- THE CELL 'sum', in the pinned program and in every row, IS THE sha256 OF THE DUMP (.gsa) THAT YtoinjaihfocjfaaProg.lean LOADS. Nothing in Lean hashes anything: it is a label: what it is worth is what the hold of that sum in a sandbox is worth. -/
noncomputable def Try.pinned : Pinned := { name := "ytoinjaihfocjfaa", sum := "01208981130fd81ca73706f347875b55cd40b67ce3391e5178aff2dd970598d3", checked := Try.checked }
namespace Rows
def none {H : Type} : Left H := { results := [], args := [] }

/-- 'treillagelaw01.PackHandles': WHATEVER THE INPUT: true; the input reads as it did. -/
def packHandlesSpec : ChangeSpec := { name := "packHandles", fn := fun _ => fun
  | [d1, d2, d3] => { results := [.lit (.bool true)], args := [d1, d2, d3] }
  | _ => none }
def packHandlesRow : OpenClaim := { program := "ytoinjaihfocjfaa", sum := "01208981130fd81ca73706f347875b55cd40b67ce3391e5178aff2dd970598d3", func := "treillage/treillagelaw01.PackHandles", spec := "packHandles", apart := false }
def PackHandlesSaid : Prop := packHandlesRow.holds Try.pinned (OpenSpec.ofChange packHandlesSpec)

/-- ITS FALSE NEIGHBOUR: 'it returns false'. Refute it at one input. -/
def packHandlesWrong : ChangeSpec := { name := "packHandles", fn := fun _ => fun
  | [d1, d2, d3] => { results := [.lit (.bool false)], args := [d1, d2, d3] }
  | _ => none }
def PackHandlesWrongFalsely : Prop := packHandlesRow.holds Try.pinned (OpenSpec.ofChange packHandlesWrong)

/-- 'treillagelaw01.PackZigs': WHATEVER THE INPUT: true; the input reads as it did. -/
def packZigsSpec : ChangeSpec := { name := "packZigs", fn := fun _ => fun
  | [d1, d2] => { results := [.lit (.bool true)], args := [d1, d2] }
  | _ => none }
def packZigsRow : OpenClaim := { program := "ytoinjaihfocjfaa", sum := "01208981130fd81ca73706f347875b55cd40b67ce3391e5178aff2dd970598d3", func := "treillage/treillagelaw01.PackZigs", spec := "packZigs", apart := false }
def PackZigsSaid : Prop := packZigsRow.holds Try.pinned (OpenSpec.ofChange packZigsSpec)

/-- ITS FALSE NEIGHBOUR: 'it returns false'. Refute it at one input. -/
def packZigsWrong : ChangeSpec := { name := "packZigs", fn := fun _ => fun
  | [d1, d2] => { results := [.lit (.bool false)], args := [d1, d2] }
  | _ => none }
def PackZigsWrongFalsely : Prop := packZigsRow.holds Try.pinned (OpenSpec.ofChange packZigsWrong)

/-- 'treillagelaw01.PackNarrows': WHATEVER THE INPUT: true; the input reads as it did. -/
def packNarrowsSpec : ChangeSpec := { name := "packNarrows", fn := fun _ => fun
  | [d1, d2] => { results := [.lit (.bool true)], args := [d1, d2] }
  | _ => none }
def packNarrowsRow : OpenClaim := { program := "ytoinjaihfocjfaa", sum := "01208981130fd81ca73706f347875b55cd40b67ce3391e5178aff2dd970598d3", func := "treillage/treillagelaw01.PackNarrows", spec := "packNarrows", apart := false }
def PackNarrowsSaid : Prop := packNarrowsRow.holds Try.pinned (OpenSpec.ofChange packNarrowsSpec)

/-- ITS FALSE NEIGHBOUR: 'it returns false'. Refute it at one input. -/
def packNarrowsWrong : ChangeSpec := { name := "packNarrows", fn := fun _ => fun
  | [d1, d2] => { results := [.lit (.bool false)], args := [d1, d2] }
  | _ => none }
def PackNarrowsWrongFalsely : Prop := packNarrowsRow.holds Try.pinned (OpenSpec.ofChange packNarrowsWrong)

/-- 'treillagelaw01.PackDigits': WHATEVER THE INPUT: true; the input reads as it did. -/
def packDigitsSpec : ChangeSpec := { name := "packDigits", fn := fun _ => fun
  | [d1, d2, d3] => { results := [.lit (.bool true)], args := [d1, d2, d3] }
  | _ => none }
def packDigitsRow : OpenClaim := { program := "ytoinjaihfocjfaa", sum := "01208981130fd81ca73706f347875b55cd40b67ce3391e5178aff2dd970598d3", func := "treillage/treillagelaw01.PackDigits", spec := "packDigits", apart := false }
def PackDigitsSaid : Prop := packDigitsRow.holds Try.pinned (OpenSpec.ofChange packDigitsSpec)

/-- ITS FALSE NEIGHBOUR: 'it returns false'. Refute it at one input. -/
def packDigitsWrong : ChangeSpec := { name := "packDigits", fn := fun _ => fun
  | [d1, d2, d3] => { results := [.lit (.bool false)], args := [d1, d2, d3] }
  | _ => none }
def PackDigitsWrongFalsely : Prop := packDigitsRow.holds Try.pinned (OpenSpec.ofChange packDigitsWrong)

/-- 'treillagelaw01.PackBytes': WHATEVER THE INPUT: true; the input reads as it did. -/
def packBytesSpec : ChangeSpec := { name := "packBytes", fn := fun _ => fun
  | [d1, d2] => { results := [.lit (.bool true)], args := [d1, d2] }
  | _ => none }
def packBytesRow : OpenClaim := { program := "ytoinjaihfocjfaa", sum := "01208981130fd81ca73706f347875b55cd40b67ce3391e5178aff2dd970598d3", func := "treillage/treillagelaw01.PackBytes", spec := "packBytes", apart := false }
def PackBytesSaid : Prop := packBytesRow.holds Try.pinned (OpenSpec.ofChange packBytesSpec)

/-- ITS FALSE NEIGHBOUR: 'it returns false'. Refute it at one input. -/
def packBytesWrong : ChangeSpec := { name := "packBytes", fn := fun _ => fun
  | [d1, d2] => { results := [.lit (.bool false)], args := [d1, d2] }
  | _ => none }
def PackBytesWrongFalsely : Prop := packBytesRow.holds Try.pinned (OpenSpec.ofChange packBytesWrong)

/-- 'treillagelaw01.PackTurns': WHATEVER THE INPUT: true; the input reads as it did. -/
def packTurnsSpec : ChangeSpec := { name := "packTurns", fn := fun _ => fun
  | [d1, d2] => { results := [.lit (.bool true)], args := [d1, d2] }
  | _ => none }
def packTurnsRow : OpenClaim := { program := "ytoinjaihfocjfaa", sum := "01208981130fd81ca73706f347875b55cd40b67ce3391e5178aff2dd970598d3", func := "treillage/treillagelaw01.PackTurns", spec := "packTurns", apart := false }
def PackTurnsSaid : Prop := packTurnsRow.holds Try.pinned (OpenSpec.ofChange packTurnsSpec)

/-- ITS FALSE NEIGHBOUR: 'it returns false'. Refute it at one input. -/
def packTurnsWrong : ChangeSpec := { name := "packTurns", fn := fun _ => fun
  | [d1, d2] => { results := [.lit (.bool false)], args := [d1, d2] }
  | _ => none }
def PackTurnsWrongFalsely : Prop := packTurnsRow.holds Try.pinned (OpenSpec.ofChange packTurnsWrong)

/-- 'treillagelaw01.PackParts': WHATEVER THE INPUT: true; the input reads as it did. -/
def packPartsSpec : ChangeSpec := { name := "packParts", fn := fun _ => fun
  | [d1, d2] => { results := [.lit (.bool true)], args := [d1, d2] }
  | _ => none }
def packPartsRow : OpenClaim := { program := "ytoinjaihfocjfaa", sum := "01208981130fd81ca73706f347875b55cd40b67ce3391e5178aff2dd970598d3", func := "treillage/treillagelaw01.PackParts", spec := "packParts", apart := false }
def PackPartsSaid : Prop := packPartsRow.holds Try.pinned (OpenSpec.ofChange packPartsSpec)

/-- ITS FALSE NEIGHBOUR: 'it returns false'. Refute it at one input. -/
def packPartsWrong : ChangeSpec := { name := "packParts", fn := fun _ => fun
  | [d1, d2] => { results := [.lit (.bool false)], args := [d1, d2] }
  | _ => none }
def PackPartsWrongFalsely : Prop := packPartsRow.holds Try.pinned (OpenSpec.ofChange packPartsWrong)

/-- 'treillagelaw01.PackBits': WHATEVER THE INPUT: true; the input reads as it did. -/
def packBitsSpec : ChangeSpec := { name := "packBits", fn := fun _ => fun
  | [d1, d2] => { results := [.lit (.bool true)], args := [d1, d2] }
  | _ => none }
def packBitsRow : OpenClaim := { program := "ytoinjaihfocjfaa", sum := "01208981130fd81ca73706f347875b55cd40b67ce3391e5178aff2dd970598d3", func := "treillage/treillagelaw01.PackBits", spec := "packBits", apart := false }
def PackBitsSaid : Prop := packBitsRow.holds Try.pinned (OpenSpec.ofChange packBitsSpec)

/-- ITS FALSE NEIGHBOUR: 'it returns false'. Refute it at one input. -/
def packBitsWrong : ChangeSpec := { name := "packBits", fn := fun _ => fun
  | [d1, d2] => { results := [.lit (.bool false)], args := [d1, d2] }
  | _ => none }
def PackBitsWrongFalsely : Prop := packBitsRow.holds Try.pinned (OpenSpec.ofChange packBitsWrong)

/-- 'treillagelaw01.PackRises': WHATEVER THE INPUT: true; the input reads as it did. -/
def packRisesSpec : ChangeSpec := { name := "packRises", fn := fun _ => fun
  | [d1, d2] => { results := [.lit (.bool true)], args := [d1, d2] }
  | _ => none }
def packRisesRow : OpenClaim := { program := "ytoinjaihfocjfaa", sum := "01208981130fd81ca73706f347875b55cd40b67ce3391e5178aff2dd970598d3", func := "treillage/treillagelaw01.PackRises", spec := "packRises", apart := false }
def PackRisesSaid : Prop := packRisesRow.holds Try.pinned (OpenSpec.ofChange packRisesSpec)

/-- ITS FALSE NEIGHBOUR: 'it returns false'. Refute it at one input. -/
def packRisesWrong : ChangeSpec := { name := "packRises", fn := fun _ => fun
  | [d1, d2] => { results := [.lit (.bool false)], args := [d1, d2] }
  | _ => none }
def PackRisesWrongFalsely : Prop := packRisesRow.holds Try.pinned (OpenSpec.ofChange packRisesWrong)

/- THE SECOND FORM. 'bulk': how many values and letters a reading holds, each counted each time it is reached (what is shared counts as often as it is met; a slice's spare places count too). A statement '..UptoSaid' is the law's where the arguments, and the package variables that the reading takes, are together of bulk at most 1048576: NARROWER than '..Said'. Prove '..Said' where nothing that the law and all that it calls make is longer than what came in: it says more and counts as full. Else prove '..UptoSaid'. A law counts once. -/
mutual
def uptoBulk {H : Type} : DataW H → Nat
  | .lit (.string bytes) => bytes.length + 1
  | .lit _ => 1
  | .nil => 1
  | .ptr d => uptoBulk d + 1
  | .slice elems spare => uptoBulkAll elems + uptoBulkAll spare + 1
  | .agg parts => uptoBulkAll parts + 1
  | .iface _ d => uptoBulk d + 1
  | .map entries => uptoBulkEntries entries + 1
  | .held _ => 1
def uptoBulkAll {H : Type} : List (DataW H) → Nat
  | [] => 0
  | d :: r => uptoBulk d + uptoBulkAll r
def uptoBulkEntries {H : Type} : List (Lit × DataW H) → Nat
  | [] => 0
  | x :: r => uptoBulkEntry x + uptoBulkEntries r
def uptoBulkEntry {H : Type} : Lit × DataW H → Nat
  | (.string bytes, d) => bytes.length + uptoBulk d + 1
  | (_, d) => uptoBulk d + 1
 end
def uptoSmall : (H : Type) → List (DataW H) → Bool := fun _ ds => decide (uptoBulkAll ds ≤ 1048576)
def OpenSpec.upto (s : _root_.Go.ChangeSpec) : _root_.Go.OpenSpec := { _root_.Go.OpenSpec.ofChange s with cond := some uptoSmall }

/-- 'treillagelaw01.PackHandles', WHERE WHAT IT READS IS OF BULK AT MOST 1048576: true; the input reads as it did. -/
def packHandlesUptoRow : OpenClaim := { program := "ytoinjaihfocjfaa", sum := "01208981130fd81ca73706f347875b55cd40b67ce3391e5178aff2dd970598d3", func := "treillage/treillagelaw01.PackHandles", spec := "packHandles", apart := false, narrowed := true }
def PackHandlesUptoSaid : Prop := packHandlesUptoRow.holds Try.pinned (OpenSpec.upto packHandlesSpec)

/-- 'treillagelaw01.PackZigs', WHERE WHAT IT READS IS OF BULK AT MOST 1048576: true; the input reads as it did. -/
def packZigsUptoRow : OpenClaim := { program := "ytoinjaihfocjfaa", sum := "01208981130fd81ca73706f347875b55cd40b67ce3391e5178aff2dd970598d3", func := "treillage/treillagelaw01.PackZigs", spec := "packZigs", apart := false, narrowed := true }
def PackZigsUptoSaid : Prop := packZigsUptoRow.holds Try.pinned (OpenSpec.upto packZigsSpec)

/-- 'treillagelaw01.PackNarrows', WHERE WHAT IT READS IS OF BULK AT MOST 1048576: true; the input reads as it did. -/
def packNarrowsUptoRow : OpenClaim := { program := "ytoinjaihfocjfaa", sum := "01208981130fd81ca73706f347875b55cd40b67ce3391e5178aff2dd970598d3", func := "treillage/treillagelaw01.PackNarrows", spec := "packNarrows", apart := false, narrowed := true }
def PackNarrowsUptoSaid : Prop := packNarrowsUptoRow.holds Try.pinned (OpenSpec.upto packNarrowsSpec)

/-- 'treillagelaw01.PackDigits', WHERE WHAT IT READS IS OF BULK AT MOST 1048576: true; the input reads as it did. -/
def packDigitsUptoRow : OpenClaim := { program := "ytoinjaihfocjfaa", sum := "01208981130fd81ca73706f347875b55cd40b67ce3391e5178aff2dd970598d3", func := "treillage/treillagelaw01.PackDigits", spec := "packDigits", apart := false, narrowed := true }
def PackDigitsUptoSaid : Prop := packDigitsUptoRow.holds Try.pinned (OpenSpec.upto packDigitsSpec)

/-- 'treillagelaw01.PackBytes', WHERE WHAT IT READS IS OF BULK AT MOST 1048576: true; the input reads as it did. -/
def packBytesUptoRow : OpenClaim := { program := "ytoinjaihfocjfaa", sum := "01208981130fd81ca73706f347875b55cd40b67ce3391e5178aff2dd970598d3", func := "treillage/treillagelaw01.PackBytes", spec := "packBytes", apart := false, narrowed := true }
def PackBytesUptoSaid : Prop := packBytesUptoRow.holds Try.pinned (OpenSpec.upto packBytesSpec)

/-- 'treillagelaw01.PackTurns', WHERE WHAT IT READS IS OF BULK AT MOST 1048576: true; the input reads as it did. -/
def packTurnsUptoRow : OpenClaim := { program := "ytoinjaihfocjfaa", sum := "01208981130fd81ca73706f347875b55cd40b67ce3391e5178aff2dd970598d3", func := "treillage/treillagelaw01.PackTurns", spec := "packTurns", apart := false, narrowed := true }
def PackTurnsUptoSaid : Prop := packTurnsUptoRow.holds Try.pinned (OpenSpec.upto packTurnsSpec)

/-- 'treillagelaw01.PackParts', WHERE WHAT IT READS IS OF BULK AT MOST 1048576: true; the input reads as it did. -/
def packPartsUptoRow : OpenClaim := { program := "ytoinjaihfocjfaa", sum := "01208981130fd81ca73706f347875b55cd40b67ce3391e5178aff2dd970598d3", func := "treillage/treillagelaw01.PackParts", spec := "packParts", apart := false, narrowed := true }
def PackPartsUptoSaid : Prop := packPartsUptoRow.holds Try.pinned (OpenSpec.upto packPartsSpec)

/-- 'treillagelaw01.PackBits', WHERE WHAT IT READS IS OF BULK AT MOST 1048576: true; the input reads as it did. -/
def packBitsUptoRow : OpenClaim := { program := "ytoinjaihfocjfaa", sum := "01208981130fd81ca73706f347875b55cd40b67ce3391e5178aff2dd970598d3", func := "treillage/treillagelaw01.PackBits", spec := "packBits", apart := false, narrowed := true }
def PackBitsUptoSaid : Prop := packBitsUptoRow.holds Try.pinned (OpenSpec.upto packBitsSpec)

/-- 'treillagelaw01.PackRises', WHERE WHAT IT READS IS OF BULK AT MOST 1048576: true; the input reads as it did. -/
def packRisesUptoRow : OpenClaim := { program := "ytoinjaihfocjfaa", sum := "01208981130fd81ca73706f347875b55cd40b67ce3391e5178aff2dd970598d3", func := "treillage/treillagelaw01.PackRises", spec := "packRises", apart := false, narrowed := true }
def PackRisesUptoSaid : Prop := packRisesUptoRow.holds Try.pinned (OpenSpec.upto packRisesSpec)

end Rows
end Go.Proofs.Ytoinjaihfocjfaa
