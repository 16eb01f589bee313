/-
  No cell of these rows narrows 'for every input' (looked for: loops, veiled, ifaces, maps, wideKeys, modest, calm, conditions, laid).
  DERIVED. THE GIVEN ROWS OF THIS SEAT. 6 by the template 'for every input the law returns true; each argument reads behind the call as it read before'; 0 by the template 'total and deterministic' (their statements: YtaapfgbeompckaaTotals.lean).
  GIVEN WITH THE SEED: the statements are not yours to turn. If you find one false, say at which input.
  Laid BY PROGRAM, IN A SANDBOX (cutbox-rows.mjs): the forced cells as the released guide's own fill.sh prints them over the translation 09abe39efc79a615… (all of the seat's roots in one cut). By AI agents, Wed Nov 11 2026. No macro, syntax, notation, axiom, sorry.
-/
import Derived.Test.YtaapfgbeompckaaChecked
import GoSem.Claim
import GoSem.ClaimJoined
import GoSem.ClaimMapViews
import Derived.JoinedTies
import Derived.KernelRfl
namespace Go.Proofs.Ytaapfgbeompckaa
/- THE CELL 'sum', in the pinned program and in every row, IS THE sha256 OF THE DUMP (.gsa) THAT YtaapfgbeompckaaProg.lean LOADS. Nothing in Lean hashes anything: it is a label: what it is worth is what the hold of that sum in a sandbox is worth. -/
noncomputable def Try.pinned : Pinned := { name := "ytaapfgbeompckaa", sum := "09abe39efc79a615be31725757fd257de8966ff88144dc8144875346b922b129", checked := Try.checked }
namespace Rows
def none {H : Type} : Left H := { results := [], args := [] }

/-- 'treillagelaw02.WordTells': WHATEVER THE INPUT: true; the input reads as it did. -/
def wordTellsSpec : ChangeSpec := { name := "wordTells", fn := fun _ => fun
  | [d1, d2] => { results := [.lit (.bool true)], args := [d1, d2] }
  | _ => none }
def wordTellsRow : OpenClaim := { program := "ytaapfgbeompckaa", sum := "09abe39efc79a615be31725757fd257de8966ff88144dc8144875346b922b129", func := "treillage/treillagelaw02.WordTells", spec := "wordTells", unfollowed := true, recurses := true, apart := false }
def WordTellsSaid : Prop := wordTellsRow.holds Try.pinned (OpenSpec.ofChange wordTellsSpec)

/-- ITS FALSE NEIGHBOUR: 'it returns false'. Refute it at one input. -/
def wordTellsWrong : ChangeSpec := { name := "wordTells", fn := fun _ => fun
  | [d1, d2] => { results := [.lit (.bool false)], args := [d1, d2] }
  | _ => none }
def WordTellsWrongFalsely : Prop := wordTellsRow.holds Try.pinned (OpenSpec.ofChange wordTellsWrong)

/-- 'treillagelaw02.WordTokens': WHATEVER THE INPUT: true; the input reads as it did. -/
def wordTokensSpec : ChangeSpec := { name := "wordTokens", fn := fun _ => fun
  | [d1, d2] => { results := [.lit (.bool true)], args := [d1, d2] }
  | _ => none }
def wordTokensRow : OpenClaim := { program := "ytaapfgbeompckaa", sum := "09abe39efc79a615be31725757fd257de8966ff88144dc8144875346b922b129", func := "treillage/treillagelaw02.WordTokens", spec := "wordTokens", unfollowed := true, recurses := true, apart := false }
def WordTokensSaid : Prop := wordTokensRow.holds Try.pinned (OpenSpec.ofChange wordTokensSpec)

/-- ITS FALSE NEIGHBOUR: 'it returns false'. Refute it at one input. -/
def wordTokensWrong : ChangeSpec := { name := "wordTokens", fn := fun _ => fun
  | [d1, d2] => { results := [.lit (.bool false)], args := [d1, d2] }
  | _ => none }
def WordTokensWrongFalsely : Prop := wordTokensRow.holds Try.pinned (OpenSpec.ofChange wordTokensWrong)

/-- 'treillagelaw02.WordFolds': WHATEVER THE INPUT: true; the input reads as it did. -/
def wordFoldsSpec : ChangeSpec := { name := "wordFolds", fn := fun _ => fun
  | [d] => { results := [.lit (.bool true)], args := [d] }
  | _ => none }
def wordFoldsRow : OpenClaim := { program := "ytaapfgbeompckaa", sum := "09abe39efc79a615be31725757fd257de8966ff88144dc8144875346b922b129", func := "treillage/treillagelaw02.WordFolds", spec := "wordFolds", unfollowed := true, recurses := true, apart := false }
def WordFoldsSaid : Prop := wordFoldsRow.holds Try.pinned (OpenSpec.ofChange wordFoldsSpec)

/-- ITS FALSE NEIGHBOUR: 'it returns false'. Refute it at one input. -/
def wordFoldsWrong : ChangeSpec := { name := "wordFolds", fn := fun _ => fun
  | [d] => { results := [.lit (.bool false)], args := [d] }
  | _ => none }
def WordFoldsWrongFalsely : Prop := wordFoldsRow.holds Try.pinned (OpenSpec.ofChange wordFoldsWrong)

/-- 'treillagelaw02.WordJoins': WHATEVER THE INPUT: true; the input reads as it did. -/
def wordJoinsSpec : ChangeSpec := { name := "wordJoins", fn := fun _ => fun
  | [d1, d2] => { results := [.lit (.bool true)], args := [d1, d2] }
  | _ => none }
def wordJoinsRow : OpenClaim := { program := "ytaapfgbeompckaa", sum := "09abe39efc79a615be31725757fd257de8966ff88144dc8144875346b922b129", func := "treillage/treillagelaw02.WordJoins", spec := "wordJoins", unfollowed := true, recurses := true, apart := false }
def WordJoinsSaid : Prop := wordJoinsRow.holds Try.pinned (OpenSpec.ofChange wordJoinsSpec)

/-- ITS FALSE NEIGHBOUR: 'it returns false'. Refute it at one input. -/
def wordJoinsWrong : ChangeSpec := { name := "wordJoins", fn := fun _ => fun
  | [d1, d2] => { results := [.lit (.bool false)], args := [d1, d2] }
  | _ => none }
def WordJoinsWrongFalsely : Prop := wordJoinsRow.holds Try.pinned (OpenSpec.ofChange wordJoinsWrong)

/-- 'treillagelaw02.WordNames': WHATEVER THE INPUT: true; the input reads as it did. -/
def wordNamesSpec : ChangeSpec := { name := "wordNames", fn := fun _ => fun
  | [d1, d2] => { results := [.lit (.bool true)], args := [d1, d2] }
  | _ => none }
def wordNamesRow : OpenClaim := { program := "ytaapfgbeompckaa", sum := "09abe39efc79a615be31725757fd257de8966ff88144dc8144875346b922b129", func := "treillage/treillagelaw02.WordNames", spec := "wordNames", unfollowed := true, recurses := true, apart := false }
def WordNamesSaid : Prop := wordNamesRow.holds Try.pinned (OpenSpec.ofChange wordNamesSpec)

/-- ITS FALSE NEIGHBOUR: 'it returns false'. Refute it at one input. -/
def wordNamesWrong : ChangeSpec := { name := "wordNames", fn := fun _ => fun
  | [d1, d2] => { results := [.lit (.bool false)], args := [d1, d2] }
  | _ => none }
def WordNamesWrongFalsely : Prop := wordNamesRow.holds Try.pinned (OpenSpec.ofChange wordNamesWrong)

/-- 'treillagelaw02.WordLeaves': WHATEVER THE INPUT: true; the input reads as it did. -/
def wordLeavesSpec : ChangeSpec := { name := "wordLeaves", fn := fun _ => fun
  | [d] => { results := [.lit (.bool true)], args := [d] }
  | _ => none }
def wordLeavesRow : OpenClaim := { program := "ytaapfgbeompckaa", sum := "09abe39efc79a615be31725757fd257de8966ff88144dc8144875346b922b129", func := "treillage/treillagelaw02.WordLeaves", spec := "wordLeaves", unfollowed := true, recurses := true, apart := false }
def WordLeavesSaid : Prop := wordLeavesRow.holds Try.pinned (OpenSpec.ofChange wordLeavesSpec)

/-- ITS FALSE NEIGHBOUR: 'it returns false'. Refute it at one input. -/
def wordLeavesWrong : ChangeSpec := { name := "wordLeaves", fn := fun _ => fun
  | [d] => { results := [.lit (.bool false)], args := [d] }
  | _ => none }
def WordLeavesWrongFalsely : Prop := wordLeavesRow.holds Try.pinned (OpenSpec.ofChange wordLeavesWrong)

/- THE SECOND FORM. 'bulk': how many values and letters a reading holds, each counted each time it is reached (what is shared counts as often as it is met; a slice's spare places count too). A statement '..UptoSaid' is the law's where the arguments, and the package variables that the reading takes, are together of bulk at most 1048576: NARROWER than '..Said'. Prove '..Said' where nothing that the law and all that it calls make is longer than what came in: it says more and counts as full. Else prove '..UptoSaid'. A law counts once. -/
mutual
def uptoBulk {H : Type} : DataW H → Nat
  | .lit (.string bytes) => bytes.length + 1
  | .lit _ => 1
  | .nil => 1
  | .ptr d => uptoBulk d + 1
  | .slice elems spare => uptoBulkAll elems + uptoBulkAll spare + 1
  | .agg parts => uptoBulkAll parts + 1
  | .iface _ d => uptoBulk d + 1
  | .map entries => uptoBulkEntries entries + 1
  | .held _ => 1
def uptoBulkAll {H : Type} : List (DataW H) → Nat
  | [] => 0
  | d :: r => uptoBulk d + uptoBulkAll r
def uptoBulkEntries {H : Type} : List (Lit × DataW H) → Nat
  | [] => 0
  | x :: r => uptoBulkEntry x + uptoBulkEntries r
def uptoBulkEntry {H : Type} : Lit × DataW H → Nat
  | (.string bytes, d) => bytes.length + uptoBulk d + 1
  | (_, d) => uptoBulk d + 1
 end
def uptoSmall : (H : Type) → List (DataW H) → Bool := fun _ ds => decide (uptoBulkAll ds ≤ 1048576)
def OpenSpec.upto (s : _root_.Go.ChangeSpec) : _root_.Go.OpenSpec := { _root_.Go.OpenSpec.ofChange s with cond := some uptoSmall }

/-- 'treillagelaw02.WordTells', WHERE WHAT IT READS IS OF BULK AT MOST 1048576: true; the input reads as it did. -/
def wordTellsUptoRow : OpenClaim := { program := "ytaapfgbeompckaa", sum := "09abe39efc79a615be31725757fd257de8966ff88144dc8144875346b922b129", func := "treillage/treillagelaw02.WordTells", spec := "wordTells", unfollowed := true, recurses := true, apart := false, narrowed := true }
def WordTellsUptoSaid : Prop := wordTellsUptoRow.holds Try.pinned (OpenSpec.upto wordTellsSpec)

/-- 'treillagelaw02.WordTokens', WHERE WHAT IT READS IS OF BULK AT MOST 1048576: true; the input reads as it did. -/
def wordTokensUptoRow : OpenClaim := { program := "ytaapfgbeompckaa", sum := "09abe39efc79a615be31725757fd257de8966ff88144dc8144875346b922b129", func := "treillage/treillagelaw02.WordTokens", spec := "wordTokens", unfollowed := true, recurses := true, apart := false, narrowed := true }
def WordTokensUptoSaid : Prop := wordTokensUptoRow.holds Try.pinned (OpenSpec.upto wordTokensSpec)

/-- 'treillagelaw02.WordFolds', WHERE WHAT IT READS IS OF BULK AT MOST 1048576: true; the input reads as it did. -/
def wordFoldsUptoRow : OpenClaim := { program := "ytaapfgbeompckaa", sum := "09abe39efc79a615be31725757fd257de8966ff88144dc8144875346b922b129", func := "treillage/treillagelaw02.WordFolds", spec := "wordFolds", unfollowed := true, recurses := true, apart := false, narrowed := true }
def WordFoldsUptoSaid : Prop := wordFoldsUptoRow.holds Try.pinned (OpenSpec.upto wordFoldsSpec)

/-- 'treillagelaw02.WordJoins', WHERE WHAT IT READS IS OF BULK AT MOST 1048576: true; the input reads as it did. -/
def wordJoinsUptoRow : OpenClaim := { program := "ytaapfgbeompckaa", sum := "09abe39efc79a615be31725757fd257de8966ff88144dc8144875346b922b129", func := "treillage/treillagelaw02.WordJoins", spec := "wordJoins", unfollowed := true, recurses := true, apart := false, narrowed := true }
def WordJoinsUptoSaid : Prop := wordJoinsUptoRow.holds Try.pinned (OpenSpec.upto wordJoinsSpec)

/-- 'treillagelaw02.WordNames', WHERE WHAT IT READS IS OF BULK AT MOST 1048576: true; the input reads as it did. -/
def wordNamesUptoRow : OpenClaim := { program := "ytaapfgbeompckaa", sum := "09abe39efc79a615be31725757fd257de8966ff88144dc8144875346b922b129", func := "treillage/treillagelaw02.WordNames", spec := "wordNames", unfollowed := true, recurses := true, apart := false, narrowed := true }
def WordNamesUptoSaid : Prop := wordNamesUptoRow.holds Try.pinned (OpenSpec.upto wordNamesSpec)

/-- 'treillagelaw02.WordLeaves', WHERE WHAT IT READS IS OF BULK AT MOST 1048576: true; the input reads as it did. -/
def wordLeavesUptoRow : OpenClaim := { program := "ytaapfgbeompckaa", sum := "09abe39efc79a615be31725757fd257de8966ff88144dc8144875346b922b129", func := "treillage/treillagelaw02.WordLeaves", spec := "wordLeaves", unfollowed := true, recurses := true, apart := false, narrowed := true }
def WordLeavesUptoSaid : Prop := wordLeavesUptoRow.holds Try.pinned (OpenSpec.upto wordLeavesSpec)

end Rows
end Go.Proofs.Ytaapfgbeompckaa
