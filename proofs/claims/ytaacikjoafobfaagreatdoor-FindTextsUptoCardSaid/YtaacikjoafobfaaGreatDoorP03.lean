/-
  Texts as Print tells them: escaped.
  A builder that texts are written into; an element's tag.
  An element's tag.
  Print: a node, and all that stands below it.
  Print.
-/
import Derived.Test.YtaacikjoafobfaaGreatDoorP01
import Derived.Test.YtaacikjoafobfaaGreatDoorShelf
import Derived.Test.YtaacikjoafobfaaGreatDoorP02
import Derived.Shelf.Strings.BuilderK
import Derived.Deep.RegionHeld3
import Derived.Laws.EntriesVeiled
namespace Go.Proofs.YtaacikjoafobfaaGreatDoor
open Go.ChangeShapes Go.WideShapes Go.ChangeAt Go.RowKit
set_option linter.unusedVariables false
set_option linter.unusedSimpArgs false

/-- The builder in block b has the bytes l. -/
def Bd (w : World) (b : Nat) (l : List UInt8) : Prop := Lib.IsBuilderF 132 5 b b (Lib.byteCells l) w
/-- Blocks other than the builder's, and no rows of bytes, stand as they stood. -/
abbrev Oth (b : Nat) (w w' : World) : Prop := Lib.OthersKept 5 (some b) w w'
end Go.Proofs.YtaacikjoafobfaaGreatDoor
namespace Go.Proofs.YtaacikjoafobfaaGreatDoor
open Go.ChangeShapes Go.WideShapes Go.ChangeAt Go.RowKit
set_option linter.unusedVariables false
set_option linter.unusedSimpArgs false

/-- So many levels are enough. -/
def Dp (F : List Mn) : Nat → Nat → Prop
  | 0, _ => False
  | f + 1, i => i < F.length ∧ ∀ k ∈ kidsOf F i, 0 ≤ k ∧ Dp F f k.toNat
/-- Of what lay there, below the builder and beside it, nothing has turned. -/
structure Stp (b : Nat) (w w' : World) : Prop where
  bel : Below b w w'
  oth : Oth b w w'
theorem Stp.trans {b : Nat} {x y z : World} (h : Stp b x y) (k : Stp b y z) : Stp b x z := ⟨h.bel.trans k.bel, h.oth.trans k.oth⟩
theorem Stp.of {b : Nat} {w w' : World} (h : Below w.heap.size w w') (hb : b ≤ w.heap.size) : Stp b w w' := ⟨h.mono hb, fun k o hk _ _ => (h.block k (lt_of_block hk)).trans hk⟩
theorem Stp.node {b k : Nat} {w w' : World} {cs : Array Value} (h : Stp b w w') (hk : w.heap[k]? = some (.cells cs 50 (0, 0))) (hne : k ≠ b) : w'.heap[k]? = some (.cells cs 50 (0, 0)) := h.oth k _ hk (by simp; exact hne) (fun c fz e => by cases e)
structure Sz2 (F : List Mn) : Prop where
  len : F.length ≤ 1000
  kids : ∀ m ∈ F, m.kids.length ≤ 1000
  attrs : ∀ m ∈ F, m.attrs.length ≤ 100
  str : ∀ m ∈ F, m.name.size ≤ 1000 ∧ m.text.size ≤ 1000 ∧ ∀ a ∈ m.attrs, a.1.size ≤ 1000 ∧ a.2.size ≤ 1000
end Go.Proofs.YtaacikjoafobfaaGreatDoor
