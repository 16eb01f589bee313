/-
  A builder that texts are written into; an element's tag.
-/
import Derived.Test.YtkcfpglmlhoiaaaDoorFoK
import Derived.Test.YtkcfpglmlhoiaaaDoorFoD
import Derived.Shelf.Strings.BuilderK
import Derived.Deep.RegionHeld3
namespace Go.Proofs.YtkcfpglmlhoiaaaDoor
open Go.ChangeShapes Go.WideShapes Go.ChangeAt Go.RowKit
set_option linter.unusedVariables false
set_option linter.unusedSimpArgs false

/-- The builder in block b has the bytes l. -/
def Bd (w : World) (b : Nat) (l : List UInt8) : Prop := Lib.IsBuilderF 57 5 b b (Lib.byteCells l) w
/-- Blocks other than the builder's, and no rows of bytes, stand as they stood. -/
abbrev Oth (b : Nat) (w w' : World) : Prop := Lib.OthersKept 5 (some b) w w'
theorem ws_any (b : Nat) (l : List UInt8) (s : ByteArray) (w : World) (h : Bd w b l) (hb : b ≤ w.heap.size) (hl : l.length + s.size ≤ 1000000000000) :
    Calls Tryd.prog 28 #[.pointer (some ⟨b, 0, none⟩), .string s] w fun e w' => e = .returned (.tuple #[.int .i64 s.size, .nilIface]) ∧ Bd w' b (l ++ s.data.toList) ∧ Below b w w' ∧ Oth b w w' := by
  refine (Any.Builder_WriteString_k { Tryd.lays154 with } Tryd.Builder_Extra_154 b b (Lib.byteCells l) s w h (by rw [Lib.byteCells_length]; omega) hb).mono ?_
  rintro e w' ⟨rfl, h1, h2, h3⟩
  refine ⟨rfl, ?_, h2, h3⟩
  rw [Lib.strCells_eq, ← Lib.byteCells_append] at h1
  exact Or.inr h1
theorem str_any (b : Nat) (l : List UInt8) (w : World) (h : Bd w b l) (hb : b ≤ w.heap.size) :
    Calls Tryd.prog 31 #[.pointer (some ⟨b, 0, none⟩)] w fun e w' => e = .returned (.string ⟨l.toArray⟩) ∧ Below b w w' ∧ Oth b w w' := by
  refine (Any.Builder_String_any_k Tryd.lays169 Tryd.Builder_Extra_169 b b l w h hb).mono ?_
  rintro e w' ⟨rfl, h1, h2, h3⟩
  exact ⟨rfl, h2, h3⟩
theorem bd_new (w : World) : Bd (w.alloc (.cells #[.pointer none, .slice none 0 0] 57)) w.heap.size [] := by
  refine Or.inl ⟨Nat.le_refl _, _, heap_alloc_new _ _, ?_, by simp [Value.ownBlock]⟩
  exact World.ownsRowF_nil _ _ _ _
end Go.Proofs.YtkcfpglmlhoiaaaDoor
