/-
  Texts as Print tells them: escaped.
  A builder that texts are written into; an element's tag.
  An element's tag.
  Print: a node, and all that stands below it.
  Print.
-/
import Derived.Test.YtaacikjoafobfaaGreatDoorG01
import Derived.Test.YtaacikjoafobfaaGreatDoorShelf
import Derived.Test.YtaacikjoafobfaaGreatDoorG02
import Derived.Shelf.Strings.BuilderK
import Derived.Deep.RegionHeld3
import Derived.Laws.EntriesVeiled
namespace Go.Proofs.YtaacikjoafobfaaGreatDoor
open Go.ChangeShapes Go.WideShapes Go.ChangeAt Go.RowKit
set_option linter.unusedVariables false
set_option linter.unusedSimpArgs false

end Go.Proofs.YtaacikjoafobfaaGreatDoor
namespace Go.Proofs.YtaacikjoafobfaaGreatDoor
open Go.ChangeShapes Go.WideShapes Go.ChangeAt Go.RowKit
set_option linter.unusedVariables false
set_option linter.unusedSimpArgs false

/-- The builder in block b has the bytes l. -/
def Bd (w : World) (b : Nat) (l : List UInt8) : Prop := Lib.IsBuilderF 132 5 b b (Lib.byteCells l) w
/-- Blocks other than the builder's, and no rows of bytes, stand as they stood. -/
abbrev Oth (b : Nat) (w w' : World) : Prop := Lib.OthersKept 5 (some b) w w'
theorem ws_any (b : Nat) (l : List UInt8) (s : ByteArray) (w : World) (h : Bd w b l) (hb : b ≤ w.heap.size) (hl : l.length + s.size ≤ 1000000000000) :
    Calls Tryz.prog 72 #[.pointer (some ⟨b, 0, none⟩), .string s] w fun e w' => e = .returned (.tuple #[.int .i64 s.size, .nilIface]) ∧ Bd w' b (l ++ s.data.toList) ∧ Below b w w' ∧ Oth b w w' := by
  refine (Any.Builder_WriteString_k Tryz.lays166 Tryz.Builder_Extra_166 b b (Lib.byteCells l) s w h (by rw [Lib.byteCells_length]; omega) hb).mono ?_
  rintro e w' ⟨rfl, h1, h2, h3⟩
  refine ⟨rfl, ?_, h2, h3⟩
  rw [Lib.strCells_eq, ← Lib.byteCells_append] at h1
  exact Or.inr h1
theorem str_any (b : Nat) (l : List UInt8) (w : World) (h : Bd w b l) (hb : b ≤ w.heap.size) :
    Calls Tryz.prog 73 #[.pointer (some ⟨b, 0, none⟩)] w fun e w' => e = .returned (.string ⟨l.toArray⟩) ∧ Below b w w' ∧ Oth b w w' := by
  refine (Any.Builder_String_any_k Tryz.lays169 Tryz.Builder_Extra_169 b b l w h hb).mono ?_
  rintro e w' ⟨rfl, h1, h2, h3⟩
  exact ⟨rfl, h2, h3⟩
theorem bd_new (w : World) : Bd (w.alloc (.cells #[.pointer none, .slice none 0 0] 132)) w.heap.size [] := by
  refine Or.inl ⟨Nat.le_refl _, _, heap_alloc_new _ _, ?_, by simp [Value.ownBlock]⟩
  exact World.ownsRowF_nil _ _ _ _
end Go.Proofs.YtaacikjoafobfaaGreatDoor
namespace Go.Proofs.YtaacikjoafobfaaGreatDoor
open Go.ChangeShapes Go.WideShapes Go.ChangeAt Go.RowKit
set_option linter.unusedVariables false
set_option linter.unusedSimpArgs false

theorem app_list (a b : ByteArray) : (a ++ b).data.toList = a.data.toList ++ b.data.toList := by simp [ByteArray.data_append]
theorem mk_list (l : List UInt8) : (⟨l.toArray⟩ : ByteArray).data.toList = l := rfl
theorem size_list (a : ByteArray) : a.size = a.data.toList.length := Lib.size_eq a
theorem bd_below {w w' : World} {b : Nat} {l : List UInt8} (h : Bd w b l) (hb : Below w.heap.size w w') : Bd w' b l := by
  have key : ∀ p, Lib.BuilderAtF 132 5 b b p (Lib.byteCells l) w → Lib.BuilderAtF 132 5 b b p (Lib.byteCells l) w' := by
    rintro p ⟨h1, v, h2, h3, h4⟩
    refine ⟨h1, v, (hb.block b (lt_of_block h2)).trans h2, ?_, h4⟩
    refine ⟨h3.1, ?_⟩
    rcases h3.2 with h' | ⟨g, cap, cur, fz, k1, k2, k3, k4⟩
    · exact .inl h'
    · exact .inr ⟨g, cap, cur, fz, k1, k2, (hb.block g (lt_of_block k3)).trans k3, k4⟩
  rcases h with h | h
  · exact Or.inl (key _ h)
  · exact Or.inr (key _ h)
end Go.Proofs.YtaacikjoafobfaaGreatDoor
namespace Go.Proofs.YtaacikjoafobfaaGreatDoor
open Go.ChangeShapes Go.WideShapes Go.ChangeAt Go.RowKit
set_option linter.unusedVariables false
set_option linter.unusedSimpArgs false

/-- So many levels are enough. -/
def Dp (F : List Mn) : Nat → Nat → Prop
  | 0, _ => False
  | f + 1, i => i < F.length ∧ ∀ k ∈ kidsOf F i, 0 ≤ k ∧ Dp F f k.toNat
/-- Of what lay there, below the builder and beside it, nothing has turned. -/
structure Stp (b : Nat) (w w' : World) : Prop where
  bel : Below b w w'
  oth : Oth b w w'
theorem Stp.trans {b : Nat} {x y z : World} (h : Stp b x y) (k : Stp b y z) : Stp b x z := ⟨h.bel.trans k.bel, h.oth.trans k.oth⟩
theorem Stp.of {b : Nat} {w w' : World} (h : Below w.heap.size w w') (hb : b ≤ w.heap.size) : Stp b w w' := ⟨h.mono hb, fun k o hk _ _ => (h.block k (lt_of_block hk)).trans hk⟩
theorem Stp.node {b k : Nat} {w w' : World} {cs : Array Value} (h : Stp b w w') (hk : w.heap[k]? = some (.cells cs 50 (0, 0))) (hne : k ≠ b) : w'.heap[k]? = some (.cells cs 50 (0, 0)) := h.oth k _ hk (by simp; exact hne) (fun c fz e => by cases e)
theorem flat_take {α β : Type} (P : α → List β) (l : List α) (j : Nat) : ((l.take j).flatMap P).length ≤ (l.flatMap P).length := by
  have : l.flatMap P = (l.take j).flatMap P ++ (l.drop j).flatMap P := by rw [← List.flatMap_append, List.take_append_drop]
  rw [this, List.length_append]
  omega
structure Sz2 (F : List Mn) : Prop where
  len : F.length ≤ 1000
  kids : ∀ m ∈ F, m.kids.length ≤ 1000
  attrs : ∀ m ∈ F, m.attrs.length ≤ 100
  str : ∀ m ∈ F, m.name.size ≤ 1000 ∧ m.text.size ≤ 1000 ∧ ∀ a ∈ m.attrs, a.1.size ≤ 1000 ∧ a.2.size ≤ 1000
end Go.Proofs.YtaacikjoafobfaaGreatDoor
namespace Go.Proofs.YtaacikjoafobfaaGreatDoor
open Go.ChangeShapes Go.WideShapes Go.ChangeAt Go.RowKit
set_option linter.unusedVariables false
set_option linter.unusedSimpArgs false

theorem bd_at {W : World} {b : Nat} (h : W.heap[b]? = some (.cells #[.pointer none, .slice none 0 0] 132 (0, 0))) : Bd W b [] := by
  refine Or.inl ⟨Nat.le_refl _, _, h, ?_, by simp [Value.ownBlock]⟩
  exact World.ownsRowF_nil _ _ _ _
end Go.Proofs.YtaacikjoafobfaaGreatDoor
