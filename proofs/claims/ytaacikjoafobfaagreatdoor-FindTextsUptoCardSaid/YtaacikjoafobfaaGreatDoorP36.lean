/-
  A compound, and a selector, that came in.
-/
import Derived.Test.YtaacikjoafobfaaGreatDoorP34
import Derived.Deep.Slices
import Derived.ChangeSame
import Derived.WalkSmall
namespace Go.Proofs.YtaacikjoafobfaaGreatDoor.Sx
open Go.ChangeShapes Go.WideShapes Go.ChangeAt Go.RowKit
set_option linter.unusedVariables false
set_option linter.unusedSimpArgs false
namespace So

theorem add_plainS (g i j : Nat) : (⟨g, i, none⟩ : Addr).add j = ⟨g, i + j, none⟩ := by unfold Addr.add; split <;> simp_all
/-- A field of a struct that can be read: its one cell, and how it reads. -/
theorem struct_field {H : Type} {enc : TypeId × Value → H} {P : Program} {w : World} {base : Nat} {sp : Nat → Bool} {held : Bool} {fuel : Nat} {t : TypeId} {cs : List Value} {x : DataW H × List MemPlace} {fs : Array Field}
    (ht : P.underlying t = some (.struct fs)) (h : DataW.trod enc P w base sp held fuel t cs = some x) (i : Nat) {ft : TypeId} {off : Nat} (hi : (fs[i]?).map (fun f => (f.type, f.offset)) = some (ft, off)) (hc : P.cellsOf ft = 1) {v : Value} (hv : cs[off]? = some v) :
    ∃ n d ps, DataW.trod enc P w base sp held n ft [v] = some (d, ps) ∧ ∀ y ∈ ps, y ∈ x.2 := by
  obtain ⟨xs, n, _, hx, _, hxl, hf⟩ := DataW.trod_struct ht h
  obtain ⟨f, hfi, he⟩ := Option.map_eq_some_iff.1 hi
  have e1 : f.type = ft := congrArg Prod.fst he
  have e2 : f.offset = off := congrArg Prod.snd he
  have hlt : i < xs.length := by
    rw [hxl]
    exact (Array.getElem?_eq_some_iff.1 hfi).1
  have := hf i f hfi
  rw [e1, e2, hc, List.getElem?_eq_getElem hlt] at this
  obtain ⟨hl, hg⟩ := List.getElem?_eq_some_iff.1 hv
  have h1 : (cs.drop off).take 1 = [v] := by
    rw [List.drop_eq_getElem_cons hl, hg]
    rfl
  rw [h1] at this
  refine ⟨n, (xs[i]).1, (xs[i]).2, this, fun y hy => ?_⟩
  rw [hx]
  exact List.mem_flatMap.2 ⟨xs[i], List.getElem_mem _, hy⟩
theorem cells_int : Tryz.prog.cellsOf 3 = 1 := by kernel_rfl
theorem cells_str : Tryz.prog.cellsOf 9 = 1 := by kernel_rfl
theorem cells_bool : Tryz.prog.cellsOf 4 = 1 := by kernel_rfl
theorem cells_Te : Tryz.prog.cellsOf 77 = 3 := by kernel_rfl
theorem cells_Co : Tryz.prog.cellsOf 52 = 1 := by kernel_rfl
theorem cells_St : Tryz.prog.cellsOf 54 = 2 := by kernel_rfl
theorem cells_Ss : Tryz.prog.cellsOf 46 = 1 := by kernel_rfl
theorem under_Te : Tryz.prog.underlying 77 = some (.struct (Tryz.prog.fieldsOf 77)) := by kernel_rfl
theorem under_St : Tryz.prog.underlying 54 = some (.struct (Tryz.prog.fieldsOf 54)) := by kernel_rfl
theorem fTe0 : ((Tryz.prog.fieldsOf 77)[0]?).map (fun f => (f.type, f.offset)) = some (3, 0) := by kernel_rfl
theorem fTe1 : ((Tryz.prog.fieldsOf 77)[1]?).map (fun f => (f.type, f.offset)) = some (9, 1) := by kernel_rfl
theorem fTe2 : ((Tryz.prog.fieldsOf 77)[2]?).map (fun f => (f.type, f.offset)) = some (9, 2) := by kernel_rfl
theorem fSt0 : ((Tryz.prog.fieldsOf 54)[0]?).map (fun f => (f.type, f.offset)) = some (52, 0) := by kernel_rfl
theorem fSt1 : ((Tryz.prog.fieldsOf 54)[1]?).map (fun f => (f.type, f.offset)) = some (4, 1) := by kernel_rfl
theorem spot_of {W : World} {base : Nat} {a : Addr} {n : Nat} {cs : List Value} (h : W.cells? base a n = some cs) (hn : 0 < n) : a.spot = none := by
  obtain ⟨_, hl, hc⟩ := World.cells?_some h
  have z := hc 0 hn
  rw [List.getElem?_eq_getElem (by omega)] at z
  simpa [Addr.add] using World.cell?_spot z
/-- No list is longer than any that there is. -/
abbrev M63 : Nat := 9223372036854775807
/-- No list of a row is too long. -/
def RowFit (l : List Ms) : Prop := l.length ≤ M63 ∧ ∀ s ∈ l, s.2.1.length ≤ M63 ∧ s.2.1.length ≤ s.1.2 ∧ s.1.2 ≤ M63
def SelFit (x : List Mr) : Prop := x.length ≤ M63 ∧ ∀ m ∈ x, RowFit m.2 ∧ m.2.length ≤ m.1.2 ∧ m.1.2 ≤ M63
end So
end Go.Proofs.YtaacikjoafobfaaGreatDoor.Sx
