/-
  What the laws of layer 7 want of plain forests: moved, and moved back.
-/
import Derived.Test.YtcndplnnighjkaaGreatDoorPG12
namespace Go.Proofs.YtcndplnnighjkaaGreatDoor
open Go.ChangeShapes Go.WideShapes Go.ChangeAt Go.RowKit
set_option linter.unusedVariables false
set_option linter.unusedSimpArgs false
theorem place_at {F : List Mn} (h : mayB F = true) {i p : Nat} (hi : i < F.length) (hp : par F i = (p : Int)) : p < F.length /\ i ≠ 0 /\ (kidsOf F p).findIdx (fun x => decide (x = (i : Int))) < (kidsOf F p).length /\ (kidsOf F p).getD ((kidsOf F p).findIdx (fun x => decide (x = (i : Int)))) 0 = i /\ ∀ j, j < (kidsOf F p).findIdx (fun x => decide (x = (i : Int))) -> (kidsOf F p).getD j 0 ≠ (i : Int) := by
 obtain ⟨-, -, h3, -, -⟩ := may_iff.1 h
 obtain ⟨hn0, p', e1, hpl, hcnt⟩ := ((h3 i hi).1).resolve_left (by omega)
 obtain rfl : p = p' := by omega
 have hmem : (i : Int) ∈ kidsOf F p := List.count_pos_iff.1 (by omega)
 have hlt : (kidsOf F p).findIdx (fun x => decide (x = (i : Int))) < (kidsOf F p).length := List.findIdx_lt_length_of_exists ⟨_, hmem, by simp⟩
 refine ⟨hpl, hn0, hlt, ?_, fun j hj e => ?_⟩
 · rw [getD_at 0 hlt]
   have := List.findIdx_getElem (p := fun x : Int => decide (x = (i : Int))) (w := hlt)
   simpa using this
 · have := List.not_of_lt_findIdx hj
   rw [getD_at 0 (by omega)] at e
   simp [e] at this
end Go.Proofs.YtcndplnnighjkaaGreatDoor
