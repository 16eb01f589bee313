/-
  New: the document alone.
-/
import Derived.Test.YtkcfpglmlhoiaaaDoorFoZ
namespace Go.Proofs.YtkcfpglmlhoiaaaDoor
open Go.ChangeShapes Go.WideShapes Go.ChangeAt Go.RowKit
set_option linter.unusedVariables false
set_option linter.unusedSimpArgs false

def newM : Mn := ⟨0, ⟨#[]⟩, ⟨#[]⟩, [], -1, [], none, 0, none, 0⟩
theorem newM_may : mayB [newM] = true := by decide +kernel
theorem newM_bd : bdB [newM] = true := by decide +kernel
theorem node1_fr {W : World} {k : Nat} (h : W.heap[k]? = some (.cells #[.int .i64 0, .string ⟨#[]⟩, .string ⟨#[]⟩, .slice none 0 0, .int .i64 (-1), .slice none 0 0] 34 (0, 0))) : FR W (some ⟨k, 0, none⟩) [newM] := by
  obtain ⟨x0, x1, x2, x3, x4, x5⟩ := block6 h
  intro i m hm
  match i with
  | 0 =>
    have e : newM = m := by simpa using hm
    subst e
    refine ⟨⟨by simp [newM, I64], by simp [newM, I64], by simp [newM], by simp [newM], by simp [newM]⟩, k, 0, rfl, lt_of_block h, x0, x1, x2, x3, x4, x5, ?_, ?_⟩
    · intro j hj; simp [newM] at hj
    · intro j hj; simp [newM] at hj
  | i + 1 => simp at hm
set_option maxRecDepth 100000 in
set_option maxHeartbeats 2000000 in
theorem new_any (w : World) :
    Calls Tryd.prog 13 #[] w fun e w' => ∃ A, e = .returned (.slice A 1 1) ∧ FR w' A [newM] ∧ Below w.heap.size w w' := by
  go_enter Tryd.func13, Tryd.ntmps13
  go_wp2_with fail
  go_ret
  exact ⟨_, rfl, node1_fr (heap_alloc_new _ _), (Below.refl _ _).alloc (Nat.le_refl _) _⟩
end Go.Proofs.YtkcfpglmlhoiaaaDoor
