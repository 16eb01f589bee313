/-
  The handles of all that are taken: the program's, and the document's own.
-/
import Derived.Test.YtbldjlkofaiikaaSlotF
namespace Go.Proofs.Ytbldjlkofaiikaa
open Go.ChangeShapes Go.WideShapes Go.ChangeAt Go.RowKit
set_option linter.unusedVariables false

theorem al_length (s : St) : ∀ k, (s.al k).length ≤ k
  | 0 => Nat.le_refl _
  | k + 1 => by
    have := al_length s k
    unfold St.al
    split <;> simp <;> omega
theorem al_yes {s : St} {k : Nat} (h : s.used.getD k false = true) : s.al (k + 1) = s.al k ++ [hd k (s.gens.getD k 0)] := by rw [St.al, if_pos h]
theorem al_no {s : St} {k : Nat} (h : s.used.getD k false = false) : s.al (k + 1) = s.al k := by rw [St.al, if_neg (by rw [h]; decide)]

end Go.Proofs.Ytbldjlkofaiikaa
