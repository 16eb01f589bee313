/-
  walk.Content: all that a node's order says.
  walk.ById: who is found by an id.
-/
import Derived.Test.YtaacikjoafobfaaGreatDoorP26
import Derived.Test.YtaacikjoafobfaaGreatDoorP03
import Derived.Test.YtaacikjoafobfaaGreatDoorP25
namespace Go.Proofs.YtaacikjoafobfaaGreatDoor
open Go.ChangeShapes Go.WideShapes Go.ChangeAt Go.RowKit
set_option linter.unusedVariables false
set_option linter.unusedSimpArgs false
attribute [local go_sem] Oper.semAt_some

theorem bd_block {b : Nat} {l : List UInt8} {W : World} (h : Bd W b l) : ∃ cs, W.heap[b]? = some (.cells cs 132 (0, 0)) := by
  rcases h with ⟨-, v, h2, -⟩ | ⟨-, v, h2, -⟩
  · exact ⟨_, h2⟩
  · exact ⟨_, h2⟩
/-- What a write into the builder keeps. -/
theorem Kpo.stp {n0 b : Nat} {l : List UInt8} {W W' : World} (hB : Bd W b l) (hn : n0 ≤ b) (h : Stp b W W') : Kpo n0 W W' := by
  obtain ⟨cs, hc⟩ := bd_block hB
  have ne : ∀ (k : Nat) (xs : Array Value) (t : TypeId), t ≠ 132 → W.heap[k]? = some (.cells xs t (0, 0)) → k ≠ b := fun k xs t ht hk e => by
    subst e
    rw [hc] at hk
    exact ht ((Obj.cells.inj (Option.some.inj hk)).2.1).symm
  exact ⟨h.bel.mono hn, fun k xs hk => h.oth k _ hk (by simp; exact ne k xs _ (by decide) hk) (fun c fz e => by cases e), fun k xs hk => h.oth k _ hk (by simp; exact ne k xs _ (by decide) hk) (fun c fz e => by cases e)⟩
end Go.Proofs.YtaacikjoafobfaaGreatDoor
