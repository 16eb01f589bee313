/-
  What the law ApplyParts wants of plain forests: two lists, one behind the other.
-/
import Derived.Test.YtfmciefodohdgaaGreatDoorG16
namespace Go.Proofs.YtfmciefodohdgaaGreatDoor
open Go.ChangeShapes Go.WideShapes Go.ChangeAt Go.RowKit
set_option linter.unusedVariables false
set_option linter.unusedSimpArgs false

theorem run_like : ∀ {F G : List Mn} (h : G.map core = F.map core) (k : Nat) (l : List Ops.Po), (runP G k l).2 = (runP F k l).2 ∧ (runP G k l).1.map (fun x => x.map core) = (runP F k l).1.map (fun x => x.map core)
  | F, G, h, k, [] => ⟨rfl, by simp only [runP, Option.map_some, h]⟩
  | F, G, h, k, o :: l => by
    rw [runP, runP, err_like h]
    split
    · exact run_like (do_like h o) (k + 1) l
    · exact ⟨rfl, rfl⟩
theorem all_may {F : List Mn} (h : mayB F = true) (l : List Ops.Po) : mayB (allP F l).1 = true := by
  unfold allP
  cases e : runP F 0 l with
  | mk x r =>
    cases x with
    | none => exact h
    | some F' => exact run_may h e
theorem all_ends (F : List Mn) (l : List Ops.Po) : ((allP F l).2.2 = 0 ∧ (allP F l).2.1 = l.length ∧ runP F 0 l = (some (allP F l).1, l.length, 0)) ∨ ((allP F l).2.2 ≠ 0 ∧ (allP F l).2.1 < l.length ∧ (allP F l).1 = F ∧ (runP F 0 l).1 = none) := by
  rcases runP_end F 0 l with ⟨F', h⟩ | ⟨j, e, h, he, h1, h2⟩
  · left
    unfold allP
    rw [h]
    exact ⟨rfl, Nat.zero_add _, by simp⟩
  · right
    unfold allP
    rw [h]
    exact ⟨he, by simp only []; omega, rfl, rfl⟩
theorem parts_err {F : List Mn} {a b : List Ops.Po} (h : (allP F a).2.2 ≠ 0) : (allP F (a ++ b)).2 = (allP F a).2 ∧ (allP F (a ++ b)).1 = F := by
  rcases all_ends F a with ⟨h0, -⟩ | ⟨-, -, -, h1⟩
  · exact absurd h0 h
  · have e : runP F 0 (a ++ b) = runP F 0 a := by
      rw [runP_app, h1]
    unfold allP
    rw [e, h1]
    exact ⟨rfl, rfl⟩
theorem parts_ok {F G : List Mn} {a b : List Ops.Po} (h : (allP F a).2.2 = 0) (hG : G.map core = (allP F a).1.map core) :
    (allP F (a ++ b)).2.1 = a.length + (allP G b).2.1 ∧ (allP F (a ++ b)).2.2 = (allP G b).2.2 ∧ (allP G b).2.1 ≤ b.length ∧ ((allP G b).2.2 ≠ 0 → (allP F (a ++ b)).1 = F) ∧ ((allP G b).2.2 = 0 → (allP G b).2.1 = b.length ∧ (allP F (a ++ b)).1.map core = (allP G b).1.map core) := by
  rcases all_ends F a with ⟨-, h1, h2⟩ | ⟨h0, -⟩
  · obtain ⟨F1, hF1⟩ : ∃ F1, (allP F a).1 = F1 := ⟨_, rfl⟩
    rw [hF1] at hG h2
    have e : runP F 0 (a ++ b) = runP F1 (0 + a.length) b := by
      rw [runP_app, h2]
    rw [Nat.zero_add, runP_from F1 a.length b] at e
    obtain ⟨l1, l2⟩ := run_like hG 0 b
    have e1 : (allP F (a ++ b)).2.1 = a.length + (allP G b).2.1 := by
      unfold allP
      rw [e, l1]
      exact Nat.add_comm _ _
    have e2 : (allP F (a ++ b)).2.2 = (allP G b).2.2 := by
      unfold allP
      rw [e, l1]
    refine ⟨e1, e2, ?_, fun hb => ?_, fun hb => ?_⟩
    · rcases all_ends G b with ⟨-, h3, -⟩ | ⟨-, h3, -⟩ <;> omega
    · rcases all_ends F (a ++ b) with ⟨h3, -⟩ | ⟨-, -, h3, -⟩
      · exact absurd (e2.symm.trans h3) hb
      · exact h3
    · rcases all_ends G b with ⟨-, h3, h4⟩ | ⟨h3, -⟩
      · refine ⟨h3, ?_⟩
        rw [h4] at l2
        cases hx : (runP F1 0 b).1 with
        | none => rw [hx] at l2; cases l2
        | some F' =>
          rw [hx] at l2
          simp only [Option.map_some, Option.some.injEq] at l2
          have e3 : (allP F (a ++ b)).1 = F' := by
            unfold allP
            rw [e]
            simp only []
            rw [hx]
            rfl
          rw [e3, l2]
      · exact absurd hb h3
  · exact absurd h h0
end Go.Proofs.YtfmciefodohdgaaGreatDoor
