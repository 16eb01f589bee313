/-
  What the laws of layer 7 want of plain forests: what an operation leaves as it was.
-/
import Derived.Test.YtfmciefodohdgaaGreatDoorG20
import Derived.Test.YtfmciefodohdgaaGreatDoorG04
namespace Go.Proofs.YtfmciefodohdgaaGreatDoor
open Go.ChangeShapes Go.WideShapes Go.ChangeAt Go.RowKit
set_option linter.unusedVariables false
set_option linter.unusedSimpArgs false

theorem named_no {F : List Mn} {o : Ops.Po} {i : Nat} (h : ¬ 4 ≤ o.kind ∨ ((i : Int) ≠ o.id ∧ (o.kind = 4 → (i : Int) ≠ o.dst) ∧ par F o.id.toNat ≠ (i : Int))) : namedB F o i = false := by
  unfold namedB
  rcases h with h | ⟨h1, h2, h3⟩
  · rw [decide_eq_false h, Bool.false_and]
  · rw [decide_eq_false h1, decide_eq_false h3, Bool.and_false, Bool.false_or, Bool.or_false]
    by_cases hk : o.kind = 4
    · rw [decide_eq_false (h2 hk), Bool.and_false, Bool.and_false]
    · rw [decide_eq_false hk, Bool.false_and, Bool.and_false]
theorem keeps {F G : List Mn} (hF : mayB F = true) {o : Ops.Po} (he : errP F o = 0) (hG : G.map core = (oneP F o).1.map core) :
    (F.length ≤ G.length ∧ G.length ≤ F.length + 1) ∧ ∀ i (hi : i < F.length) (hg : i < G.length), namedB F o i = false → core F[i] = core G[i] := by
  rw [oneP, if_pos he] at hG
  refine ⟨?_, fun i hi hg hn => ?_⟩
  · have := len_like hG
    rw [do_len] at this
    split at this <;> omega
  · have h1 := do_other hF he hi hn
    have h2 : (G.map core)[i]? = some (core G[i]) := by rw [List.getElem?_map, List.getElem?_eq_getElem hg]; rfl
    rw [hG, List.getElem?_map, h1, List.getElem?_eq_getElem hi] at h2
    simpa using h2
theorem sz2_one {F : List Mn} (h : Sz2 F) {m : Mn} (hm : m ∈ F) : Sz2 [m] := by
  have key : ∀ {x : Mn}, x ∈ [m] → x ∈ F := fun hx => by
    rw [List.mem_singleton] at hx
    rw [hx]
    exact hm
  obtain ⟨h1, h2, h3, h4⟩ := h
  exact ⟨by simp, fun x hx => h2 x (key hx), fun x hx => h3 x (key hx), fun x hx => h4 x (key hx)⟩
/-- Same, of one node of each of two forests. -/
theorem same_one {F G : List Mn} (g off g' off' c c' : Nat) (w : World) (hF : FR w (some ⟨g, off, none⟩) F) (hG : FR w (some ⟨g', off', none⟩) G) (mF : mayB F = true) (mG : mayB G = true) {i : Nat} (hi : i < F.length) (hg : i < G.length) (hc : core F[i] = core G[i]) :
    Calls Tryz.prog 21 #[.slice (some ⟨g, off + i * 6, none⟩) 1 c, .slice (some ⟨g', off' + i * 6, none⟩) 1 c'] w (GivesV (.bool true) w) := by
  have h : sameF [F[i]] [G[i]] = true := sameF_of (by simp [hc])
  have := same_any (some ⟨g, off + i * 6, none⟩) (some ⟨g', off' + i * 6, none⟩) [F[i]] [G[i]] c c' w (fr_one hF hi) (fr_one hG hg) (sz2_one (may_sz2 mF) (List.getElem_mem hi)) (sz2_one (may_sz2 mG) (List.getElem_mem hg))
  rw [h] at this
  exact this
end Go.Proofs.YtfmciefodohdgaaGreatDoor
