/-
  What a node's words are read as: plain mathematics of no program.
-/
import Derived.Test.YthfeonmaajiajaaDoorRecM
namespace Go.Proofs.YthfeonmaajiajaaDoor.Rm
set_option linter.unusedVariables false
set_option linter.unusedSimpArgs false

/-- The words behind a node's head, its list, and its lengths. -/
def tl (r : Rc) : List Int := wds r.name ++ (wds r.text ++ r.attrs.flatMap wds)
theorem pk_form (r : Rc) : pk r = headR r :: r.root :: (lens r.attrs ++ tl r) := by unfold pk P tl; rw [List.take_length]
theorem pk_head (r : Rc) : (pk r).getD 0 0 = headR r := by rw [pk_form]; rfl
theorem pk_root (r : Rc) : ((pk r).drop 1).getD 0 0 = r.root := by rw [pk_form]; rfl
theorem pk_rest (r : Rc) : (pk r).drop 2 = lens r.attrs ++ tl r := by rw [pk_form]; rfl
theorem lens_two {a : List Wd} (h : a ≠ []) (m : List Int) : (lens a ++ m).take 2 = lens a ∧ (lens a ++ m).drop 2 = m := by rw [lens_some h]; exact ⟨rfl, rfl⟩
/-- One text more is read. -/
theorem step_take (s : Wd) (m : List Int) : (wds s ++ m).take (nw s.length) = wds s ∧ (wds s ++ m).drop (nw s.length) = m := by
  rw [← wds_length]; simp
theorem step_txt (s : Wd) (m : List Int) : txt ((wds s ++ m).take (nw s.length)) s.length = some s := by
  rw [(step_take s m).1]; exact txt_wds s
theorem flat_drop {a : List Wd} {k : Nat} (h : k < a.length) : (a.drop k).flatMap wds = wds a[k] ++ (a.drop (k + 1)).flatMap wds := by
  rw [List.drop_eq_getElem_cons h]; rfl
end Go.Proofs.YthfeonmaajiajaaDoor.Rm
