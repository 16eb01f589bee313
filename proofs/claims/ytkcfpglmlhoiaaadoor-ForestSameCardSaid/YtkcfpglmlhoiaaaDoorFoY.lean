/-
  Same.
-/
import Derived.Test.YtkcfpglmlhoiaaaDoorFoX
namespace Go.Proofs.YtkcfpglmlhoiaaaDoor
open Go.ChangeShapes Go.WideShapes Go.ChangeAt Go.RowKit
set_option linter.unusedVariables false
set_option linter.unusedSimpArgs false

/-- Whether two nodes are the same. -/
def sameN2 (m n : Mn) : Bool := (m.kind == n.kind) && ((m.name.toList == n.name.toList) && ((m.text.toList == n.text.toList) && ((m.parent == n.parent) && (eqA m.attrs n.attrs && eqI m.kids n.kids))))
set_option maxRecDepth 100000 in
set_option maxHeartbeats 4000000 in
theorem same1_any (m n : Mn) (w : World) (h1 : AR w m.aA m.attrs) (h2 : IR w m.kA m.kids) (h3 : AR w n.aA n.attrs) (h4 : IR w n.kA n.kids) (l1 : m.attrs.length ≤ 1000 ∧ m.kids.length ≤ 1000) (l2 : n.attrs.length ≤ 1000 ∧ n.kids.length ≤ 1000) :
    Calls Tryd.prog 15 #[nval m, nval n] w (GivesV (.bool (sameN2 m n)) w) := by
  have HA := Lib.hid (fun (W : World) (hb : Below w.heap.size w W) => equalA_any m.aA n.aA m.attrs n.attrs m.aC n.aC W (h1.below hb) (h3.below hb) l1.1 l2.1)
  have HI := Lib.hid (fun (W : World) (hb : Below w.heap.size w W) => equalI_any m.kA n.kA m.kids n.kids m.kC n.kC W (h2.below hb) (h4.below hb) l1.2 l2.2)
  have HE : Hid (sameN2 m n = ((m.kind == n.kind) && ((m.name.toList == n.name.toList) && ((m.text.toList == n.text.toList) && ((m.parent == n.parent) && (eqA m.attrs n.attrs && eqI m.kids n.kids)))))) := Lib.hid rfl
  unfold nval
  generalize sameN2 m n = R at *
  generalize eqA m.attrs n.attrs = b5 at *
  generalize eqI m.kids n.kids = b6 at *
  generalize m.attrs.length = al at *
  generalize n.attrs.length = al' at *
  generalize m.kids.length = kl at *
  generalize n.kids.length = kl' at *
  clear h1 h2 h3 h4 l1 l2
  obtain ⟨b1, e1⟩ : ∃ b, (m.kind == n.kind) = b := ⟨_, rfl⟩
  obtain ⟨b2, e2⟩ : ∃ b, (m.name.toList == n.name.toList) = b := ⟨_, rfl⟩
  obtain ⟨b3, e3⟩ : ∃ b, (m.text.toList == n.text.toList) = b := ⟨_, rfl⟩
  obtain ⟨b4, e4⟩ : ∃ b, (m.parent == n.parent) = b := ⟨_, rfl⟩
  rw [e1, e2, e3, e4] at HE
  obtain ⟨W, hW⟩ : ∃ W, W = (w.alloc (.cells #[.int .i64 m.kind, .string m.name, .string m.text, .slice m.aA al m.aC, .int .i64 m.parent, .slice m.kA kl m.kC] 34)).alloc (.cells #[.int .i64 n.kind, .string n.name, .string n.text, .slice n.aA al' n.aC, .int .i64 n.parent, .slice n.kA kl' n.kC] 34) := ⟨_, rfl⟩
  have HWb : Hid (Below w.heap.size w W) := Lib.hid (by rw [hW]; exact ((Below.refl _ _).alloc (Nat.le_refl _) _).alloc (by simp) _)
  have HW1 : Hid (W.heap[w.heap.size]? = some (.cells #[.int .i64 m.kind, .string m.name, .string m.text, .slice m.aA al m.aC, .int .i64 m.parent, .slice m.kA kl m.kC] 34 (0, 0))) := Lib.hid (by rw [hW, heap_alloc_old _ _ (by simp)]; exact heap_alloc_new _ _)
  have HW2 : Hid (W.heap[w.heap.size + 1]? = some (.cells #[.int .i64 n.kind, .string n.name, .string n.text, .slice n.aA al' n.aC, .int .i64 n.parent, .slice n.kA kl' n.kC] 34 (0, 0))) := Lib.hid (by rw [hW]; exact heap_new1 _ _ _)
  obtain ⟨x0, x1, x2, x3, x4, x5⟩ := block6 HW1.out
  obtain ⟨y0, y1, y2, y3, y4, y5⟩ := block6 HW2.out
  go_enter Tryd.func15, Tryd.ntmps15
  go_upto_region 1 with fail
  rw [← hW]
  clear hW
  cases b1
  · go_wp2
    go_ret
    exact ⟨ret_bool (by rw [HE.out]; rfl), HWb.out⟩
  cases b2
  · go_wp2
    go_ret
    exact ⟨ret_bool (by rw [HE.out]; rfl), HWb.out⟩
  cases b3
  · go_wp2
    go_ret
    exact ⟨ret_bool (by rw [HE.out]; rfl), HWb.out⟩
  cases b4
  · go_wp2
    go_ret
    exact ⟨ret_bool (by rw [HE.out]; rfl), HWb.out⟩
  go_wp2_with fail
  refine (HA.out W HWb.out).mono ?_
  rintro e w1 ⟨rfl, hb⟩
  have HB1 := Lib.hid (HWb.out.trans (hb.mono HWb.out.size))
  have HK1 := Lib.hid ((hb.block _ (lt_of_block HW1.out)).trans HW1.out)
  have HK2 := Lib.hid ((hb.block _ (lt_of_block HW2.out)).trans HW2.out)
  clear hb x0 x1 x2 x3 x4 x5 y0 y1 y2 y3 y4 y5
  obtain ⟨x0, x1, x2, x3, x4, x5⟩ := block6 HK1.out
  obtain ⟨y0, y1, y2, y3, y4, y5⟩ := block6 HK2.out
  cases b5
  · go_wp2
    go_ret
    exact ⟨ret_bool (by rw [HE.out]; rfl), HB1.out⟩
  go_wp2_with fail
  refine (HI.out w1 HB1.out).mono ?_
  rintro e w2 ⟨rfl, hb⟩
  have HB2 := Lib.hid (HB1.out.trans (hb.mono HB1.out.size))
  clear hb x0 x1 x2 x3 x4 x5 y0 y1 y2 y3 y4 y5
  have HEE : Hid (R = b6) := Lib.hid (by rw [HE.out]; rfl)
  go_wp2
  go_ret
  exact ⟨ret_bool HEE.out.symm, HB2.out⟩
end Go.Proofs.YtkcfpglmlhoiaaaDoor
