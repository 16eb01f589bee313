/-
  The head, and the lengths of Attrs.
-/
import Derived.Test.YthfeonmaajiajaaDoorRecE
namespace Go.Proofs.YthfeonmaajiajaaDoor
open Go.ChangeShapes Go.WideShapes Go.ChangeAt Go.RowKit
open Rm
set_option linter.unusedVariables false
set_option linter.unusedSimpArgs false

def hp (r : Rc) : Nat → Int := fun i => if i = 0 then r.kind else if i = 1 then r.par + 1 else if i = 2 then r.name.length else if i = 3 then r.text.length else if i = 4 then (r.attrs.length : Int) / 2 else if i = 5 then r.size else 0
theorem hp_sum (r : Rc) : J hb (hp r) 8 = headR r := by
  simp [J, S, hb, hp, headR]
  omega
theorem hp_bound {r : Rc} (h : MayR r) : ∀ i, i < 8 → 0 ≤ hp r i ∧ hp r i < 2 ^ hb i := by
  obtain ⟨h1, h2, h3, h4, h5, h6, h7, h8, h9, h10, h11⟩ := h
  intro i hi
  have : i = 0 ∨ i = 1 ∨ i = 2 ∨ i = 3 ∨ i = 4 ∨ i = 5 ∨ i = 6 ∨ i = 7 := by omega
  rcases this with rfl | rfl | rfl | rfl | rfl | rfl | rfl | rfl
  all_goals simp [hp, hb]
  all_goals omega
set_option maxHeartbeats 4000000 in
set_option maxRecDepth 100000 in
theorem head_any (r : Rc) (A : Option Addr) (c : Nat) (w : World) (hT : BT w) (hm : MayR r) :
    Calls Tryd.prog 17 #[.agg (rcs r A c)] w fun e w' => e = .returned (.int .u64 (headR r)) ∧ Below w.heap.size w w' := by
  obtain ⟨W, hW⟩ : ∃ W, W = w.alloc (.cells (rcs r A c) 27) := ⟨_, rfl⟩
  have HW : Hid (Below w.heap.size w W ∧ W.heap[w.heap.size]? = some (.cells (rcs r A c) 27 (0, 0))) := Lib.hid (by subst hW; exact ⟨(Below.refl _ w).alloc (Nat.le_refl _) _, heap_new _ _⟩)
  have hTW := hT.below HW.out.1
  obtain ⟨t0, t1, t2, t3, t4, t5, t6, t7⟩ := hTW.allH
  have HJ := Lib.hid (join_H (hp r) W (hp_bound hm))
  rw [hp_sum] at HJ
  have hn : (str r.name).size = r.name.length := str_size _
  have ht : (str r.text).size = r.text.length := str_size _
  obtain ⟨h1, h2, h3, h4, h5, h6, h7, h8, h9, h10, h11⟩ := hm
  have HWk := Lib.hid HW.out.2
  unfold rcs at *
  obtain ⟨x0, x1, x2, x3, x4, x5, x6⟩ := block7 HWk.out
  have HJ2 : Hid (Calls Tryd.prog 31 #[.agg aH, .agg #[.int .i64 r.kind, .int .i64 (r.par + 1), .int .i64 r.name.length, .int .i64 r.text.length, .int .i64 ((r.attrs.length : Int) / 2), .int .i64 r.size, .int .i64 0, .int .i64 0]] W fun e w' => e = .returned (.int .u64 (headR r)) ∧ Below W.heap.size W w') := Lib.hid HJ.out
  have HWB := Lib.hid HW.out.1
  clear hT hTW h9 HJ h7
  generalize headR r = hd at *
  generalize r.name.length = ln at *
  generalize r.text.length = lt at *
  generalize r.attrs.length = lx at *
  generalize r.kind = rk at *
  generalize r.par = rp at *
  generalize r.size = rz at *
  go_enter Tryd.func17, Tryd.ntmps17
  go_upto_region 1 with fail
  rw [← hW]
  clear hW HW HWk
  go_wp2_with fail
  refine HJ2.out.mono ?_
  rintro e w1 ⟨rfl, hb⟩
  have HB1 := Lib.hid (HWB.out.trans (hb.mono HWB.out.size))
  clear hb
  go_wp2
  go_ret
  exact ⟨rfl, HB1.out⟩
end Go.Proofs.YthfeonmaajiajaaDoor
