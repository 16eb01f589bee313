/-
  shown: one node, packed and unpacked.
-/
import Derived.Test.YthfeonmaajiajaaDoorRecS
namespace Go.Proofs.YthfeonmaajiajaaDoor
open Go.ChangeShapes Go.WideShapes Go.ChangeAt Go.RowKit
open Rm
set_option linter.unusedVariables false
set_option linter.unusedSimpArgs false

set_option maxRecDepth 100000 in
set_option maxHeartbeats 1000000 in
theorem shown_any (w : World) (hT : BT w) : Calls Tryd.prog 5 #[] w fun e w' => e = .returned (.bool true) ∧ Below w.heap.size w w' := by
  obtain ⟨W, hW⟩ : ∃ W, W = w.alloc (.cells #[.string ⟨#[99]⟩, .string ⟨#[100, 101]⟩] 9) := ⟨_, rfl⟩
  have HB0 : Hid (Below w.heap.size w W) := Lib.hid (by subst hW; exact (Below.refl _ w).alloc (Nat.le_refl _) _)
  have hLV : LV W (some ⟨w.heap.size, 0, none⟩) (svs rS.attrs) := by
    subst hW
    exact LV.of_own (cap := 2) (n := 2) (b := w.heap.size) (own_two (a := .string ⟨#[99]⟩) (b := .string ⟨#[100, 101]⟩) (e := 9))
  have HPk : Hid (Calls Tryd.prog 6 #[.agg #[.int .i64 1, .int .i64 2, .string ⟨#[97, 98]⟩, .string ⟨#[]⟩, .slice (some ⟨w.heap.size, 0, none⟩) 2 2, .int .u64 7, .int .i64 1]] W (GivesP rS W)) := Lib.hid (pack_any rS (some ⟨w.heap.size, 0, none⟩) 2 W hLV rS_b (hT.below HB0.out))
  have HT := Lib.hid hT
  clear hT hLV
  go_enter Tryd.func5, Tryd.ntmps5
  go_wp2_with fail
  rw [← hW]
  clear hW
  refine HPk.out.mono ?_
  rintro e w1 (⟨hm, -, -⟩ | ⟨-, pp, pc, rfl, ho, hb⟩)
  · exact absurd rS_may (mayB_false hm)
  have e7 : (pk rS).length = 7 := by rw [rS_pk]; rfl
  rw [e7] at ho ⊢
  obtain ⟨g, rfl, hg0, hg1⟩ := own_some ho (by omega)
  have hcell : ∀ j u, (gvs (pk rS))[j]? = some u → w1.cell? ⟨g, j, none⟩ = some u := fun j u hu => by
    have := ho.cells rfl j u hu
    rwa [add_plain, Nat.zero_add] at this
  rw [rS_pk] at hcell
  have HC : Hid (w1.cell? ⟨g, 1, none⟩ = some (.int .u64 7) ∧ w1.cell? ⟨g, 2, none⟩ = some (.int .u64 129) ∧ w1.cell? ⟨g, 4, none⟩ = some (.int .u64 25185)) := Lib.hid ⟨hcell 1 _ rfl, hcell 2 _ rfl, hcell 4 _ rfl⟩
  have HB1 := Lib.hid (HB0.out.trans (hb.mono HB0.out.size))
  obtain ⟨_, _, ecc, h7c, hcm, -⟩ := own_form ho
  cases ecc
  have HUn := Lib.hid (unpack_any (some ⟨g, 0, none⟩) 7 pc (pk rS) w1 (LV.of_own ho) e7 h7c hcm (by omega) (fun a e => by cases e; exact hg1) rS_u (HT.out.below HB1.out))
  clear hcell ho hb HPk
  go_wp2_with fail
  refine HUn.out.mono ?_
  rintro e w2 ⟨r, A2, c2, er, rfl, hLV, hb, (⟨rfl, hm, hp⟩ | ⟨-, -, -, -, hno⟩)⟩
  rotate_left
  · exact absurd ⟨rS, rS_may, rfl⟩ hno
  obtain rfl := pk_inj hm rS_may hp
  have HB2 := Lib.hid (HB1.out.trans (hb.mono HB1.out.size))
  have HC2 : Hid (w2.cell? ⟨g, 1, none⟩ = some (.int .u64 7) ∧ w2.cell? ⟨g, 2, none⟩ = some (.int .u64 129) ∧ w2.cell? ⟨g, 4, none⟩ = some (.int .u64 25185) ∧ g < w2.heap.size) := Lib.hid ⟨bcell hb hg1 HC.out.1, bcell hb hg1 HC.out.2.1, bcell hb hg1 HC.out.2.2, Nat.lt_of_lt_of_le hg1 hb.size⟩
  clear hm hp hLV hb HC HUn hg0 hg1
  obtain ⟨W3, hW3⟩ : ∃ W3, W3 = (w2.alloc (.cells (rcs rS A2 c2) 27)).alloc (.cells #[.int .u64 25185] 23) := ⟨_, rfl⟩
  have HB3 : Hid (Below w2.heap.size w2 W3) := Lib.hid (by subst hW3; exact ((Below.refl _ w2).alloc (Nat.le_refl _) _).alloc (by simp) _)
  have HK : Hid (W3.heap[w2.heap.size]? = some (.cells #[.int .i64 1, .int .i64 2, .string ⟨#[97, 98]⟩, .string ⟨#[]⟩, .slice A2 2 c2, .int .u64 7, .int .i64 1] 27 (0, 0)) ∧ w2.heap.size < W3.heap.size) := Lib.hid (by
    subst hW3
    refine ⟨?_, by simp; omega⟩
    rw [heap_old _ _ (by simp)]; exact heap_new _ _)
  have hLV3 : LV W3 (some ⟨w2.heap.size + 1, 0, none⟩) (gvs [25185]) := by
    subst hW3
    intro _
    refine ⟨w2.heap.size + 1, 0, rfl, by simp, fun j u hu => ?_⟩
    have h := heap_new (w2.alloc (.cells (rcs rS A2 c2) 27)) (.cells #[.int .u64 25185] 23)
    have e : (w2.alloc (.cells (rcs rS A2 c2) 27)).heap.size = w2.heap.size + 1 := by simp
    rw [e] at h
    exact block_cell h (by simpa [gvs] using hu)
  have HBW := Lib.hid (HB2.out.trans (HB3.out.mono HB2.out.size))
  have HTx : Hid (Calls Tryd.prog 15 #[.slice (some ⟨w2.heap.size + 1, 0, none⟩) 1 1, .int .i64 2] W3 fun e w' => e = .returned (.tuple #[.string ⟨#[97, 98]⟩, .bool true]) ∧ Below W3.heap.size W3 w') := Lib.hid (by have := text_any (some ⟨w2.heap.size + 1, 0, none⟩) 1 1 [25185] 2 W3 hLV3 rfl (by omega) (by unfold U64; decide) (HT.out.below HBW.out); rw [tS] at this; exact this)
  clear hLV3
  go_wp2_with fail
  rw [← hW3]
  clear hW3
  refine HTx.out.mono ?_
  rintro e w4 ⟨rfl, hb4⟩
  have HB4 := Lib.hid (HBW.out.trans (hb4.mono HBW.out.size))
  have HK4 : Hid (w4.heap[w2.heap.size]? = some (.cells #[.int .i64 1, .int .i64 2, .string ⟨#[97, 98]⟩, .string ⟨#[]⟩, .slice A2 2 c2, .int .u64 7, .int .i64 1] 27 (0, 0))) := Lib.hid ((hb4.block _ HK.out.2).trans HK.out.1)
  obtain ⟨c1, c2', c4, cg⟩ := HC2.out
  have c1 := bcell hb4 (Nat.lt_of_lt_of_le cg HB3.out.size) (bcell HB3.out cg c1)
  have c2' := bcell hb4 (Nat.lt_of_lt_of_le cg HB3.out.size) (bcell HB3.out cg c2')
  have c4 := bcell hb4 (Nat.lt_of_lt_of_le cg HB3.out.size) (bcell HB3.out cg c4)
  clear hb4 HK HTx HB3 cg
  obtain ⟨x0, x1, x2, x3, x4, x5, x6⟩ := block7 HK4.out
  have HWd : Hid (Calls Tryd.prog 16 #[.string ⟨#[]⟩] w4 (GivesU [] w4)) := Lib.hid (by have := words_any [] w4 (by decide) (HT.out.below HB4.out); rwa [wS] at this)
  go_wp2_with fail
  refine HWd.out.mono ?_
  rintro e w5 ⟨v, rfl, ho5, hb5⟩
  obtain ⟨p5, c5, rfl, -, -, -⟩ := own_form ho5
  have HB5 := Lib.hid (HB4.out.trans (hb5.mono HB4.out.size))
  clear ho5 hb5
  go_wp2
  go_ret
  exact ⟨ret_bool (by first | rfl | simp), HB5.out⟩
end Go.Proofs.YthfeonmaajiajaaDoor
