/-
  The small case of the laws: a slot is taken anew.
-/
import Derived.Test.YtnhdpaiekcddiaaSlotP
namespace Go.Proofs.Ytnhdpaiekcddiaa
open Go.ChangeShapes Go.WideShapes Go.ChangeAt Go.RowKit
set_option linter.unusedVariables false

def sh0 : St := fresh 1
def sh1 : St := sh0.tk 0
def sh2 : St := sh1.gb 0 2
def sh3 : St := sh2.tk 0
theorem sh0_ok : Ok 1 1 sh0 := fresh_ok (by decide)
theorem sh1_ok : Ok 1 1 sh1 := sh0_ok.tk (fr := []) rfl
theorem sh2_ok : Ok 1 2 sh2 := sh1_ok.gb (by decide) rfl (by decide) (by decide) (by decide)
theorem sh3_ok : Ok 1 2 sh3 := sh2_ok.tk (fr := []) rfl
theorem sh_new (w : World) : Calls Try.prog 9 #[.int .i64 1] w (GivesE sh0 0 w) := new_ok 1 w (by decide)
theorem sh_take0 {w : World} {b : Nat} {vg vu vf : Value} (h : Ar w b vg vu vf sh0) : Calls Try.prog 13 #[.agg #[vg, vu, vf]] w (GivesT sh1 16777216 0 w) := takeO sh0_ok (by decide) h (fr := []) (i := 0) rfl (by decide)
theorem sh_give {w : World} {b : Nat} {vg vu vf : Value} (h : Ar w b vg vu vf sh1) : Calls Try.prog 15 #[.agg #[vg, vu, vf], .int .u64 16777216] w (GivesE sh2 0 w) := giveO (i := 0) sh1_ok (by decide) h (by decide) (by decide) rfl rfl
theorem sh_take2 {w : World} {b : Nat} {vg vu vf : Value} (h : Ar w b vg vu vf sh2) : Calls Try.prog 13 #[.agg #[vg, vu, vf]] w (GivesT sh3 33554432 0 w) := takeO sh2_ok (by decide) h (fr := []) (i := 0) rfl (by decide)
theorem sh_live1 {w : World} {b : Nat} {vg vu vf : Value} (h : Ar w b vg vu vf sh3) : Calls Try.prog 17 #[.agg #[vg, vu, vf], .int .u64 16777216] w (GivesV (.bool false) w) := liveO sh3_ok h (by decide) (by decide)
theorem sh_live2 {w : World} {b : Nat} {vg vu vf : Value} (h : Ar w b vg vu vf sh3) : Calls Try.prog 17 #[.agg #[vg, vu, vf], .int .u64 33554432] w (GivesV (.bool true) w) := liveO sh3_ok h (by decide) (by decide)
theorem sh_all {w : World} {b : Nat} {vg vu vf : Value} (h : Ar w b vg vu vf sh3) : Calls Try.prog 19 #[.agg #[vg, vu, vf]] w (GivesRow 23 (gvs (sh3.al 1)) w) := allO sh3_ok (by decide) h

set_option maxHeartbeats 1000000 in
theorem shown_any (w : World) : Calls Try.prog 8 #[] w (GivesV (.bool true) w) := by
  go_enter Try.func8, Try.ntmps8
  go_wp2_with fail
  refine (sh_new _).mono ?_
  rintro e w1 ⟨v1, v2, v3, rfl, hA, hb⟩
  obtain ⟨pg, cg, pu, cu, pf, cf, rfl, rfl, rfl⟩ := hA.form
  have hsz := hb.size
  have HB1 := Lib.hid hb
  have HX := Lib.hid (Box.new 29 hA)
  clear hA hb
  go_wp2_with fail
  obtain ⟨V, hV⟩ : ∃ V, V = w1.alloc (.cells #[.slice pg sh0.gens.length cg, .slice pu sh0.used.length cu, .slice pf sh0.free.length cf] 29) := ⟨_, rfl⟩
  have HBV : Hid (Below w.heap.size w V) := Lib.hid (by subst hV; exact HB1.out.alloc HB1.out.size _)
  rw [← hV] at HX ⊢
  clear hV
  obtain ⟨k, hk⟩ : ∃ k, k = w1.heap.size := ⟨_, rfl⟩
  rw [← hk] at HX hsz ⊢
  clear hk HB1
  refine (sh_take0 HX.out.ar).mono ?_
  rintro e w2 ⟨v1, v2, v3, rfl, hA, hb⟩
  obtain ⟨pg2, cg2, pu2, cu2, pf2, cf2, rfl, rfl, rfl⟩ := hA.form
  have HX2 := Lib.hid (HX.out.below hb)
  obtain ⟨d0, d1, d2, y0, y1, y2⟩ := block3 HX2.out.blk
  have HY := Lib.hid (Box.set HX2.out.blk hA (by decide) (by decide) (by decide))
  have HB2 : Hid (Below w.heap.size w w2) := Lib.hid (HBV.out.trans (hb.mono HBV.out.size))
  clear hA hb HX
  go_wp2_with fail
  obtain ⟨V2, hV⟩ : ∃ V, V = ((w2.setCell ⟨k, 0, none⟩ (.slice pg2 sh1.gens.length cg2)).setCell ⟨k, 1, none⟩ (.slice pu2 sh1.used.length cu2)).setCell ⟨k, 2, none⟩ (.slice pf2 sh1.free.length cf2) := ⟨_, rfl⟩
  have HBV2 : Hid (Below w.heap.size w V2) := Lib.hid (by subst hV; exact below_set3 HB2.out hsz _ _ _)
  rw [← hV] at HY ⊢
  clear hV d0 d1 d2 y0 y1 y2 HB2 HBV
  have HX := HY
  have HBV := HBV2
  clear HY HBV2 HX2
  refine (sh_give HX.out.ar).mono ?_
  rintro e w3 ⟨v1, v2, v3, rfl, hA, hb⟩
  obtain ⟨pg3, cg3, pu3, cu3, pf3, cf3, rfl, rfl, rfl⟩ := hA.form
  have HX3 := Lib.hid (HX.out.below hb)
  obtain ⟨d0, d1, d2, y0, y1, y2⟩ := block3 HX3.out.blk
  have HY := Lib.hid (Box.set HX3.out.blk hA (by decide) (by decide) (by decide))
  have HB3 : Hid (Below w.heap.size w w3) := Lib.hid (HBV.out.trans (hb.mono HBV.out.size))
  clear hA hb HX
  go_wp2_with fail
  obtain ⟨V3, hV⟩ : ∃ V, V = ((w3.setCell ⟨k, 0, none⟩ (.slice pg3 sh2.gens.length cg3)).setCell ⟨k, 1, none⟩ (.slice pu3 sh2.used.length cu3)).setCell ⟨k, 2, none⟩ (.slice pf3 sh2.free.length cf3) := ⟨_, rfl⟩
  have HBV3 : Hid (Below w.heap.size w V3) := Lib.hid (by subst hV; exact below_set3 HB3.out hsz _ _ _)
  rw [← hV] at HY ⊢
  clear hV d0 d1 d2 y0 y1 y2 HB3 HBV
  have HX := HY
  have HBV := HBV3
  clear HY HBV3 HX3
  refine (sh_take2 HX.out.ar).mono ?_
  rintro e w4 ⟨v1, v2, v3, rfl, hA, hb⟩
  obtain ⟨pg4, cg4, pu4, cu4, pf4, cf4, rfl, rfl, rfl⟩ := hA.form
  have HX4 := Lib.hid (HX.out.below hb)
  obtain ⟨d0, d1, d2, y0, y1, y2⟩ := block3 HX4.out.blk
  have HY := Lib.hid (Box.set HX4.out.blk hA (by decide) (by decide) (by decide))
  have HB4 : Hid (Below w.heap.size w w4) := Lib.hid (HBV.out.trans (hb.mono HBV.out.size))
  clear hA hb HX
  go_wp2_with fail
  obtain ⟨V4, hV⟩ : ∃ V, V = ((w4.setCell ⟨k, 0, none⟩ (.slice pg4 sh3.gens.length cg4)).setCell ⟨k, 1, none⟩ (.slice pu4 sh3.used.length cu4)).setCell ⟨k, 2, none⟩ (.slice pf4 sh3.free.length cf4) := ⟨_, rfl⟩
  have HBV4 : Hid (Below w.heap.size w V4) := Lib.hid (by subst hV; exact below_set3 HB4.out hsz _ _ _)
  rw [← hV] at HY ⊢
  clear hV d0 d1 d2 y0 y1 y2 HB4 HBV
  have HX := HY
  have HBV := HBV4
  clear HY HBV4 HX4
  refine (sh_live1 HX.out.ar).mono ?_
  rintro e w5 ⟨rfl, hb⟩
  have HX5 := Lib.hid (HX.out.below hb)
  have HB5 := Lib.hid (HBV.out.trans (hb.mono HBV.out.size))
  clear hb
  obtain ⟨d0, d1, d2, _, _, _⟩ := block3 HX5.out.blk
  go_wp2_with fail
  refine (sh_live2 HX5.out.ar).mono ?_
  rintro e w6 ⟨rfl, hb⟩
  have HX6 := Lib.hid (HX5.out.below hb)
  have HB6 := Lib.hid (HB5.out.trans (hb.mono HB5.out.size))
  clear hb d0 d1 d2
  obtain ⟨d0, d1, d2, _, _, _⟩ := block3 HX6.out.blk
  go_wp2_with fail
  refine (sh_all HX6.out.ar).mono ?_
  rintro e w7 ⟨v, rfl, ho, hb⟩
  obtain ⟨p, c, rfl, _, _, _⟩ := own_form ho
  have HB7 := Lib.hid (HB6.out.trans (hb.mono HB6.out.size))
  have hlen : (gvs (sh3.al 1)).length = 1 := rfl
  rw [hlen]
  clear hb ho hlen
  go_wp2
  go_ret
  exact ⟨rfl, HB7.out⟩
end Go.Proofs.Ytnhdpaiekcddiaa
