/-
  Pools and lists in variables; the small case of the laws.
-/
import Derived.Test.YtbldjlkofaiikaaVecY
import Derived.Test.YtbldjlkofaiikaaVecR
namespace Go.Proofs.Ytbldjlkofaiikaa
open Go.ChangeShapes Go.WideShapes Go.ChangeAt Go.RowKit
set_option linter.unusedVariables false
set_option linter.unusedSimpArgs false

theorem own_set4t {w : World} {b k size : Nat} {e t : TypeId} {v : Value} {n : Nat} {xs : List Value} {cs : Array Value} (h : w.ownsRow b e size v n xs) (hk : w.heap[k]? = some (.cells cs t (0, 0))) (hne : e ≠ t) (x y z u : Value) : ((((w.setCell ⟨k, 0, none⟩ x).setCell ⟨k, 1, none⟩ y).setCell ⟨k, 2, none⟩ z).setCell ⟨k, 3, none⟩ u).ownsRow b e size v n xs :=
  own_of h (fun j hj => set4_other _ _ _ _ _ (fun e => own_apart5 h hk hne (by rw [hj, e])))
theorem own_set2t {w : World} {b k size : Nat} {e t : TypeId} {v : Value} {n : Nat} {xs : List Value} {cs : Array Value} (h : w.ownsRow b e size v n xs) (hk : w.heap[k]? = some (.cells cs t (0, 0))) (hne : e ≠ t) (x y : Value) : ((w.setCell ⟨k, 0, none⟩ x).setCell ⟨k, 1, none⟩ y).ownsRow b e size v n xs :=
  own_of h (fun j hj => set2_other _ _ _ (fun e => own_apart5 h hk hne (by rw [hj, e])))
theorem PA.set4t {w : World} {b k : Nat} {vg vu vf vc : Value} {p : Pl} {cs : Array Value} (h : PA w b vg vu vf vc p) (hk : w.heap[k]? = some (.cells cs 31 (0, 0))) (x y z u : Value) : PA ((((w.setCell ⟨k, 0, none⟩ x).setCell ⟨k, 1, none⟩ y).setCell ⟨k, 2, none⟩ z).setCell ⟨k, 3, none⟩ u) b vg vu vf vc p :=
  ⟨⟨own_set4t h.ar.g hk (by decide) _ _ _ _, own_set4t h.ar.u hk (by decide) _ _ _ _, own_set4t h.ar.f hk (by decide) _ _ _ _⟩, own_set4t h.cs hk (by decide) _ _ _ _⟩
theorem PA.set2t {w : World} {b k : Nat} {vg vu vf vc : Value} {p : Pl} {cs : Array Value} (h : PA w b vg vu vf vc p) (hk : w.heap[k]? = some (.cells cs 43 (0, 0))) (x y : Value) : PA ((w.setCell ⟨k, 0, none⟩ x).setCell ⟨k, 1, none⟩ y) b vg vu vf vc p :=
  ⟨⟨own_set2t h.ar.g hk (by decide) _ _, own_set2t h.ar.u hk (by decide) _ _, own_set2t h.ar.f hk (by decide) _ _⟩, own_set2t h.cs hk (by decide) _ _⟩
theorem heap_s4 {w : World} {k : Nat} {a b c d : Value} {t : TypeId} (h : w.heap[k]? = some (.cells #[a, b, c, d] t (0, 0))) (x y z u : Value) : ((((w.setCell ⟨k, 0, none⟩ x).setCell ⟨k, 1, none⟩ y).setCell ⟨k, 2, none⟩ z).setCell ⟨k, 3, none⟩ u).heap[k]? = some (.cells #[x, y, z, u] t (0, 0)) := by
  simp [World.setCell, Array.getElem?_modify, h]
theorem heap_s2 {w : World} {k : Nat} {a b : Value} {t : TypeId} (h : w.heap[k]? = some (.cells #[a, b] t (0, 0))) (x y : Value) : ((w.setCell ⟨k, 0, none⟩ x).setCell ⟨k, 1, none⟩ y).heap[k]? = some (.cells #[x, y] t (0, 0)) := by
  simp [World.setCell, Array.getElem?_modify, h]
/-- A pool in the variable k. -/
structure PX (w : World) (k : Nat) (vg vu vf vc : Value) (p : Pl) : Prop where
  blk : w.heap[k]? = some (.cells #[vg, vu, vf, vc] 31 (0, 0))
  pa : PA w 0 vg vu vf vc p
theorem PX.below {w w' : World} {k : Nat} {vg vu vf vc : Value} {p : Pl} (h : PX w k vg vu vf vc p) (hb : Below w.heap.size w w') : PX w' k vg vu vf vc p := ⟨(hb.block k (lt_of_block h.blk)).trans h.blk, h.pa.below hb⟩
/-- A vec in the variable k. -/
def VX (w : World) (k : Nat) (v : Vc) : Prop := w.heap[k]? = some (.cells #[.int .u64 v.root, .int .i64 v.size] 43 (0, 0))
theorem VX.below {w w' : World} {k : Nat} {v : Vc} (h : VX w k v) (hb : Below w.heap.size w w') : VX w' k v := (hb.block k (lt_of_block h)).trans h

set_option maxRecDepth 100000 in
set_option maxHeartbeats 8000000 in
theorem shown_true (w : World) : Calls Try.prog 5 #[] w (GivesV (.bool true) w) := by
  obtain ⟨⟨hk1, -⟩, hk2⟩ := And.intro sT1_wf sT2_pk
  obtain ⟨e1, z1, r1⟩ := s1
  obtain ⟨e2, z2, r2, g2⟩ := s2
  have HC := Lib.hid (fun (w : World) (vi : Value) (bi : Nat) (vg vu vf vc : Value) (hA : PA w 0 vg vu vf vc (freshP 9)) (hI : w.ownsRow bi 41 1 vi 5 (gvs [1, 2, 3, 4, 5])) => change_in 0 0 [1, 2, 3, 4, 5] vi bi vg vu vf vc (freshP 9) 0 9 1 w hA (freshP_ok (by decide)) hI (by decide) u15 (by decide) (by decide) (by decide) (by decide) (by decide))
  have HS := Lib.hid (fun (w : World) (vg vu vf vc : Value) (hA : PA w 0 vg vu vf vc sT1.p) => setV_pl 16777218 5 4 9 vg vu vf vc sT1.p 0 9 1 w hA hk1 (by decide) (by decide) (by decide) (by decide) (by decide) (by decide) (by decide) (by decide) (by decide) (fun l hl => by
    have h := sT1_items
    rw [show sT1.v = ⟨16777218, 5⟩ by rw [← r1, ← z1]] at h
    rw [h] at hl
    cases hl
    exact ⟨rfl, u15⟩))
  have HGt := Lib.hid (fun (w : World) (vg vu vf vc : Value) (hA : PA w 0 vg vu vf vc sT2.p) => get_pl 16777220 5 4 vg vu vf vc sT2.p 0 9 1 w hA hk2 (by decide) (by decide) (by decide) (by decide))
  have HRe := Lib.hid (fun (w : World) (vg vu vf vc : Value) (hA : PA w 0 vg vu vf vc sT1.p) => reach_pl 16777218 5 vg vu vf vc sT1.p 0 9 1 w hA hk1 (by decide) (by decide) (by decide))
  have hv1 : sT1.v = ⟨16777218, 5⟩ := by rw [← r1, ← z1]
  have hc1 : (freshP 9).change ⟨0, 0⟩ [1, 2, 3, 4, 5] = sT1 := rfl
  have hc2 : sT1.p.setV ⟨16777218, 5⟩ 4 9 = sT2 := by rw [← hv1]; rfl
  rw [hc1] at HC
  rw [hc2] at HS
  rw [s3'] at HGt
  rw [s4] at HRe
  clear hk1 hk2 hc1 hc2 hv1
  have HN := Lib.hid (fun w => newV_ok 9 w (by decide))
  generalize freshP 9 = p0 at *
  generalize sT1 = T1 at *
  generalize sT2 = T2 at *
  obtain ⟨p1, ⟨rt1, sz1⟩, gn1, er1⟩ := T1
  obtain ⟨p2, ⟨rt2, sz2⟩, gn2, er2⟩ := T2
  simp only [] at *
  subst e1 z1 r1 e2 z2 r2 g2
  go_enter Try.func5, Try.ntmps5
  go_wp2_with fail
  refine (HN.out w).mono ?_
  rintro e w1 ⟨a1, a2, a3, a4, rfl, hpa, hb⟩
  obtain ⟨pg1, cg1, pu1, cu1, pf1, cf1, pc1, cc1, rfl, rfl, rfl, rfl⟩ := hpa.form
  obtain ⟨V1, hV1⟩ : ∃ V1, V1 = w1.alloc (.cells #[.slice pg1 p0.st.gens.length cg1, .slice pu1 p0.st.used.length cu1, .slice pf1 p0.st.free.length cf1, .slice pc1 p0.ch.length cc1] 31) := ⟨_, rfl⟩
  have HB1 : Hid (Below w.heap.size w V1) := Lib.hid (by rw [hV1]; exact hb.alloc hb.size _)
  have HX1 : Hid (PX V1 w1.heap.size (.slice pg1 p0.st.gens.length cg1) (.slice pu1 p0.st.used.length cu1) (.slice pf1 p0.st.free.length cf1) (.slice pc1 p0.ch.length cc1) p0) := Lib.hid (by rw [hV1]; exact ⟨heap_alloc_new _ _, (hpa.drop (Nat.zero_le _)).below ((Below.refl _ _).alloc (Nat.le_refl _) _)⟩)
  have HS1 : Hid (V1.heap.size = w1.heap.size + 1) := Lib.hid (by rw [hV1]; simp)
  have hs0 := hb.size
  go_upto_region 2 with fail
  rw [← hV1]
  clear hV1 hpa hb
  obtain ⟨x0, x1, x2, x3, -⟩ := block4 HX1.out.blk
  have HO1 : Hid ((V1.alloc (.cells #[.int .u64 1, .int .u64 2, .int .u64 3, .int .u64 4, .int .u64 5] 41)).ownsRow 0 41 1 (.slice (some ⟨V1.heap.size, 0, none⟩) 5 5) 5 (gvs [1, 2, 3, 4, 5])) := Lib.hid ⟨by simp [gvs], .inr ⟨_, 5, _, rfl, Nat.zero_le _, heap_alloc_new _ _, Nat.le_refl _, by simp [maxLen], by simp, by simp [gvs]⟩⟩
  go_wp2_with fail
  refine (HC.out _ _ 0 _ _ _ _ (HX1.out.pa.below ((Below.refl _ _).alloc (Nat.le_refl _) _)) HO1.out).mono ?_
  rintro e w2 ⟨b1, b2, b3, b4, b5, rfl, hpa2, hol2, hb2⟩
  obtain ⟨pg2, cg2, pu2, cu2, pf2, cf2, pc2, cc2, rfl, rfl, rfl, rfl⟩ := hpa2.form
  obtain ⟨p5, c5, rfl, -, -, -⟩ := own_form hol2
  have hbx : Below V1.heap.size V1 w2 := ((Below.refl _ V1).alloc (Nat.le_refl _) _).trans (hb2.mono (by simp))
  have HX1' := Lib.hid (HX1.out.below hbx)
  obtain ⟨d0, d1, d2, d3, y0, y1, y2, y3⟩ := block4 HX1'.out.blk
  have hs2 := hbx.size
  have hlt1 := lt_of_block HX1.out.blk
  have ne1 : w1.heap.size ≠ w2.heap.size := by omega
  have ne2 : w2.heap.size ≠ w1.heap.size := by omega
  have ne3 : w1.heap.size < w2.heap.size := by omega
  go_upto_region 3 with fail
  obtain ⟨S2, hS2⟩ : ∃ S2, S2 = (((w2.setCell ⟨w1.heap.size, 0, none⟩ (.slice pg2 p1.st.gens.length cg2)).setCell ⟨w1.heap.size, 1, none⟩ (.slice pu2 p1.st.used.length cu2)).setCell ⟨w1.heap.size, 2, none⟩ (.slice pf2 p1.st.free.length cf2)).setCell ⟨w1.heap.size, 3, none⟩ (.slice pc2 p1.ch.length cc2) := ⟨_, rfl⟩
  have hS2x : PX S2 w1.heap.size (.slice pg2 p1.st.gens.length cg2) (.slice pu2 p1.st.used.length cu2) (.slice pf2 p1.st.free.length cf2) (.slice pc2 p1.ch.length cc2) p1 := by
    rw [hS2]
    exact ⟨heap_s4 HX1'.out.blk _ _ _ _, (hpa2.drop (Nat.zero_le _)).set4t HX1'.out.blk _ _ _ _⟩
  have hS2b : Below w.heap.size w S2 := by
    rw [hS2]
    exact below_set4 (HB1.out.trans (hbx.mono (by have := HB1.out.size; omega))) hs0 _ _ _ _
  have hS2s : S2.heap.size = w2.heap.size := by rw [hS2]; simp
  rw [← hS2]
  obtain ⟨V2, hV2⟩ : ∃ V2, V2 = S2.alloc (.cells #[.int .u64 16777218, .int .i64 5] 43) := ⟨_, rfl⟩
  have HX2 : Hid (PX V2 w1.heap.size (.slice pg2 p1.st.gens.length cg2) (.slice pu2 p1.st.used.length cu2) (.slice pf2 p1.st.free.length cf2) (.slice pc2 p1.ch.length cc2) p1) := Lib.hid (by rw [hV2]; exact hS2x.below ((Below.refl _ _).alloc (Nat.le_refl _) _))
  have HV2 : Hid (V2.heap[w2.heap.size]? = some (.cells #[.int .u64 16777218, .int .i64 5] 43 (0, 0))) := Lib.hid (by rw [hV2, ← hS2s]; exact heap_alloc_new _ _)
  have HB2 : Hid (Below w.heap.size w V2) := Lib.hid (by rw [hV2]; exact hS2b.alloc hS2b.size _)
  rw [← hV2]
  clear hV2 hS2 hS2x hS2b hS2s hpa2 hol2 hb2 hbx d0 d1 d2 d3 y0 y1 y2 y3 x0 x1 x2 x3 HX1 HX1' HO1
  obtain ⟨x0, x1, x2, x3, -⟩ := block4 HX2.out.blk
  obtain ⟨u0, u1⟩ := block2 HV2.out
  go_wp2_with fail
  refine (HS.out V2 _ _ _ _ HX2.out.pa).mono ?_
  rintro e w3 ⟨b1, b2, b3, b4, b5, rfl, hpa3, hol3, hb3⟩
  obtain ⟨pg3, cg3, pu3, cu3, pf3, cf3, pc3, cc3, rfl, rfl, rfl, rfl⟩ := hpa3.form
  obtain ⟨q5, r5, rfl, -, -, -⟩ := own_form hol3
  obtain ⟨V3, hV3⟩ : ∃ V3, V3 = (w3.alloc (.cells #[.slice pg3 p2.st.gens.length cg3, .slice pu3 p2.st.used.length cu3, .slice pf3 p2.st.free.length cf3, .slice pc3 p2.ch.length cc3] 31)).alloc (.cells #[.int .u64 16777220, .int .i64 5] 43) := ⟨_, rfl⟩
  have hb33 : Below w3.heap.size w3 V3 := by rw [hV3]; exact ((Below.refl _ _).alloc (Nat.le_refl _) _).alloc (by simp) _
  have HX3 : Hid (PX V3 w3.heap.size (.slice pg3 p2.st.gens.length cg3) (.slice pu3 p2.st.used.length cu3) (.slice pf3 p2.st.free.length cf3) (.slice pc3 p2.ch.length cc3) p2) := Lib.hid (by
    refine ⟨?_, (hpa3.drop (Nat.zero_le _)).below hb33⟩
    rw [hV3, heap_alloc_old _ _ (by simp)]
    exact heap_alloc_new _ _)
  have HV3 : Hid (V3.heap[w3.heap.size + 1]? = some (.cells #[.int .u64 16777220, .int .i64 5] 43 (0, 0))) := Lib.hid (by rw [hV3]; exact heap_new1 _ _ _)
  have HG3 : Hid (V3.ownsRow 0 41 1 (.slice q5 2 r5) 2 (gvs [16777217, 16777218])) := Lib.hid (own_drop (own_below hol3 hb33) (Nat.zero_le _))
  have HB3 : Hid (Below V2.heap.size V2 V3) := Lib.hid (hb3.trans (hb33.mono hb3.size))
  go_upto_region 4 with fail
  rw [← hV3]
  clear hV3 hpa3 hol3 hb3 hb33 x0 x1 x2 x3 u0 u1
  obtain ⟨x0, x1, x2, x3, -⟩ := block4 HX3.out.blk
  obtain ⟨u0, u1⟩ := block2 HV3.out
  go_wp2_with fail
  refine (HGt.out V3 _ _ _ _ HX3.out.pa).mono ?_
  rintro e w4 ⟨⟨hn, -⟩ | ⟨x, hx, rfl⟩, hb4⟩
  · cases hn
  obtain rfl : x = 9 := by cases hx; rfl
  have HB4 : Hid (Below V2.heap.size V2 w4) := Lib.hid (HB3.out.trans (hb4.mono HB3.out.size))
  have HG4 := Lib.hid (own_below HG3.out hb4)
  have HX4 := Lib.hid (HX2.out.below HB4.out)
  have HV4 := Lib.hid ((HB4.out.block _ (lt_of_block HV2.out)).trans HV2.out)
  clear hx hb4 x0 x1 x2 x3 u0 u1
  obtain ⟨x0, x1, x2, x3, -⟩ := block4 HX4.out.blk
  obtain ⟨u0, u1⟩ := block2 HV4.out
  go_wp2_with fail
  refine (HRe.out w4 _ _ _ _ HX4.out.pa).mono ?_
  rintro e w5 ⟨v5, rfl, ho5, hb5⟩
  have ho5' : w5.ownsRow w4.heap.size 41 1 v5 3 (gvs [16777216, 16777217, 16777218]) := ho5
  obtain ⟨q6, r6, rfl, -, -, -⟩ := own_form ho5'
  obtain ⟨g6, rfl, -, -⟩ := own_some ho5' (by decide)
  have HG5 := Lib.hid (own_below HG4.out hb5)
  obtain ⟨g5, rfl, -, -⟩ := own_some HG5.out (by decide)
  have c5a : w5.cell? ⟨g5, 0, none⟩ = some (.int .u64 16777217) := own_at_gen HG5.out (by decide)
  have c6a : w5.cell? ⟨g6, 1, none⟩ = some (.int .u64 16777217) := own_at_gen ho5' (by decide)
  have HB5 : Hid (Below w.heap.size w w5) := Lib.hid ((HB2.out.trans (HB4.out.mono HB2.out.size)).trans (hb5.mono (Nat.le_trans HB2.out.size HB4.out.size)))
  clear ho5 ho5' hb5 x0 x1 x2 x3 u0 u1
  go_wp2_with fail
  go_region
  go_wp2
  go_ret
  exact ⟨rfl, HB5.out.drew⟩
end Go.Proofs.Ytbldjlkofaiikaa
