/-
  A list of numbers that came in; the law VecGets.
-/
import Derived.Test.YtmijgiihkapejaaVecZ
import Derived.ChangeSlices
import Derived.OpenShut
import Derived.Carry
namespace Go.Proofs.Ytmijgiihkapejaa
open Go.ChangeShapes Go.WideShapes Go.ChangeAt Go.RowKit
set_option linter.unusedVariables false
set_option linter.unusedSimpArgs false

theorem cells_u64 : Try.prog.cellsOf 41 = 1 := by kernel_rfl
set_option maxRecDepth 100000 in
/-- A list of numbers that came in: it can be read. -/
theorem u64s_open {H : Type} {enc : TypeId × Value → H} {W : World} {base : Nat} {v : Value} {d : DataW H} {ps : List MemPlace} (hv : Value.okWide Try.prog W .any base 24 v)
    (h : DataW.Trod enc Try.prog W 0 (fun _ => true) true 24 v d ps) (hlt : ∀ x ∈ ps, x.block < W.heap.size) :
    ∃ (A : Option Addr) (cap : Nat) (zs : List Int), v = .slice A zs.length cap ∧ zs.length ≤ cap ∧ cap ≤ maxLen ∧ RL W A zs ∧ U64 zs := by
  obtain ⟨a0, len, cap, rfl⟩ := okWide_slice Try.underlying24 hv
  obtain ⟨fuel, hf⟩ := h
  rcases open_ints Try.underlying24 Try.underlying41 cells_u64 hf with ⟨hcs, hx⟩ | ⟨a, len', cap', ss, hcs, _, hl, hm, hz, hx, hcell, hws⟩
  · simp [Value.cells] at hcs
    obtain ⟨rfl, rfl, rfl⟩ := hcs
    exact ⟨none, 0, [], rfl, by simp, by simp [maxLen], fun h => by simp at h, fun x hx => by simp at hx⟩
  · simp [Value.cells] at hcs
    obtain ⟨rfl, rfl, rfl⟩ := hcs
    simp only [Prod.mk.injEq] at hx
    obtain ⟨rfl, rfl⟩ := hx
    simp only [if_true] at hz
    have hlen : (ss.take len).length = len := by rw [List.length_take]; omega
    refine ⟨some a, cap, ss.take len, by rw [hlen], by rw [hlen]; exact hl, hm, fun h0 => ?_, fun z hz => ?_⟩
    · rw [hlen] at h0
      obtain ⟨b, off, spot⟩ := a
      have hspot : spot = none := by simpa [Addr.add] using World.cell?_spot (hcell 0 (by omega))
      subst hspot
      refine ⟨b, off, rfl, hlt (.cell b off) (MemPlace.mem_row.2 ⟨0, by omega, by simp⟩), fun j u hu => ?_⟩
      have hj : j < len := by
        rcases Nat.lt_or_ge j len with hj | hj
        · exact hj
        · rw [List.getElem?_eq_none (by rw [gvs_length, hlen]; exact hj)] at hu; cases hu
      have := hcell j (by omega)
      rw [add_plain] at this
      rw [this]
      have e : (gvs (ss.take len))[j]? = some (.int .u64 (ss.getD j 0)) := by
        rw [gvs, List.getElem?_map, List.getElem?_take, if_pos hj, List.getElem?_eq_getElem (by omega), getD_at 0 (by omega)]
        rfl
      rw [e] at hu
      exact hu
    · exact u64_wf (hws z (List.mem_of_mem_take hz))

/-- What a first change in a new pool comes to. -/
theorem first_wf {n : Nat} (hn : n ≤ 500) (h68 : 68 ≤ n) {zs : List Int} (hz : zs.length ≤ 200) (hU : U64 zs) :
    ∃ T : Told, (freshP n).change ⟨0, 0⟩ zs = T ∧ T.e = 0 ∧ T.v.size = zs.length ∧ PK n 1 T.p ∧ (∃ rows, WF T.p T.v zs rows ∧ T.gone = [] ∧ (freshP n).raise [] (lvs zs.length) zs = some (T.p, rows)) ∧ 0 ≤ T.v.root ∧ T.v.root ≤ 18446744073709551615 := by
  have hf : (freshP n).st.free.length = n := by simp [freshP, fresh, downs_length]
  obtain ⟨q, rows, h, -⟩ := raise_room (L := lvs zs.length) (p := freshP n) (old := []) (below := zs) (by rw [hf]; have := need_68 zs.length (by omega); omega)
  obtain ⟨a, b, c, d⟩ := change_wf (freshP_ok hn) (by decide) (WF.empty _) hz hU h
  exact ⟨_, a, rfl, rfl, b, ⟨rows, d, rfl, h⟩, d.b64.1, d.b64.2⟩

set_option maxRecDepth 100000 in
set_option maxHeartbeats 8000000 in
theorem gets_law (A : Option Addr) (cap : Nat) (zs : List Int) (o : Int) (w : World) (hc : zs.length ≤ cap) (hcm : cap ≤ maxLen) (hR : RL w A zs) (hU : U64 zs) :
    Calls Try.prog 9 #[.slice A zs.length cap, .int .i64 o] w (GivesV (.bool true) w) := by
  unfold maxLen at hcm
  have HR := Lib.hid hR
  have HU := Lib.hid hU
  clear hR hU
  by_cases hn : 200 < zs.length
  · have hn' : (200 : Int) < (zs.length : Int) := by omega
    go_enter Try.func9, Try.ntmps9
    go_wp2_with fail
    refine (shown_true w).mono ?_
    rintro e w1 ⟨rfl, hb⟩
    have HB := Lib.hid hb
    clear hb
    go_wp2
    go_ret
    exact ⟨rfl, HB.out⟩
  · have hn' : ¬ (200 : Int) < (zs.length : Int) := by omega
    obtain ⟨T, hT, hTe, hTs, hK, ⟨rows, hW, -, -⟩, r0, r1⟩ := first_wf (n := 100) (by decide) (by decide) (zs := zs) (by omega) HU.out
    have HC := Lib.hid (fun (w : World) (vg vu vf vc : Value) (hA : PA w 0 vg vu vf vc (freshP 100)) (hI : RL w A zs) => change_rl 0 0 zs A cap vg vu vf vc (freshP 100) 0 100 1 w hA (freshP_ok (by decide)) hI hc (by omega) (by omega) HU.out (by decide) (by decide) (by decide) (by decide) (by decide))
    rw [hT] at HC
    have HN := Lib.hid (fun w => newV_ok 100 w (by decide))
    have HGI := Lib.hid (fun (w : World) (vg vu vf vc : Value) (hA : PA w 0 vg vu vf vc T.p) (i : Nat) (hi : i < zs.length) => get_pl T.v.root T.v.size i vg vu vf vc T.p 0 100 1 w hA hK r0 r1 (by omega) (by omega))
    have HGE := Lib.hid (fun (i : Nat) (hi : i < zs.length) => hW.get hi)
    clear hT hK hW
    generalize freshP 100 = p0 at *
    obtain ⟨p1, ⟨rt1, sz1⟩, gn1, er1⟩ := T
    simp only [] at *
    subst hTe hTs
    go_enter Try.func9, Try.ntmps9
    go_wp2_with fail
    refine (shown_true w).mono ?_
    rintro e w0 ⟨rfl, hb0⟩
    have HB0 := Lib.hid hb0
    clear hb0
    go_wp2_with fail
    refine (HN.out w0).mono ?_
    rintro e w1 ⟨a1, a2, a3, a4, rfl, hpa, hb⟩
    obtain ⟨pg1, cg1, pu1, cu1, pf1, cf1, pc1, cc1, rfl, rfl, rfl, rfl⟩ := hpa.form
    obtain ⟨V1, hV1⟩ : ∃ V1, V1 = w1.alloc (.cells #[.slice pg1 p0.st.gens.length cg1, .slice pu1 p0.st.used.length cu1, .slice pf1 p0.st.free.length cf1, .slice pc1 p0.ch.length cc1] 31) := ⟨_, rfl⟩
    have HB1 : Hid (Below w.heap.size w V1) := Lib.hid (by rw [hV1]; exact (HB0.out.trans (hb.mono HB0.out.size)).alloc (Nat.le_trans HB0.out.size hb.size) _)
    have HX1 : Hid (PX V1 w1.heap.size (.slice pg1 p0.st.gens.length cg1) (.slice pu1 p0.st.used.length cu1) (.slice pf1 p0.st.free.length cf1) (.slice pc1 p0.ch.length cc1) p0) := Lib.hid (by rw [hV1]; exact ⟨heap_alloc_new _ _, (hpa.drop (Nat.zero_le _)).below ((Below.refl _ _).alloc (Nat.le_refl _) _)⟩)
    have hw01 : w.heap.size ≤ w1.heap.size := Nat.le_trans HB0.out.size hb.size
    go_upto_region 4 with fail
    rw [← hV1]
    clear hV1 hpa hb
    obtain ⟨x0, x1, x2, x3, -⟩ := block4 HX1.out.blk
    go_wp2_with fail
    refine (HC.out V1 _ _ _ _ HX1.out.pa (HR.out.below HB1.out)).mono ?_
    rintro e w2 ⟨b1, b2, b3, b4, b5, rfl, hpa2, hol2, hb2⟩
    obtain ⟨pg2, cg2, pu2, cu2, pf2, cf2, pc2, cc2, rfl, rfl, rfl, rfl⟩ := hpa2.form
    obtain ⟨p5, c5, rfl, -, -, -⟩ := own_form hol2
    have HX1' := Lib.hid (HX1.out.below hb2)
    obtain ⟨d0, d1, d2, d3, y0, y1, y2, y3⟩ := block4 HX1'.out.blk
    have hs2 := hb2.size
    have hlt1 := lt_of_block HX1.out.blk
    have ne1 : w1.heap.size ≠ w2.heap.size := by omega
    have ne2 : w2.heap.size ≠ w1.heap.size := by omega
    have ne3 : w1.heap.size < w2.heap.size := by omega
    go_upto_region 5 with fail
    obtain ⟨S2, hS2⟩ : ∃ S2, S2 = (((w2.setCell ⟨w1.heap.size, 0, none⟩ (.slice pg2 p1.st.gens.length cg2)).setCell ⟨w1.heap.size, 1, none⟩ (.slice pu2 p1.st.used.length cu2)).setCell ⟨w1.heap.size, 2, none⟩ (.slice pf2 p1.st.free.length cf2)).setCell ⟨w1.heap.size, 3, none⟩ (.slice pc2 p1.ch.length cc2) := ⟨_, rfl⟩
    have hS2x : PX S2 w1.heap.size (.slice pg2 p1.st.gens.length cg2) (.slice pu2 p1.st.used.length cu2) (.slice pf2 p1.st.free.length cf2) (.slice pc2 p1.ch.length cc2) p1 := by
      rw [hS2]
      exact ⟨heap_s4 HX1'.out.blk _ _ _ _, (hpa2.drop (Nat.zero_le _)).set4t HX1'.out.blk _ _ _ _⟩
    have hS2b : Below w.heap.size w S2 := by
      rw [hS2]
      exact below_set4 (HB1.out.trans (hb2.mono HB1.out.size)) hw01 _ _ _ _
    have hS2s : S2.heap.size = w2.heap.size := by rw [hS2]; simp
    rw [← hS2]
    obtain ⟨V2, hV2⟩ : ∃ V2, V2 = S2.alloc (.cells #[.int .u64 rt1, .int .i64 zs.length] 43) := ⟨_, rfl⟩
    have HX2 : Hid (PX V2 w1.heap.size (.slice pg2 p1.st.gens.length cg2) (.slice pu2 p1.st.used.length cu2) (.slice pf2 p1.st.free.length cf2) (.slice pc2 p1.ch.length cc2) p1) := Lib.hid (by rw [hV2]; exact hS2x.below ((Below.refl _ _).alloc (Nat.le_refl _) _))
    have HV2 : Hid (VX V2 w2.heap.size ⟨rt1, zs.length⟩) := Lib.hid (by rw [hV2, ← hS2s]; exact heap_alloc_new _ _)
    have HB2 : Hid (Below w.heap.size w V2) := Lib.hid (by rw [hV2]; exact hS2b.alloc hS2b.size _)
    rw [← hV2]
    clear hV2 hS2 hS2x hS2b hS2s hpa2 hol2 hb2 d0 d1 d2 d3 y0 y1 y2 y3 x0 x1 x2 x3 HX1 HX1'
    go_wp2_with fail
    obtain ⟨N, hN⟩ : ∃ N, zs.length = N := ⟨_, rfl⟩
    have HN2 := Lib.hid hN
    rw [hN] at hc hn' HV2 ⊢
    clear hN hn
    go_loopw [10] (fun i wr => ∃ (k : Nat), k ≤ N ∧ i = .int .i64 k ∧ Hid (Below V2.heap.size V2 wr)) (fun i _ => N - (intOf i).toNat)
    case atStart => exact ⟨0, Nat.zero_le _, rfl, Lib.hid (Below.refl _ _)⟩
    case round =>
      obtain ⟨k, hk, rfl, HB⟩ := hrel
      have HXr := Lib.hid (HX2.out.below HB.out)
      have HVr := Lib.hid (HV2.out.below HB.out)
      have HBw : Hid (Below w.heap.size w wr) := Lib.hid (HB2.out.trans (HB.out.mono HB2.out.size))
      obtain ⟨x0, x1, x2, x3, -⟩ := block4 HXr.out.blk
      obtain ⟨u0, u1⟩ := block2 HVr.out
      simp only [] at u0 u1
      by_cases hlt : k < N
      · have k0 : (0 : Int) ≤ (k : Int) := by omega
        have k1 : (k : Int) < (N : Int) := by omega
        have hkz : k < zs.length := by rw [HN2.out]; exact hlt
        have HG1 := Lib.hid (HGI.out wr _ _ _ _ HXr.out.pa k hkz)
        have HG2 := Lib.hid (HGE.out k hkz)
        rw [HN2.out] at HG1 HG2
        rw [HG2.out] at HG1
        clear HG2
        go_wp2_with fail
        refine HG1.out.mono ?_
        rintro e w4 ⟨⟨hn, -⟩ | ⟨x, hx, rfl⟩, hb4⟩
        · cases hn
        obtain rfl : x = zs.getD k 0 := by cases hx; rfl
        have HB4 : Hid (Below V2.heap.size V2 w4) := Lib.hid (HB.out.trans (hb4.mono HB.out.size))
        obtain ⟨g, off, hA, -, hcell⟩ := (HR.out.below (HBw.out.trans (hb4.mono HBw.out.size))) (by omega)
        subst hA
        have cz := RL.at_ hcell hkz
        clear hcell hx hb4
        generalize zs.getD k 0 = x at *
        go_wp2
        go_roundw
        case rel => exact ⟨k + 1, by omega, by go_num, HB4⟩
        case measure => simp [intOf] <;> omega
      · obtain rfl : k = N := by omega
        by_cases ho0 : o < 0
        · go_wp2_with fail
          refine (get_out rt1 k o _ _ _ _ wr (by omega)).mono ?_
          rintro e w4 ⟨rfl, hb4⟩
          have HB4 := Lib.hid (HBw.out.trans (hb4.mono HBw.out.size))
          clear hb4
          go_wp2
          go_ret
          exact ⟨rfl, HB4.out⟩
        · by_cases ho1 : (k : Int) ≤ o
          · go_wp2_with fail
            refine (get_out rt1 k o _ _ _ _ wr (by omega)).mono ?_
            rintro e w4 ⟨rfl, hb4⟩
            have HB4 := Lib.hid (HBw.out.trans (hb4.mono HBw.out.size))
            clear hb4
            go_wp2
            go_ret
            exact ⟨rfl, HB4.out⟩
          · obtain ⟨j, rfl⟩ := Int.eq_ofNat_of_zero_le (show 0 ≤ o by omega)
            have hjz : j < zs.length := by rw [HN2.out]; omega
            have HG1 := Lib.hid (HGI.out wr _ _ _ _ HXr.out.pa j hjz)
            have HG2 := Lib.hid (HGE.out j hjz)
            rw [HN2.out] at HG1 HG2
            rw [HG2.out] at HG1
            clear HG2
            go_wp2_with fail
            refine HG1.out.mono ?_
            rintro e w4 ⟨⟨hn, -⟩ | ⟨x, hx, rfl⟩, hb4⟩
            · cases hn
            have HB4 := Lib.hid (HBw.out.trans (hb4.mono HBw.out.size))
            clear hb4 hx
            go_wp2
            go_ret
            exact ⟨ret_bool (by simp; omega), HB4.out⟩

set_option maxRecDepth 100000 in
theorem vecGets_open {H : Type} {enc : TypeId × Value → H} {W : World} {base : Nat} {v0 v1 : Value} {d0 d1 : DataW H} {p0 p1 : List MemPlace}
    (o0 : Value.okWide Try.prog W .any base 24 v0) (o1 : Value.okWide Try.prog W .any base 3 v1)
    (h0 : DataW.Trod enc Try.prog W 0 (fun _ => true) true 24 v0 d0 p0) (h1 : DataW.Trod enc Try.prog W 0 (fun _ => true) true 3 v1 d1 p1)
    (l0 : ∀ x ∈ p0, x.block < W.heap.size) (l1 : ∀ x ∈ p1, x.block < W.heap.size) :
    Calls Try.prog 9 #[v0, v1] W fun e w' => e = .returned (.bool true) ∧ Below W.heap.size W w' := by
  obtain ⟨a1, rfl, rfl, rfl, w1⟩ := open_int Try.underlying3 o1 h1
  obtain ⟨A, ca, zs, rfl, hc, hm, hR, hU⟩ := u64s_open o0 h0 l0
  exact gets_law A ca zs a1 W hc hm hR hU
end Go.Proofs.Ytmijgiihkapejaa
