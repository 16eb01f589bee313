/-
  The law VecKeeps.
-/
import Derived.Test.YtnlnfkjjfbgceaaVecTu
import Derived.Test.YtnlnfkjjfbgceaaRead
import Derived.RegionTactic
namespace Go.Proofs.Ytnlnfkjjfbgceaa
open Go.ChangeShapes Go.WideShapes Go.ChangeAt Go.RowKit
set_option linter.unusedVariables false
set_option linter.unusedSimpArgs false

/-- A pool told, and a vec, are laid into the variables of those ahead. -/
theorem lay_both {w0 V w2 : World} {k kv b : Nat} {a1 a2 a3 a4 : Value} {p0 p1 : Pl} {v0 : Vc} {vg vu vf vc : Value} (hX : PX V k a1 a2 a3 a4 p0) (hV : VX V kv v0) (hb : Below V.heap.size V w2) (hpa : PA w2 b vg vu vf vc p1) (h0 : Below w0.heap.size w0 V) (hk : w0.heap.size ≤ k) (hkv : w0.heap.size ≤ kv) (rt : Int) (sz : Nat) :
    ∃ S, S = (((((w2.setCell ⟨k, 0, none⟩ vg).setCell ⟨k, 1, none⟩ vu).setCell ⟨k, 2, none⟩ vf).setCell ⟨k, 3, none⟩ vc).setCell ⟨kv, 0, none⟩ (.int .u64 rt)).setCell ⟨kv, 1, none⟩ (.int .i64 sz) ∧
      PX S k vg vu vf vc p1 ∧ VX S kv ⟨rt, sz⟩ ∧ Below w0.heap.size w0 S ∧ S.heap.size = w2.heap.size ∧ (∀ j, j ≠ k → j ≠ kv → S.heap[j]? = w2.heap[j]?) := by
  have hne : k ≠ kv := fun e => by
    have := hX.blk
    rw [e, hV] at this
    cases this
  obtain ⟨S, hS, hSx, hSb, hSs, hSj⟩ := lay_step hX hb hpa h0 hk
  have hv2 : w2.heap[kv]? = some (.cells #[.int .u64 v0.root, .int .i64 v0.size] 43 (0, 0)) := (hb.block kv (lt_of_block hV)).trans hV
  have hvS := (hSj kv (Ne.symm hne)).trans hv2
  refine ⟨_, by rw [← hS], ⟨?_, hSx.pa.set2t hvS _ _⟩, heap_s2 hvS _ _, below_set2 hSb hkv _ _, by simp [hSs], fun j h1 h2 => ?_⟩
  · rw [set2_other _ _ _ hne]
    exact hSx.blk
  · rw [set2_other _ _ _ h2]
    exact hSj j h1

set_option maxRecDepth 100000 in
set_option maxHeartbeats 16000000 in
theorem keeps_law (A : Option Addr) (cap : Nat) (zs : List Int) (B : Option Addr) (m cb : Nat) (w : World) (hc : zs.length ≤ cap) (hcm : cap ≤ maxLen) (hR : RL w A zs) (hU : U64 zs) (hm : m ≤ maxLen) (hL : AL w B m) :
    Calls Try.prog 4 #[.slice A zs.length cap, .slice B m cb] w (GivesV (.bool true) w) := by
  unfold maxLen at hcm hm
  have HR := Lib.hid hR
  have HU := Lib.hid hU
  have HL := Lib.hid hL
  clear hR hU hL
  by_cases hn : 200 < zs.length
  · have hn' : (200 : Int) < (zs.length : Int) := by omega
    go_enter Try.func4, Try.ntmps4
    go_wp2_with fail
    refine (shown_true w).mono ?_
    rintro e w1 ⟨rfl, hb⟩
    have HB := Lib.hid hb
    clear hb
    go_wp2
    go_ret
    exact ⟨rfl, HB.out⟩
  by_cases hz : 40 < m
  · have hn' : ¬ (200 : Int) < (zs.length : Int) := by omega
    have hz' : (40 : Int) < (m : Int) := by omega
    go_enter Try.func4, Try.ntmps4
    go_wp2_with fail
    refine (shown_true w).mono ?_
    rintro e w1 ⟨rfl, hb⟩
    have HB := Lib.hid hb
    clear hb
    go_wp2
    go_ret
    exact ⟨rfl, HB.out⟩
  have hn' : ¬ (200 : Int) < (zs.length : Int) := by omega
  have hz' : ¬ (40 : Int) < (m : Int) := by omega
  obtain ⟨T, hT, hTe, hTs, hK, ⟨rows, hW, -, hrs⟩, r0, r1⟩ := first_wf (n := 500) (by decide) (by decide) (zs := zs) (by omega) HU.out
  have HC := Lib.hid (fun (w : World) (vg vu vf vc : Value) (hA : PA w 0 vg vu vf vc (freshP 500)) (hI : RL w A zs) => change_rl 0 0 zs A cap vg vu vf vc (freshP 500) 0 500 1 w hA (freshP_ok (by decide)) hI hc (by omega) (by omega) HU.out (by decide) (by decide) (by decide) (by decide) (by decide))
  rw [hT] at HC
  have HN := Lib.hid (fun w => newV_ok 500 w (by decide))
  have HK0 := Lib.hid hK
  have HW0 := Lib.hid hW
  clear hT hK hW hrs
  generalize freshP 500 = p0 at *
  obtain ⟨p1, ⟨rt1, sz1⟩, gn1, er1⟩ := T
  simp only [] at *
  subst hTe hTs
  go_enter Try.func4, Try.ntmps4
  go_wp2_with fail
  refine (shown_true w).mono ?_
  rintro e w0 ⟨rfl, hb0⟩
  have HB0 := Lib.hid hb0
  clear hb0
  go_wp2_with fail
  refine (HN.out w0).mono ?_
  rintro e w1 ⟨a1, a2, a3, a4, rfl, hpa, hb⟩
  obtain ⟨pg1, cg1, pu1, cu1, pf1, cf1, pc1, cc1, rfl, rfl, rfl, rfl⟩ := hpa.form
  obtain ⟨V1, hV1⟩ : ∃ V1, V1 = w1.alloc (.cells #[.slice pg1 p0.st.gens.length cg1, .slice pu1 p0.st.used.length cu1, .slice pf1 p0.st.free.length cf1, .slice pc1 p0.ch.length cc1] 31) := ⟨_, rfl⟩
  have HB1 : Hid (Below w.heap.size w V1) := Lib.hid (by rw [hV1]; exact (HB0.out.trans (hb.mono HB0.out.size)).alloc (Nat.le_trans HB0.out.size hb.size) _)
  have HX1 : Hid (PX V1 w1.heap.size (.slice pg1 p0.st.gens.length cg1) (.slice pu1 p0.st.used.length cu1) (.slice pf1 p0.st.free.length cf1) (.slice pc1 p0.ch.length cc1) p0) := Lib.hid (by rw [hV1]; exact ⟨heap_alloc_new _ _, (hpa.drop (Nat.zero_le _)).below ((Below.refl _ _).alloc (Nat.le_refl _) _)⟩)
  have hw01 : w.heap.size ≤ w1.heap.size := Nat.le_trans HB0.out.size hb.size
  go_upto_region 4 with fail
  rw [← hV1]
  clear hV1 hpa hb
  obtain ⟨x0, x1, x2, x3, -⟩ := block4 HX1.out.blk
  go_wp2_with fail
  refine (HC.out V1 _ _ _ _ HX1.out.pa (HR.out.below HB1.out)).mono ?_
  rintro e w2 ⟨b1, b2, b3, b4, b5, rfl, hpa, hol, hb⟩
  obtain ⟨pg2, cg2, pu2, cu2, pf2, cf2, pc2, cc2, rfl, rfl, rfl, rfl⟩ := hpa.form
  obtain ⟨p5_2, c5_2, rfl, -, -, -⟩ := own_form hol
  obtain ⟨S2, hS2, hSx, hSb, hSs, hSj⟩ := lay_step HX1.out hb hpa HB1.out hw01
  obtain ⟨V2, hV2, hVx, hVv, hVb, hVs⟩ := lay_vec hSx hSb (rt1) (zs.length)
  have hX' := HX1.out.below hb
  obtain ⟨d0, d1, d2, d3, y0, y1, y2, y3⟩ := block4 hX'.blk
  have hlt1 := lt_of_block hX'.blk
  have ne1 : w1.heap.size ≠ w2.heap.size := by omega
  have ne2 : w2.heap.size ≠ w1.heap.size := by omega
  clear hX'
  go_upto_region 5 with fail
  rw [← hS2, ← hV2]
  have HVV : Hid (VX V2 w2.heap.size ⟨rt1, zs.length⟩) := Lib.hid (by rw [← hSs]; exact hVv)
  obtain ⟨V3, hV3, hVx3, hVv3, hVb3, hVs3⟩ := lay_vec hVx hVb (rt1) (zs.length)
  have HX3 := Lib.hid hVx3
  have HV3 : Hid (VX V3 w2.heap.size ⟨rt1, zs.length⟩) := Lib.hid (HVV.out.below hVs3)
  have HV4 : Hid (VX V3 V2.heap.size ⟨rt1, zs.length⟩) := Lib.hid hVv3
  have HB3 := Lib.hid hVb3
  obtain ⟨u0, u1⟩ := block2 HVV.out
  have hk12 : w1.heap.size < w2.heap.size := hlt1
  have hk23 : w2.heap.size < V2.heap.size := lt_of_block HVV.out
  clear hS2 hV2 hSx hSb hSs hSj hVx hVv hVb hVs hpa hol hb d0 d1 d2 d3 y0 y1 y2 y3 x0 x1 x2 x3 hlt1 ne1 ne2 hVx3 hVv3 hVb3 hVs3
  simp only [] at u0 u1
  go_wp2_with fail
  rw [← hV3]
  clear hV3 u0 u1
  generalize hk5 : w1.heap.size = k5 at *
  generalize hk7 : w2.heap.size = k7 at *
  generalize hk10 : V2.heap.size = k10 at *
  have HX3' : Hid (∃ vg vu vf vc, PX V3 k5 vg vu vf vc p1) := Lib.hid ⟨_, _, _, _, HX3.out⟩
  clear HX3
  go_loopw [11] (fun i wr => ∃ (q : Nat) (p : Pl) (v : Vc), q ≤ m ∧ i = .int .i64 q ∧ Hid (∃ vg vu vf vc, PX wr k5 vg vu vf vc p) ∧ Hid (VX wr k10 v) ∧ Hid (VX wr k7 ⟨rt1, zs.length⟩) ∧ Hid (PK 500 1 p) ∧ Hid (∃ l rows, WF p v l rows) ∧ Hid (WF p ⟨rt1, zs.length⟩ zs rows) ∧ Hid (Below w.heap.size w wr)) (fun i _ => m - (intOf i).toNat)
  case atStart => exact ⟨0, p1, ⟨rt1, zs.length⟩, Nat.zero_le _, rfl, HX3', HV4, HV3, HK0, Lib.hid ⟨_, _, HW0.out⟩, HW0, HB3⟩
  case round =>
    obtain ⟨q, p, ⟨rt, sz⟩, hq, rfl, HX, HV, HF, HK, HW, HW1, HB⟩ := hrel
    by_cases hlt : q < m
    · have q0 : (0 : Int) ≤ (q : Int) := by omega
      have q1 : (q : Int) < (m : Int) := by omega
      obtain ⟨vg, vu, vf, vc, HXX⟩ := HX.out
      obtain ⟨pg, cg, pu, cu, pf, cf, pc, cc, rfl, rfl, rfl, rfl⟩ := HXX.pa.form
      have HX2 := Lib.hid HXX
      clear HX HXX
      obtain ⟨g, off, hBe, hg, kd, ai, ax, Bz, cz, zz, ha⟩ := HL.out q hlt
      subst hBe
      have HA0 := Lib.hid ha
      have ha := ha.below hg HB.out
      have HA := Lib.hid ha
      obtain ⟨hi0, hi1⟩ := ha.i64
      obtain ⟨hx0, hx1⟩ := ha.x64
      obtain ⟨hc0, hc1⟩ := ha.cap
      have c0 := ha.c0
      have c1 := ha.c1
      have c2 := ha.c2
      have c3 := ha.c3
      clear ha
      by_cases h250 : 250 < zz.length
      · have h2' : (250 : Int) < (zz.length : Int) := by omega
        go_wp2_with fail
        refine (shown_true wr).mono ?_
        rintro e w3 ⟨rfl, hb⟩
        have HB' := Lib.hid (HB.out.trans (hb.mono HB.out.size))
        clear hb
        go_wp2
        go_ret
        exact ⟨rfl, HB'.out⟩
      have h2' : ¬ (250 : Int) < (zz.length : Int) := by omega
      obtain ⟨x0, x1, x2, x3, -⟩ := block4 HX2.out.blk
      obtain ⟨u0, u1⟩ := block2 HV.out
      simp only [] at u0 u1
      obtain ⟨lz, rowz, hWz⟩ := HW.out
      obtain ⟨r0', r1'⟩ := hWz.b64
      have hsz : sz ≤ 200 := by have := hWz.size; have := hWz.small; simp only [] at *; omega
      have HWz := Lib.hid hWz
      have HIl : Hid (∀ l, p.items ⟨rt, sz⟩ = some l → l.length = sz ∧ U64 l) := Lib.hid (fun l he => by rw [HWz.out.items] at he; cases he; exact ⟨HWz.out.size.symm, HWz.out.u64⟩)
      simp only [] at r0' r1'
      clear hWz
      have hltk5 := lt_of_block HX2.out.blk
      have hltk10 := lt_of_block HV.out
      have hltk7 := lt_of_block HF.out
      have ne1 : k5 ≠ k10 := by omega
      have ne2 : k10 ≠ k5 := by omega
      have hke5 : w.heap.size ≤ k5 := hw01
      have hke10 : w.heap.size ≤ k10 := by omega

      by_cases hkd0 : kd = 0
      · subst hkd0
        obtain ⟨T, hT⟩ : ∃ T, p.setV ⟨rt, sz⟩ ai ax = T := ⟨_, rfl⟩
        have HCa := Lib.hid (fun (W : World) (hA : PA W 0 (.slice pg p.st.gens.length cg) (.slice pu p.st.used.length cu) (.slice pf p.st.free.length cf) (.slice pc p.ch.length cc) p) => setV_pl rt sz ai ax _ _ _ _ p 0 500 1 W hA HK.out r0' r1' hsz (by decide) (by decide) hx0 hx1 hi0 hi1 HIl.out)
        have HT := Lib.hid (setV_turn HK.out (by decide) HWz.out ai ⟨hx0, hx1⟩)
        rw [hT] at HCa HT
        clear hT
        obtain ⟨hK2, hE2, hW2⟩ := HT.out.keeps HK.out (by decide) HWz.out
        have HK2 := Lib.hid hK2
        have HW2 := Lib.hid hW2
        have HW3 := Lib.hid (HW1.out.ext hE2)
        clear hK2 hE2 hW2 HT
        obtain ⟨p2, ⟨rt2, sz2⟩, gn2, er2⟩ := T
        simp only [] at *
        go_upto_region 15 with fail
        refine wp_region_reads 12 #[true, true, true, true, true, true, true, true, true, true, true, true, false, false, false, false, false, false, false, false] (by kernel_rfl) (by kernel_rfl) (by kernel_rfl) ?_
        simp only [List.take_succ_cons, List.take_zero]
        repeat still_step
        refine wpStill_nil ?_
        show wpAny _ _ _ _ 8 _ _ _
        refine wpAny_ready (rs := [12]) (by kernel_rfl) (by simp) ?_
        refine AllReady.cons rfl (fun K hK => ?_) AllReady.nil
        go_simp
        go_at_call 10
        refine (HCa.out wr.drew (HX2.out.pa.below (Below.refl _ _).drew)).mono ?_
        rintro e w3 ⟨b1, b2, b3, b4, b5, rfl, hpa, hol, hb⟩
        obtain ⟨pg3, cg3, pu3, cu3, pf3, cf3, pc3, cc3, rfl, rfl, rfl, rfl⟩ := hpa.form
        obtain ⟨p5_3, c5_3, rfl, -, -, -⟩ := own_form hol
        simp only [] at hpa hol
        have hb' : Below wr.heap.size wr w3 := (Below.refl _ _).drew.trans hb
        have HB3 : Hid (Below w.heap.size w w3) := Lib.hid (HB.out.trans (hb'.mono HB.out.size))
        obtain ⟨d0, d1, d2, d3, y0, y1, y2, y3⟩ := block4 ((hb'.block k5 hltk5).trans HX2.out.blk)
        obtain ⟨e0, e1, z0, z1⟩ := block2f ((hb'.block k10 hltk10).trans HV.out)
        have HPA := Lib.hid hpa
        have HOL := Lib.hid hol
        have HBB := Lib.hid hb'
        clear hb hpa hol hb'
        go_simp
        refine hK _ _ ?_
        clear hK K
        refine wpAny_take (i := 13) (v := ?_) rfl (by kernel_rfl) (by kernel_rfl) (by kernel_rfl) (fun _ _ _ h => h) (Or.inl ⟨by rfl, ?hy⟩) ?_
        case hy => (intro W; go_simp; first | done | with_reducible rfl)
        refine wpAny_take (i := 14) (v := ?_) rfl (by kernel_rfl) (by kernel_rfl) (by kernel_rfl) (fun _ _ _ h => h) (Or.inl ⟨by rfl, ?hy⟩) ?_
        case hy => (intro W; go_simp; first | done | with_reducible rfl)
        refine wpAny_take (i := 15) (v := ?_) rfl (by kernel_rfl) (by kernel_rfl) (by kernel_rfl) (fun _ _ _ h => h) (Or.inl ⟨by rfl, ?hy⟩) ?_
        case hy => (intro W; go_simp; first | done | with_reducible rfl)
        refine wpAny_take (i := 16) (v := ?_) rfl (by kernel_rfl) (by kernel_rfl) (by kernel_rfl) (fun _ _ _ h => h) (Or.inl ⟨by rfl, ?hy⟩) ?_
        case hy => (intro W; go_simp; first | done | with_reducible rfl)
        refine wpAny_take (i := 17) (v := ?_) rfl (by kernel_rfl) (by kernel_rfl) (by kernel_rfl) (fun _ _ _ h => h) (Or.inl ⟨by rfl, ?hy⟩) ?_
        case hy => (intro W; go_simp; first | done | with_reducible rfl)

        refine wpAny_ready (rs := [18]) (by kernel_rfl) (by simp) ?_
        refine AllReady.cons rfl (fun K hK => ?_) AllReady.nil
        go_simp
        refine hK _ _ ?_
        clear hK K
        refine wpAny_ready (rs := [19]) (by kernel_rfl) (by simp) ?_
        refine AllReady.cons rfl (fun K hK => ?_) AllReady.nil
        go_simp
        refine hK _ _ ?_
        clear hK K
        refine wpAny_done (by kernel_rfl) ?_ _
        all_goals
         obtain ⟨S, hS, hSx, hSv, hSb, hSs, hSj⟩ := lay_both HX2.out HV.out HBB.out HPA.out HB.out hke5 hke10 rt2 sz2
         have HXS := Lib.hid hSx
         have HVS := Lib.hid hSv
         have HBS := Lib.hid hSb
         have HFS : Hid (VX S k7 ⟨rt1, zs.length⟩) := Lib.hid ((hSj k7 (by omega) (by omega)).trans ((HBB.out.block k7 hltk7).trans HF.out))
         clear x0 x1 x2 x3 u0 u1 c0 c1 c2 c3 d0 d1 d2 d3 y0 y1 y2 y3 e0 e1 z0 z1
         clear hSx hSv hSb hSj hSs
         go_upto_region 23 with fail
         rw [← hS]
         clear hS
         obtain ⟨x0, x1, x2, x3, -⟩ := block4 HXS.out.blk
         obtain ⟨t0, t1⟩ := block2 HFS.out
         simp only [] at t0 t1
         have HIt := Lib.hid (items_pl rt1 zs.length _ _ _ _ p2 0 500 1 S HXS.out.pa HK2.out r0 r1 (by omega))
         rw [HW3.out.items] at HIt
         go_wp2_with fail
         refine HIt.out.mono ?_
         rintro e w6 ⟨⟨hnn, -⟩ | ⟨l6, v6, hl6, rfl, ho6⟩, hb6⟩
         · cases hnn
         obtain rfl : l6 = zs := by cases hl6; rfl
         have HB6 := Lib.hid (HBS.out.trans (hb6.mono HBS.out.size))
         have HH6 := Lib.hid (handles_eq v6 A cap l6 _ w6 ho6 (HR.out.below HB6.out) (by omega))
         have HX6 : Hid (∃ vg vu vf vc, PX w6 k5 vg vu vf vc p2) := Lib.hid ⟨_, _, _, _, HXS.out.below hb6⟩
         have HV6 := Lib.hid (HVS.out.below hb6)
         have HF6 := Lib.hid (HFS.out.below hb6)
         obtain ⟨p6, c6, rfl, -, -, -⟩ := own_form ho6
         clear hb6 hl6 ho6 x0 x1 x2 x3 t0 t1
         go_wp2_with fail
         refine HH6.out.mono ?_
         rintro e w7 ⟨rfl, hb7⟩
         have HB7 := Lib.hid (HB6.out.trans (hb7.mono HB6.out.size))
         have HX7 : Hid (∃ vg vu vf vc, PX w7 k5 vg vu vf vc p2) := Lib.hid (by obtain ⟨a, b, c, d, h⟩ := HX6.out; exact ⟨a, b, c, d, h.below hb7⟩)
         have HV7 := Lib.hid (HV6.out.below hb7)
         have HF7 := Lib.hid (HF6.out.below hb7)
         clear hb7
         go_wp2
         go_roundw
         case rel => exact ⟨q + 1, p2, ⟨rt2, sz2⟩, by omega, by go_num, HX7, HV7, HF7, HK2, HW2, HW3, HB7⟩
         case measure => simp [intOf] <;> omega

      by_cases hkd1 : kd = 1
      · subst hkd1
        obtain ⟨T, hT⟩ : ∃ T, p.insertV ⟨rt, sz⟩ ai ax = T := ⟨_, rfl⟩
        have HCa := Lib.hid (fun (W : World) (hA : PA W 0 (.slice pg p.st.gens.length cg) (.slice pu p.st.used.length cu) (.slice pf p.st.free.length cf) (.slice pc p.ch.length cc) p) => insertV_pl rt sz ai ax _ _ _ _ p 0 500 1 W hA HK.out r0' r1' hsz (by decide) (by decide) hx0 hx1 hi0 hi1 HIl.out)
        have HT := Lib.hid (insertV_turn HK.out (by decide) HWz.out ai ⟨hx0, hx1⟩)
        rw [hT] at HCa HT
        clear hT
        obtain ⟨hK2, hE2, hW2⟩ := HT.out.keeps HK.out (by decide) HWz.out
        have HK2 := Lib.hid hK2
        have HW2 := Lib.hid hW2
        have HW3 := Lib.hid (HW1.out.ext hE2)
        clear hK2 hE2 hW2 HT
        obtain ⟨p2, ⟨rt2, sz2⟩, gn2, er2⟩ := T
        simp only [] at *
        go_upto_region 18 with fail
        refine wp_region_reads 12 #[true, true, true, true, true, true, true, true, true, true, true, true, false, false, false, false, false, false, false, false] (by kernel_rfl) (by kernel_rfl) (by kernel_rfl) ?_
        simp only [List.take_succ_cons, List.take_zero]
        repeat still_step
        refine wpStill_nil ?_
        show wpAny _ _ _ _ 8 _ _ _
        refine wpAny_ready (rs := [12]) (by kernel_rfl) (by simp) ?_
        refine AllReady.cons rfl (fun K hK => ?_) AllReady.nil
        go_simp
        go_at_call 12
        refine (HCa.out wr.drew (HX2.out.pa.below (Below.refl _ _).drew)).mono ?_
        rintro e w3 ⟨b1, b2, b3, b4, b5, rfl, hpa, hol, hb⟩
        obtain ⟨pg3, cg3, pu3, cu3, pf3, cf3, pc3, cc3, rfl, rfl, rfl, rfl⟩ := hpa.form
        obtain ⟨p5_3, c5_3, rfl, -, -, -⟩ := own_form hol
        simp only [] at hpa hol
        have hb' : Below wr.heap.size wr w3 := (Below.refl _ _).drew.trans hb
        have HB3 : Hid (Below w.heap.size w w3) := Lib.hid (HB.out.trans (hb'.mono HB.out.size))
        obtain ⟨d0, d1, d2, d3, y0, y1, y2, y3⟩ := block4 ((hb'.block k5 hltk5).trans HX2.out.blk)
        obtain ⟨e0, e1, z0, z1⟩ := block2f ((hb'.block k10 hltk10).trans HV.out)
        have HPA := Lib.hid hpa
        have HOL := Lib.hid hol
        have HBB := Lib.hid hb'
        clear hb hpa hol hb'
        go_simp
        refine hK _ _ ?_
        clear hK K
        refine wpAny_take (i := 13) (v := ?_) rfl (by kernel_rfl) (by kernel_rfl) (by kernel_rfl) (fun _ _ _ h => h) (Or.inl ⟨by rfl, ?hy⟩) ?_
        case hy => (intro W; go_simp; first | done | with_reducible rfl)
        refine wpAny_take (i := 14) (v := ?_) rfl (by kernel_rfl) (by kernel_rfl) (by kernel_rfl) (fun _ _ _ h => h) (Or.inl ⟨by rfl, ?hy⟩) ?_
        case hy => (intro W; go_simp; first | done | with_reducible rfl)
        refine wpAny_take (i := 15) (v := ?_) rfl (by kernel_rfl) (by kernel_rfl) (by kernel_rfl) (fun _ _ _ h => h) (Or.inl ⟨by rfl, ?hy⟩) ?_
        case hy => (intro W; go_simp; first | done | with_reducible rfl)
        refine wpAny_take (i := 16) (v := ?_) rfl (by kernel_rfl) (by kernel_rfl) (by kernel_rfl) (fun _ _ _ h => h) (Or.inl ⟨by rfl, ?hy⟩) ?_
        case hy => (intro W; go_simp; first | done | with_reducible rfl)
        refine wpAny_take (i := 17) (v := ?_) rfl (by kernel_rfl) (by kernel_rfl) (by kernel_rfl) (fun _ _ _ h => h) (Or.inl ⟨by rfl, ?hy⟩) ?_
        case hy => (intro W; go_simp; first | done | with_reducible rfl)

        refine wpAny_ready (rs := [18]) (by kernel_rfl) (by simp) ?_
        refine AllReady.cons rfl (fun K hK => ?_) AllReady.nil
        go_simp
        refine hK _ _ ?_
        clear hK K
        refine wpAny_ready (rs := [19]) (by kernel_rfl) (by simp) ?_
        refine AllReady.cons rfl (fun K hK => ?_) AllReady.nil
        go_simp
        refine hK _ _ ?_
        clear hK K
        refine wpAny_done (by kernel_rfl) ?_ _
        all_goals
         obtain ⟨S, hS, hSx, hSv, hSb, hSs, hSj⟩ := lay_both HX2.out HV.out HBB.out HPA.out HB.out hke5 hke10 rt2 sz2
         have HXS := Lib.hid hSx
         have HVS := Lib.hid hSv
         have HBS := Lib.hid hSb
         have HFS : Hid (VX S k7 ⟨rt1, zs.length⟩) := Lib.hid ((hSj k7 (by omega) (by omega)).trans ((HBB.out.block k7 hltk7).trans HF.out))
         clear x0 x1 x2 x3 u0 u1 c0 c1 c2 c3 d0 d1 d2 d3 y0 y1 y2 y3 e0 e1 z0 z1
         clear hSx hSv hSb hSj hSs
         go_upto_region 23 with fail
         rw [← hS]
         clear hS
         obtain ⟨x0, x1, x2, x3, -⟩ := block4 HXS.out.blk
         obtain ⟨t0, t1⟩ := block2 HFS.out
         simp only [] at t0 t1
         have HIt := Lib.hid (items_pl rt1 zs.length _ _ _ _ p2 0 500 1 S HXS.out.pa HK2.out r0 r1 (by omega))
         rw [HW3.out.items] at HIt
         go_wp2_with fail
         refine HIt.out.mono ?_
         rintro e w6 ⟨⟨hnn, -⟩ | ⟨l6, v6, hl6, rfl, ho6⟩, hb6⟩
         · cases hnn
         obtain rfl : l6 = zs := by cases hl6; rfl
         have HB6 := Lib.hid (HBS.out.trans (hb6.mono HBS.out.size))
         have HH6 := Lib.hid (handles_eq v6 A cap l6 _ w6 ho6 (HR.out.below HB6.out) (by omega))
         have HX6 : Hid (∃ vg vu vf vc, PX w6 k5 vg vu vf vc p2) := Lib.hid ⟨_, _, _, _, HXS.out.below hb6⟩
         have HV6 := Lib.hid (HVS.out.below hb6)
         have HF6 := Lib.hid (HFS.out.below hb6)
         obtain ⟨p6, c6, rfl, -, -, -⟩ := own_form ho6
         clear hb6 hl6 ho6 x0 x1 x2 x3 t0 t1
         go_wp2_with fail
         refine HH6.out.mono ?_
         rintro e w7 ⟨rfl, hb7⟩
         have HB7 := Lib.hid (HB6.out.trans (hb7.mono HB6.out.size))
         have HX7 : Hid (∃ vg vu vf vc, PX w7 k5 vg vu vf vc p2) := Lib.hid (by obtain ⟨a, b, c, d, h⟩ := HX6.out; exact ⟨a, b, c, d, h.below hb7⟩)
         have HV7 := Lib.hid (HV6.out.below hb7)
         have HF7 := Lib.hid (HF6.out.below hb7)
         clear hb7
         go_wp2
         go_roundw
         case rel => exact ⟨q + 1, p2, ⟨rt2, sz2⟩, by omega, by go_num, HX7, HV7, HF7, HK2, HW2, HW3, HB7⟩
         case measure => simp [intOf] <;> omega

      by_cases hkd2 : kd = 2
      · subst hkd2
        obtain ⟨T, hT⟩ : ∃ T, p.insertV ⟨rt, sz⟩ ai ax = T := ⟨_, rfl⟩
        have HCa := Lib.hid (fun (W : World) (hA : PA W 0 (.slice pg p.st.gens.length cg) (.slice pu p.st.used.length cu) (.slice pf p.st.free.length cf) (.slice pc p.ch.length cc) p) => insertV_pl rt sz ai ax _ _ _ _ p 0 500 1 W hA HK.out r0' r1' hsz (by decide) (by decide) hx0 hx1 hi0 hi1 HIl.out)
        have HT := Lib.hid (insertV_turn HK.out (by decide) HWz.out ai ⟨hx0, hx1⟩)
        rw [hT] at HCa HT
        clear hT
        obtain ⟨hK2, hE2, hW2⟩ := HT.out.keeps HK.out (by decide) HWz.out
        have HK2 := Lib.hid hK2
        have HW2 := Lib.hid hW2
        have HW3 := Lib.hid (HW1.out.ext hE2)
        clear hK2 hE2 hW2 HT
        obtain ⟨p2, ⟨rt2, sz2⟩, gn2, er2⟩ := T
        simp only [] at *
        go_upto_region 18 with fail
        refine wp_region_reads 12 #[true, true, true, true, true, true, true, true, true, true, true, true, false, false, false, false, false, false, false, false] (by kernel_rfl) (by kernel_rfl) (by kernel_rfl) ?_
        simp only [List.take_succ_cons, List.take_zero]
        repeat still_step
        refine wpStill_nil ?_
        show wpAny _ _ _ _ 8 _ _ _
        refine wpAny_ready (rs := [12]) (by kernel_rfl) (by simp) ?_
        refine AllReady.cons rfl (fun K hK => ?_) AllReady.nil
        go_simp
        go_at_call 12
        refine (HCa.out wr.drew (HX2.out.pa.below (Below.refl _ _).drew)).mono ?_
        rintro e w3 ⟨b1, b2, b3, b4, b5, rfl, hpa, hol, hb⟩
        obtain ⟨pg3, cg3, pu3, cu3, pf3, cf3, pc3, cc3, rfl, rfl, rfl, rfl⟩ := hpa.form
        obtain ⟨p5_3, c5_3, rfl, -, -, -⟩ := own_form hol
        simp only [] at hpa hol
        have hb' : Below wr.heap.size wr w3 := (Below.refl _ _).drew.trans hb
        have HB3 : Hid (Below w.heap.size w w3) := Lib.hid (HB.out.trans (hb'.mono HB.out.size))
        obtain ⟨d0, d1, d2, d3, y0, y1, y2, y3⟩ := block4 ((hb'.block k5 hltk5).trans HX2.out.blk)
        obtain ⟨e0, e1, z0, z1⟩ := block2f ((hb'.block k10 hltk10).trans HV.out)
        have HPA := Lib.hid hpa
        have HOL := Lib.hid hol
        have HBB := Lib.hid hb'
        clear hb hpa hol hb'
        go_simp
        refine hK _ _ ?_
        clear hK K
        refine wpAny_take (i := 13) (v := ?_) rfl (by kernel_rfl) (by kernel_rfl) (by kernel_rfl) (fun _ _ _ h => h) (Or.inl ⟨by rfl, ?hy⟩) ?_
        case hy => (intro W; go_simp; first | done | with_reducible rfl)
        refine wpAny_take (i := 14) (v := ?_) rfl (by kernel_rfl) (by kernel_rfl) (by kernel_rfl) (fun _ _ _ h => h) (Or.inl ⟨by rfl, ?hy⟩) ?_
        case hy => (intro W; go_simp; first | done | with_reducible rfl)
        refine wpAny_take (i := 15) (v := ?_) rfl (by kernel_rfl) (by kernel_rfl) (by kernel_rfl) (fun _ _ _ h => h) (Or.inl ⟨by rfl, ?hy⟩) ?_
        case hy => (intro W; go_simp; first | done | with_reducible rfl)
        refine wpAny_take (i := 16) (v := ?_) rfl (by kernel_rfl) (by kernel_rfl) (by kernel_rfl) (fun _ _ _ h => h) (Or.inl ⟨by rfl, ?hy⟩) ?_
        case hy => (intro W; go_simp; first | done | with_reducible rfl)
        refine wpAny_take (i := 17) (v := ?_) rfl (by kernel_rfl) (by kernel_rfl) (by kernel_rfl) (fun _ _ _ h => h) (Or.inl ⟨by rfl, ?hy⟩) ?_
        case hy => (intro W; go_simp; first | done | with_reducible rfl)

        refine wpAny_ready (rs := [18]) (by kernel_rfl) (by simp) ?_
        refine AllReady.cons rfl (fun K hK => ?_) AllReady.nil
        go_simp
        refine hK _ _ ?_
        clear hK K
        refine wpAny_ready (rs := [19]) (by kernel_rfl) (by simp) ?_
        refine AllReady.cons rfl (fun K hK => ?_) AllReady.nil
        go_simp
        refine hK _ _ ?_
        clear hK K
        refine wpAny_done (by kernel_rfl) ?_ _
        all_goals
         obtain ⟨S, hS, hSx, hSv, hSb, hSs, hSj⟩ := lay_both HX2.out HV.out HBB.out HPA.out HB.out hke5 hke10 rt2 sz2
         have HXS := Lib.hid hSx
         have HVS := Lib.hid hSv
         have HBS := Lib.hid hSb
         have HFS : Hid (VX S k7 ⟨rt1, zs.length⟩) := Lib.hid ((hSj k7 (by omega) (by omega)).trans ((HBB.out.block k7 hltk7).trans HF.out))
         clear x0 x1 x2 x3 u0 u1 c0 c1 c2 c3 d0 d1 d2 d3 y0 y1 y2 y3 e0 e1 z0 z1
         clear hSx hSv hSb hSj hSs
         go_upto_region 23 with fail
         rw [← hS]
         clear hS
         obtain ⟨x0, x1, x2, x3, -⟩ := block4 HXS.out.blk
         obtain ⟨t0, t1⟩ := block2 HFS.out
         simp only [] at t0 t1
         have HIt := Lib.hid (items_pl rt1 zs.length _ _ _ _ p2 0 500 1 S HXS.out.pa HK2.out r0 r1 (by omega))
         rw [HW3.out.items] at HIt
         go_wp2_with fail
         refine HIt.out.mono ?_
         rintro e w6 ⟨⟨hnn, -⟩ | ⟨l6, v6, hl6, rfl, ho6⟩, hb6⟩
         · cases hnn
         obtain rfl : l6 = zs := by cases hl6; rfl
         have HB6 := Lib.hid (HBS.out.trans (hb6.mono HBS.out.size))
         have HH6 := Lib.hid (handles_eq v6 A cap l6 _ w6 ho6 (HR.out.below HB6.out) (by omega))
         have HX6 : Hid (∃ vg vu vf vc, PX w6 k5 vg vu vf vc p2) := Lib.hid ⟨_, _, _, _, HXS.out.below hb6⟩
         have HV6 := Lib.hid (HVS.out.below hb6)
         have HF6 := Lib.hid (HFS.out.below hb6)
         obtain ⟨p6, c6, rfl, -, -, -⟩ := own_form ho6
         clear hb6 hl6 ho6 x0 x1 x2 x3 t0 t1
         go_wp2_with fail
         refine HH6.out.mono ?_
         rintro e w7 ⟨rfl, hb7⟩
         have HB7 := Lib.hid (HB6.out.trans (hb7.mono HB6.out.size))
         have HX7 : Hid (∃ vg vu vf vc, PX w7 k5 vg vu vf vc p2) := Lib.hid (by obtain ⟨a, b, c, d, h⟩ := HX6.out; exact ⟨a, b, c, d, h.below hb7⟩)
         have HV7 := Lib.hid (HV6.out.below hb7)
         have HF7 := Lib.hid (HF6.out.below hb7)
         clear hb7
         go_wp2
         go_roundw
         case rel => exact ⟨q + 1, p2, ⟨rt2, sz2⟩, by omega, by go_num, HX7, HV7, HF7, HK2, HW2, HW3, HB7⟩
         case measure => simp [intOf] <;> omega

      by_cases hkd3 : kd = 3
      · subst hkd3
        obtain ⟨T, hT⟩ : ∃ T, p.removeV ⟨rt, sz⟩ ai = T := ⟨_, rfl⟩
        have HCa := Lib.hid (fun (W : World) (hA : PA W 0 (.slice pg p.st.gens.length cg) (.slice pu p.st.used.length cu) (.slice pf p.st.free.length cf) (.slice pc p.ch.length cc) p) => removeV_pl rt sz ai _ _ _ _ p 0 500 1 W hA HK.out r0' r1' hsz (by decide) (by decide) hi0 hi1 HIl.out)
        have HT := Lib.hid (removeV_turn HK.out (by decide) HWz.out ai)
        rw [hT] at HCa HT
        clear hT
        obtain ⟨hK2, hE2, hW2⟩ := HT.out.keeps HK.out (by decide) HWz.out
        have HK2 := Lib.hid hK2
        have HW2 := Lib.hid hW2
        have HW3 := Lib.hid (HW1.out.ext hE2)
        clear hK2 hE2 hW2 HT
        obtain ⟨p2, ⟨rt2, sz2⟩, gn2, er2⟩ := T
        simp only [] at *
        go_upto_region 20 with fail
        refine wp_region_reads 7 #[true, true, true, true, true, true, true, false, false, false, false, false, false, false, false] (by kernel_rfl) (by kernel_rfl) (by kernel_rfl) ?_
        simp only [List.take_succ_cons, List.take_zero]
        repeat still_step
        refine wpStill_nil ?_
        show wpAny _ _ _ _ 8 _ _ _
        refine wpAny_ready (rs := [7]) (by kernel_rfl) (by simp) ?_
        refine AllReady.cons rfl (fun K hK => ?_) AllReady.nil
        go_simp
        go_at_call 14
        refine (HCa.out wr.drew (HX2.out.pa.below (Below.refl _ _).drew)).mono ?_
        rintro e w3 ⟨b1, b2, b3, b4, b5, rfl, hpa, hol, hb⟩
        obtain ⟨pg3, cg3, pu3, cu3, pf3, cf3, pc3, cc3, rfl, rfl, rfl, rfl⟩ := hpa.form
        obtain ⟨p5_3, c5_3, rfl, -, -, -⟩ := own_form hol
        simp only [] at hpa hol
        have hb' : Below wr.heap.size wr w3 := (Below.refl _ _).drew.trans hb
        have HB3 : Hid (Below w.heap.size w w3) := Lib.hid (HB.out.trans (hb'.mono HB.out.size))
        obtain ⟨d0, d1, d2, d3, y0, y1, y2, y3⟩ := block4 ((hb'.block k5 hltk5).trans HX2.out.blk)
        obtain ⟨e0, e1, z0, z1⟩ := block2f ((hb'.block k10 hltk10).trans HV.out)
        have HPA := Lib.hid hpa
        have HOL := Lib.hid hol
        have HBB := Lib.hid hb'
        clear hb hpa hol hb'
        go_simp
        refine hK _ _ ?_
        clear hK K
        refine wpAny_take (i := 8) (v := ?_) rfl (by kernel_rfl) (by kernel_rfl) (by kernel_rfl) (fun _ _ _ h => h) (Or.inl ⟨by rfl, ?hy⟩) ?_
        case hy => (intro W; go_simp; first | done | with_reducible rfl)
        refine wpAny_take (i := 9) (v := ?_) rfl (by kernel_rfl) (by kernel_rfl) (by kernel_rfl) (fun _ _ _ h => h) (Or.inl ⟨by rfl, ?hy⟩) ?_
        case hy => (intro W; go_simp; first | done | with_reducible rfl)
        refine wpAny_take (i := 10) (v := ?_) rfl (by kernel_rfl) (by kernel_rfl) (by kernel_rfl) (fun _ _ _ h => h) (Or.inl ⟨by rfl, ?hy⟩) ?_
        case hy => (intro W; go_simp; first | done | with_reducible rfl)
        refine wpAny_take (i := 11) (v := ?_) rfl (by kernel_rfl) (by kernel_rfl) (by kernel_rfl) (fun _ _ _ h => h) (Or.inl ⟨by rfl, ?hy⟩) ?_
        case hy => (intro W; go_simp; first | done | with_reducible rfl)
        refine wpAny_take (i := 12) (v := ?_) rfl (by kernel_rfl) (by kernel_rfl) (by kernel_rfl) (fun _ _ _ h => h) (Or.inl ⟨by rfl, ?hy⟩) ?_
        case hy => (intro W; go_simp; first | done | with_reducible rfl)

        refine wpAny_ready (rs := [13]) (by kernel_rfl) (by simp) ?_
        refine AllReady.cons rfl (fun K hK => ?_) AllReady.nil
        go_simp
        refine hK _ _ ?_
        clear hK K
        refine wpAny_ready (rs := [14]) (by kernel_rfl) (by simp) ?_
        refine AllReady.cons rfl (fun K hK => ?_) AllReady.nil
        go_simp
        refine hK _ _ ?_
        clear hK K
        refine wpAny_done (by kernel_rfl) ?_ _
        all_goals
         obtain ⟨S, hS, hSx, hSv, hSb, hSs, hSj⟩ := lay_both HX2.out HV.out HBB.out HPA.out HB.out hke5 hke10 rt2 sz2
         have HXS := Lib.hid hSx
         have HVS := Lib.hid hSv
         have HBS := Lib.hid hSb
         have HFS : Hid (VX S k7 ⟨rt1, zs.length⟩) := Lib.hid ((hSj k7 (by omega) (by omega)).trans ((HBB.out.block k7 hltk7).trans HF.out))
         clear x0 x1 x2 x3 u0 u1 c0 c1 c2 c3 d0 d1 d2 d3 y0 y1 y2 y3 e0 e1 z0 z1
         clear hSx hSv hSb hSj hSs
         go_upto_region 23 with fail
         rw [← hS]
         clear hS
         obtain ⟨x0, x1, x2, x3, -⟩ := block4 HXS.out.blk
         obtain ⟨t0, t1⟩ := block2 HFS.out
         simp only [] at t0 t1
         have HIt := Lib.hid (items_pl rt1 zs.length _ _ _ _ p2 0 500 1 S HXS.out.pa HK2.out r0 r1 (by omega))
         rw [HW3.out.items] at HIt
         go_wp2_with fail
         refine HIt.out.mono ?_
         rintro e w6 ⟨⟨hnn, -⟩ | ⟨l6, v6, hl6, rfl, ho6⟩, hb6⟩
         · cases hnn
         obtain rfl : l6 = zs := by cases hl6; rfl
         have HB6 := Lib.hid (HBS.out.trans (hb6.mono HBS.out.size))
         have HH6 := Lib.hid (handles_eq v6 A cap l6 _ w6 ho6 (HR.out.below HB6.out) (by omega))
         have HX6 : Hid (∃ vg vu vf vc, PX w6 k5 vg vu vf vc p2) := Lib.hid ⟨_, _, _, _, HXS.out.below hb6⟩
         have HV6 := Lib.hid (HVS.out.below hb6)
         have HF6 := Lib.hid (HFS.out.below hb6)
         obtain ⟨p6, c6, rfl, -, -, -⟩ := own_form ho6
         clear hb6 hl6 ho6 x0 x1 x2 x3 t0 t1
         go_wp2_with fail
         refine HH6.out.mono ?_
         rintro e w7 ⟨rfl, hb7⟩
         have HB7 := Lib.hid (HB6.out.trans (hb7.mono HB6.out.size))
         have HX7 : Hid (∃ vg vu vf vc, PX w7 k5 vg vu vf vc p2) := Lib.hid (by obtain ⟨a, b, c, d, h⟩ := HX6.out; exact ⟨a, b, c, d, h.below hb7⟩)
         have HV7 := Lib.hid (HV6.out.below hb7)
         have HF7 := Lib.hid (HF6.out.below hb7)
         clear hb7
         go_wp2
         go_roundw
         case rel => exact ⟨q + 1, p2, ⟨rt2, sz2⟩, by omega, by go_num, HX7, HV7, HF7, HK2, HW2, HW3, HB7⟩
         case measure => simp [intOf] <;> omega

      by_cases hkd4 : kd = 4
      · subst hkd4
        obtain ⟨T, hT⟩ : ∃ T, p.change ⟨rt, sz⟩ zz = T := ⟨_, rfl⟩
        have HCa := Lib.hid (fun (W : World) (hA : PA W 0 (.slice pg p.st.gens.length cg) (.slice pu p.st.used.length cu) (.slice pf p.st.free.length cf) (.slice pc p.ch.length cc) p) (hI : RL W Bz zz) => change_rla rt sz zz Bz cz _ _ _ _ p 0 500 1 W hA HK.out hI hc0 hc1 (by omega) HA.out.u64 r0' r1' (by omega) (by decide) (by decide))
        have HT := Lib.hid (change_turn HK.out (by decide) HWz.out HA.out.u64)
        rw [hT] at HCa HT
        clear hT
        obtain ⟨hK2, hE2, hW2⟩ := HT.out.keeps HK.out (by decide) HWz.out
        have HK2 := Lib.hid hK2
        have HW2 := Lib.hid hW2
        have HW3 := Lib.hid (HW1.out.ext hE2)
        clear hK2 hE2 hW2 HT
        obtain ⟨p2, ⟨rt2, sz2⟩, gn2, er2⟩ := T
        simp only [] at *
        go_upto_region 22 with fail
        refine wp_region_reads 7 #[true, true, true, true, true, true, true, false, false, false, false, false, false, false, false] (by kernel_rfl) (by kernel_rfl) (by kernel_rfl) ?_
        simp only [List.take_succ_cons, List.take_zero]
        repeat still_step
        refine wpStill_nil ?_
        show wpAny _ _ _ _ 8 _ _ _
        refine wpAny_ready (rs := [7]) (by kernel_rfl) (by simp) ?_
        refine AllReady.cons rfl (fun K hK => ?_) AllReady.nil
        go_simp
        go_at_call 16
        refine (HCa.out wr.drew (HX2.out.pa.below (Below.refl _ _).drew) (HA.out.rl.below (Below.refl _ _).drew)).mono ?_
        rintro e w3 ⟨b1, b2, b3, b4, b5, rfl, hpa, hol, hb⟩
        obtain ⟨pg3, cg3, pu3, cu3, pf3, cf3, pc3, cc3, rfl, rfl, rfl, rfl⟩ := hpa.form
        obtain ⟨p5_3, c5_3, rfl, -, -, -⟩ := own_form hol
        simp only [] at hpa hol
        have hb' : Below wr.heap.size wr w3 := (Below.refl _ _).drew.trans hb
        have HB3 : Hid (Below w.heap.size w w3) := Lib.hid (HB.out.trans (hb'.mono HB.out.size))
        obtain ⟨d0, d1, d2, d3, y0, y1, y2, y3⟩ := block4 ((hb'.block k5 hltk5).trans HX2.out.blk)
        obtain ⟨e0, e1, z0, z1⟩ := block2f ((hb'.block k10 hltk10).trans HV.out)
        have HPA := Lib.hid hpa
        have HOL := Lib.hid hol
        have HBB := Lib.hid hb'
        clear hb hpa hol hb'
        go_simp
        refine hK _ _ ?_
        clear hK K
        refine wpAny_take (i := 8) (v := ?_) rfl (by kernel_rfl) (by kernel_rfl) (by kernel_rfl) (fun _ _ _ h => h) (Or.inl ⟨by rfl, ?hy⟩) ?_
        case hy => (intro W; go_simp; first | done | with_reducible rfl)
        refine wpAny_take (i := 9) (v := ?_) rfl (by kernel_rfl) (by kernel_rfl) (by kernel_rfl) (fun _ _ _ h => h) (Or.inl ⟨by rfl, ?hy⟩) ?_
        case hy => (intro W; go_simp; first | done | with_reducible rfl)
        refine wpAny_take (i := 10) (v := ?_) rfl (by kernel_rfl) (by kernel_rfl) (by kernel_rfl) (fun _ _ _ h => h) (Or.inl ⟨by rfl, ?hy⟩) ?_
        case hy => (intro W; go_simp; first | done | with_reducible rfl)
        refine wpAny_take (i := 11) (v := ?_) rfl (by kernel_rfl) (by kernel_rfl) (by kernel_rfl) (fun _ _ _ h => h) (Or.inl ⟨by rfl, ?hy⟩) ?_
        case hy => (intro W; go_simp; first | done | with_reducible rfl)
        refine wpAny_take (i := 12) (v := ?_) rfl (by kernel_rfl) (by kernel_rfl) (by kernel_rfl) (fun _ _ _ h => h) (Or.inl ⟨by rfl, ?hy⟩) ?_
        case hy => (intro W; go_simp; first | done | with_reducible rfl)

        refine wpAny_ready (rs := [13]) (by kernel_rfl) (by simp) ?_
        refine AllReady.cons rfl (fun K hK => ?_) AllReady.nil
        go_simp
        refine hK _ _ ?_
        clear hK K
        refine wpAny_ready (rs := [14]) (by kernel_rfl) (by simp) ?_
        refine AllReady.cons rfl (fun K hK => ?_) AllReady.nil
        go_simp
        refine hK _ _ ?_
        clear hK K
        refine wpAny_done (by kernel_rfl) ?_ _
        all_goals
         obtain ⟨S, hS, hSx, hSv, hSb, hSs, hSj⟩ := lay_both HX2.out HV.out HBB.out HPA.out HB.out hke5 hke10 rt2 sz2
         have HXS := Lib.hid hSx
         have HVS := Lib.hid hSv
         have HBS := Lib.hid hSb
         have HFS : Hid (VX S k7 ⟨rt1, zs.length⟩) := Lib.hid ((hSj k7 (by omega) (by omega)).trans ((HBB.out.block k7 hltk7).trans HF.out))
         clear x0 x1 x2 x3 u0 u1 c0 c1 c2 c3 d0 d1 d2 d3 y0 y1 y2 y3 e0 e1 z0 z1
         clear hSx hSv hSb hSj hSs
         go_upto_region 23 with fail
         rw [← hS]
         clear hS
         obtain ⟨x0, x1, x2, x3, -⟩ := block4 HXS.out.blk
         obtain ⟨t0, t1⟩ := block2 HFS.out
         simp only [] at t0 t1
         have HIt := Lib.hid (items_pl rt1 zs.length _ _ _ _ p2 0 500 1 S HXS.out.pa HK2.out r0 r1 (by omega))
         rw [HW3.out.items] at HIt
         go_wp2_with fail
         refine HIt.out.mono ?_
         rintro e w6 ⟨⟨hnn, -⟩ | ⟨l6, v6, hl6, rfl, ho6⟩, hb6⟩
         · cases hnn
         obtain rfl : l6 = zs := by cases hl6; rfl
         have HB6 := Lib.hid (HBS.out.trans (hb6.mono HBS.out.size))
         have HH6 := Lib.hid (handles_eq v6 A cap l6 _ w6 ho6 (HR.out.below HB6.out) (by omega))
         have HX6 : Hid (∃ vg vu vf vc, PX w6 k5 vg vu vf vc p2) := Lib.hid ⟨_, _, _, _, HXS.out.below hb6⟩
         have HV6 := Lib.hid (HVS.out.below hb6)
         have HF6 := Lib.hid (HFS.out.below hb6)
         obtain ⟨p6, c6, rfl, -, -, -⟩ := own_form ho6
         clear hb6 hl6 ho6 x0 x1 x2 x3 t0 t1
         go_wp2_with fail
         refine HH6.out.mono ?_
         rintro e w7 ⟨rfl, hb7⟩
         have HB7 := Lib.hid (HB6.out.trans (hb7.mono HB6.out.size))
         have HX7 : Hid (∃ vg vu vf vc, PX w7 k5 vg vu vf vc p2) := Lib.hid (by obtain ⟨a, b, c, d, h⟩ := HX6.out; exact ⟨a, b, c, d, h.below hb7⟩)
         have HV7 := Lib.hid (HV6.out.below hb7)
         have HF7 := Lib.hid (HF6.out.below hb7)
         clear hb7
         go_wp2
         go_roundw
         case rel => exact ⟨q + 1, p2, ⟨rt2, sz2⟩, by omega, by go_num, HX7, HV7, HF7, HK2, HW2, HW3, HB7⟩
         case measure => simp [intOf] <;> omega

      have HK2 := HK
      have HW2 := HW
      have HW3 := HW1
      have HXS := HX2
      have HVS := HV
      have HFS := HF
      have HBS := HB
      obtain ⟨S, hS⟩ : ∃ S, S = wr := ⟨_, rfl⟩
      rw [← hS] at HXS HVS HFS HBS
      obtain ⟨p2, hp2⟩ : ∃ p2, p2 = p := ⟨_, rfl⟩
      obtain ⟨rt2, hrt2⟩ : ∃ rt2, rt2 = rt := ⟨_, rfl⟩
      obtain ⟨sz2, hsz2⟩ : ∃ sz2, sz2 = sz := ⟨_, rfl⟩
      rw [← hp2] at HK2 HW2 HW3 HXS
      rw [← hrt2, ← hsz2] at HW2 HVS
      clear hp2 hrt2 hsz2
      go_upto_region 23 with fail
      rw [← hS]
      clear hS x0 x1 x2 x3 u0 u1 c0 c1 c2 c3
      obtain ⟨x0, x1, x2, x3, -⟩ := block4 HXS.out.blk
      obtain ⟨t0, t1⟩ := block2 HFS.out
      simp only [] at t0 t1
      have HIt := Lib.hid (items_pl rt1 zs.length _ _ _ _ p2 0 500 1 S HXS.out.pa HK2.out r0 r1 (by omega))
      rw [HW3.out.items] at HIt
      go_wp2_with fail
      refine HIt.out.mono ?_
      rintro e w6 ⟨⟨hnn, -⟩ | ⟨l6, v6, hl6, rfl, ho6⟩, hb6⟩
      · cases hnn
      obtain rfl : l6 = zs := by cases hl6; rfl
      have HB6 := Lib.hid (HBS.out.trans (hb6.mono HBS.out.size))
      have HH6 := Lib.hid (handles_eq v6 A cap l6 _ w6 ho6 (HR.out.below HB6.out) (by omega))
      have HX6 : Hid (∃ vg vu vf vc, PX w6 k5 vg vu vf vc p2) := Lib.hid ⟨_, _, _, _, HXS.out.below hb6⟩
      have HV6 := Lib.hid (HVS.out.below hb6)
      have HF6 := Lib.hid (HFS.out.below hb6)
      obtain ⟨p6, c6, rfl, -, -, -⟩ := own_form ho6
      clear hb6 hl6 ho6 x0 x1 x2 x3 t0 t1
      go_wp2_with fail
      refine HH6.out.mono ?_
      rintro e w7 ⟨rfl, hb7⟩
      have HB7 := Lib.hid (HB6.out.trans (hb7.mono HB6.out.size))
      have HX7 : Hid (∃ vg vu vf vc, PX w7 k5 vg vu vf vc p2) := Lib.hid (by obtain ⟨a, b, c, d, h⟩ := HX6.out; exact ⟨a, b, c, d, h.below hb7⟩)
      have HV7 := Lib.hid (HV6.out.below hb7)
      have HF7 := Lib.hid (HF6.out.below hb7)
      clear hb7
      go_wp2
      go_roundw
      case rel => exact ⟨q + 1, p2, ⟨rt2, sz2⟩, by omega, by go_num, HX7, HV7, HF7, HK2, HW2, HW3, HB7⟩
      case measure => simp [intOf] <;> omega

    · go_wp2
      go_ret
      exact ⟨rfl, HB.out⟩
set_option maxRecDepth 100000 in
theorem vecKeeps_open {H : Type} {enc : TypeId × Value → H} {W : World} {base : Nat} {v0 v1 : Value} {d0 d1 : DataW H} {p0 p1 : List MemPlace}
    (o0 : Value.okWide Try.prog W .any base 24 v0) (o1 : Value.okWide Try.prog W .any base 22 v1)
    (h0 : DataW.Trod enc Try.prog W 0 (fun _ => true) true 24 v0 d0 p0) (h1 : DataW.Trod enc Try.prog W 0 (fun _ => true) true 22 v1 d1 p1)
    (l0 : ∀ x ∈ p0, x.block < W.heap.size) (l1 : ∀ x ∈ p1, x.block < W.heap.size) :
    Calls Try.prog 4 #[v0, v1] W fun e w' => e = .returned (.bool true) ∧ Below W.heap.size W w' := by
  obtain ⟨A, ca, zs, rfl, hc, hm, hR, hU⟩ := u64s_open o0 h0 l0
  obtain ⟨B, n, cb, rfl, hn, hL⟩ := acts_open o1 h1 l1
  exact keeps_law A ca zs B n cb W hc hm hR hU hn hL
end Go.Proofs.Ytnlnfkjjfbgceaa
