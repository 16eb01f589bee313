/-
  The law VecLive.
-/
import Derived.Test.YtnlnfkjjfbgceaaVecFr
import Derived.Test.YtnlnfkjjfbgceaaVecPt
import Derived.Test.YtnlnfkjjfbgceaaRead
import Derived.RegionTactic
namespace Go.Proofs.Ytnlnfkjjfbgceaa
open Go.ChangeShapes Go.WideShapes Go.ChangeAt Go.RowKit
set_option linter.unusedVariables false
set_option linter.unusedSimpArgs false

theorem PK.mono {n : Nat} {G G' : Int} {p : Pl} (h : PK n G p) (hG : G ≤ G') : PK n G' p := ⟨h.ok.mono hG, h.len, h.four, h.u64⟩
theorem gone_small {n : Nat} {G : Int} {p : Pl} {v : Vc} {rows : List (List Int)} {T : Told} (hP : PK n G p) (hj : Just p rows.flatten) (h : Turned p v rows T) : T.gone.length ≤ 500 := by
  have hc := hj.count hP
  rw [al_count] at hc
  have h1 := List.count_le_length (a := true) (l := p.st.used.take n)
  rw [List.length_take] at h1
  have hs := hP.ok.small
  rcases h with ⟨_, _, e⟩ | ⟨items, rows', _, e, _⟩
  · rw [e]; simp
  · have := (kept_all rows' rows 0).length_eq
    rw [List.length_append, ← e] at this
    omega
/-- A pool told, and a vec, are laid into the variables of those ahead; rows of numbers stay. -/
theorem lay_both2 {w0 V w2 : World} {k kv b : Nat} {a1 a2 a3 a4 : Value} {p0 p1 : Pl} {v0 : Vc} {vg vu vf vc : Value} (hX : PX V k a1 a2 a3 a4 p0) (hV : VX V kv v0) (hb : Below V.heap.size V w2) (hpa : PA w2 b vg vu vf vc p1) (h0 : Below w0.heap.size w0 V) (hk : w0.heap.size ≤ k) (hkv : w0.heap.size ≤ kv) (rt : Int) (sz : Nat) :
    ∃ S, S = (((((w2.setCell ⟨k, 0, none⟩ vg).setCell ⟨k, 1, none⟩ vu).setCell ⟨k, 2, none⟩ vf).setCell ⟨k, 3, none⟩ vc).setCell ⟨kv, 0, none⟩ (.int .u64 rt)).setCell ⟨kv, 1, none⟩ (.int .i64 sz) ∧
      PX S k vg vu vf vc p1 ∧ VX S kv ⟨rt, sz⟩ ∧ Below w0.heap.size w0 S ∧ (∀ base n v xs, w2.ownsRow base 41 1 v n xs → S.ownsRow base 41 1 v n xs) := by
  have hne : k ≠ kv := fun e => by
    have := hX.blk
    rw [e, hV] at this
    cases this
  obtain ⟨S, hS, hSx, hSb, hSs, hSj⟩ := lay_step hX hb hpa h0 hk
  have hk2 := (hb.block k (lt_of_block hX.blk)).trans hX.blk
  have hv2 : w2.heap[kv]? = some (.cells #[.int .u64 v0.root, .int .i64 v0.size] 43 (0, 0)) := (hb.block kv (lt_of_block hV)).trans hV
  have hvS := (hSj kv (Ne.symm hne)).trans hv2
  refine ⟨_, by rw [← hS], ⟨?_, hSx.pa.set2t hvS _ _⟩, heap_s2 hvS _ _, below_set2 hSb hkv _ _, fun base n v xs ho => ?_⟩
  · rw [set2_other _ _ _ hne]
    exact hSx.blk
  · refine own_set2t ?_ hvS (by decide) _ _
    rw [hS]
    exact own_set4t ho hk2 (by decide) _ _ _ _

set_option maxRecDepth 100000 in
set_option maxHeartbeats 16000000 in
theorem live_law (B : Option Addr) (m cb : Nat) (w : World) (hm : m ≤ maxLen) (hL : AL w B m) :
    Calls Try.prog 5 #[.slice B m cb] w (GivesV (.bool true) w) := by
  unfold maxLen at hm
  have HL := Lib.hid hL
  clear hL
  by_cases hz : 60 < m
  · have hz' : (60 : Int) < (m : Int) := by omega
    go_enter Try.func5, Try.ntmps5
    go_wp2_with fail
    refine (shown_true w).mono ?_
    rintro e w1 ⟨rfl, hb⟩
    have HB := Lib.hid hb
    clear hb
    go_wp2
    go_ret
    exact ⟨rfl, HB.out⟩
  have hz' : ¬ (60 : Int) < (m : Int) := by omega
  have HN := Lib.hid (fun w => newV_ok 500 w (by decide))
  have HK0 : Hid (PK 500 1 (freshP 500)) := Lib.hid (freshP_ok (by decide))
  have HJ0 : Hid (Just (freshP 500) ([] : List (List Int)).flatten) := Lib.hid (just_fresh 500)
  have HW0 : Hid (WF (freshP 500) ⟨0, 0⟩ [] []) := Lib.hid (WF.empty _)
  generalize freshP 500 = p0 at *
  go_enter Try.func5, Try.ntmps5
  go_wp2_with fail
  refine (shown_true w).mono ?_
  rintro e w0 ⟨rfl, hb0⟩
  have HB0 := Lib.hid hb0
  clear hb0
  go_wp2_with fail
  refine (HN.out w0).mono ?_
  rintro e w1 ⟨a1, a2, a3, a4, rfl, hpa, hb⟩
  obtain ⟨pg1, cg1, pu1, cu1, pf1, cf1, pc1, cc1, rfl, rfl, rfl, rfl⟩ := hpa.form
  obtain ⟨V1, hV1⟩ : ∃ V1, V1 = w1.alloc (.cells #[.slice pg1 p0.st.gens.length cg1, .slice pu1 p0.st.used.length cu1, .slice pf1 p0.st.free.length cf1, .slice pc1 p0.ch.length cc1] 31) := ⟨_, rfl⟩
  have hB1 : Below w.heap.size w V1 := by rw [hV1]; exact (HB0.out.trans (hb.mono HB0.out.size)).alloc (Nat.le_trans HB0.out.size hb.size) _
  have hX1 : PX V1 w1.heap.size (.slice pg1 p0.st.gens.length cg1) (.slice pu1 p0.st.used.length cu1) (.slice pf1 p0.st.free.length cf1) (.slice pc1 p0.ch.length cc1) p0 := by rw [hV1]; exact ⟨heap_alloc_new _ _, (hpa.drop (Nat.zero_le _)).below ((Below.refl _ _).alloc (Nat.le_refl _) _)⟩
  have hw01 : w.heap.size ≤ w1.heap.size := Nat.le_trans HB0.out.size hb.size
  obtain ⟨V3, hV3, hVx3, hVv3, hVb3, hVs3⟩ := lay_vec hX1 hB1 0 0
  have HX3' : Hid (∃ vg vu vf vc, PX V3 w1.heap.size vg vu vf vc p0) := Lib.hid ⟨_, _, _, _, hVx3⟩
  have HV3 : Hid (VX V3 V1.heap.size ⟨0, 0⟩) := Lib.hid hVv3
  have HB3 := Lib.hid hVb3
  have hk35 : w1.heap.size < V1.heap.size := lt_of_block hX1.blk
  have hs1 : V1.heap.size = w1.heap.size + 1 := by rw [hV1]; simp
  rw [hV1] at hV3
  go_wp2_with fail
  rw [show ((0 : Nat) : Int) = 0 from rfl] at hV3
  rw [← hV3]
  rw [← hs1]
  clear hV1 hV3 hpa hb hVx3 hVv3 hVb3 hVs3 hX1 hB1
  generalize hk3 : w1.heap.size = k3 at *
  generalize hk5 : V1.heap.size = k5 at *
  clear hs1
  go_loopw [6] (fun i wr => ∃ (q : Nat) (p : Pl) (v : Vc), q ≤ m ∧ i = .int .i64 q ∧ Hid (∃ vg vu vf vc, PX wr k3 vg vu vf vc p) ∧ Hid (VX wr k5 v) ∧ Hid (PK 500 (1 + 500 * (q : Int)) p) ∧ Hid (∃ l rows, WF p v l rows ∧ Just p rows.flatten) ∧ Hid (Below w.heap.size w wr)) (fun i _ => m - (intOf i).toNat)
  case atStart => exact ⟨0, p0, ⟨0, 0⟩, Nat.zero_le _, rfl, HX3', HV3, HK0, Lib.hid ⟨_, _, HW0.out, HJ0.out⟩, HB3⟩
  case round =>
    obtain ⟨q, p, ⟨rt, sz⟩, hq, rfl, HX, HV, HK, HW, HB⟩ := hrel
    by_cases hlt : q < m
    · have q0 : (0 : Int) ≤ (q : Int) := by omega
      have q1 : (q : Int) < (m : Int) := by omega
      obtain ⟨vg, vu, vf, vc, HXX⟩ := HX.out
      obtain ⟨pg, cg, pu, cu, pf, cf, pc, cc, rfl, rfl, rfl, rfl⟩ := HXX.pa.form
      have HX2 := Lib.hid HXX
      clear HX HXX
      obtain ⟨g, off, hBe, hg, kd, ai, ax, Bz, cz, zz, ha⟩ := HL.out q hlt
      subst hBe
      have ha := ha.below hg HB.out
      have hgw : g < wr.heap.size := Nat.lt_of_lt_of_le hg HB.out.size
      have HA := Lib.hid ha
      obtain ⟨hi0, hi1⟩ := ha.i64
      obtain ⟨hx0, hx1⟩ := ha.x64
      obtain ⟨hc0, hc1⟩ := ha.cap
      have c0 := ha.c0
      have c1 := ha.c1
      have c2 := ha.c2
      have c3 := ha.c3
      clear ha
      by_cases h250 : 250 < zz.length
      · have h2' : (250 : Int) < (zz.length : Int) := by omega
        go_wp2_with fail
        refine (shown_true wr).mono ?_
        rintro e w3 ⟨rfl, hb⟩
        have HB' := Lib.hid (HB.out.trans (hb.mono HB.out.size))
        clear hb
        go_wp2
        go_ret
        exact ⟨rfl, HB'.out⟩
      have h2' : ¬ (250 : Int) < (zz.length : Int) := by omega
      go_upto_region 13 with fail
      obtain ⟨W, hW⟩ : ∃ W, W = wr.alloc (.cells #[] 41) := ⟨_, rfl⟩
      have hbW : Below wr.heap.size wr W := by rw [hW]; exact (Below.refl _ _).alloc (Nat.le_refl _) _
      have HX2 := Lib.hid (HX2.out.below hbW)
      have HV := Lib.hid (HV.out.below hbW)
      have HA := Lib.hid (HA.out.below hgw hbW)
      have HB := Lib.hid (HB.out.trans (hbW.mono HB.out.size))
      rw [← hW]
      clear c0 c1 c2 c3 hW hbW
      have c0 := HA.out.c0
      have c1 := HA.out.c1
      have c2 := HA.out.c2
      have c3 := HA.out.c3
      generalize hwr : wr.heap.size = kw at *
      clear hwr
      obtain ⟨x0, x1, x2, x3, -⟩ := block4 HX2.out.blk
      obtain ⟨u0, u1⟩ := block2 HV.out
      simp only [] at u0 u1
      obtain ⟨lz, rowz, hWz, hJz⟩ := HW.out
      obtain ⟨r0', r1'⟩ := hWz.b64
      have hsz : sz ≤ 200 := by have := hWz.size; have := hWz.small; simp only [] at *; omega
      have HWz := Lib.hid hWz
      have HJz := Lib.hid hJz
      have HIl : Hid (∀ l, p.items ⟨rt, sz⟩ = some l → l.length = sz ∧ U64 l) := Lib.hid (fun l he => by rw [HWz.out.items] at he; cases he; exact ⟨HWz.out.size.symm, HWz.out.u64⟩)
      simp only [] at r0' r1'
      clear hWz hJz
      have hGq : (1 + 500 * (q : Int)) ≤ 1099511620000 := by omega
      have hGq' : (1 + 500 * (q : Int)) ≤ 1099511627775 := by omega
      have hltk3 := lt_of_block HX2.out.blk
      have hltk5 := lt_of_block HV.out
      have hke3 : w.heap.size ≤ k3 := hw01
      have hke5 : w.heap.size ≤ k5 := by omega
      have ne1 : k3 ≠ k5 := by omega
      have ne2 : k5 ≠ k3 := by omega

      by_cases hkd0 : kd = 0
      · subst hkd0
        obtain ⟨T, hT⟩ : ∃ T, p.setV ⟨rt, sz⟩ ai ax = T := ⟨_, rfl⟩
        have HCa := Lib.hid (fun (W : World) (hA : PA W 0 (.slice pg p.st.gens.length cg) (.slice pu p.st.used.length cu) (.slice pf p.st.free.length cf) (.slice pc p.ch.length cc) p) => setV_pl rt sz ai ax _ _ _ _ p 0 500 (1 + 500 * (q : Int)) W hA HK.out r0' r1' hsz hGq' (by decide) hx0 hx1 hi0 hi1 HIl.out)
        have HT := Lib.hid (setV_turn HK.out hGq' HWz.out ai ⟨hx0, hx1⟩)
        rw [hT] at HCa HT
        clear hT
        obtain ⟨hGB, q', hfr, hKq, lq, rowq, hWq, hJq⟩ := HT.out.frees HK.out hGq' HWz.out HJz.out
        have hgs := gone_small HK.out HJz.out HT.out
        obtain ⟨hKT, -, -⟩ := HT.out.keeps HK.out hGq' HWz.out
        have HKT := Lib.hid hKT
        have HGB := Lib.hid hGB
        have HFR := Lib.hid hfr
        have HKq : Hid (PK 500 (1 + 500 * ((q + 1 : Nat) : Int)) q') := Lib.hid (hKq.mono (by omega))
        have HWq := Lib.hid hWq
        have HJq := Lib.hid hJq
        clear hKT hGB hfr hKq hWq hJq HT
        obtain ⟨p2, ⟨rt2, sz2⟩, gn2, er2⟩ := T
        simp only [] at *
        go_upto_region 15 with fail
        refine wp_region_reads 12 #[true, true, true, true, true, true, true, true, true, true, true, true, false, false, false, false, false, false, false, false, false] (by kernel_rfl) (by kernel_rfl) (by kernel_rfl) ?_
        simp only [List.take_succ_cons, List.take_zero]
        repeat still_step
        refine wpStill_nil ?_
        show wpAny _ _ _ _ 9 _ _ _
        refine wpAny_ready (rs := [12]) (by kernel_rfl) (by simp) ?_
        refine AllReady.cons rfl (fun K hK => ?_) AllReady.nil
        go_simp
        go_at_call 10
        refine (HCa.out W.drew (HX2.out.pa.below (Below.refl _ _).drew)).mono ?_
        rintro e w3 ⟨b1, b2, b3, b4, b5, rfl, hpa, hol, hb⟩
        obtain ⟨pg3, cg3, pu3, cu3, pf3, cf3, pc3, cc3, rfl, rfl, rfl, rfl⟩ := hpa.form
        obtain ⟨p5_3, c5_3, rfl, hcl, hcm, -⟩ := own_form hol
        simp only [] at hpa hol
        have hb' : Below W.heap.size W w3 := (Below.refl _ _).drew.trans hb
        obtain ⟨d0, d1, d2, d3, y0, y1, y2, y3⟩ := block4 ((hb'.block k3 hltk3).trans HX2.out.blk)
        obtain ⟨e0, e1, z0, z1⟩ := block2f ((hb'.block k5 hltk5).trans HV.out)
        have HPA := Lib.hid hpa
        have HOL := Lib.hid hol
        have HBB := Lib.hid hb'
        clear hb hpa hol hb'
        go_simp
        refine hK _ _ ?_
        clear hK K
        refine wpAny_take (i := 13) (v := ?_) rfl (by kernel_rfl) (by kernel_rfl) (by kernel_rfl) (fun _ _ _ h => h) (Or.inl ⟨by rfl, ?hy⟩) ?_
        case hy => (intro W; go_simp; first | done | with_reducible rfl)
        refine wpAny_take (i := 14) (v := ?_) rfl (by kernel_rfl) (by kernel_rfl) (by kernel_rfl) (fun _ _ _ h => h) (Or.inl ⟨by rfl, ?hy⟩) ?_
        case hy => (intro W; go_simp; first | done | with_reducible rfl)
        refine wpAny_take (i := 15) (v := ?_) rfl (by kernel_rfl) (by kernel_rfl) (by kernel_rfl) (fun _ _ _ h => h) (Or.inl ⟨by rfl, ?hy⟩) ?_
        case hy => (intro W; go_simp; first | done | with_reducible rfl)
        refine wpAny_take (i := 16) (v := ?_) rfl (by kernel_rfl) (by kernel_rfl) (by kernel_rfl) (fun _ _ _ h => h) (Or.inl ⟨by rfl, ?hy⟩) ?_
        case hy => (intro W; go_simp; first | done | with_reducible rfl)
        refine wpAny_take (i := 17) (v := ?_) rfl (by kernel_rfl) (by kernel_rfl) (by kernel_rfl) (fun _ _ _ h => h) (Or.inl ⟨by rfl, ?hy⟩) ?_
        case hy => (intro W; go_simp; first | done | with_reducible rfl)
        refine wpAny_ready (rs := [18]) (by kernel_rfl) (by simp) ?_
        refine AllReady.cons rfl (fun K hK => ?_) AllReady.nil
        go_simp
        refine hK _ _ ?_
        clear hK K
        refine wpAny_ready (rs := [19]) (by kernel_rfl) (by simp) ?_
        refine AllReady.cons rfl (fun K hK => ?_) AllReady.nil
        go_simp
        refine hK _ _ ?_
        clear hK K
        refine wpAny_ready (rs := [20]) (by kernel_rfl) (by simp) ?_
        refine AllReady.cons rfl (fun K hK => ?_) AllReady.nil
        go_simp
        refine hK _ _ ?_
        clear hK K
        refine wpAny_done (by kernel_rfl) ?_ _
        obtain ⟨S, hS, hSx, hSv, hSb, hSo⟩ := lay_both2 HX2.out HV.out HBB.out HPA.out HB.out hke3 hke5 rt2 sz2
        have HXS := Lib.hid hSx
        have HVS := Lib.hid hSv
        have HBS := Lib.hid hSb
        have HRS : Hid (RL S p5_3 gn2) := Lib.hid (RL.of_own (hSo _ _ _ _ HOL.out))
        clear x0 x1 x2 x3 u0 u1 c0 c1 c2 c3 d0 d1 d2 d3 y0 y1 y2 y3 e0 e1 z0 z1
        clear hSx hSv hSb hSo
        go_upto_region 23 with fail
        rw [← hS]
        clear hS
        obtain ⟨x0, x1, x2, x3, -⟩ := block4 HXS.out.blk
        have HFc := Lib.hid (fun (hc1 : gn2.length ≤ c5_3) (hc2 : c5_3 ≤ 9223372036854775807) => free_ok gn2 p5_3 c5_3 _ _ _ _ p2 q' 0 500 (1 + 500 * (q : Int)) S HXS.out.pa HKT.out HRS.out hc1 hc2 (by omega) HGB.out hGq (by decide) HFR.out)
        obtain ⟨ln, hln⟩ : ∃ ln, gn2.length = ln := ⟨_, rfl⟩
        rw [hln] at HFc
        try rw [hln]
        have HLN := Lib.hid hln
        clear hln
        go_wp2_with fail
        refine (HFc.out (by have := HLN.out; omega) (by have hcm' := hcm; unfold maxLen at hcm'; omega)).mono ?_
        rintro e w4 ⟨n1, n2, n3, n4, rfl, hpa4, hb4⟩
        obtain ⟨pg4, cg4, pu4, cu4, pf4, cf4, pc4, cc4, rfl, rfl, rfl, rfl⟩ := hpa4.form
        obtain ⟨V4, hV4⟩ : ∃ V4, V4 = w4.alloc (.cells #[.slice pg4 q'.st.gens.length cg4, .slice pu4 q'.st.used.length cu4, .slice pf4 q'.st.free.length cf4, .slice pc4 q'.ch.length cc4] 31) := ⟨_, rfl⟩
        have hb44 : Below S.heap.size S V4 := by rw [hV4]; exact hb4.alloc hb4.size _
        have HB4 : Hid (Below w.heap.size w V4) := Lib.hid (HBS.out.trans (hb44.mono HBS.out.size))
        have HX4 : Hid (PX V4 w4.heap.size (.slice pg4 q'.st.gens.length cg4) (.slice pu4 q'.st.used.length cu4) (.slice pf4 q'.st.free.length cf4) (.slice pc4 q'.ch.length cc4) q') := Lib.hid (by rw [hV4]; exact ⟨heap_alloc_new _ _, (hpa4.drop (Nat.zero_le _)).below ((Below.refl _ _).alloc (Nat.le_refl _) _)⟩)
        have HV4 := Lib.hid (HVS.out.below hb44)
        have HX3 := Lib.hid (HXS.out.below hb44)
        have hk4 : w.heap.size ≤ w4.heap.size := Nat.le_trans HBS.out.size hb4.size
        have hk34 : k3 < w4.heap.size := Nat.lt_of_lt_of_le (lt_of_block HXS.out.blk) hb4.size
        have hkv4 : k5 < w4.heap.size := Nat.lt_of_lt_of_le (lt_of_block HVS.out) hb4.size
        clear x0 x1 x2 x3 hpa4 hb4 hb44
        go_upto_region 24 with fail
        rw [← hV4]
        clear hV4
        generalize hk8 : w4.heap.size = k8 at *
        clear hk8
        obtain ⟨r2, r3⟩ := HWq.out.b64
        simp only [] at r2 r3
        have hsz2 : sz2 ≤ 200 := by have := HWq.out.size; have := HWq.out.small; simp only [] at *; omega
        have HRe := Lib.hid (reach_pl rt2 sz2 _ _ _ _ q' 0 500 _ V4 HX4.out.pa HKq.out r2 r3 (by omega))
        rw [show lvs sz2 = lvs (Vc.mk rt2 sz2).size from rfl, show [rt2] = [(Vc.mk rt2 sz2).root] from rfl, HWq.out.down] at HRe
        obtain ⟨x0, x1, x2, x3, -⟩ := block4 HX4.out.blk
        obtain ⟨u0, u1⟩ := block2 HV4.out
        simp only [] at u0 u1
        go_wp2_with fail
        refine HRe.out.mono ?_
        rintro e w5 ⟨v5, rfl, ho5, hb5⟩
        have ho5' : w5.ownsRow V4.heap.size 41 1 v5 rowq.flatten.length (gvs rowq.flatten) := ho5
        obtain ⟨F, hF⟩ : ∃ F, rowq.flatten.length = F := ⟨_, rfl⟩
        rw [hF] at ho5'
        have HAc : Hid ((q'.st.al q'.st.gens.length).length = F) := Lib.hid (by rw [HKq.out.ok.gens, HJq.out.count HKq.out]; exact hF)
        clear hF
        obtain ⟨q5, c5, rfl, -, -, -⟩ := own_form ho5'
        have HX5 := Lib.hid (HX4.out.below hb5)
        have HV5 := Lib.hid (HV4.out.below hb5)
        have HX35 := Lib.hid (HX3.out.below hb5)
        have HB5 := Lib.hid (HB4.out.trans (hb5.mono HB4.out.size))
        clear ho5 ho5' hb5 x0 x1 x2 x3 u0 u1
        obtain ⟨x0, x1, x2, x3, -⟩ := block4 HX5.out.blk
        have HPo := Lib.hid (pool_pl _ _ _ _ q' 0 500 _ w5 HX5.out.pa HKq.out)
        go_wp2_with fail
        refine HPo.out.mono ?_
        rintro e w7 ⟨v7, rfl, ho7, hb7⟩
        have HA7 := Lib.hid (HX5.out.pa.ar.below hb7)
        have HB7 := Lib.hid (HB5.out.trans (hb7.mono HB5.out.size))
        have HX7 := Lib.hid (HX5.out.below hb7)
        have HV7 := Lib.hid (HV5.out.below hb7)
        have HX37 := Lib.hid (HX35.out.below hb7)
        have hFS := run_fieldS (.slice pg4 q'.st.gens.length cg4) (.slice pu4 q'.st.used.length cu4) (.slice pf4 q'.st.free.length cf4) v7
        have HAl := Lib.hid (refall_any _ _ _ q'.st 0 w7 HA7.out (by rw [HKq.out.ok.gens]; decide) (by rw [HKq.out.ok.gens, HKq.out.ok.used]) (fun i hi => by have := HKq.out.ok.gen (i := i) (by rw [HKq.out.ok.gens] at hi; exact hi); omega))
        clear ho7 hb7 x0 x1 x2 x3
        generalize q'.st.al q'.st.gens.length = AL' at *
        go_wp2_with fail
        refine HAl.out.mono ?_
        rintro e w8 ⟨v8, rfl, ho8, hb8⟩
        rw [gvs_length, HAc.out] at ho8
        obtain ⟨q8, c8, rfl, -, -, -⟩ := own_form ho8
        have HB8 := Lib.hid (HB7.out.trans (hb8.mono HB7.out.size))
        have HX8 := Lib.hid (HX7.out.below hb8)
        have HV8 := Lib.hid (HV7.out.below hb8)
        have HX38 := Lib.hid (HX37.out.below hb8)
        clear ho8 hb8
        obtain ⟨x0, x1, x2, x3, -⟩ := block4 HX8.out.blk
        obtain ⟨d0, d1, d2, d3, y0, y1, y2, y3⟩ := block4 HX38.out.blk
        obtain ⟨S9, hS9, hSx, hSb, hSs, hSj⟩ := lay_step HX38.out (Below.refl _ _) HX8.out.pa HB8.out hke3
        have HX9 : Hid (∃ vg vu vf vc, PX S9 k3 vg vu vf vc q') := Lib.hid ⟨_, _, _, _, hSx⟩
        have HV9 : Hid (VX S9 k5 ⟨rt2, sz2⟩) := Lib.hid ((hSj k5 ne2).trans HV8.out)
        have HB9 := Lib.hid hSb
        clear hSx hSb hSs hSj
        go_wp2
        rw [← hS9]
        go_roundw
        case rel => exact ⟨q + 1, q', ⟨rt2, sz2⟩, by omega, by go_num, HX9, HV9, HKq, Lib.hid ⟨_, _, HWq.out, HJq.out⟩, HB9⟩
        case measure => simp [intOf] <;> omega

      by_cases hkd1 : kd = 1
      · subst hkd1
        obtain ⟨T, hT⟩ : ∃ T, p.insertV ⟨rt, sz⟩ ai ax = T := ⟨_, rfl⟩
        have HCa := Lib.hid (fun (W : World) (hA : PA W 0 (.slice pg p.st.gens.length cg) (.slice pu p.st.used.length cu) (.slice pf p.st.free.length cf) (.slice pc p.ch.length cc) p) => insertV_pl rt sz ai ax _ _ _ _ p 0 500 (1 + 500 * (q : Int)) W hA HK.out r0' r1' hsz hGq' (by decide) hx0 hx1 hi0 hi1 HIl.out)
        have HT := Lib.hid (insertV_turn HK.out hGq' HWz.out ai ⟨hx0, hx1⟩)
        rw [hT] at HCa HT
        clear hT
        obtain ⟨hGB, q', hfr, hKq, lq, rowq, hWq, hJq⟩ := HT.out.frees HK.out hGq' HWz.out HJz.out
        have hgs := gone_small HK.out HJz.out HT.out
        obtain ⟨hKT, -, -⟩ := HT.out.keeps HK.out hGq' HWz.out
        have HKT := Lib.hid hKT
        have HGB := Lib.hid hGB
        have HFR := Lib.hid hfr
        have HKq : Hid (PK 500 (1 + 500 * ((q + 1 : Nat) : Int)) q') := Lib.hid (hKq.mono (by omega))
        have HWq := Lib.hid hWq
        have HJq := Lib.hid hJq
        clear hKT hGB hfr hKq hWq hJq HT
        obtain ⟨p2, ⟨rt2, sz2⟩, gn2, er2⟩ := T
        simp only [] at *
        go_upto_region 18 with fail
        refine wp_region_reads 12 #[true, true, true, true, true, true, true, true, true, true, true, true, false, false, false, false, false, false, false, false, false] (by kernel_rfl) (by kernel_rfl) (by kernel_rfl) ?_
        simp only [List.take_succ_cons, List.take_zero]
        repeat still_step
        refine wpStill_nil ?_
        show wpAny _ _ _ _ 9 _ _ _
        refine wpAny_ready (rs := [12]) (by kernel_rfl) (by simp) ?_
        refine AllReady.cons rfl (fun K hK => ?_) AllReady.nil
        go_simp
        go_at_call 12
        refine (HCa.out W.drew (HX2.out.pa.below (Below.refl _ _).drew)).mono ?_
        rintro e w3 ⟨b1, b2, b3, b4, b5, rfl, hpa, hol, hb⟩
        obtain ⟨pg3, cg3, pu3, cu3, pf3, cf3, pc3, cc3, rfl, rfl, rfl, rfl⟩ := hpa.form
        obtain ⟨p5_3, c5_3, rfl, hcl, hcm, -⟩ := own_form hol
        simp only [] at hpa hol
        have hb' : Below W.heap.size W w3 := (Below.refl _ _).drew.trans hb
        obtain ⟨d0, d1, d2, d3, y0, y1, y2, y3⟩ := block4 ((hb'.block k3 hltk3).trans HX2.out.blk)
        obtain ⟨e0, e1, z0, z1⟩ := block2f ((hb'.block k5 hltk5).trans HV.out)
        have HPA := Lib.hid hpa
        have HOL := Lib.hid hol
        have HBB := Lib.hid hb'
        clear hb hpa hol hb'
        go_simp
        refine hK _ _ ?_
        clear hK K
        refine wpAny_take (i := 13) (v := ?_) rfl (by kernel_rfl) (by kernel_rfl) (by kernel_rfl) (fun _ _ _ h => h) (Or.inl ⟨by rfl, ?hy⟩) ?_
        case hy => (intro W; go_simp; first | done | with_reducible rfl)
        refine wpAny_take (i := 14) (v := ?_) rfl (by kernel_rfl) (by kernel_rfl) (by kernel_rfl) (fun _ _ _ h => h) (Or.inl ⟨by rfl, ?hy⟩) ?_
        case hy => (intro W; go_simp; first | done | with_reducible rfl)
        refine wpAny_take (i := 15) (v := ?_) rfl (by kernel_rfl) (by kernel_rfl) (by kernel_rfl) (fun _ _ _ h => h) (Or.inl ⟨by rfl, ?hy⟩) ?_
        case hy => (intro W; go_simp; first | done | with_reducible rfl)
        refine wpAny_take (i := 16) (v := ?_) rfl (by kernel_rfl) (by kernel_rfl) (by kernel_rfl) (fun _ _ _ h => h) (Or.inl ⟨by rfl, ?hy⟩) ?_
        case hy => (intro W; go_simp; first | done | with_reducible rfl)
        refine wpAny_take (i := 17) (v := ?_) rfl (by kernel_rfl) (by kernel_rfl) (by kernel_rfl) (fun _ _ _ h => h) (Or.inl ⟨by rfl, ?hy⟩) ?_
        case hy => (intro W; go_simp; first | done | with_reducible rfl)
        refine wpAny_ready (rs := [18]) (by kernel_rfl) (by simp) ?_
        refine AllReady.cons rfl (fun K hK => ?_) AllReady.nil
        go_simp
        refine hK _ _ ?_
        clear hK K
        refine wpAny_ready (rs := [19]) (by kernel_rfl) (by simp) ?_
        refine AllReady.cons rfl (fun K hK => ?_) AllReady.nil
        go_simp
        refine hK _ _ ?_
        clear hK K
        refine wpAny_ready (rs := [20]) (by kernel_rfl) (by simp) ?_
        refine AllReady.cons rfl (fun K hK => ?_) AllReady.nil
        go_simp
        refine hK _ _ ?_
        clear hK K
        refine wpAny_done (by kernel_rfl) ?_ _
        obtain ⟨S, hS, hSx, hSv, hSb, hSo⟩ := lay_both2 HX2.out HV.out HBB.out HPA.out HB.out hke3 hke5 rt2 sz2
        have HXS := Lib.hid hSx
        have HVS := Lib.hid hSv
        have HBS := Lib.hid hSb
        have HRS : Hid (RL S p5_3 gn2) := Lib.hid (RL.of_own (hSo _ _ _ _ HOL.out))
        clear x0 x1 x2 x3 u0 u1 c0 c1 c2 c3 d0 d1 d2 d3 y0 y1 y2 y3 e0 e1 z0 z1
        clear hSx hSv hSb hSo
        go_upto_region 23 with fail
        rw [← hS]
        clear hS
        obtain ⟨x0, x1, x2, x3, -⟩ := block4 HXS.out.blk
        have HFc := Lib.hid (fun (hc1 : gn2.length ≤ c5_3) (hc2 : c5_3 ≤ 9223372036854775807) => free_ok gn2 p5_3 c5_3 _ _ _ _ p2 q' 0 500 (1 + 500 * (q : Int)) S HXS.out.pa HKT.out HRS.out hc1 hc2 (by omega) HGB.out hGq (by decide) HFR.out)
        obtain ⟨ln, hln⟩ : ∃ ln, gn2.length = ln := ⟨_, rfl⟩
        rw [hln] at HFc
        try rw [hln]
        have HLN := Lib.hid hln
        clear hln
        go_wp2_with fail
        refine (HFc.out (by have := HLN.out; omega) (by have hcm' := hcm; unfold maxLen at hcm'; omega)).mono ?_
        rintro e w4 ⟨n1, n2, n3, n4, rfl, hpa4, hb4⟩
        obtain ⟨pg4, cg4, pu4, cu4, pf4, cf4, pc4, cc4, rfl, rfl, rfl, rfl⟩ := hpa4.form
        obtain ⟨V4, hV4⟩ : ∃ V4, V4 = w4.alloc (.cells #[.slice pg4 q'.st.gens.length cg4, .slice pu4 q'.st.used.length cu4, .slice pf4 q'.st.free.length cf4, .slice pc4 q'.ch.length cc4] 31) := ⟨_, rfl⟩
        have hb44 : Below S.heap.size S V4 := by rw [hV4]; exact hb4.alloc hb4.size _
        have HB4 : Hid (Below w.heap.size w V4) := Lib.hid (HBS.out.trans (hb44.mono HBS.out.size))
        have HX4 : Hid (PX V4 w4.heap.size (.slice pg4 q'.st.gens.length cg4) (.slice pu4 q'.st.used.length cu4) (.slice pf4 q'.st.free.length cf4) (.slice pc4 q'.ch.length cc4) q') := Lib.hid (by rw [hV4]; exact ⟨heap_alloc_new _ _, (hpa4.drop (Nat.zero_le _)).below ((Below.refl _ _).alloc (Nat.le_refl _) _)⟩)
        have HV4 := Lib.hid (HVS.out.below hb44)
        have HX3 := Lib.hid (HXS.out.below hb44)
        have hk4 : w.heap.size ≤ w4.heap.size := Nat.le_trans HBS.out.size hb4.size
        have hk34 : k3 < w4.heap.size := Nat.lt_of_lt_of_le (lt_of_block HXS.out.blk) hb4.size
        have hkv4 : k5 < w4.heap.size := Nat.lt_of_lt_of_le (lt_of_block HVS.out) hb4.size
        clear x0 x1 x2 x3 hpa4 hb4 hb44
        go_upto_region 24 with fail
        rw [← hV4]
        clear hV4
        generalize hk8 : w4.heap.size = k8 at *
        clear hk8
        obtain ⟨r2, r3⟩ := HWq.out.b64
        simp only [] at r2 r3
        have hsz2 : sz2 ≤ 200 := by have := HWq.out.size; have := HWq.out.small; simp only [] at *; omega
        have HRe := Lib.hid (reach_pl rt2 sz2 _ _ _ _ q' 0 500 _ V4 HX4.out.pa HKq.out r2 r3 (by omega))
        rw [show lvs sz2 = lvs (Vc.mk rt2 sz2).size from rfl, show [rt2] = [(Vc.mk rt2 sz2).root] from rfl, HWq.out.down] at HRe
        obtain ⟨x0, x1, x2, x3, -⟩ := block4 HX4.out.blk
        obtain ⟨u0, u1⟩ := block2 HV4.out
        simp only [] at u0 u1
        go_wp2_with fail
        refine HRe.out.mono ?_
        rintro e w5 ⟨v5, rfl, ho5, hb5⟩
        have ho5' : w5.ownsRow V4.heap.size 41 1 v5 rowq.flatten.length (gvs rowq.flatten) := ho5
        obtain ⟨F, hF⟩ : ∃ F, rowq.flatten.length = F := ⟨_, rfl⟩
        rw [hF] at ho5'
        have HAc : Hid ((q'.st.al q'.st.gens.length).length = F) := Lib.hid (by rw [HKq.out.ok.gens, HJq.out.count HKq.out]; exact hF)
        clear hF
        obtain ⟨q5, c5, rfl, -, -, -⟩ := own_form ho5'
        have HX5 := Lib.hid (HX4.out.below hb5)
        have HV5 := Lib.hid (HV4.out.below hb5)
        have HX35 := Lib.hid (HX3.out.below hb5)
        have HB5 := Lib.hid (HB4.out.trans (hb5.mono HB4.out.size))
        clear ho5 ho5' hb5 x0 x1 x2 x3 u0 u1
        obtain ⟨x0, x1, x2, x3, -⟩ := block4 HX5.out.blk
        have HPo := Lib.hid (pool_pl _ _ _ _ q' 0 500 _ w5 HX5.out.pa HKq.out)
        go_wp2_with fail
        refine HPo.out.mono ?_
        rintro e w7 ⟨v7, rfl, ho7, hb7⟩
        have HA7 := Lib.hid (HX5.out.pa.ar.below hb7)
        have HB7 := Lib.hid (HB5.out.trans (hb7.mono HB5.out.size))
        have HX7 := Lib.hid (HX5.out.below hb7)
        have HV7 := Lib.hid (HV5.out.below hb7)
        have HX37 := Lib.hid (HX35.out.below hb7)
        have hFS := run_fieldS (.slice pg4 q'.st.gens.length cg4) (.slice pu4 q'.st.used.length cu4) (.slice pf4 q'.st.free.length cf4) v7
        have HAl := Lib.hid (refall_any _ _ _ q'.st 0 w7 HA7.out (by rw [HKq.out.ok.gens]; decide) (by rw [HKq.out.ok.gens, HKq.out.ok.used]) (fun i hi => by have := HKq.out.ok.gen (i := i) (by rw [HKq.out.ok.gens] at hi; exact hi); omega))
        clear ho7 hb7 x0 x1 x2 x3
        generalize q'.st.al q'.st.gens.length = AL' at *
        go_wp2_with fail
        refine HAl.out.mono ?_
        rintro e w8 ⟨v8, rfl, ho8, hb8⟩
        rw [gvs_length, HAc.out] at ho8
        obtain ⟨q8, c8, rfl, -, -, -⟩ := own_form ho8
        have HB8 := Lib.hid (HB7.out.trans (hb8.mono HB7.out.size))
        have HX8 := Lib.hid (HX7.out.below hb8)
        have HV8 := Lib.hid (HV7.out.below hb8)
        have HX38 := Lib.hid (HX37.out.below hb8)
        clear ho8 hb8
        obtain ⟨x0, x1, x2, x3, -⟩ := block4 HX8.out.blk
        obtain ⟨d0, d1, d2, d3, y0, y1, y2, y3⟩ := block4 HX38.out.blk
        obtain ⟨S9, hS9, hSx, hSb, hSs, hSj⟩ := lay_step HX38.out (Below.refl _ _) HX8.out.pa HB8.out hke3
        have HX9 : Hid (∃ vg vu vf vc, PX S9 k3 vg vu vf vc q') := Lib.hid ⟨_, _, _, _, hSx⟩
        have HV9 : Hid (VX S9 k5 ⟨rt2, sz2⟩) := Lib.hid ((hSj k5 ne2).trans HV8.out)
        have HB9 := Lib.hid hSb
        clear hSx hSb hSs hSj
        go_wp2
        rw [← hS9]
        go_roundw
        case rel => exact ⟨q + 1, q', ⟨rt2, sz2⟩, by omega, by go_num, HX9, HV9, HKq, Lib.hid ⟨_, _, HWq.out, HJq.out⟩, HB9⟩
        case measure => simp [intOf] <;> omega

      by_cases hkd2 : kd = 2
      · subst hkd2
        obtain ⟨T, hT⟩ : ∃ T, p.insertV ⟨rt, sz⟩ ai ax = T := ⟨_, rfl⟩
        have HCa := Lib.hid (fun (W : World) (hA : PA W 0 (.slice pg p.st.gens.length cg) (.slice pu p.st.used.length cu) (.slice pf p.st.free.length cf) (.slice pc p.ch.length cc) p) => insertV_pl rt sz ai ax _ _ _ _ p 0 500 (1 + 500 * (q : Int)) W hA HK.out r0' r1' hsz hGq' (by decide) hx0 hx1 hi0 hi1 HIl.out)
        have HT := Lib.hid (insertV_turn HK.out hGq' HWz.out ai ⟨hx0, hx1⟩)
        rw [hT] at HCa HT
        clear hT
        obtain ⟨hGB, q', hfr, hKq, lq, rowq, hWq, hJq⟩ := HT.out.frees HK.out hGq' HWz.out HJz.out
        have hgs := gone_small HK.out HJz.out HT.out
        obtain ⟨hKT, -, -⟩ := HT.out.keeps HK.out hGq' HWz.out
        have HKT := Lib.hid hKT
        have HGB := Lib.hid hGB
        have HFR := Lib.hid hfr
        have HKq : Hid (PK 500 (1 + 500 * ((q + 1 : Nat) : Int)) q') := Lib.hid (hKq.mono (by omega))
        have HWq := Lib.hid hWq
        have HJq := Lib.hid hJq
        clear hKT hGB hfr hKq hWq hJq HT
        obtain ⟨p2, ⟨rt2, sz2⟩, gn2, er2⟩ := T
        simp only [] at *
        go_upto_region 18 with fail
        refine wp_region_reads 12 #[true, true, true, true, true, true, true, true, true, true, true, true, false, false, false, false, false, false, false, false, false] (by kernel_rfl) (by kernel_rfl) (by kernel_rfl) ?_
        simp only [List.take_succ_cons, List.take_zero]
        repeat still_step
        refine wpStill_nil ?_
        show wpAny _ _ _ _ 9 _ _ _
        refine wpAny_ready (rs := [12]) (by kernel_rfl) (by simp) ?_
        refine AllReady.cons rfl (fun K hK => ?_) AllReady.nil
        go_simp
        go_at_call 12
        refine (HCa.out W.drew (HX2.out.pa.below (Below.refl _ _).drew)).mono ?_
        rintro e w3 ⟨b1, b2, b3, b4, b5, rfl, hpa, hol, hb⟩
        obtain ⟨pg3, cg3, pu3, cu3, pf3, cf3, pc3, cc3, rfl, rfl, rfl, rfl⟩ := hpa.form
        obtain ⟨p5_3, c5_3, rfl, hcl, hcm, -⟩ := own_form hol
        simp only [] at hpa hol
        have hb' : Below W.heap.size W w3 := (Below.refl _ _).drew.trans hb
        obtain ⟨d0, d1, d2, d3, y0, y1, y2, y3⟩ := block4 ((hb'.block k3 hltk3).trans HX2.out.blk)
        obtain ⟨e0, e1, z0, z1⟩ := block2f ((hb'.block k5 hltk5).trans HV.out)
        have HPA := Lib.hid hpa
        have HOL := Lib.hid hol
        have HBB := Lib.hid hb'
        clear hb hpa hol hb'
        go_simp
        refine hK _ _ ?_
        clear hK K
        refine wpAny_take (i := 13) (v := ?_) rfl (by kernel_rfl) (by kernel_rfl) (by kernel_rfl) (fun _ _ _ h => h) (Or.inl ⟨by rfl, ?hy⟩) ?_
        case hy => (intro W; go_simp; first | done | with_reducible rfl)
        refine wpAny_take (i := 14) (v := ?_) rfl (by kernel_rfl) (by kernel_rfl) (by kernel_rfl) (fun _ _ _ h => h) (Or.inl ⟨by rfl, ?hy⟩) ?_
        case hy => (intro W; go_simp; first | done | with_reducible rfl)
        refine wpAny_take (i := 15) (v := ?_) rfl (by kernel_rfl) (by kernel_rfl) (by kernel_rfl) (fun _ _ _ h => h) (Or.inl ⟨by rfl, ?hy⟩) ?_
        case hy => (intro W; go_simp; first | done | with_reducible rfl)
        refine wpAny_take (i := 16) (v := ?_) rfl (by kernel_rfl) (by kernel_rfl) (by kernel_rfl) (fun _ _ _ h => h) (Or.inl ⟨by rfl, ?hy⟩) ?_
        case hy => (intro W; go_simp; first | done | with_reducible rfl)
        refine wpAny_take (i := 17) (v := ?_) rfl (by kernel_rfl) (by kernel_rfl) (by kernel_rfl) (fun _ _ _ h => h) (Or.inl ⟨by rfl, ?hy⟩) ?_
        case hy => (intro W; go_simp; first | done | with_reducible rfl)
        refine wpAny_ready (rs := [18]) (by kernel_rfl) (by simp) ?_
        refine AllReady.cons rfl (fun K hK => ?_) AllReady.nil
        go_simp
        refine hK _ _ ?_
        clear hK K
        refine wpAny_ready (rs := [19]) (by kernel_rfl) (by simp) ?_
        refine AllReady.cons rfl (fun K hK => ?_) AllReady.nil
        go_simp
        refine hK _ _ ?_
        clear hK K
        refine wpAny_ready (rs := [20]) (by kernel_rfl) (by simp) ?_
        refine AllReady.cons rfl (fun K hK => ?_) AllReady.nil
        go_simp
        refine hK _ _ ?_
        clear hK K
        refine wpAny_done (by kernel_rfl) ?_ _
        obtain ⟨S, hS, hSx, hSv, hSb, hSo⟩ := lay_both2 HX2.out HV.out HBB.out HPA.out HB.out hke3 hke5 rt2 sz2
        have HXS := Lib.hid hSx
        have HVS := Lib.hid hSv
        have HBS := Lib.hid hSb
        have HRS : Hid (RL S p5_3 gn2) := Lib.hid (RL.of_own (hSo _ _ _ _ HOL.out))
        clear x0 x1 x2 x3 u0 u1 c0 c1 c2 c3 d0 d1 d2 d3 y0 y1 y2 y3 e0 e1 z0 z1
        clear hSx hSv hSb hSo
        go_upto_region 23 with fail
        rw [← hS]
        clear hS
        obtain ⟨x0, x1, x2, x3, -⟩ := block4 HXS.out.blk
        have HFc := Lib.hid (fun (hc1 : gn2.length ≤ c5_3) (hc2 : c5_3 ≤ 9223372036854775807) => free_ok gn2 p5_3 c5_3 _ _ _ _ p2 q' 0 500 (1 + 500 * (q : Int)) S HXS.out.pa HKT.out HRS.out hc1 hc2 (by omega) HGB.out hGq (by decide) HFR.out)
        obtain ⟨ln, hln⟩ : ∃ ln, gn2.length = ln := ⟨_, rfl⟩
        rw [hln] at HFc
        try rw [hln]
        have HLN := Lib.hid hln
        clear hln
        go_wp2_with fail
        refine (HFc.out (by have := HLN.out; omega) (by have hcm' := hcm; unfold maxLen at hcm'; omega)).mono ?_
        rintro e w4 ⟨n1, n2, n3, n4, rfl, hpa4, hb4⟩
        obtain ⟨pg4, cg4, pu4, cu4, pf4, cf4, pc4, cc4, rfl, rfl, rfl, rfl⟩ := hpa4.form
        obtain ⟨V4, hV4⟩ : ∃ V4, V4 = w4.alloc (.cells #[.slice pg4 q'.st.gens.length cg4, .slice pu4 q'.st.used.length cu4, .slice pf4 q'.st.free.length cf4, .slice pc4 q'.ch.length cc4] 31) := ⟨_, rfl⟩
        have hb44 : Below S.heap.size S V4 := by rw [hV4]; exact hb4.alloc hb4.size _
        have HB4 : Hid (Below w.heap.size w V4) := Lib.hid (HBS.out.trans (hb44.mono HBS.out.size))
        have HX4 : Hid (PX V4 w4.heap.size (.slice pg4 q'.st.gens.length cg4) (.slice pu4 q'.st.used.length cu4) (.slice pf4 q'.st.free.length cf4) (.slice pc4 q'.ch.length cc4) q') := Lib.hid (by rw [hV4]; exact ⟨heap_alloc_new _ _, (hpa4.drop (Nat.zero_le _)).below ((Below.refl _ _).alloc (Nat.le_refl _) _)⟩)
        have HV4 := Lib.hid (HVS.out.below hb44)
        have HX3 := Lib.hid (HXS.out.below hb44)
        have hk4 : w.heap.size ≤ w4.heap.size := Nat.le_trans HBS.out.size hb4.size
        have hk34 : k3 < w4.heap.size := Nat.lt_of_lt_of_le (lt_of_block HXS.out.blk) hb4.size
        have hkv4 : k5 < w4.heap.size := Nat.lt_of_lt_of_le (lt_of_block HVS.out) hb4.size
        clear x0 x1 x2 x3 hpa4 hb4 hb44
        go_upto_region 24 with fail
        rw [← hV4]
        clear hV4
        generalize hk8 : w4.heap.size = k8 at *
        clear hk8
        obtain ⟨r2, r3⟩ := HWq.out.b64
        simp only [] at r2 r3
        have hsz2 : sz2 ≤ 200 := by have := HWq.out.size; have := HWq.out.small; simp only [] at *; omega
        have HRe := Lib.hid (reach_pl rt2 sz2 _ _ _ _ q' 0 500 _ V4 HX4.out.pa HKq.out r2 r3 (by omega))
        rw [show lvs sz2 = lvs (Vc.mk rt2 sz2).size from rfl, show [rt2] = [(Vc.mk rt2 sz2).root] from rfl, HWq.out.down] at HRe
        obtain ⟨x0, x1, x2, x3, -⟩ := block4 HX4.out.blk
        obtain ⟨u0, u1⟩ := block2 HV4.out
        simp only [] at u0 u1
        go_wp2_with fail
        refine HRe.out.mono ?_
        rintro e w5 ⟨v5, rfl, ho5, hb5⟩
        have ho5' : w5.ownsRow V4.heap.size 41 1 v5 rowq.flatten.length (gvs rowq.flatten) := ho5
        obtain ⟨F, hF⟩ : ∃ F, rowq.flatten.length = F := ⟨_, rfl⟩
        rw [hF] at ho5'
        have HAc : Hid ((q'.st.al q'.st.gens.length).length = F) := Lib.hid (by rw [HKq.out.ok.gens, HJq.out.count HKq.out]; exact hF)
        clear hF
        obtain ⟨q5, c5, rfl, -, -, -⟩ := own_form ho5'
        have HX5 := Lib.hid (HX4.out.below hb5)
        have HV5 := Lib.hid (HV4.out.below hb5)
        have HX35 := Lib.hid (HX3.out.below hb5)
        have HB5 := Lib.hid (HB4.out.trans (hb5.mono HB4.out.size))
        clear ho5 ho5' hb5 x0 x1 x2 x3 u0 u1
        obtain ⟨x0, x1, x2, x3, -⟩ := block4 HX5.out.blk
        have HPo := Lib.hid (pool_pl _ _ _ _ q' 0 500 _ w5 HX5.out.pa HKq.out)
        go_wp2_with fail
        refine HPo.out.mono ?_
        rintro e w7 ⟨v7, rfl, ho7, hb7⟩
        have HA7 := Lib.hid (HX5.out.pa.ar.below hb7)
        have HB7 := Lib.hid (HB5.out.trans (hb7.mono HB5.out.size))
        have HX7 := Lib.hid (HX5.out.below hb7)
        have HV7 := Lib.hid (HV5.out.below hb7)
        have HX37 := Lib.hid (HX35.out.below hb7)
        have hFS := run_fieldS (.slice pg4 q'.st.gens.length cg4) (.slice pu4 q'.st.used.length cu4) (.slice pf4 q'.st.free.length cf4) v7
        have HAl := Lib.hid (refall_any _ _ _ q'.st 0 w7 HA7.out (by rw [HKq.out.ok.gens]; decide) (by rw [HKq.out.ok.gens, HKq.out.ok.used]) (fun i hi => by have := HKq.out.ok.gen (i := i) (by rw [HKq.out.ok.gens] at hi; exact hi); omega))
        clear ho7 hb7 x0 x1 x2 x3
        generalize q'.st.al q'.st.gens.length = AL' at *
        go_wp2_with fail
        refine HAl.out.mono ?_
        rintro e w8 ⟨v8, rfl, ho8, hb8⟩
        rw [gvs_length, HAc.out] at ho8
        obtain ⟨q8, c8, rfl, -, -, -⟩ := own_form ho8
        have HB8 := Lib.hid (HB7.out.trans (hb8.mono HB7.out.size))
        have HX8 := Lib.hid (HX7.out.below hb8)
        have HV8 := Lib.hid (HV7.out.below hb8)
        have HX38 := Lib.hid (HX37.out.below hb8)
        clear ho8 hb8
        obtain ⟨x0, x1, x2, x3, -⟩ := block4 HX8.out.blk
        obtain ⟨d0, d1, d2, d3, y0, y1, y2, y3⟩ := block4 HX38.out.blk
        obtain ⟨S9, hS9, hSx, hSb, hSs, hSj⟩ := lay_step HX38.out (Below.refl _ _) HX8.out.pa HB8.out hke3
        have HX9 : Hid (∃ vg vu vf vc, PX S9 k3 vg vu vf vc q') := Lib.hid ⟨_, _, _, _, hSx⟩
        have HV9 : Hid (VX S9 k5 ⟨rt2, sz2⟩) := Lib.hid ((hSj k5 ne2).trans HV8.out)
        have HB9 := Lib.hid hSb
        clear hSx hSb hSs hSj
        go_wp2
        rw [← hS9]
        go_roundw
        case rel => exact ⟨q + 1, q', ⟨rt2, sz2⟩, by omega, by go_num, HX9, HV9, HKq, Lib.hid ⟨_, _, HWq.out, HJq.out⟩, HB9⟩
        case measure => simp [intOf] <;> omega

      by_cases hkd3 : kd = 3
      · subst hkd3
        obtain ⟨T, hT⟩ : ∃ T, p.removeV ⟨rt, sz⟩ ai = T := ⟨_, rfl⟩
        have HCa := Lib.hid (fun (W : World) (hA : PA W 0 (.slice pg p.st.gens.length cg) (.slice pu p.st.used.length cu) (.slice pf p.st.free.length cf) (.slice pc p.ch.length cc) p) => removeV_pl rt sz ai _ _ _ _ p 0 500 (1 + 500 * (q : Int)) W hA HK.out r0' r1' hsz hGq' (by decide) hi0 hi1 HIl.out)
        have HT := Lib.hid (removeV_turn HK.out hGq' HWz.out ai)
        rw [hT] at HCa HT
        clear hT
        obtain ⟨hGB, q', hfr, hKq, lq, rowq, hWq, hJq⟩ := HT.out.frees HK.out hGq' HWz.out HJz.out
        have hgs := gone_small HK.out HJz.out HT.out
        obtain ⟨hKT, -, -⟩ := HT.out.keeps HK.out hGq' HWz.out
        have HKT := Lib.hid hKT
        have HGB := Lib.hid hGB
        have HFR := Lib.hid hfr
        have HKq : Hid (PK 500 (1 + 500 * ((q + 1 : Nat) : Int)) q') := Lib.hid (hKq.mono (by omega))
        have HWq := Lib.hid hWq
        have HJq := Lib.hid hJq
        clear hKT hGB hfr hKq hWq hJq HT
        obtain ⟨p2, ⟨rt2, sz2⟩, gn2, er2⟩ := T
        simp only [] at *
        go_upto_region 20 with fail
        refine wp_region_reads 7 #[true, true, true, true, true, true, true, false, false, false, false, false, false, false, false, false] (by kernel_rfl) (by kernel_rfl) (by kernel_rfl) ?_
        simp only [List.take_succ_cons, List.take_zero]
        repeat still_step
        refine wpStill_nil ?_
        show wpAny _ _ _ _ 9 _ _ _
        refine wpAny_ready (rs := [7]) (by kernel_rfl) (by simp) ?_
        refine AllReady.cons rfl (fun K hK => ?_) AllReady.nil
        go_simp
        go_at_call 14
        refine (HCa.out W.drew (HX2.out.pa.below (Below.refl _ _).drew)).mono ?_
        rintro e w3 ⟨b1, b2, b3, b4, b5, rfl, hpa, hol, hb⟩
        obtain ⟨pg3, cg3, pu3, cu3, pf3, cf3, pc3, cc3, rfl, rfl, rfl, rfl⟩ := hpa.form
        obtain ⟨p5_3, c5_3, rfl, hcl, hcm, -⟩ := own_form hol
        simp only [] at hpa hol
        have hb' : Below W.heap.size W w3 := (Below.refl _ _).drew.trans hb
        obtain ⟨d0, d1, d2, d3, y0, y1, y2, y3⟩ := block4 ((hb'.block k3 hltk3).trans HX2.out.blk)
        obtain ⟨e0, e1, z0, z1⟩ := block2f ((hb'.block k5 hltk5).trans HV.out)
        have HPA := Lib.hid hpa
        have HOL := Lib.hid hol
        have HBB := Lib.hid hb'
        clear hb hpa hol hb'
        go_simp
        refine hK _ _ ?_
        clear hK K
        refine wpAny_take (i := 8) (v := ?_) rfl (by kernel_rfl) (by kernel_rfl) (by kernel_rfl) (fun _ _ _ h => h) (Or.inl ⟨by rfl, ?hy⟩) ?_
        case hy => (intro W; go_simp; first | done | with_reducible rfl)
        refine wpAny_take (i := 9) (v := ?_) rfl (by kernel_rfl) (by kernel_rfl) (by kernel_rfl) (fun _ _ _ h => h) (Or.inl ⟨by rfl, ?hy⟩) ?_
        case hy => (intro W; go_simp; first | done | with_reducible rfl)
        refine wpAny_take (i := 10) (v := ?_) rfl (by kernel_rfl) (by kernel_rfl) (by kernel_rfl) (fun _ _ _ h => h) (Or.inl ⟨by rfl, ?hy⟩) ?_
        case hy => (intro W; go_simp; first | done | with_reducible rfl)
        refine wpAny_take (i := 11) (v := ?_) rfl (by kernel_rfl) (by kernel_rfl) (by kernel_rfl) (fun _ _ _ h => h) (Or.inl ⟨by rfl, ?hy⟩) ?_
        case hy => (intro W; go_simp; first | done | with_reducible rfl)
        refine wpAny_take (i := 12) (v := ?_) rfl (by kernel_rfl) (by kernel_rfl) (by kernel_rfl) (fun _ _ _ h => h) (Or.inl ⟨by rfl, ?hy⟩) ?_
        case hy => (intro W; go_simp; first | done | with_reducible rfl)
        refine wpAny_ready (rs := [13]) (by kernel_rfl) (by simp) ?_
        refine AllReady.cons rfl (fun K hK => ?_) AllReady.nil
        go_simp
        refine hK _ _ ?_
        clear hK K
        refine wpAny_ready (rs := [14]) (by kernel_rfl) (by simp) ?_
        refine AllReady.cons rfl (fun K hK => ?_) AllReady.nil
        go_simp
        refine hK _ _ ?_
        clear hK K
        refine wpAny_ready (rs := [15]) (by kernel_rfl) (by simp) ?_
        refine AllReady.cons rfl (fun K hK => ?_) AllReady.nil
        go_simp
        refine hK _ _ ?_
        clear hK K
        refine wpAny_done (by kernel_rfl) ?_ _
        obtain ⟨S, hS, hSx, hSv, hSb, hSo⟩ := lay_both2 HX2.out HV.out HBB.out HPA.out HB.out hke3 hke5 rt2 sz2
        have HXS := Lib.hid hSx
        have HVS := Lib.hid hSv
        have HBS := Lib.hid hSb
        have HRS : Hid (RL S p5_3 gn2) := Lib.hid (RL.of_own (hSo _ _ _ _ HOL.out))
        clear x0 x1 x2 x3 u0 u1 c0 c1 c2 c3 d0 d1 d2 d3 y0 y1 y2 y3 e0 e1 z0 z1
        clear hSx hSv hSb hSo
        go_upto_region 23 with fail
        rw [← hS]
        clear hS
        obtain ⟨x0, x1, x2, x3, -⟩ := block4 HXS.out.blk
        have HFc := Lib.hid (fun (hc1 : gn2.length ≤ c5_3) (hc2 : c5_3 ≤ 9223372036854775807) => free_ok gn2 p5_3 c5_3 _ _ _ _ p2 q' 0 500 (1 + 500 * (q : Int)) S HXS.out.pa HKT.out HRS.out hc1 hc2 (by omega) HGB.out hGq (by decide) HFR.out)
        obtain ⟨ln, hln⟩ : ∃ ln, gn2.length = ln := ⟨_, rfl⟩
        rw [hln] at HFc
        try rw [hln]
        have HLN := Lib.hid hln
        clear hln
        go_wp2_with fail
        refine (HFc.out (by have := HLN.out; omega) (by have hcm' := hcm; unfold maxLen at hcm'; omega)).mono ?_
        rintro e w4 ⟨n1, n2, n3, n4, rfl, hpa4, hb4⟩
        obtain ⟨pg4, cg4, pu4, cu4, pf4, cf4, pc4, cc4, rfl, rfl, rfl, rfl⟩ := hpa4.form
        obtain ⟨V4, hV4⟩ : ∃ V4, V4 = w4.alloc (.cells #[.slice pg4 q'.st.gens.length cg4, .slice pu4 q'.st.used.length cu4, .slice pf4 q'.st.free.length cf4, .slice pc4 q'.ch.length cc4] 31) := ⟨_, rfl⟩
        have hb44 : Below S.heap.size S V4 := by rw [hV4]; exact hb4.alloc hb4.size _
        have HB4 : Hid (Below w.heap.size w V4) := Lib.hid (HBS.out.trans (hb44.mono HBS.out.size))
        have HX4 : Hid (PX V4 w4.heap.size (.slice pg4 q'.st.gens.length cg4) (.slice pu4 q'.st.used.length cu4) (.slice pf4 q'.st.free.length cf4) (.slice pc4 q'.ch.length cc4) q') := Lib.hid (by rw [hV4]; exact ⟨heap_alloc_new _ _, (hpa4.drop (Nat.zero_le _)).below ((Below.refl _ _).alloc (Nat.le_refl _) _)⟩)
        have HV4 := Lib.hid (HVS.out.below hb44)
        have HX3 := Lib.hid (HXS.out.below hb44)
        have hk4 : w.heap.size ≤ w4.heap.size := Nat.le_trans HBS.out.size hb4.size
        have hk34 : k3 < w4.heap.size := Nat.lt_of_lt_of_le (lt_of_block HXS.out.blk) hb4.size
        have hkv4 : k5 < w4.heap.size := Nat.lt_of_lt_of_le (lt_of_block HVS.out) hb4.size
        clear x0 x1 x2 x3 hpa4 hb4 hb44
        go_upto_region 24 with fail
        rw [← hV4]
        clear hV4
        generalize hk8 : w4.heap.size = k8 at *
        clear hk8
        obtain ⟨r2, r3⟩ := HWq.out.b64
        simp only [] at r2 r3
        have hsz2 : sz2 ≤ 200 := by have := HWq.out.size; have := HWq.out.small; simp only [] at *; omega
        have HRe := Lib.hid (reach_pl rt2 sz2 _ _ _ _ q' 0 500 _ V4 HX4.out.pa HKq.out r2 r3 (by omega))
        rw [show lvs sz2 = lvs (Vc.mk rt2 sz2).size from rfl, show [rt2] = [(Vc.mk rt2 sz2).root] from rfl, HWq.out.down] at HRe
        obtain ⟨x0, x1, x2, x3, -⟩ := block4 HX4.out.blk
        obtain ⟨u0, u1⟩ := block2 HV4.out
        simp only [] at u0 u1
        go_wp2_with fail
        refine HRe.out.mono ?_
        rintro e w5 ⟨v5, rfl, ho5, hb5⟩
        have ho5' : w5.ownsRow V4.heap.size 41 1 v5 rowq.flatten.length (gvs rowq.flatten) := ho5
        obtain ⟨F, hF⟩ : ∃ F, rowq.flatten.length = F := ⟨_, rfl⟩
        rw [hF] at ho5'
        have HAc : Hid ((q'.st.al q'.st.gens.length).length = F) := Lib.hid (by rw [HKq.out.ok.gens, HJq.out.count HKq.out]; exact hF)
        clear hF
        obtain ⟨q5, c5, rfl, -, -, -⟩ := own_form ho5'
        have HX5 := Lib.hid (HX4.out.below hb5)
        have HV5 := Lib.hid (HV4.out.below hb5)
        have HX35 := Lib.hid (HX3.out.below hb5)
        have HB5 := Lib.hid (HB4.out.trans (hb5.mono HB4.out.size))
        clear ho5 ho5' hb5 x0 x1 x2 x3 u0 u1
        obtain ⟨x0, x1, x2, x3, -⟩ := block4 HX5.out.blk
        have HPo := Lib.hid (pool_pl _ _ _ _ q' 0 500 _ w5 HX5.out.pa HKq.out)
        go_wp2_with fail
        refine HPo.out.mono ?_
        rintro e w7 ⟨v7, rfl, ho7, hb7⟩
        have HA7 := Lib.hid (HX5.out.pa.ar.below hb7)
        have HB7 := Lib.hid (HB5.out.trans (hb7.mono HB5.out.size))
        have HX7 := Lib.hid (HX5.out.below hb7)
        have HV7 := Lib.hid (HV5.out.below hb7)
        have HX37 := Lib.hid (HX35.out.below hb7)
        have hFS := run_fieldS (.slice pg4 q'.st.gens.length cg4) (.slice pu4 q'.st.used.length cu4) (.slice pf4 q'.st.free.length cf4) v7
        have HAl := Lib.hid (refall_any _ _ _ q'.st 0 w7 HA7.out (by rw [HKq.out.ok.gens]; decide) (by rw [HKq.out.ok.gens, HKq.out.ok.used]) (fun i hi => by have := HKq.out.ok.gen (i := i) (by rw [HKq.out.ok.gens] at hi; exact hi); omega))
        clear ho7 hb7 x0 x1 x2 x3
        generalize q'.st.al q'.st.gens.length = AL' at *
        go_wp2_with fail
        refine HAl.out.mono ?_
        rintro e w8 ⟨v8, rfl, ho8, hb8⟩
        rw [gvs_length, HAc.out] at ho8
        obtain ⟨q8, c8, rfl, -, -, -⟩ := own_form ho8
        have HB8 := Lib.hid (HB7.out.trans (hb8.mono HB7.out.size))
        have HX8 := Lib.hid (HX7.out.below hb8)
        have HV8 := Lib.hid (HV7.out.below hb8)
        have HX38 := Lib.hid (HX37.out.below hb8)
        clear ho8 hb8
        obtain ⟨x0, x1, x2, x3, -⟩ := block4 HX8.out.blk
        obtain ⟨d0, d1, d2, d3, y0, y1, y2, y3⟩ := block4 HX38.out.blk
        obtain ⟨S9, hS9, hSx, hSb, hSs, hSj⟩ := lay_step HX38.out (Below.refl _ _) HX8.out.pa HB8.out hke3
        have HX9 : Hid (∃ vg vu vf vc, PX S9 k3 vg vu vf vc q') := Lib.hid ⟨_, _, _, _, hSx⟩
        have HV9 : Hid (VX S9 k5 ⟨rt2, sz2⟩) := Lib.hid ((hSj k5 ne2).trans HV8.out)
        have HB9 := Lib.hid hSb
        clear hSx hSb hSs hSj
        go_wp2
        rw [← hS9]
        go_roundw
        case rel => exact ⟨q + 1, q', ⟨rt2, sz2⟩, by omega, by go_num, HX9, HV9, HKq, Lib.hid ⟨_, _, HWq.out, HJq.out⟩, HB9⟩
        case measure => simp [intOf] <;> omega

      by_cases hkd4 : kd = 4
      · subst hkd4
        obtain ⟨T, hT⟩ : ∃ T, p.change ⟨rt, sz⟩ zz = T := ⟨_, rfl⟩
        have HCa := Lib.hid (fun (W : World) (hA : PA W 0 (.slice pg p.st.gens.length cg) (.slice pu p.st.used.length cu) (.slice pf p.st.free.length cf) (.slice pc p.ch.length cc) p) (hI : RL W Bz zz) => change_rla rt sz zz Bz cz _ _ _ _ p 0 500 (1 + 500 * (q : Int)) W hA HK.out hI hc0 hc1 (by omega) HA.out.u64 r0' r1' (by omega) hGq' (by decide))
        have HT := Lib.hid (change_turn HK.out hGq' HWz.out HA.out.u64)
        rw [hT] at HCa HT
        clear hT
        obtain ⟨hGB, q', hfr, hKq, lq, rowq, hWq, hJq⟩ := HT.out.frees HK.out hGq' HWz.out HJz.out
        have hgs := gone_small HK.out HJz.out HT.out
        obtain ⟨hKT, -, -⟩ := HT.out.keeps HK.out hGq' HWz.out
        have HKT := Lib.hid hKT
        have HGB := Lib.hid hGB
        have HFR := Lib.hid hfr
        have HKq : Hid (PK 500 (1 + 500 * ((q + 1 : Nat) : Int)) q') := Lib.hid (hKq.mono (by omega))
        have HWq := Lib.hid hWq
        have HJq := Lib.hid hJq
        clear hKT hGB hfr hKq hWq hJq HT
        obtain ⟨p2, ⟨rt2, sz2⟩, gn2, er2⟩ := T
        simp only [] at *
        go_upto_region 22 with fail
        refine wp_region_reads 7 #[true, true, true, true, true, true, true, false, false, false, false, false, false, false, false, false] (by kernel_rfl) (by kernel_rfl) (by kernel_rfl) ?_
        simp only [List.take_succ_cons, List.take_zero]
        repeat still_step
        refine wpStill_nil ?_
        show wpAny _ _ _ _ 9 _ _ _
        refine wpAny_ready (rs := [7]) (by kernel_rfl) (by simp) ?_
        refine AllReady.cons rfl (fun K hK => ?_) AllReady.nil
        go_simp
        go_at_call 16
        refine (HCa.out W.drew (HX2.out.pa.below (Below.refl _ _).drew) (HA.out.rl.below (Below.refl _ _).drew)).mono ?_
        rintro e w3 ⟨b1, b2, b3, b4, b5, rfl, hpa, hol, hb⟩
        obtain ⟨pg3, cg3, pu3, cu3, pf3, cf3, pc3, cc3, rfl, rfl, rfl, rfl⟩ := hpa.form
        obtain ⟨p5_3, c5_3, rfl, hcl, hcm, -⟩ := own_form hol
        simp only [] at hpa hol
        have hb' : Below W.heap.size W w3 := (Below.refl _ _).drew.trans hb
        obtain ⟨d0, d1, d2, d3, y0, y1, y2, y3⟩ := block4 ((hb'.block k3 hltk3).trans HX2.out.blk)
        obtain ⟨e0, e1, z0, z1⟩ := block2f ((hb'.block k5 hltk5).trans HV.out)
        have HPA := Lib.hid hpa
        have HOL := Lib.hid hol
        have HBB := Lib.hid hb'
        clear hb hpa hol hb'
        go_simp
        refine hK _ _ ?_
        clear hK K
        refine wpAny_take (i := 8) (v := ?_) rfl (by kernel_rfl) (by kernel_rfl) (by kernel_rfl) (fun _ _ _ h => h) (Or.inl ⟨by rfl, ?hy⟩) ?_
        case hy => (intro W; go_simp; first | done | with_reducible rfl)
        refine wpAny_take (i := 9) (v := ?_) rfl (by kernel_rfl) (by kernel_rfl) (by kernel_rfl) (fun _ _ _ h => h) (Or.inl ⟨by rfl, ?hy⟩) ?_
        case hy => (intro W; go_simp; first | done | with_reducible rfl)
        refine wpAny_take (i := 10) (v := ?_) rfl (by kernel_rfl) (by kernel_rfl) (by kernel_rfl) (fun _ _ _ h => h) (Or.inl ⟨by rfl, ?hy⟩) ?_
        case hy => (intro W; go_simp; first | done | with_reducible rfl)
        refine wpAny_take (i := 11) (v := ?_) rfl (by kernel_rfl) (by kernel_rfl) (by kernel_rfl) (fun _ _ _ h => h) (Or.inl ⟨by rfl, ?hy⟩) ?_
        case hy => (intro W; go_simp; first | done | with_reducible rfl)
        refine wpAny_take (i := 12) (v := ?_) rfl (by kernel_rfl) (by kernel_rfl) (by kernel_rfl) (fun _ _ _ h => h) (Or.inl ⟨by rfl, ?hy⟩) ?_
        case hy => (intro W; go_simp; first | done | with_reducible rfl)
        refine wpAny_ready (rs := [13]) (by kernel_rfl) (by simp) ?_
        refine AllReady.cons rfl (fun K hK => ?_) AllReady.nil
        go_simp
        refine hK _ _ ?_
        clear hK K
        refine wpAny_ready (rs := [14]) (by kernel_rfl) (by simp) ?_
        refine AllReady.cons rfl (fun K hK => ?_) AllReady.nil
        go_simp
        refine hK _ _ ?_
        clear hK K
        refine wpAny_ready (rs := [15]) (by kernel_rfl) (by simp) ?_
        refine AllReady.cons rfl (fun K hK => ?_) AllReady.nil
        go_simp
        refine hK _ _ ?_
        clear hK K
        refine wpAny_done (by kernel_rfl) ?_ _
        obtain ⟨S, hS, hSx, hSv, hSb, hSo⟩ := lay_both2 HX2.out HV.out HBB.out HPA.out HB.out hke3 hke5 rt2 sz2
        have HXS := Lib.hid hSx
        have HVS := Lib.hid hSv
        have HBS := Lib.hid hSb
        have HRS : Hid (RL S p5_3 gn2) := Lib.hid (RL.of_own (hSo _ _ _ _ HOL.out))
        clear x0 x1 x2 x3 u0 u1 c0 c1 c2 c3 d0 d1 d2 d3 y0 y1 y2 y3 e0 e1 z0 z1
        clear hSx hSv hSb hSo
        go_upto_region 23 with fail
        rw [← hS]
        clear hS
        obtain ⟨x0, x1, x2, x3, -⟩ := block4 HXS.out.blk
        have HFc := Lib.hid (fun (hc1 : gn2.length ≤ c5_3) (hc2 : c5_3 ≤ 9223372036854775807) => free_ok gn2 p5_3 c5_3 _ _ _ _ p2 q' 0 500 (1 + 500 * (q : Int)) S HXS.out.pa HKT.out HRS.out hc1 hc2 (by omega) HGB.out hGq (by decide) HFR.out)
        obtain ⟨ln, hln⟩ : ∃ ln, gn2.length = ln := ⟨_, rfl⟩
        rw [hln] at HFc
        try rw [hln]
        have HLN := Lib.hid hln
        clear hln
        go_wp2_with fail
        refine (HFc.out (by have := HLN.out; omega) (by have hcm' := hcm; unfold maxLen at hcm'; omega)).mono ?_
        rintro e w4 ⟨n1, n2, n3, n4, rfl, hpa4, hb4⟩
        obtain ⟨pg4, cg4, pu4, cu4, pf4, cf4, pc4, cc4, rfl, rfl, rfl, rfl⟩ := hpa4.form
        obtain ⟨V4, hV4⟩ : ∃ V4, V4 = w4.alloc (.cells #[.slice pg4 q'.st.gens.length cg4, .slice pu4 q'.st.used.length cu4, .slice pf4 q'.st.free.length cf4, .slice pc4 q'.ch.length cc4] 31) := ⟨_, rfl⟩
        have hb44 : Below S.heap.size S V4 := by rw [hV4]; exact hb4.alloc hb4.size _
        have HB4 : Hid (Below w.heap.size w V4) := Lib.hid (HBS.out.trans (hb44.mono HBS.out.size))
        have HX4 : Hid (PX V4 w4.heap.size (.slice pg4 q'.st.gens.length cg4) (.slice pu4 q'.st.used.length cu4) (.slice pf4 q'.st.free.length cf4) (.slice pc4 q'.ch.length cc4) q') := Lib.hid (by rw [hV4]; exact ⟨heap_alloc_new _ _, (hpa4.drop (Nat.zero_le _)).below ((Below.refl _ _).alloc (Nat.le_refl _) _)⟩)
        have HV4 := Lib.hid (HVS.out.below hb44)
        have HX3 := Lib.hid (HXS.out.below hb44)
        have hk4 : w.heap.size ≤ w4.heap.size := Nat.le_trans HBS.out.size hb4.size
        have hk34 : k3 < w4.heap.size := Nat.lt_of_lt_of_le (lt_of_block HXS.out.blk) hb4.size
        have hkv4 : k5 < w4.heap.size := Nat.lt_of_lt_of_le (lt_of_block HVS.out) hb4.size
        clear x0 x1 x2 x3 hpa4 hb4 hb44
        go_upto_region 24 with fail
        rw [← hV4]
        clear hV4
        generalize hk8 : w4.heap.size = k8 at *
        clear hk8
        obtain ⟨r2, r3⟩ := HWq.out.b64
        simp only [] at r2 r3
        have hsz2 : sz2 ≤ 200 := by have := HWq.out.size; have := HWq.out.small; simp only [] at *; omega
        have HRe := Lib.hid (reach_pl rt2 sz2 _ _ _ _ q' 0 500 _ V4 HX4.out.pa HKq.out r2 r3 (by omega))
        rw [show lvs sz2 = lvs (Vc.mk rt2 sz2).size from rfl, show [rt2] = [(Vc.mk rt2 sz2).root] from rfl, HWq.out.down] at HRe
        obtain ⟨x0, x1, x2, x3, -⟩ := block4 HX4.out.blk
        obtain ⟨u0, u1⟩ := block2 HV4.out
        simp only [] at u0 u1
        go_wp2_with fail
        refine HRe.out.mono ?_
        rintro e w5 ⟨v5, rfl, ho5, hb5⟩
        have ho5' : w5.ownsRow V4.heap.size 41 1 v5 rowq.flatten.length (gvs rowq.flatten) := ho5
        obtain ⟨F, hF⟩ : ∃ F, rowq.flatten.length = F := ⟨_, rfl⟩
        rw [hF] at ho5'
        have HAc : Hid ((q'.st.al q'.st.gens.length).length = F) := Lib.hid (by rw [HKq.out.ok.gens, HJq.out.count HKq.out]; exact hF)
        clear hF
        obtain ⟨q5, c5, rfl, -, -, -⟩ := own_form ho5'
        have HX5 := Lib.hid (HX4.out.below hb5)
        have HV5 := Lib.hid (HV4.out.below hb5)
        have HX35 := Lib.hid (HX3.out.below hb5)
        have HB5 := Lib.hid (HB4.out.trans (hb5.mono HB4.out.size))
        clear ho5 ho5' hb5 x0 x1 x2 x3 u0 u1
        obtain ⟨x0, x1, x2, x3, -⟩ := block4 HX5.out.blk
        have HPo := Lib.hid (pool_pl _ _ _ _ q' 0 500 _ w5 HX5.out.pa HKq.out)
        go_wp2_with fail
        refine HPo.out.mono ?_
        rintro e w7 ⟨v7, rfl, ho7, hb7⟩
        have HA7 := Lib.hid (HX5.out.pa.ar.below hb7)
        have HB7 := Lib.hid (HB5.out.trans (hb7.mono HB5.out.size))
        have HX7 := Lib.hid (HX5.out.below hb7)
        have HV7 := Lib.hid (HV5.out.below hb7)
        have HX37 := Lib.hid (HX35.out.below hb7)
        have hFS := run_fieldS (.slice pg4 q'.st.gens.length cg4) (.slice pu4 q'.st.used.length cu4) (.slice pf4 q'.st.free.length cf4) v7
        have HAl := Lib.hid (refall_any _ _ _ q'.st 0 w7 HA7.out (by rw [HKq.out.ok.gens]; decide) (by rw [HKq.out.ok.gens, HKq.out.ok.used]) (fun i hi => by have := HKq.out.ok.gen (i := i) (by rw [HKq.out.ok.gens] at hi; exact hi); omega))
        clear ho7 hb7 x0 x1 x2 x3
        generalize q'.st.al q'.st.gens.length = AL' at *
        go_wp2_with fail
        refine HAl.out.mono ?_
        rintro e w8 ⟨v8, rfl, ho8, hb8⟩
        rw [gvs_length, HAc.out] at ho8
        obtain ⟨q8, c8, rfl, -, -, -⟩ := own_form ho8
        have HB8 := Lib.hid (HB7.out.trans (hb8.mono HB7.out.size))
        have HX8 := Lib.hid (HX7.out.below hb8)
        have HV8 := Lib.hid (HV7.out.below hb8)
        have HX38 := Lib.hid (HX37.out.below hb8)
        clear ho8 hb8
        obtain ⟨x0, x1, x2, x3, -⟩ := block4 HX8.out.blk
        obtain ⟨d0, d1, d2, d3, y0, y1, y2, y3⟩ := block4 HX38.out.blk
        obtain ⟨S9, hS9, hSx, hSb, hSs, hSj⟩ := lay_step HX38.out (Below.refl _ _) HX8.out.pa HB8.out hke3
        have HX9 : Hid (∃ vg vu vf vc, PX S9 k3 vg vu vf vc q') := Lib.hid ⟨_, _, _, _, hSx⟩
        have HV9 : Hid (VX S9 k5 ⟨rt2, sz2⟩) := Lib.hid ((hSj k5 ne2).trans HV8.out)
        have HB9 := Lib.hid hSb
        clear hSx hSb hSs hSj
        go_wp2
        rw [← hS9]
        go_roundw
        case rel => exact ⟨q + 1, q', ⟨rt2, sz2⟩, by omega, by go_num, HX9, HV9, HKq, Lib.hid ⟨_, _, HWq.out, HJq.out⟩, HB9⟩
        case measure => simp [intOf] <;> omega

      have HT : Hid (Turned p ⟨rt, sz⟩ rowz ⟨p, ⟨rt, sz⟩, [], 0⟩) := Lib.hid (.inl ⟨rfl, rfl, rfl⟩)
      obtain ⟨hGB, q', hfr, hKq, lq, rowq, hWq, hJq⟩ := HT.out.frees HK.out hGq' HWz.out HJz.out
      have HGB : Hid (∀ x ∈ ([] : List Int), B64 x) := Lib.hid (fun x hx => by simp at hx)
      have HFR : Hid (p.freeL ([] : List Int) = some q') := Lib.hid hfr
      have HKq : Hid (PK 500 (1 + 500 * ((q + 1 : Nat) : Int)) q') := Lib.hid (hKq.mono (by simp; omega))
      have HWq : Hid (WF q' ⟨rt, sz⟩ lq rowq) := Lib.hid hWq
      have HJq := Lib.hid hJq
      have HKT := HK
      clear hGB hfr hKq hWq hJq HT
      have HXS := HX2
      have HVS := HV
      have HBS := HB
      obtain ⟨S, hS⟩ : ∃ S, S = W := ⟨_, rfl⟩
      rw [← hS] at HXS HVS HBS
      obtain ⟨p2, hp2⟩ : ∃ p2, p2 = p := ⟨_, rfl⟩
      obtain ⟨rt2, hrt2⟩ : ∃ rt2, rt2 = rt := ⟨_, rfl⟩
      obtain ⟨sz2, hsz2'⟩ : ∃ sz2, sz2 = sz := ⟨_, rfl⟩
      rw [← hp2] at HKT HFR HXS
      rw [← hrt2, ← hsz2'] at HWq HVS
      clear hp2 hrt2 hsz2'
      obtain ⟨gn2, hgn2⟩ : ∃ gn2 : List Int, gn2 = [] := ⟨_, rfl⟩
      rw [← hgn2] at HGB HFR
      obtain ⟨p5_3, hp53⟩ : ∃ p5_3 : Option Addr, p5_3 = some ⟨kw, 0, none⟩ := ⟨_, rfl⟩
      obtain ⟨c5_3, hc53⟩ : ∃ c5_3 : Nat, c5_3 = 0 := ⟨_, rfl⟩
      have HRS : Hid (RL S p5_3 gn2) := Lib.hid (fun h => by rw [hgn2] at h; simp at h)
      have hgs : gn2.length ≤ 500 := by rw [hgn2]; simp
      have hcl : gn2.length ≤ c5_3 := by rw [hgn2]; simp
      have hcm : c5_3 ≤ maxLen := by rw [hc53]; simp [maxLen]
      go_upto_region 23 with fail
      rw [← hS]
      rw [← hp53]
      clear hS x0 x1 x2 x3 u0 u1 c0 c1 c2 c3 hp53
      subst hc53
      obtain ⟨x0, x1, x2, x3, -⟩ := block4 HXS.out.blk
      have HFc := Lib.hid (fun (hc1 : gn2.length ≤ 0) (hc2 : 0 ≤ 9223372036854775807) => free_ok gn2 p5_3 0 _ _ _ _ p2 q' 0 500 (1 + 500 * (q : Int)) S HXS.out.pa HKT.out HRS.out hc1 hc2 (by omega) HGB.out hGq (by decide) HFR.out)
      obtain ⟨ln, hln⟩ : ∃ ln, gn2.length = ln := ⟨_, rfl⟩
      obtain rfl : ln = 0 := by rw [← hln, hgn2]; rfl
      rw [hln] at HFc
      try rw [hln]
      have HLN := Lib.hid hln
      clear hln
      go_wp2_with fail
      refine (HFc.out (by have := HLN.out; omega) (by have hcm' := hcm; unfold maxLen at hcm'; omega)).mono ?_
      rintro e w4 ⟨n1, n2, n3, n4, rfl, hpa4, hb4⟩
      obtain ⟨pg4, cg4, pu4, cu4, pf4, cf4, pc4, cc4, rfl, rfl, rfl, rfl⟩ := hpa4.form
      obtain ⟨V4, hV4⟩ : ∃ V4, V4 = w4.alloc (.cells #[.slice pg4 q'.st.gens.length cg4, .slice pu4 q'.st.used.length cu4, .slice pf4 q'.st.free.length cf4, .slice pc4 q'.ch.length cc4] 31) := ⟨_, rfl⟩
      have hb44 : Below S.heap.size S V4 := by rw [hV4]; exact hb4.alloc hb4.size _
      have HB4 : Hid (Below w.heap.size w V4) := Lib.hid (HBS.out.trans (hb44.mono HBS.out.size))
      have HX4 : Hid (PX V4 w4.heap.size (.slice pg4 q'.st.gens.length cg4) (.slice pu4 q'.st.used.length cu4) (.slice pf4 q'.st.free.length cf4) (.slice pc4 q'.ch.length cc4) q') := Lib.hid (by rw [hV4]; exact ⟨heap_alloc_new _ _, (hpa4.drop (Nat.zero_le _)).below ((Below.refl _ _).alloc (Nat.le_refl _) _)⟩)
      have HV4 := Lib.hid (HVS.out.below hb44)
      have HX3 := Lib.hid (HXS.out.below hb44)
      have hk4 : w.heap.size ≤ w4.heap.size := Nat.le_trans HBS.out.size hb4.size
      have hk34 : k3 < w4.heap.size := Nat.lt_of_lt_of_le (lt_of_block HXS.out.blk) hb4.size
      have hkv4 : k5 < w4.heap.size := Nat.lt_of_lt_of_le (lt_of_block HVS.out) hb4.size
      clear x0 x1 x2 x3 hpa4 hb4 hb44
      go_upto_region 24 with fail
      rw [← hV4]
      clear hV4
      generalize hk8 : w4.heap.size = k8 at *
      clear hk8
      obtain ⟨r2, r3⟩ := HWq.out.b64
      simp only [] at r2 r3
      have hsz2 : sz2 ≤ 200 := by have := HWq.out.size; have := HWq.out.small; simp only [] at *; omega
      have HRe := Lib.hid (reach_pl rt2 sz2 _ _ _ _ q' 0 500 _ V4 HX4.out.pa HKq.out r2 r3 (by omega))
      rw [show lvs sz2 = lvs (Vc.mk rt2 sz2).size from rfl, show [rt2] = [(Vc.mk rt2 sz2).root] from rfl, HWq.out.down] at HRe
      obtain ⟨x0, x1, x2, x3, -⟩ := block4 HX4.out.blk
      obtain ⟨u0, u1⟩ := block2 HV4.out
      simp only [] at u0 u1
      go_wp2_with fail
      refine HRe.out.mono ?_
      rintro e w5 ⟨v5, rfl, ho5, hb5⟩
      have ho5' : w5.ownsRow V4.heap.size 41 1 v5 rowq.flatten.length (gvs rowq.flatten) := ho5
      obtain ⟨F, hF⟩ : ∃ F, rowq.flatten.length = F := ⟨_, rfl⟩
      rw [hF] at ho5'
      have HAc : Hid ((q'.st.al q'.st.gens.length).length = F) := Lib.hid (by rw [HKq.out.ok.gens, HJq.out.count HKq.out]; exact hF)
      clear hF
      obtain ⟨q5, c5, rfl, -, -, -⟩ := own_form ho5'
      have HX5 := Lib.hid (HX4.out.below hb5)
      have HV5 := Lib.hid (HV4.out.below hb5)
      have HX35 := Lib.hid (HX3.out.below hb5)
      have HB5 := Lib.hid (HB4.out.trans (hb5.mono HB4.out.size))
      clear ho5 ho5' hb5 x0 x1 x2 x3 u0 u1
      obtain ⟨x0, x1, x2, x3, -⟩ := block4 HX5.out.blk
      have HPo := Lib.hid (pool_pl _ _ _ _ q' 0 500 _ w5 HX5.out.pa HKq.out)
      go_wp2_with fail
      refine HPo.out.mono ?_
      rintro e w7 ⟨v7, rfl, ho7, hb7⟩
      have HA7 := Lib.hid (HX5.out.pa.ar.below hb7)
      have HB7 := Lib.hid (HB5.out.trans (hb7.mono HB5.out.size))
      have HX7 := Lib.hid (HX5.out.below hb7)
      have HV7 := Lib.hid (HV5.out.below hb7)
      have HX37 := Lib.hid (HX35.out.below hb7)
      have hFS := run_fieldS (.slice pg4 q'.st.gens.length cg4) (.slice pu4 q'.st.used.length cu4) (.slice pf4 q'.st.free.length cf4) v7
      have HAl := Lib.hid (refall_any _ _ _ q'.st 0 w7 HA7.out (by rw [HKq.out.ok.gens]; decide) (by rw [HKq.out.ok.gens, HKq.out.ok.used]) (fun i hi => by have := HKq.out.ok.gen (i := i) (by rw [HKq.out.ok.gens] at hi; exact hi); omega))
      clear ho7 hb7 x0 x1 x2 x3
      generalize q'.st.al q'.st.gens.length = AL' at *
      go_wp2_with fail
      refine HAl.out.mono ?_
      rintro e w8 ⟨v8, rfl, ho8, hb8⟩
      rw [gvs_length, HAc.out] at ho8
      obtain ⟨q8, c8, rfl, -, -, -⟩ := own_form ho8
      have HB8 := Lib.hid (HB7.out.trans (hb8.mono HB7.out.size))
      have HX8 := Lib.hid (HX7.out.below hb8)
      have HV8 := Lib.hid (HV7.out.below hb8)
      have HX38 := Lib.hid (HX37.out.below hb8)
      clear ho8 hb8
      obtain ⟨x0, x1, x2, x3, -⟩ := block4 HX8.out.blk
      obtain ⟨d0, d1, d2, d3, y0, y1, y2, y3⟩ := block4 HX38.out.blk
      obtain ⟨S9, hS9, hSx, hSb, hSs, hSj⟩ := lay_step HX38.out (Below.refl _ _) HX8.out.pa HB8.out hke3
      have HX9 : Hid (∃ vg vu vf vc, PX S9 k3 vg vu vf vc q') := Lib.hid ⟨_, _, _, _, hSx⟩
      have HV9 : Hid (VX S9 k5 ⟨rt2, sz2⟩) := Lib.hid ((hSj k5 ne2).trans HV8.out)
      have HB9 := Lib.hid hSb
      clear hSx hSb hSs hSj
      go_wp2
      rw [← hS9]
      go_roundw
      case rel => exact ⟨q + 1, q', ⟨rt2, sz2⟩, by omega, by go_num, HX9, HV9, HKq, Lib.hid ⟨_, _, HWq.out, HJq.out⟩, HB9⟩
      case measure => simp [intOf] <;> omega

    · go_wp2
      go_ret
      exact ⟨rfl, HB.out⟩
set_option maxRecDepth 100000 in
theorem vecLive_open {H : Type} {enc : TypeId × Value → H} {W : World} {base : Nat} {v1 : Value} {d1 : DataW H} {p1 : List MemPlace}
    (o1 : Value.okWide Try.prog W .any base 22 v1)
    (h1 : DataW.Trod enc Try.prog W 0 (fun _ => true) true 22 v1 d1 p1)
    (l1 : ∀ x ∈ p1, x.block < W.heap.size) :
    Calls Try.prog 5 #[v1] W fun e w' => e = .returned (.bool true) ∧ Below W.heap.size W w' := by
  obtain ⟨B, n, cb, rfl, hn, hL⟩ := acts_open o1 h1 l1
  exact live_law B n cb W hn hL
end Go.Proofs.Ytnlnfkjjfbgceaa
