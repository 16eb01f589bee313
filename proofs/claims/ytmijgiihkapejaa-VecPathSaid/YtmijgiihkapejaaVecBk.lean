/-
  The law VecBack.
-/
import Derived.Test.YtmijgiihkapejaaVecGa
import Derived.Test.YtmijgiihkapejaaVecXb
namespace Go.Proofs.Ytmijgiihkapejaa
open Go.ChangeShapes Go.WideShapes Go.ChangeAt Go.RowKit
set_option linter.unusedVariables false
set_option linter.unusedSimpArgs false

set_option maxHeartbeats 1000000 in
theorem handles_eq (v : Value) (A : Option Addr) (cap : Nat) (l : List Int) (b : Nat) (w : World) (h : w.ownsRow b 41 1 v l.length (gvs l)) (h' : RL w A l) (hl : l.length ≤ 1000) :
    Calls Try.prog 25 #[v, .slice A l.length cap] w (GivesV (.bool true) w) := by
  obtain ⟨p, c, rfl, _, _, _⟩ := own_form h
  have HO := Lib.hid h
  have HO' := Lib.hid h'
  clear h h'
  obtain ⟨n, hn⟩ : ∃ n, l.length = n := ⟨_, rfl⟩
  rw [hn] at HO hl ⊢
  have HN := Lib.hid hn
  clear hn
  go_enter Try.func25, Try.ntmps25
  go_wp2
  go_loopw [5] (fun i wr => ∃ k : Nat, k ≤ n ∧ i = .int .i64 k ∧ Hid (∃ d, wr = w.drewN d)) (fun i _ => n - (intOf i).toNat)
  case atStart => exact ⟨0, Nat.zero_le _, rfl, Lib.hid ⟨0, rfl⟩⟩
  case round =>
    obtain ⟨k, hk, rfl, hd⟩ := hrel
    obtain ⟨d, rfl⟩ := hd.out
    by_cases hlt : k < n
    · have k0 : (0 : Int) ≤ (k : Int) := by omega
      have k1 : (k : Int) < (n : Int) := by omega
      obtain ⟨g, rfl, _, _⟩ := own_some HO.out (by omega)
      have hkl : k < l.length := by rw [HN.out]; exact hlt
      obtain ⟨g', off, rfl, _, hc⟩ := HO'.out (by omega)
      have c0 := own_at_gen HO.out hlt
      have c1 := RL.at_ hc hkl
      clear hc
      generalize l.getD k 0 = x at *
      go_wp2
      go_quiet (fail)
      go_wp2
      go_roundw
      case rel => exact ⟨k + 1, by omega, by go_num, Lib.hid ⟨d + nq, by simp⟩⟩
      case measure => simp [intOf] <;> omega
    · go_wp2
      go_ret
      exact ⟨rfl, below_drewN (Below.refl _ _) d⟩

/-- What a change comes to where there is room. -/
theorem step_wf {n : Nat} {G : Int} {p : Pl} {v : Vc} {l items : List Int} {old : List (List Int)} (hP : PK n G p) (hG : G ≤ 1099511627775) (hv : WF p v l old) (hi : items.length ≤ 200) (hU : U64 items) (hf : 68 ≤ p.st.free.length) :
    ∃ T : Told, p.change v items = T ∧ T.e = 0 ∧ T.v.size = items.length ∧ PK n G T.p ∧ Ext p T.p ∧ (∃ rows, WF T.p T.v items rows) ∧ p.st.free.length ≤ T.p.st.free.length + 68 := by
  have h68 := need_68 items.length (by omega)
  obtain ⟨q, rows, h, h2⟩ := raise_room (L := lvs items.length) (p := p) (old := old) (below := items) (by omega)
  obtain ⟨a, b, c, d⟩ := change_wf hP hG hv hi hU h
  exact ⟨_, a, rfl, rfl, b, c, ⟨rows, d⟩, by show p.st.free.length ≤ q.st.free.length + 68; omega⟩
/-- A pool told is laid into the variable of the one ahead. -/
theorem lay_step {w0 V w2 : World} {k b : Nat} {a1 a2 a3 a4 : Value} {p0 p1 : Pl} {vg vu vf vc : Value} (hX : PX V k a1 a2 a3 a4 p0) (hb : Below V.heap.size V w2) (hpa : PA w2 b vg vu vf vc p1) (h0 : Below w0.heap.size w0 V) (hk : w0.heap.size ≤ k) :
    ∃ S, S = (((w2.setCell ⟨k, 0, none⟩ vg).setCell ⟨k, 1, none⟩ vu).setCell ⟨k, 2, none⟩ vf).setCell ⟨k, 3, none⟩ vc ∧ PX S k vg vu vf vc p1 ∧ Below w0.heap.size w0 S ∧ S.heap.size = w2.heap.size ∧ (∀ j, j ≠ k → S.heap[j]? = w2.heap[j]?) := by
  have hX' := hX.below hb
  exact ⟨_, rfl, ⟨heap_s4 hX'.blk _ _ _ _, (hpa.drop (Nat.zero_le _)).set4t hX'.blk _ _ _ _⟩, below_set4 (h0.trans (hb.mono h0.size)) hk _ _ _ _, by simp, fun j hj => set4_other _ _ _ _ _ hj⟩
/-- .. and a vec of its own beside it. -/
theorem lay_vec {w0 S : World} {k : Nat} {vg vu vf vc : Value} {p : Pl} (hX : PX S k vg vu vf vc p) (h0 : Below w0.heap.size w0 S) (rt : Int) (sz : Nat) :
    ∃ V, V = S.alloc (.cells #[.int .u64 rt, .int .i64 sz] 43) ∧ PX V k vg vu vf vc p ∧ VX V S.heap.size ⟨rt, sz⟩ ∧ Below w0.heap.size w0 V ∧ Below S.heap.size S V :=
  ⟨_, rfl, hX.below ((Below.refl _ _).alloc (Nat.le_refl _) _), heap_alloc_new _ _, h0.alloc h0.size _, (Below.refl _ _).alloc (Nat.le_refl _) _⟩

set_option maxRecDepth 100000 in
set_option maxHeartbeats 8000000 in
theorem back_law (A : Option Addr) (cap : Nat) (zs : List Int) (iu : Nat) (x : Int) (w : World) (hc : zs.length ≤ cap) (hcm : cap ≤ maxLen) (hR : RL w A zs) (hU : U64 zs) (hiu : iu ≤ 255) (hx0 : 0 ≤ x) (hx1 : x ≤ 18446744073709551615) :
    Calls Try.prog 8 #[.slice A zs.length cap, .int .u8 iu, .int .u64 x] w (GivesV (.bool true) w) := by
  unfold maxLen at hcm
  have HR := Lib.hid hR
  have HU := Lib.hid hU
  clear hR hU
  by_cases hn : 190 < zs.length
  · have hn' : (190 : Int) < (zs.length : Int) := by omega
    go_enter Try.func8, Try.ntmps8
    go_wp2_with fail
    refine (shown_true w).mono ?_
    rintro e w1 ⟨rfl, hb⟩
    have HB := Lib.hid hb
    clear hb
    go_wp2
    go_ret
    exact ⟨rfl, HB.out⟩
  · have hn' : ¬ (190 : Int) < (zs.length : Int) := by omega
    obtain ⟨k, hk⟩ : ∃ k, k = iu % (zs.length + 1) := ⟨_, rfl⟩
    have hkl : k ≤ zs.length := by have := Nat.mod_lt iu (show 0 < zs.length + 1 by omega); omega
    have HKK : Hid (((iu : Int)).tmod ((zs.length : Int) + 1) = (k : Int)) := Lib.hid (by rw [hk, Int.tmod_eq_emod_of_nonneg (by omega)]; simp)
    have hf0 : (freshP 400).st.free.length = 400 := by simp [freshP, fresh, downs_length]
    obtain ⟨T, hT, hTe, hTs, hK, hE, ⟨rows, hW⟩, hF1⟩ := step_wf (freshP_ok (n := 400) (by decide)) (by decide) (WF.empty (freshP 400)) (items := zs) (by omega) HU.out (by omega)
    have hI := hW.items
    obtain ⟨r0, r1⟩ := hW.b64
    obtain ⟨hil, hiU⟩ := ins_nl (l := zs) (k := k) (x := x) ⟨by omega, HU.out, hx0, hx1⟩
    have hlen2 : (zs.take k ++ [x] ++ zs.drop k).length = zs.length + 1 := by simp; omega
    obtain ⟨T2, hT2, hTe2, hTs2, hK2, hE2, ⟨rows2, hW2⟩, hF2⟩ := step_wf hK (by decide) hW (items := zs.take k ++ [x] ++ zs.drop k) (by omega) hiU (by omega)
    have hI2 := hW2.items
    obtain ⟨r02, r12⟩ := hW2.b64
    have hback : (zs.take k ++ [x] ++ zs.drop k).take k ++ (zs.take k ++ [x] ++ zs.drop k).drop (k + 1) = zs := by
      have h1 : (zs.take k).length = k := by rw [List.length_take]; omega
      rw [List.append_assoc, List.take_left' h1, ← List.append_assoc, List.drop_left' (by simp; omega), List.take_append_drop]
    have hget : T2.p.get k (lvs T2.v.size) T2.v.root = some x := by
      rw [hW2.get (by omega)]
      congr 1
      rw [List.append_assoc, getD_right _ (by rw [List.length_take]; omega), List.length_take, Nat.min_eq_left (by omega), Nat.sub_self]
      rfl
    obtain ⟨T3, hT3, hTe3, hTs3, hK3, hE3, ⟨rows3, hW3⟩, hF3⟩ := step_wf hK2 (by decide) hW2 (items := zs) (by omega) HU.out (by omega)
    have hI3 := hW3.items
    obtain ⟨r03, r13⟩ := hW3.b64
    have hop2 : T.p.insertV T.v k x = T2 := by
      rw [Pl.insertV, if_neg (by rw [hTs]; omega), hI]
      simp only [Int.toNat_natCast]
      exact hT2
    have hop3 : T2.p.removeV T2.v k = T3 := by
      rw [Pl.removeV, if_neg (by rw [hTs2, hlen2]; omega), hI2]
      simp only [Int.toNat_natCast]
      rw [hback]
      exact hT3
    have HC := Lib.hid (fun (w : World) (vg vu vf vc : Value) (hA : PA w 0 vg vu vf vc (freshP 400)) (hI : RL w A zs) => change_rl 0 0 zs A cap vg vu vf vc (freshP 400) 0 400 1 w hA (freshP_ok (by decide)) hI hc (by omega) (by omega) HU.out (by decide) (by decide) (by decide) (by decide) (by decide))
    rw [hT] at HC
    have HN := Lib.hid (fun w => newV_ok 400 w (by decide))
    have HIn := Lib.hid (fun (w : World) (vg vu vf vc : Value) (hA : PA w 0 vg vu vf vc T.p) => insertV_pl T.v.root T.v.size k x vg vu vf vc T.p 0 400 1 w hA hK r0 r1 (by omega) (by decide) (by decide) hx0 hx1 (by omega) (by omega) (fun l he => by rw [show (⟨T.v.root, T.v.size⟩ : Vc) = T.v from rfl, hI] at he; cases he; exact ⟨hTs.symm, HU.out⟩))
    rw [show (⟨T.v.root, T.v.size⟩ : Vc) = T.v from rfl, hop2] at HIn
    have HGt := Lib.hid (fun (w : World) (vg vu vf vc : Value) (hA : PA w 0 vg vu vf vc T2.p) => get_pl T2.v.root T2.v.size k vg vu vf vc T2.p 0 400 1 w hA hK2 r02 r12 (by omega) (by omega))
    rw [hget] at HGt
    have HRm := Lib.hid (fun (w : World) (vg vu vf vc : Value) (hA : PA w 0 vg vu vf vc T2.p) => removeV_pl T2.v.root T2.v.size k vg vu vf vc T2.p 0 400 1 w hA hK2 r02 r12 (by omega) (by decide) (by decide) (by omega) (by omega) (fun l he => by rw [show (⟨T2.v.root, T2.v.size⟩ : Vc) = T2.v from rfl, hI2] at he; cases he; exact ⟨hTs2.symm, hiU⟩))
    rw [show (⟨T2.v.root, T2.v.size⟩ : Vc) = T2.v from rfl, hop3] at HRm
    have HIt := Lib.hid (fun (w : World) (vg vu vf vc : Value) (hA : PA w 0 vg vu vf vc T3.p) => items_pl T3.v.root T3.v.size vg vu vf vc T3.p 0 400 1 w hA hK3 r03 r13 (by omega))
    rw [show (⟨T3.v.root, T3.v.size⟩ : Vc) = T3.v from rfl, hI3] at HIt
    rw [hlen2] at hTs2
    clear hT hK hW hE hK2 hW2 hE2 hK3 hW3 hE3 hI hI2 hI3 hT2 hT3 hop2 hop3 hback hget hF1 hF2 hF3 hf0 hil hiU hlen2 hk
    generalize freshP 400 = p0 at *
    obtain ⟨p1, ⟨rt1, sz1⟩, gn1, er1⟩ := T
    obtain ⟨p2, ⟨rt2, sz2⟩, gn2, er2⟩ := T2
    obtain ⟨p3, ⟨rt3, sz3⟩, gn3, er3⟩ := T3
    simp only [] at *
    subst hTe hTs hTe2 hTe3 hTs3
    have HS2 := Lib.hid hTs2
    clear hTs2
    go_enter Try.func8, Try.ntmps8
    go_wp2_with fail
    refine (shown_true w).mono ?_
    rintro e w0 ⟨rfl, hb0⟩
    have HB0 := Lib.hid hb0
    clear hb0
    go_wp2_with fail
    refine (HN.out w0).mono ?_
    rintro e w1 ⟨a1, a2, a3, a4, rfl, hpa, hb⟩
    obtain ⟨pg1, cg1, pu1, cu1, pf1, cf1, pc1, cc1, rfl, rfl, rfl, rfl⟩ := hpa.form
    obtain ⟨V1, hV1⟩ : ∃ V1, V1 = w1.alloc (.cells #[.slice pg1 p0.st.gens.length cg1, .slice pu1 p0.st.used.length cu1, .slice pf1 p0.st.free.length cf1, .slice pc1 p0.ch.length cc1] 31) := ⟨_, rfl⟩
    have HB1 : Hid (Below w.heap.size w V1) := Lib.hid (by rw [hV1]; exact (HB0.out.trans (hb.mono HB0.out.size)).alloc (Nat.le_trans HB0.out.size hb.size) _)
    have HX1 : Hid (PX V1 w1.heap.size (.slice pg1 p0.st.gens.length cg1) (.slice pu1 p0.st.used.length cu1) (.slice pf1 p0.st.free.length cf1) (.slice pc1 p0.ch.length cc1) p0) := Lib.hid (by rw [hV1]; exact ⟨heap_alloc_new _ _, (hpa.drop (Nat.zero_le _)).below ((Below.refl _ _).alloc (Nat.le_refl _) _)⟩)
    have hw01 : w.heap.size ≤ w1.heap.size := Nat.le_trans HB0.out.size hb.size
    go_upto_region 4 with fail
    rw [← hV1]
    clear hV1 hpa hb
    obtain ⟨x0, x1, x2, x3, -⟩ := block4 HX1.out.blk
    go_wp2_with fail
    refine (HC.out V1 _ _ _ _ HX1.out.pa (HR.out.below HB1.out)).mono ?_
    rintro e w2 ⟨b1, b2, b3, b4, b5, rfl, hpa, hol, hb⟩
    obtain ⟨pg2, cg2, pu2, cu2, pf2, cf2, pc2, cc2, rfl, rfl, rfl, rfl⟩ := hpa.form
    obtain ⟨p5_2, c5_2, rfl, -, -, -⟩ := own_form hol
    obtain ⟨S2, hS2, hSx, hSb, hSs, hSj⟩ := lay_step HX1.out hb hpa HB1.out hw01
    obtain ⟨V2, hV2, hVx, hVv, hVb, hVs⟩ := lay_vec hSx hSb (rt1) (zs.length)
    have HX2 := Lib.hid hVx
    have HV2 : Hid (VX V2 w2.heap.size ⟨rt1, zs.length⟩) := Lib.hid (by rw [← hSs]; exact hVv)
    have HB2 := Lib.hid hVb
    have HJ2 : Hid (∀ j, j ≠ w1.heap.size → j < V1.heap.size → V2.heap[j]? = V1.heap[j]?) := Lib.hid (fun j h1 h2 => by
      rw [hVs.block j (by rw [hSs]; have := hb.size; omega), hSj j h1]
      exact hb.block j h2)
    have hX' := HX1.out.below hb
    obtain ⟨d0, d1, d2, d3, y0, y1, y2, y3⟩ := block4 hX'.blk
    have hlt1 := lt_of_block hX'.blk
    have ne1 : w1.heap.size ≠ w2.heap.size := by omega
    have ne2 : w2.heap.size ≠ w1.heap.size := by omega
    have hszV2 : w2.heap.size < V2.heap.size := by
      have h3 : V2.heap.size = S2.heap.size + 1 := by rw [hV2]; simp
      omega
    clear hX'
    go_upto_region 5 with fail
    rw [← hS2, ← hV2]
    clear hS2 hV2 hSx hSb hSs hSj hVx hVv hVb hVs hpa hol hb d0 d1 d2 d3 y0 y1 y2 y3 x0 x1 x2 x3 hlt1
    have hk0 : (0 : Int) ≤ (k : Int) := by omega
    have hkk := HKK.out
    go_upto_region 6 with fail
    obtain ⟨x0, x1, x2, x3, -⟩ := block4 HX2.out.blk
    obtain ⟨u0, u1⟩ := block2 HV2.out
    simp only [] at u0 u1
    go_wp2_with fail
    refine (HIn.out V2 _ _ _ _ HX2.out.pa).mono ?_
    rintro e w3 ⟨b1, b2, b3, b4, b5, rfl, hpa, hol, hb⟩
    obtain ⟨pg3, cg3, pu3, cu3, pf3, cf3, pc3, cc3, rfl, rfl, rfl, rfl⟩ := hpa.form
    obtain ⟨p5_3, c5_3, rfl, -, -, -⟩ := own_form hol
    obtain ⟨S3, hS3, hSx, hSb, hSs, hSj⟩ := lay_step HX2.out hb hpa HB2.out hw01
    obtain ⟨V3, hV3, hVx, hVv, hVb, hVs⟩ := lay_vec hSx hSb (rt2) (sz2)
    have HX3 := Lib.hid hVx
    have HV3 : Hid (VX V3 w3.heap.size ⟨rt2, sz2⟩) := Lib.hid (by rw [← hSs]; exact hVv)
    have HB3 := Lib.hid hVb
    have HJ3 : Hid (∀ j, j ≠ w1.heap.size → j < V2.heap.size → V3.heap[j]? = V2.heap[j]?) := Lib.hid (fun j h1 h2 => by
      rw [hVs.block j (by rw [hSs]; have := hb.size; omega), hSj j h1]
      exact hb.block j h2)
    have hX' := HX2.out.below hb
    obtain ⟨d0, d1, d2, d3, y0, y1, y2, y3⟩ := block4 hX'.blk
    have hlt1 := lt_of_block hX'.blk
    have ne1 : w1.heap.size ≠ w3.heap.size := by omega
    have ne2 : w3.heap.size ≠ w1.heap.size := by omega
    have hszV3 : w3.heap.size < V3.heap.size := by
      have h3 : V3.heap.size = S3.heap.size + 1 := by rw [hV3]; simp
      omega
    clear hX' u0 u1
    go_upto_region 7 with fail
    rw [← hS3, ← hV3]
    clear hS3 hV3 hSx hSb hSs hSj hVx hVv hVb hVs hpa hol hb d0 d1 d2 d3 y0 y1 y2 y3 x0 x1 x2 x3 hlt1
    obtain ⟨x0, x1, x2, x3, -⟩ := block4 HX3.out.blk
    obtain ⟨u0, u1⟩ := block2 HV3.out
    simp only [] at u0 u1
    go_wp2_with fail
    refine (HGt.out V3 _ _ _ _ HX3.out.pa).mono ?_
    rintro e w4 ⟨⟨hn, -⟩ | ⟨y, hy, rfl⟩, hb4⟩
    · cases hn
    obtain rfl : y = x := by cases hy; rfl
    have HX4 := Lib.hid (HX3.out.below hb4)
    have HV4 := Lib.hid (HV3.out.below hb4)
    have HB4 := Lib.hid (HB3.out.trans (hb4.mono HB3.out.size))
    clear hb4 hy x0 x1 x2 x3 u0 u1
    obtain ⟨x0, x1, x2, x3, -⟩ := block4 HX4.out.blk
    obtain ⟨u0, u1⟩ := block2 HV4.out
    simp only [] at u0 u1
    go_wp2_with fail
    refine (HRm.out w4 _ _ _ _ HX4.out.pa).mono ?_
    rintro e w5 ⟨b1, b2, b3, b4, b5, rfl, hpa, hol, hb⟩
    obtain ⟨pg5, cg5, pu5, cu5, pf5, cf5, pc5, cc5, rfl, rfl, rfl, rfl⟩ := hpa.form
    obtain ⟨p5_5, c5_5, rfl, -, -, -⟩ := own_form hol
    obtain ⟨S5, hS5, hSx, hSb, hSs, hSj⟩ := lay_step HX4.out hb hpa HB4.out hw01
    obtain ⟨V5, hV5, hVx, hVv, hVb, hVs⟩ := lay_vec hSx hSb (rt3) (zs.length)
    have HX5 := Lib.hid hVx
    have HV5 : Hid (VX V5 w5.heap.size ⟨rt3, zs.length⟩) := Lib.hid (by rw [← hSs]; exact hVv)
    have HB5 := Lib.hid hVb
    have HJ5 : Hid (∀ j, j ≠ w1.heap.size → j < w4.heap.size → V5.heap[j]? = w4.heap[j]?) := Lib.hid (fun j h1 h2 => by
      rw [hVs.block j (by rw [hSs]; have := hb.size; omega), hSj j h1]
      exact hb.block j h2)
    have hX' := HX4.out.below hb
    obtain ⟨d0, d1, d2, d3, y0, y1, y2, y3⟩ := block4 hX'.blk
    have hlt1 := lt_of_block hX'.blk
    have ne1 : w1.heap.size ≠ w5.heap.size := by omega
    have ne2 : w5.heap.size ≠ w1.heap.size := by omega
    have hszV5 : w5.heap.size < V5.heap.size := by
      have h3 : V5.heap.size = S5.heap.size + 1 := by rw [hV5]; simp
      omega
    clear hX' u0 u1
    go_upto_region 9 with fail
    rw [← hS5, ← hV5]
    clear hS5 hV5 hSx hSb hSs hSj hVx hVv hVb hVs hpa hol hb d0 d1 d2 d3 y0 y1 y2 y3 x0 x1 x2 x3 hlt1
    obtain ⟨x0, x1, x2, x3, -⟩ := block4 HX5.out.blk
    obtain ⟨u0, u1⟩ := block2 HV5.out
    simp only [] at u0 u1
    have HV35 : Hid (VX V5 w3.heap.size ⟨rt2, sz2⟩) := Lib.hid ((HJ5.out w3.heap.size (by omega) (lt_of_block HV4.out)).trans HV4.out)
    go_wp2_with fail
    refine (HIt.out V5 _ _ _ _ HX5.out.pa).mono ?_
    rintro e w6 ⟨⟨hn, -⟩ | ⟨l6, v6, hl6, rfl, ho6⟩, hb6⟩
    · cases hn
    obtain rfl : l6 = zs := by cases hl6; rfl
    have HV6 := Lib.hid (HV35.out.below hb6)
    have HB6 := Lib.hid (HB5.out.trans (hb6.mono HB5.out.size))
    have HH6 := Lib.hid (handles_eq v6 A cap l6 _ w6 ho6 (HR.out.below HB6.out) (by omega))
    obtain ⟨p6, c6, rfl, -, -, -⟩ := own_form ho6
    clear hb6 hl6 ho6 x0 x1 x2 x3 u0 u1
    obtain ⟨u0, u1⟩ := block2 HV6.out
    simp only [] at u0 u1
    go_wp2_with fail
    refine HH6.out.mono ?_
    rintro e w7 ⟨rfl, hb7⟩
    have HB7 := Lib.hid (HB6.out.trans (hb7.mono HB6.out.size))
    have u1' := (hb7.cell (p := ⟨w3.heap.size, 1, none⟩) (lt_of_block HV6.out)).trans u1
    clear hb7 u0 u1
    go_wp2
    go_ret
    refine ⟨ret_bool ?_, HB7.out⟩
    rw [HS2.out]
    simp
set_option maxRecDepth 100000 in
theorem vecBack_open {H : Type} {enc : TypeId × Value → H} {W : World} {base : Nat} {v0 v1 v2 : Value} {d0 d1 d2 : DataW H} {p0 p1 p2 : List MemPlace}
    (o0 : Value.okWide Try.prog W .any base 24 v0) (o1 : Value.okWide Try.prog W .any base 5 v1) (o2 : Value.okWide Try.prog W .any base 41 v2)
    (h0 : DataW.Trod enc Try.prog W 0 (fun _ => true) true 24 v0 d0 p0) (h1 : DataW.Trod enc Try.prog W 0 (fun _ => true) true 5 v1 d1 p1) (h2 : DataW.Trod enc Try.prog W 0 (fun _ => true) true 41 v2 d2 p2)
    (l0 : ∀ x ∈ p0, x.block < W.heap.size) (l1 : ∀ x ∈ p1, x.block < W.heap.size) (l2 : ∀ x ∈ p2, x.block < W.heap.size) :
    Calls Try.prog 8 #[v0, v1, v2] W fun e w' => e = .returned (.bool true) ∧ Below W.heap.size W w' := by
  obtain ⟨a1, rfl, rfl, rfl, w1⟩ := open_int Try.underlying5 o1 h1
  obtain ⟨a2, rfl, rfl, rfl, w2⟩ := open_int Try.underlying41 o2 h2
  obtain ⟨b0, b1⟩ := u8_wf w1
  obtain ⟨c0, c1⟩ := u64_wf w2
  obtain ⟨m, rfl⟩ := Int.eq_ofNat_of_zero_le b0
  obtain ⟨A, ca, zs, rfl, hc, hm, hR, hU⟩ := u64s_open o0 h0 l0
  exact back_law A ca zs m a2 W hc hm hR hU (by omega) c0 c1
end Go.Proofs.Ytmijgiihkapejaa
