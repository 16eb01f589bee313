/-
  The law VecPath.
-/
import Derived.Test.YtmijgiihkapejaaVecBk
import Derived.Test.YtmijgiihkapejaaVecPa
import Derived.Test.YtmijgiihkapejaaVecPm
namespace Go.Proofs.Ytmijgiihkapejaa
open Go.ChangeShapes Go.WideShapes Go.ChangeAt Go.RowKit
set_option linter.unusedVariables false
set_option linter.unusedSimpArgs false

theorem under_Q : Try.prog.underlying 38 = some (.struct (Try.prog.fieldsOf 38)) := by kernel_rfl
theorem field_Q : ((Try.prog.fieldsOf 38)[0]?).map (fun f => (f.type, f.offset)) = some (35, 0) := by kernel_rfl
theorem under_S3 : Try.prog.underlying 35 = some (.struct (Try.prog.fieldsOf 35)) := by kernel_rfl
theorem info_S3 : (Try.prog.info? 35).map (fun i => (i.zero, i.size, i.bytes)) = some (some (.agg #[.slice none 0 0, .slice none 0 0, .slice none 0 0]), 3, 72) := by kernel_rfl
theorem sizeOf_S3 (W : World) : (sizeOf 35).run Try.prog W = .ok 3 W := by
  obtain ⟨i, hi, -⟩ := info_parts info_S3
  rw [run_sizeOf W hi]
  exact congrArg (fun n => Result.ok n W) (show Try.prog.cellsOf 35 = 3 by kernel_rfl)
theorem run_fieldS (a b c d : Value) (W : World) : (Instr.field 38 (.agg #[a, b, c, d]) 0).run Try.prog W = .ok (.agg #[a, b, c]) W := by
  obtain ⟨f, hf, he⟩ := Option.map_eq_some_iff.1 field_Q
  have h1 : f.type = 35 := congrArg Prod.fst he
  have h2 : f.offset = 0 := congrArg Prod.snd he
  simp [Instr.field, run_underlying under_Q, hf, h1, h2, part, isAgg, run_underlying under_S3, sizeOf_S3, asAgg]

theorem under_V : Try.prog.underlying 43 = some (.struct (Try.prog.fieldsOf 43)) := by kernel_rfl
theorem fields_V : ((Try.prog.fieldsOf 43).toList.map (fun f => (f.type, f.offset, decide (f.name ≠ "_")))) = [(41, 0, true), (3, 1, true)] := by kernel_rfl
theorem eqV (a : Int) (b : Nat) (c : Int) (d : Nat) (W : World) : (Op.equalIn 10000 43 (.agg #[.int .u64 a, .int .i64 b]) (.agg #[.int .u64 c, .int .i64 d])).run Try.prog W = .ok (a == c && (b : Int) == (d : Int)) W := by
  rw [show (10000 : Nat) = 9999 + 1 from rfl, run_equalIn_struct W 9999 _ _ _ under_V (by kernel_rfl)]
  have hf := fields_V
  generalize (Try.prog.fieldsOf 43).toList = fs at *
  have hl := congrArg List.length hf
  simp only [List.length_map, List.length_cons, List.length_nil] at hl
  match fs, hl, hf with
  | [f0, f1], _, hf =>
    simp only [List.map_cons, List.map_nil, List.cons.injEq, Prod.mk.injEq, decide_eq_true_eq, and_true] at hf
    obtain ⟨⟨t0, o0, n0⟩, t1, o1, n1⟩ := hf
    have hI : Try.prog.plainKey 3 = true := by kernel_rfl
    have hG : Try.prog.plainKey 41 = true := by kernel_rfl
    simp only [Op.eqFields, n0, n1, t0, t1, o0, o1, ne_eq, not_true, not_false_eq_true, if_true, Sem.run_bind]
    rw [run_part_plain W hG (v := .int .u64 a) rfl]
    simp only [Result.andThen_ok]
    rw [run_part_plain W hG (v := .int .u64 c) rfl]
    simp only [Result.andThen_ok]
    rw [run_equalIn_int W 9998 _ .u64 .u64 a c (by kernel_rfl)]
    simp only [Result.andThen_ok]
    cases (a == c)
    · rfl
    simp only [Bool.not_true, Bool.false_eq_true, if_false, Sem.run_bind]
    rw [run_part_plain W hI (v := .int .i64 b) rfl]
    simp only [Result.andThen_ok]
    rw [run_part_plain W hI (v := .int .i64 d) rfl]
    simp only [Result.andThen_ok]
    rw [run_equalIn_int W 9998 _ .i64 .i64 b d (by kernel_rfl)]
    simp only [Result.andThen_ok, Bool.true_and]
    cases ((b : Int) == (d : Int)) <;> rfl

set_option maxRecDepth 100000 in
set_option maxHeartbeats 8000000 in
theorem path_law (A : Option Addr) (cap : Nat) (zs : List Int) (iu : Nat) (x : Int) (w : World) (hc : zs.length ≤ cap) (hcm : cap ≤ maxLen) (hR : RL w A zs) (hU : U64 zs) (hiu : iu ≤ 255) (hx0 : 0 ≤ x) (hx1 : x ≤ 18446744073709551615) :
    Calls Try.prog 6 #[.slice A zs.length cap, .int .u8 iu, .int .u64 x] w (GivesV (.bool true) w) := by
  unfold maxLen at hcm
  have HR := Lib.hid hR
  have HU := Lib.hid hU
  clear hR hU
  by_cases hn : 200 < zs.length
  · have hn' : (200 : Int) < (zs.length : Int) := by omega
    go_enter Try.func6, Try.ntmps6
    go_wp2_with fail
    refine (shown_true w).mono ?_
    rintro e w1 ⟨rfl, hb⟩
    have HB := Lib.hid hb
    clear hb
    go_wp2
    go_ret
    exact ⟨rfl, HB.out⟩
  by_cases hz : zs.length = 0
  · rw [hz]
    go_enter Try.func6, Try.ntmps6
    go_wp2_with fail
    refine (shown_true w).mono ?_
    rintro e w1 ⟨rfl, hb⟩
    have HB := Lib.hid hb
    clear hb
    go_wp2
    go_ret
    exact ⟨rfl, HB.out⟩
  · have hn' : ¬ (200 : Int) < (zs.length : Int) := by omega
    have hz' : ¬ (zs.length : Int) = 0 := by omega
    have hz2 : ((zs.length : Int) == 0) = false := beq_eq_false_iff_ne.2 hz'
    obtain ⟨k, hk⟩ : ∃ k, k = iu % zs.length := ⟨_, rfl⟩
    have hkl : k < zs.length := by have := Nat.mod_lt iu (show 0 < zs.length by omega); omega
    have HKK : Hid (((iu : Int)).tmod (zs.length : Int) = (k : Int)) := Lib.hid (by rw [hk, Int.tmod_eq_emod_of_nonneg (by omega)]; simp)
    have hf0 : (freshP 200).st.free.length = 200 := by simp [freshP, fresh, downs_length]
    obtain ⟨T, hT, hTe, hTs, hK, ⟨rows, hW, -, hrs⟩, r0, r1⟩ := first_wf (n := 200) (by decide) (by decide) (zs := zs) (by omega) HU.out
    have hI := hW.items
    have hfl := raise_none hrs
    have h68 : rows.flatten.length ≤ 68 := by
      obtain ⟨q, rows', h1, h2⟩ := raise_room (L := lvs zs.length) (p := freshP 200) (old := []) (below := zs) (by rw [hf0]; have := need_68 zs.length (by omega); omega)
      rw [hrs] at h1
      cases h1
      have := need_68 zs.length (by omega)
      omega
    obtain ⟨T2, hT2, hTe2, hTs2, hK2, ⟨rows2, hW2, hfl2⟩, hsame, hdiff⟩ := set_path hK (by decide) hW hkl (x := x) ⟨hx0, hx1⟩ (by omega)
    obtain ⟨r02, r12⟩ := hW2.b64
    have hget : T2.p.get k (lvs T2.v.size) T2.v.root = some x := by
      rw [hW2.get (by rw [List.length_set]; exact hkl), getD_set, if_pos ⟨rfl, hkl⟩]
    have HC := Lib.hid (fun (w : World) (vg vu vf vc : Value) (hA : PA w 0 vg vu vf vc (freshP 200)) (hI : RL w A zs) => change_rl 0 0 zs A cap vg vu vf vc (freshP 200) 0 200 1 w hA (freshP_ok (by decide)) hI hc (by omega) (by omega) HU.out (by decide) (by decide) (by decide) (by decide) (by decide))
    rw [hT] at HC
    have HN := Lib.hid (fun w => newV_ok 200 w (by decide))
    have HSt := Lib.hid (fun (w : World) (vg vu vf vc : Value) (hA : PA w 0 vg vu vf vc T.p) => setV_pl T.v.root T.v.size k x vg vu vf vc T.p 0 200 1 w hA hK r0 r1 (by omega) (by decide) (by decide) hx0 hx1 (by omega) (by omega) (fun l he => by rw [show (⟨T.v.root, T.v.size⟩ : Vc) = T.v from rfl, hI] at he; cases he; exact ⟨hTs.symm, HU.out⟩))
    rw [show (⟨T.v.root, T.v.size⟩ : Vc) = T.v from rfl, hT2] at HSt
    have HGt := Lib.hid (fun (w : World) (vg vu vf vc : Value) (hA : PA w 0 vg vu vf vc T2.p) => get_pl T2.v.root T2.v.size k vg vu vf vc T2.p 0 200 1 w hA hK2 r02 r12 (by omega) (by omega))
    rw [hget] at HGt
    have HRe := Lib.hid (fun (w : World) (vg vu vf vc : Value) (hA : PA w 0 vg vu vf vc T.p) => reach_pl T.v.root T.v.size vg vu vf vc T.p 0 200 1 w hA hK r0 r1 (by omega))
    rw [hW.down] at HRe
    have HRe2 := Lib.hid (fun (w : World) (vg vu vf vc : Value) (hA : PA w 0 vg vu vf vc T2.p) => reach_pl T2.v.root T2.v.size vg vu vf vc T2.p 0 200 1 w hA hK2 r02 r12 (by omega))
    rw [hW2.down] at HRe2
    have HPo := Lib.hid (fun (w : World) (vg vu vf vc : Value) (hA : PA w 0 vg vu vf vc T2.p) => pool_pl vg vu vf vc T2.p 0 200 1 w hA hK2)
    have HAl := Lib.hid (fun (w : World) (vg vu vf : Value) (hA : Ar w 0 vg vu vf T2.p.st) => refall_any vg vu vf T2.p.st 0 w hA (by rw [hK2.ok.gens]; decide) (by rw [hK2.ok.gens, hK2.ok.used]) (fun i hi => by have := hK2.ok.gen (i := i) (by rw [hK2.ok.gens] at hi; exact hi); omega))
    have HAc : Hid ((T2.p.st.al T2.p.st.gens.length).length + T2.p.st.free.length = 200) := Lib.hid (by
      rw [al_count, hK2.ok.gens, List.take_of_length_le (by rw [hK2.ok.used]; exact Nat.le_refl _)]
      exact hK2.ok.sum)
    have HDF := Lib.hid hdiff
    have HSM := Lib.hid hsame
    obtain ⟨F, hF⟩ : ∃ F, rows.flatten.length = F := ⟨_, rfl⟩
    have HFe := Lib.hid hF
    rw [hF] at hfl hfl2 h68
    have HF2 := Lib.hid hfl2
    have HFL := Lib.hid (And.intro hfl (And.intro hfl2 hf0))
    clear hF
    generalize T2.p.st.al T2.p.st.gens.length = AL at *
    clear hT hK hW hK2 hW2 hI hT2 hget hdiff hsame hfl hfl2 hf0 hrs hk
    generalize freshP 200 = p0 at *
    obtain ⟨p1, ⟨rt1, sz1⟩, gn1, er1⟩ := T
    obtain ⟨p2, ⟨rt2, sz2⟩, gn2, er2⟩ := T2
    simp only [] at *
    subst hTe hTs hTe2 hTs2
    go_enter Try.func6, Try.ntmps6
    go_wp2_with fail
    refine (shown_true w).mono ?_
    rintro e w0 ⟨rfl, hb0⟩
    have HB0 := Lib.hid hb0
    clear hb0
    go_wp2_with fail
    refine (HN.out w0).mono ?_
    rintro e w1 ⟨a1, a2, a3, a4, rfl, hpa, hb⟩
    obtain ⟨pg1, cg1, pu1, cu1, pf1, cf1, pc1, cc1, rfl, rfl, rfl, rfl⟩ := hpa.form
    obtain ⟨V1, hV1⟩ : ∃ V1, V1 = w1.alloc (.cells #[.slice pg1 p0.st.gens.length cg1, .slice pu1 p0.st.used.length cu1, .slice pf1 p0.st.free.length cf1, .slice pc1 p0.ch.length cc1] 31) := ⟨_, rfl⟩
    have HB1 : Hid (Below w.heap.size w V1) := Lib.hid (by rw [hV1]; exact (HB0.out.trans (hb.mono HB0.out.size)).alloc (Nat.le_trans HB0.out.size hb.size) _)
    have HX1 : Hid (PX V1 w1.heap.size (.slice pg1 p0.st.gens.length cg1) (.slice pu1 p0.st.used.length cu1) (.slice pf1 p0.st.free.length cf1) (.slice pc1 p0.ch.length cc1) p0) := Lib.hid (by rw [hV1]; exact ⟨heap_alloc_new _ _, (hpa.drop (Nat.zero_le _)).below ((Below.refl _ _).alloc (Nat.le_refl _) _)⟩)
    have hw01 : w.heap.size ≤ w1.heap.size := Nat.le_trans HB0.out.size hb.size
    go_upto_region 4 with fail
    rw [← hV1]
    clear hV1 hpa hb
    obtain ⟨x0, x1, x2, x3, -⟩ := block4 HX1.out.blk
    go_wp2_with fail
    refine (HC.out V1 _ _ _ _ HX1.out.pa (HR.out.below HB1.out)).mono ?_
    rintro e w2 ⟨b1, b2, b3, b4, b5, rfl, hpa, hol, hb⟩
    obtain ⟨pg2, cg2, pu2, cu2, pf2, cf2, pc2, cc2, rfl, rfl, rfl, rfl⟩ := hpa.form
    obtain ⟨p5_2, c5_2, rfl, -, -, -⟩ := own_form hol
    obtain ⟨S2, hS2, hSx, hSb, hSs, hSj⟩ := lay_step HX1.out hb hpa HB1.out hw01
    obtain ⟨V2, hV2, hVx, hVv, hVb, hVs⟩ := lay_vec hSx hSb (rt1) (zs.length)
    have HX2 := Lib.hid hVx
    have HV2 : Hid (VX V2 w2.heap.size ⟨rt1, zs.length⟩) := Lib.hid (by rw [← hSs]; exact hVv)
    have HB2 := Lib.hid hVb
    have hX' := HX1.out.below hb
    obtain ⟨d0, d1, d2, d3, y0, y1, y2, y3⟩ := block4 hX'.blk
    have hlt1 := lt_of_block hX'.blk
    have ne1 : w1.heap.size ≠ w2.heap.size := by omega
    have ne2 : w2.heap.size ≠ w1.heap.size := by omega
    clear hX'
    go_upto_region 5 with fail
    rw [← hS2, ← hV2]
    clear hS2 hV2 hSx hSb hSs hSj hVx hVv hVb hVs hpa hol hb d0 d1 d2 d3 y0 y1 y2 y3 x0 x1 x2 x3 hlt1
    have hkk := HKK.out
    have hk0 : (0 : Int) ≤ (k : Int) := by omega
    have hk1 : (k : Int) < (zs.length : Int) := by omega
    go_upto_region 6 with fail
    obtain ⟨x0, x1, x2, x3, -⟩ := block4 HX2.out.blk
    obtain ⟨u0, u1⟩ := block2 HV2.out
    simp only [] at u0 u1
    go_wp2_with fail
    refine (HSt.out V2 _ _ _ _ HX2.out.pa).mono ?_
    rintro e w3 ⟨b1, b2, b3, b4, b5, rfl, hpa3, hol3, hb3⟩
    obtain ⟨pg3, cg3, pu3, cu3, pf3, cf3, pc3, cc3, rfl, rfl, rfl, rfl⟩ := hpa3.form
    obtain ⟨q5, r5, rfl, -, -, -⟩ := own_form hol3
    simp only [] at hpa3 hol3
    obtain ⟨V3, hV3⟩ : ∃ V3, V3 = (w3.alloc (.cells #[.slice pg3 p2.st.gens.length cg3, .slice pu3 p2.st.used.length cu3, .slice pf3 p2.st.free.length cf3, .slice pc3 p2.ch.length cc3] 31)).alloc (.cells #[.int .u64 rt2, .int .i64 zs.length] 43) := ⟨_, rfl⟩
    have hb33 : Below w3.heap.size w3 V3 := by rw [hV3]; exact ((Below.refl _ _).alloc (Nat.le_refl _) _).alloc (by simp) _
    have HX3 : Hid (PX V3 w3.heap.size (.slice pg3 p2.st.gens.length cg3) (.slice pu3 p2.st.used.length cu3) (.slice pf3 p2.st.free.length cf3) (.slice pc3 p2.ch.length cc3) p2) := Lib.hid (by
      refine ⟨?_, (hpa3.drop (Nat.zero_le _)).below hb33⟩
      rw [hV3, heap_alloc_old _ _ (by simp)]
      exact heap_alloc_new _ _)
    have HV3 : Hid (VX V3 (w3.heap.size + 1) ⟨rt2, zs.length⟩) := Lib.hid (by rw [hV3]; exact heap_new1 _ _ _)
    have HB3 : Hid (Below V2.heap.size V2 V3) := Lib.hid (hb3.trans (hb33.mono hb3.size))
    have HBw3 : Hid (Below w.heap.size w V3) := Lib.hid (HB2.out.trans (HB3.out.mono HB2.out.size))
    obtain ⟨ga, off, hA, -, hcell⟩ := (HR.out.below HBw3.out) (by omega)
    subst hA
    have cz := RL.at_ hcell hkl
    have HV2' := Lib.hid (HV2.out.below HB3.out)
    go_upto_region 7 with fail
    rw [← hV3]
    clear hV3 hpa3 hol3 hb3 hb33 x0 x1 x2 x3 u0 u1 hcell
    obtain ⟨u0, u1⟩ := block2 HV3.out
    obtain ⟨t0, t1⟩ := block2 HV2'.out
    simp only [] at u0 u1 t0 t1
    by_cases hxe : zs.getD k 0 = x
    · obtain ⟨hv12, hg0⟩ := HSM.out hxe
      have hrr : rt2 = rt1 := by injection hv12
      subst hrr
      subst hg0
      rw [hxe] at cz
      have hE := fun W => eqV rt2 zs.length rt2 zs.length W
      go_wp2
      go_ret
      refine ⟨ret_bool ?_, HBw3.out⟩
      simp
    · have hxb : (zs.getD k 0 == x) = false := beq_eq_false_iff_ne.2 hxe
      obtain ⟨hgl, hfr⟩ := HDF.out hxe
      have HGL := Lib.hid (And.intro hgl hfr)
      have hL4 := lvs_le zs.length
      have hL1 := lvs_pos (n := zs.length) (by omega)
      have HLL := Lib.hid (fun j hj h => lev_loop zs.length (by omega) j hj h)
      clear hgl hfr
      generalize zs.getD k 0 = z at *
      obtain ⟨L, hL⟩ : ∃ L, lvs zs.length = L := ⟨_, rfl⟩
      rw [hL] at HGL HLL hL4 hL1
      clear hL
      obtain ⟨gl, hgle⟩ : ∃ gl, gn2.length = gl := ⟨_, rfl⟩
      rw [hgle] at HGL ⊢
      clear hgle
      go_wp2_with fail
      go_loopw [17, 18] (fun a b wr => ∃ j : Nat, 1 ≤ j ∧ j ≤ L ∧ a = .int .i64 j ∧ b = .int .i64 ((4 ^ j : Nat) : Int) ∧ V3 = wr) (fun a _ _ => L - (intOf a).toNat)
      case atStart => exact ⟨1, Nat.le_refl _, hL1, rfl, rfl, rfl⟩
      case round =>
        obtain ⟨j, hj1, hjL, rfl, rfl, rfl⟩ := hrel
        obtain ⟨g1, g2⟩ := HLL.out j (by omega) ⟨by omega, hj1, hjL⟩
        have hp4 : 4 ^ j ≤ 4 ^ 4 := Nat.pow_le_pow_right (by decide) (by omega)
        have hps : 4 ^ (j + 1) = 4 ^ j * 4 := Nat.pow_succ ..
        by_cases hlt : 4 ^ j < zs.length
        · have hj2 := g1 hlt
          generalize hP4 : 4 ^ j = P4 at *
          have c1 : (P4 : Int) < (zs.length : Int) := by omega
          clear g1 g2
          go_wp2
          go_roundw
          case rel => exact ⟨j + 1, by omega, hj2, by go_num, by rw [hps]; simp, by first | trivial | rfl⟩
          case measure => simp [intOf] <;> omega
        · have hj2 := g2 hlt
          generalize hP4 : 4 ^ j = P4 at *
          have c1 : ¬ (P4 : Int) < (zs.length : Int) := by omega
          clear g1 g2
          have HX2' := Lib.hid (HX2.out.below HB3.out)
          clear u0 u1 t0 t1
          obtain ⟨x0, x1, x2, x3, -⟩ := block4 HX2'.out.blk
          obtain ⟨t0, t1⟩ := block2 HV2'.out
          simp only [] at t0 t1
          go_wp2_with fail
          refine (HRe.out V3 _ _ _ _ HX2'.out.pa).mono ?_
          rintro e w4 ⟨v4, rfl, ho4, hb4⟩
          have ho4' : w4.ownsRow V3.heap.size 41 1 v4 rows.flatten.length (gvs rows.flatten) := ho4
          rw [HFe.out] at ho4'
          obtain ⟨q4, c4, rfl, -, -, -⟩ := own_form ho4'
          have HX4 := Lib.hid (HX3.out.below hb4)
          have HV4 := Lib.hid (HV3.out.below hb4)
          have HB4 := Lib.hid (HBw3.out.trans (hb4.mono HBw3.out.size))
          clear ho4 ho4' hb4 x0 x1 x2 x3 t0 t1
          obtain ⟨x0, x1, x2, x3, -⟩ := block4 HX4.out.blk
          obtain ⟨t0, t1⟩ := block2 HV4.out
          simp only [] at t0 t1
          go_wp2_with fail
          refine (HRe2.out w4 _ _ _ _ HX4.out.pa).mono ?_
          rintro e w5 ⟨v5, rfl, ho5, hb5⟩
          have ho5' : w5.ownsRow w4.heap.size 41 1 v5 rows2.flatten.length (gvs rows2.flatten) := ho5
          rw [HF2.out] at ho5'
          obtain ⟨q5', c5, rfl, -, -, -⟩ := own_form ho5'
          have HX5 := Lib.hid (HX4.out.below hb5)
          have HV5 := Lib.hid (HV4.out.below hb5)
          have HB5 := Lib.hid (HB4.out.trans (hb5.mono HB4.out.size))
          clear ho5 ho5' hb5 x0 x1 x2 x3 t0 t1
          obtain ⟨x0, x1, x2, x3, -⟩ := block4 HX5.out.blk
          obtain ⟨t0, t1⟩ := block2 HV5.out
          simp only [] at t0 t1
          go_wp2_with fail
          refine (HGt.out w5 _ _ _ _ HX5.out.pa).mono ?_
          rintro e w6 ⟨⟨hnn, -⟩ | ⟨y, hy, rfl⟩, hb6⟩
          · cases hnn
          obtain rfl : y = x := by cases hy; rfl
          have HX6 := Lib.hid (HX5.out.below hb6)
          have HB6 := Lib.hid (HB5.out.trans (hb6.mono HB5.out.size))
          clear hy hb6 x0 x1 x2 x3 t0 t1
          obtain ⟨x0, x1, x2, x3, -⟩ := block4 HX6.out.blk
          have hge : gl = j := by have := HGL.out.1; omega
          subst hge
          go_wp2_with fail
          refine (HPo.out w6 _ _ _ _ HX6.out.pa).mono ?_
          rintro e w7 ⟨v7, rfl, ho7, hb7⟩
          have HA7 := Lib.hid (HX6.out.pa.ar.below hb7)
          have HB7 := Lib.hid (HB6.out.trans (hb7.mono HB6.out.size))
          have hFS := run_fieldS (.slice pg3 p2.st.gens.length cg3) (.slice pu3 p2.st.used.length cu3) (.slice pf3 p2.st.free.length cf3) v7
          clear ho7 hb7
          go_wp2_with fail
          refine (HAl.out w7 _ _ _ HA7.out).mono ?_
          rintro e w8 ⟨v8, rfl, ho8, hb8⟩
          rw [gvs_length] at ho8
          obtain ⟨q8, c8, rfl, -, -, -⟩ := own_form ho8
          have HB8 := Lib.hid (HB7.out.trans (hb8.mono HB7.out.size))
          have hAL : AL.length = F + gl := by have := HAc.out; have := HGL.out.2; have h1 := HFL.out.1; have h2 := HFL.out.2.2; omega
          rw [hAL]
          clear ho8 hb8
          go_wp2
          go_ret
          refine ⟨ret_bool ?_, HB8.out⟩
          first | (simp; done) | (simp [wrap64]; omega)
set_option maxRecDepth 100000 in
theorem vecPath_open {H : Type} {enc : TypeId × Value → H} {W : World} {base : Nat} {v0 v1 v2 : Value} {d0 d1 d2 : DataW H} {p0 p1 p2 : List MemPlace}
    (o0 : Value.okWide Try.prog W .any base 24 v0) (o1 : Value.okWide Try.prog W .any base 5 v1) (o2 : Value.okWide Try.prog W .any base 41 v2)
    (h0 : DataW.Trod enc Try.prog W 0 (fun _ => true) true 24 v0 d0 p0) (h1 : DataW.Trod enc Try.prog W 0 (fun _ => true) true 5 v1 d1 p1) (h2 : DataW.Trod enc Try.prog W 0 (fun _ => true) true 41 v2 d2 p2)
    (l0 : ∀ x ∈ p0, x.block < W.heap.size) (l1 : ∀ x ∈ p1, x.block < W.heap.size) (l2 : ∀ x ∈ p2, x.block < W.heap.size) :
    Calls Try.prog 6 #[v0, v1, v2] W fun e w' => e = .returned (.bool true) ∧ Below W.heap.size W w' := by
  obtain ⟨a1, rfl, rfl, rfl, w1⟩ := open_int Try.underlying5 o1 h1
  obtain ⟨a2, rfl, rfl, rfl, w2⟩ := open_int Try.underlying41 o2 h2
  obtain ⟨b0, b1⟩ := u8_wf w1
  obtain ⟨c0, c1⟩ := u64_wf w2
  obtain ⟨m, rfl⟩ := Int.eq_ofNat_of_zero_le b0
  obtain ⟨A, ca, zs, rfl, hc, hm, hR, hU⟩ := u64s_open o0 h0 l0
  exact path_law A ca zs m a2 W hc hm hR hU (by omega) c0 c1
end Go.Proofs.Ytmijgiihkapejaa
