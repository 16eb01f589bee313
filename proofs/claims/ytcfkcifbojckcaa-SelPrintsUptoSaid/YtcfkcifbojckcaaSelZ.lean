/-
  The document's own Same.
-/
import Derived.Test.YtcfkcifbojckcaaSelY
namespace Go.Proofs.Ytcfkcifbojckcaa
open Go.ChangeShapes Go.WideShapes Go.ChangeAt Go.RowKit
open Go.PlainAid (bt)
set_option linter.unusedVariables false
set_option linter.unusedSimpArgs false

set_option maxHeartbeats 1000000 in
theorem eq_rt (a0 b0 : Int) (a4 a5 b4 b5 : ByteArray) (W : World) : (Op.equalIn 10000 51 (.agg #[.int .i64 a0, .string a4, .string a5]) (.agg #[.int .i64 b0, .string b4, .string b5])).run Try.prog W = .ok (decide ((a0, a4, a5) = (b0, b4, b5))) W := by
  have hd : decide ((a0, a4, a5) = (b0, b4, b5)) = ((a0 == b0) && ((a4.toList == b4.toList) && (a5.toList == b5.toList))) := by
    rw [Bool.eq_iff_iff]
    simp only [decide_eq_true_eq, Bool.and_eq_true, beq_iff_eq, toList_inj, Prod.mk.injEq]
  rw [hd, show (10000 : Nat) = 9999 + 1 from rfl, run_equalIn_struct W 9999 _ _ _ under_rt (by kernel_rfl)]
  have hf := fields_rt
  generalize (Try.prog.fieldsOf 51).toList = fs at *
  have hl := congrArg List.length hf
  simp only [List.length_map, List.length_cons, List.length_nil] at hl
  match fs, hl, hf with
  | [f0, f4, f5], _, hf =>
    simp only [List.map_cons, List.map_nil, List.cons.injEq, Prod.mk.injEq, decide_eq_true_eq, and_true] at hf
    obtain ⟨⟨t0, o0, n0⟩, ⟨t4, o4, n4⟩, t5, o5, n5⟩ := hf
    have hG : Try.prog.plainKey 9 = true := by kernel_rfl
    have hH : Try.prog.plainKey 3 = true := by kernel_rfl
    simp only [Op.eqFields, n0, n4, n5, t0, t4, t5, o0, o4, o5, ne_eq, not_true, not_false_eq_true, if_true, Sem.run_bind]
    rw [run_part_plain W hH (v := .int .i64 a0) rfl]
    simp only [Result.andThen_ok]
    rw [run_part_plain W hH (v := .int .i64 b0) rfl]
    simp only [Result.andThen_ok]
    rw [run_equalIn_int W 9998 _ .i64 .i64 a0 b0 (by kernel_rfl)]
    simp only [Result.andThen_ok]
    cases h0 : (a0 == b0)
    · rfl
    simp only [Bool.not_true, Bool.false_eq_true, if_false, Sem.run_bind, Bool.true_and]
    rw [run_part_plain W hG (v := .string a4) rfl]
    simp only [Result.andThen_ok]
    rw [run_part_plain W hG (v := .string b4) rfl]
    simp only [Result.andThen_ok]
    rw [run_equalIn_string W 9998 _ a4 b4 (by kernel_rfl)]
    simp only [Result.andThen_ok]
    cases h4 : (a4.toList == b4.toList)
    · rfl
    simp only [Bool.not_true, Bool.false_eq_true, if_false, Sem.run_bind, Bool.true_and]
    rw [run_part_plain W hG (v := .string a5) rfl]
    simp only [Result.andThen_ok]
    rw [run_part_plain W hG (v := .string b5) rfl]
    simp only [Result.andThen_ok]
    rw [run_equalIn_string W 9998 _ a5 b5 (by kernel_rfl)]
    simp only [Result.andThen_ok, Bool.true_and]
    cases h5 : (a5.toList == b5.toList)
    · rfl
    · rfl
theorem ne_len {α : Type} {l l' : List α} (h : l.length ≠ l'.length) : l ≠ l' := fun e => h (by rw [e])
set_option maxRecDepth 100000 in
set_option maxHeartbeats 4000000 in
theorem rsame_any (A B : Option Addr) (x y : List Mr) (c d : Nat) (w : World) (hF : XR w A x) (hG : XR w B y) (z1 : smallX x) (z2 : smallX y) :
    Calls Try.prog 15 #[.slice A x.length c, .slice B y.length d] w (GivesV (.bool (decide (cx x = cx y))) w) := by
  have HF := Lib.hid hF
  have HG := Lib.hid hG
  have HZ1 := Lib.hid z1.2
  have HZ2 := Lib.hid z2.2
  have l1 : x.length ≤ 1000000000000 := z1.1
  have l2 : y.length ≤ 1000000000000 := z2.1
  obtain ⟨R, hR⟩ : ∃ R, decide (cx x = cx y) = R := ⟨_, rfl⟩
  have HE := Lib.hid hR
  rw [hR]
  obtain ⟨n, hn⟩ : ∃ n, x.length = n := ⟨_, rfl⟩
  obtain ⟨n', hn'⟩ : ∃ n, y.length = n := ⟨_, rfl⟩
  have HN := Lib.hid hn
  have HN' := Lib.hid hn'
  rw [hn] at l1 ⊢
  rw [hn'] at l2 ⊢
  clear hF hG z1 z2 hn hn' hR
  go_enter Try.func15, Try.ntmps15
  by_cases hnn : n = n'
  · subst hnn
    have hb : ((n : Int) != (n : Int)) = false := by simp
    go_wp2_with fail
    go_loopw [5] (fun q wr => ∃ (V : World) (i : Nat), V = wr ∧ i ≤ n ∧ q = .int .i64 i ∧ Hid ((cx x).take i = (cx y).take i) ∧ Hid (Below w.heap.size w V)) (fun q _ => n - (intOf q).toNat)
    case atStart => exact ⟨_, 0, rfl, Nat.zero_le _, rfl, Lib.hid rfl, Lib.hid (Below.refl _ _)⟩
    case round =>
      obtain ⟨V, i, rfl, hi, rfl, HT, HB⟩ := hrel
      by_cases hlt : i < n
      · have k0 : (0 : Int) ≤ (i : Int) := by omega
        have k1 : (i : Int) < (n : Int) := by omega
        have hix : i < x.length := by rw [HN.out]; exact hlt
        have hiy : i < y.length := by rw [HN'.out]; exact hlt
        have hcx : i < (cx x).length := by simpa [cx] using hix
        have hcy : i < (cx y).length := by simpa [cx] using hiy
        have HT2 := Lib.hid (eq_upto hcx hcy HT.out)
        have HX : Hid ((cx x)[i] ≠ (cx y)[i] → R = false) := Lib.hid (fun h => by rw [← HE.out, decide_eq_false_iff_not]; exact ne_at hcx hcy h)
        have e1 : (cx x)[i] = cl x[i].2 := by simp [cx]
        have e2 : (cx y)[i] = cl y[i].2 := by simp [cx]
        rw [e1, e2] at HT2 HX
        have hs1 := HZ1.out x[i] (List.getElem_mem hix)
        have hs2 := HZ2.out y[i] (List.getElem_mem hiy)
        obtain ⟨g, off, rfl, hg, c0, hM1⟩ := (HF.out.below HB.out) i x[i] (List.getElem?_eq_getElem hix)
        obtain ⟨g', off', rfl, hg', d0, hM2⟩ := (HG.out.below HB.out) i y[i] (List.getElem?_eq_getElem hiy)
        have HM1 := Lib.hid hM1
        have HM2 := Lib.hid hM2
        unfold r1 at c0 d0
        have HC0 := Lib.hid (fun (U : World) (hU : Below V.heap.size V U) => (hU.cell (p := ⟨g, off + i, none⟩) hg).trans c0)
        have HD0 := Lib.hid (fun (U : World) (hU : Below V.heap.size V U) => (hU.cell (p := ⟨g', off' + i, none⟩) hg').trans d0)
        have HS1 := Lib.hid hs1
        have HS2 := Lib.hid hs2
        clear e1 e2 hcx hcy hM1 hM2
        generalize x[i] = m at *
        generalize y[i] = m' at *
        obtain ⟨⟨mA, mc⟩, l⟩ := m
        obtain ⟨⟨mA', mc'⟩, l'⟩ := m'
        simp only [] at c0 d0 HC0 HD0 HM1 HM2 HT2 HX HS1 HS2 hs1 hs2
        obtain ⟨nl, hnl⟩ : ∃ nl, l.length = nl := ⟨_, rfl⟩
        obtain ⟨nl', hnl'⟩ : ∃ nl, l'.length = nl := ⟨_, rfl⟩
        have HNL := Lib.hid hnl
        have HNL' := Lib.hid hnl'
        have lb1 := hs1.1
        have lb2 := hs2.1
        rw [hnl] at c0 HC0 lb1
        rw [hnl'] at d0 HD0 lb2
        clear hnl hnl' hs1 hs2
        by_cases hll : nl = nl'
        · subst hll
          have hb2 : ((nl : Int) != (nl : Int)) = false := by simp
          go_upto_region 6 with fail
          go_quiet (fail)
          go_wp2_with fail
          clear c0 d0
          go_loopw [6] (fun q wr => ∃ (U : World) (k : Nat), U = wr ∧ k ≤ nl ∧ q = .int .i64 k ∧ Hid ((cl l).take k = (cl l').take k) ∧ Hid (Below V.heap.size V U)) (fun q _ => nl - (intOf q).toNat)
          case atStart => exact ⟨_, 0, rfl, Nat.zero_le _, rfl, Lib.hid rfl, Lib.hid (below_drewN (Below.refl _ _) _)⟩
          case round =>
            obtain ⟨U, k, rfl, hk, rfl, HK, HU⟩ := hrel
            have c0 := HC0.out U HU.out
            have d0 := HD0.out U HU.out
            by_cases hkl : k < nl
            · have j0 : (0 : Int) ≤ (k : Int) := by omega
              have j1 : (k : Int) < (nl : Int) := by omega
              have hkx : k < l.length := by rw [HNL.out]; exact hkl
              have hky : k < l'.length := by rw [HNL'.out]; exact hkl
              have hcx : k < (cl l).length := by simpa [cl] using hkx
              have hcy : k < (cl l').length := by simpa [cl] using hky
              have HK2 := Lib.hid (eq_upto hcx hcy HK.out)
              have HY : Hid ((cl l)[k] ≠ (cl l')[k] → R = false) := Lib.hid (fun h => HX.out (ne_at hcx hcy h))
              have e1 : (cl l)[k] = l[k].2 := by simp [cl]
              have e2 : (cl l')[k] = l'[k].2 := by simp [cl]
              rw [e1, e2] at HK2 HY
              have ht1 := HS1.out.2 l[k] (List.getElem_mem hkx)
              have ht2 := HS2.out.2 l'[k] (List.getElem_mem hky)
              obtain ⟨gs, os, rfl, hgs, s0, s1, hT1⟩ := (HM1.out.below HU.out) k l[k] (List.getElem?_eq_getElem hkx)
              obtain ⟨gs', os', rfl, hgs', t0, t1, hT2⟩ := (HM2.out.below HU.out) k l'[k] (List.getElem?_eq_getElem hky)
              have HT1 := Lib.hid hT1
              have HT2' := Lib.hid hT2
              have HCS := Lib.hid (fun (X : World) (hX : Below U.heap.size U X) => And.intro ((hX.cell (p := ⟨gs, os + k * 2, none⟩) hgs).trans s0) ((hX.cell (p := ⟨gs', os' + k * 2, none⟩) hgs').trans t0))
              clear e1 e2 hcx hcy hT1 hT2
              generalize l[k] = q1 at *
              generalize l'[k] = q2 at *
              obtain ⟨⟨tA, tc⟩, T, ch⟩ := q1
              obtain ⟨⟨tA', tc'⟩, T', ch'⟩ := q2
              simp only [] at s0 s1 t0 t1 HCS HT1 HT2' HK2 HY ht1 ht2
              obtain ⟨nt, hnt⟩ : ∃ nt, T.length = nt := ⟨_, rfl⟩
              obtain ⟨nt', hnt'⟩ : ∃ nt, T'.length = nt := ⟨_, rfl⟩
              have HNT := Lib.hid hnt
              have HNT' := Lib.hid hnt'
              rw [hnt] at s0 HCS ht1
              rw [hnt'] at t0 HCS ht2
              clear hnt hnt'
              by_cases hq : ch = ch' ∧ nt = nt'
              · obtain ⟨rfl, rfl⟩ := hq
                have hb3 : ((nt : Int) != (nt : Int)) = false := by simp
                have hb4 : (ch != ch) = false := by simp
                go_upto_region 11 with fail
                go_quiet (fail)
                go_wp2_with fail
                clear s0 s1 t0 t1 c0 d0
                have HRT : Hid (T ≠ T' → R = false) := Lib.hid (fun h => HY.out (fun e => h (by simp only [Prod.mk.injEq] at e; exact e.1)))
                have HKT : Hid (T = T' → (cl l).take (k + 1) = (cl l').take (k + 1)) := Lib.hid (fun h => HK2.out.2 (by rw [h]))
                have HC1 := Lib.hid (fun (X : World) (hX : Below U.heap.size U X) => And.intro (HC0.out X (HU.out.trans (hX.mono HU.out.size))) (HD0.out X (HU.out.trans (hX.mono HU.out.size))))
                go_loopw [7] (fun q wr => ∃ (P : World) (j : Nat), P = wr ∧ j ≤ nt ∧ q = .int .i64 j ∧ Hid (T.take j = T'.take j) ∧ Hid (Below U.heap.size U P)) (fun q _ => nt - (intOf q).toNat)
                case atStart => exact ⟨_, 0, rfl, Nat.zero_le _, rfl, Lib.hid rfl, Lib.hid (below_drewN (Below.refl _ _) _)⟩
                case round =>
                  obtain ⟨P, j, rfl, hj, rfl, HJ, HP⟩ := hrel
                  obtain ⟨c0, d0⟩ := HC1.out P HP.out
                  obtain ⟨s0, t0⟩ := HCS.out P HP.out
                  by_cases hjl : j < nt
                  · have i0 : (0 : Int) ≤ (j : Int) := by omega
                    have i1 : (j : Int) < (nt : Int) := by omega
                    have hjx : j < T.length := by rw [HNT.out]; exact hjl
                    have hjy : j < T'.length := by rw [HNT'.out]; exact hjl
                    have HJ2 := Lib.hid (eq_upto hjx hjy HJ.out)
                    have HN2 : Hid (T[j] ≠ T'[j] → R = false) := Lib.hid (fun h => HRT.out (ne_at hjx hjy h))
                    obtain ⟨gt, ot, rfl, hgt, x0, x1, x2⟩ := (HT1.out.below HP.out) j T[j] (List.getElem?_eq_getElem hjx)
                    obtain ⟨gt', ot', rfl, hgt', y0, y1, y2⟩ := (HT2'.out.below HP.out) j T'[j] (List.getElem?_eq_getElem hjy)
                    generalize T[j] = p1 at *
                    generalize T'[j] = p2 at *
                    obtain ⟨a, b, z⟩ := p1
                    obtain ⟨a', b', z'⟩ := p2
                    have hq := fun W => eq_rt a a' b z b' z' W
                    have HQ : Hid (decide ((a, b, z) = (a', b', z')) = true ↔ (a, b, z) = (a', b', z')) := Lib.hid decide_eq_true_iff
                    generalize decide ((a, b, z) = (a', b', z')) = Q at *
                    rcases Bool.eq_false_or_eq_true Q with hy | hy <;> subst hy
                    · go_upto_region 16 with fail
                      go_quiet (fail)
                      go_wp2
                      go_roundw
                      case rel => exact ⟨_, j + 1, rfl, by omega, by go_num, Lib.hid (HJ2.out.2 (HQ.out.1 rfl)), Lib.hid (below_drewN HP.out _)⟩
                      case measure => simp [intOf] <;> omega
                    · have HRf := Lib.hid (HN2.out (fun e => by have := HQ.out.2 e; cases this))
                      go_upto_region 16 with fail
                      go_quiet (fail)
                      go_wp2
                      go_ret
                      exact ⟨ret_bool HRf.out.symm, below_drewN ((HB.out.trans (HU.out.mono HB.out.size)).trans (HP.out.mono (HB.out.trans (HU.out.mono HB.out.size)).size)) _⟩
                  · obtain rfl : j = nt := by omega
                    have HKK := Lib.hid (HKT.out (by
                      have := HJ.out
                      rwa [List.take_of_length_le (by rw [HNT.out]; exact Nat.le_refl _), List.take_of_length_le (by rw [HNT'.out]; exact Nat.le_refl _)] at this))
                    go_wp2
                    go_roundw
                    case rel => exact ⟨_, k + 1, rfl, by omega, by go_num, HKK, Lib.hid (HU.out.trans (HP.out.mono HU.out.size))⟩
                    case measure => simp [intOf] <;> omega
              · have HRf : Hid (R = false) := Lib.hid (HY.out (fun e => hq (by
                  simp only [Prod.mk.injEq] at e
                  exact ⟨e.2, by rw [← HNT.out, ← HNT'.out, e.1]⟩)))
                by_cases hch : ch = ch'
                · subst hch
                  have hb3 : ((nt : Int) != (nt' : Int)) = true := by simp; intro h; exact hq ⟨rfl, by omega⟩
                  have hb4 : (ch != ch) = false := by simp
                  clear hq
                  go_upto_region 11 with fail
                  go_quiet (fail)
                  go_wp2
                  go_ret
                  exact ⟨ret_bool HRf.out.symm, below_drewN (HB.out.trans (HU.out.mono HB.out.size)) _⟩
                · clear hq
                  cases ch <;> cases ch' <;> first | exact absurd rfl hch | skip
                  all_goals
                    clear hch
                    go_upto_region 11 with fail
                    go_quiet (fail)
                    go_wp2
                    go_ret
                    exact ⟨ret_bool HRf.out.symm, below_drewN (HB.out.trans (HU.out.mono HB.out.size)) _⟩
            · obtain rfl : k = nl := by omega
              have HT3 : Hid ((cx x).take (i + 1) = (cx y).take (i + 1)) := Lib.hid (HT2.out.2 (by
                have := HK.out
                rwa [List.take_of_length_le (by simp [cl, HNL.out]), List.take_of_length_le (by simp [cl, HNL'.out])] at this))
              go_wp2
              go_roundw
              case rel => exact ⟨_, i + 1, rfl, by omega, by go_num, HT3, Lib.hid (HB.out.trans (HU.out.mono HB.out.size))⟩
              case measure => simp [intOf] <;> omega
        · have hb2 : ((nl : Int) != (nl' : Int)) = true := by simp; omega
          have HRf := Lib.hid (HX.out (ne_len (by simp only [cl, List.length_map, HNL.out, HNL'.out]; exact hll)))
          go_upto_region 6 with fail
          go_quiet (fail)
          go_wp2
          go_ret
          exact ⟨ret_bool HRf.out.symm, below_drewN HB.out _⟩
      · obtain rfl : i = n := by omega
        have HRt : Hid (R = true) := Lib.hid (by
          rw [← HE.out, decide_eq_true_eq]
          have := HT.out
          rwa [List.take_of_length_le (by simp [cx, HN.out]), List.take_of_length_le (by simp [cx, HN'.out])] at this)
        go_wp2
        go_ret
        exact ⟨ret_bool HRt.out.symm, HB.out⟩
  · have hb : ((n : Int) != (n' : Int)) = true := by simp; omega
    have HEE : Hid (R = false) := Lib.hid (by
      rw [← HE.out, decide_eq_false_iff_not]
      exact ne_len (by simp only [cx, List.length_map, HN.out, HN'.out]; exact hnn))
    go_wp2
    go_ret
    exact ⟨ret_bool HEE.out.symm, Below.refl _ _⟩
end Go.Proofs.Ytcfkcifbojckcaa
