/-
  The document's own Text and take; its number, its sixes.
-/
import Derived.Test.YthfeonmaajiajaaDoorRecRa
import Derived.Test.YthfeonmaajiajaaDoorRecN
namespace Go.Proofs.YthfeonmaajiajaaDoor
open Go.ChangeShapes Go.WideShapes Go.ChangeAt Go.RowKit
open Rm
set_option linter.unusedVariables false
set_option linter.unusedSimpArgs false

theorem byt_div (x : Int) (q : Nat) (h : 0 ≤ x) : x / 256 ^ q / 256 = x / 256 ^ (q + 1) := by
  rw [Int.pow_succ, Int.ediv_ediv_of_nonneg (Int.pow_nonneg (by decide))]
set_option maxRecDepth 100000 in
set_option maxHeartbeats 4000000 in
theorem rtext_any (A : Option Addr) (n c : Nat) (l : List Int) (i : Int) (w : World) (hA : LV w A (gvs l)) (hl : l.length = n) (hn : n ≤ 1000) (hU : U64 l) :
    Calls Tryd.prog 35 #[.slice A n c, .int .i64 i] w (GivesT (txt l i) w) := by
  obtain ⟨i0, hi, hz0, hz1, hz2⟩ := info_parts info_B
  have HI := Lib.hid (And.intro hi (And.intro hz0 (And.intro hz1 hz2)))
  have HA := Lib.hid hA
  have HL := Lib.hid hl
  have HU := Lib.hid hU
  clear hi hz0 hz1 hz2 hA hl hU
  by_cases h0 : i < 0
  · have HN : Hid (txt l i = none) := Lib.hid (txt_neg h0)
    go_enter Tryd.func35, Tryd.ntmps35
    go_wp2
    go_ret2
    exact givesT_none HN.out rfl (Below.refl _ _)
  · obtain ⟨m, rfl⟩ := Int.eq_ofNat_of_zero_le (show 0 ≤ i by omega)
    by_cases h1 : 8 * n < m
    · have HN : Hid (txt l m = none) := Lib.hid (txt_big (by rw [HL.out]; omega))
      go_enter Tryd.func35, Tryd.ntmps35
      go_wp2
      go_ret2
      exact givesT_none HN.out rfl (Below.refl _ _)
    · have hm8 : m ≤ 8 * n := by omega
      clear h0
      go_enter Tryd.func35, Tryd.ntmps35
      go_wp2
      go_loopw [6, 7] (fun b q wr => ∃ (k : Nat) (p : Option Addr) (cp : Nat), k ≤ m ∧ q = .int .i64 k ∧ b = .slice p k cp ∧ Hid (wr.ownsRow w.heap.size 5 1 (.slice p k cp) k (wvs (B l k))) ∧ Hid (p ≠ none) ∧ Hid (Below w.heap.size w wr)) (fun _ q _ => m - (intOf q).toNat)
      case atStart => exact ⟨0, _, 0, Nat.zero_le _, rfl, rfl, Lib.hid (World.ownsRow_made w #[] 0 (Nat.le_refl _) (by simp [maxLen]) rfl), Lib.hid (by simp), Lib.hid ((Below.refl _ w).alloc (Nat.le_refl _) _)⟩
      case round =>
        obtain ⟨k, p, cp, hk, rfl, rfl, HO, HPn, HB⟩ := hrel
        have hBs := HB.out.size
        by_cases hlt : k < m
        · have hkl : k / 8 < l.length := by rw [HL.out]; omega
          obtain ⟨g, o, rfl, hg, hc⟩ := gat HA.out hkl
          obtain ⟨q8, hq8⟩ : ∃ q : Nat, k / 8 = q := ⟨_, rfl⟩
          obtain ⟨r8, hr8⟩ : ∃ q : Nat, k % 8 = q := ⟨_, rfl⟩
          have e1 : (k : Int) / 8 = (q8 : Int) := by omega
          have e2 : (k : Int) % 8 = (r8 : Int) := by omega
          have hr7 : r8 < 8 := by omega
          have hq0 : (0 : Int) ≤ (q8 : Int) := by omega
          have hq1 : (q8 : Int) < (n : Int) := by omega
          have hc2 := bcell HB.out hg hc
          obtain ⟨x0, x1⟩ := HU.out l[k / 8] (List.getElem_mem hkl)
          have HX : Hid (((bt8 l k).toNat : Int) = byt l[k / 8] r8) := Lib.hid (by rw [bt8_toNat, hr8, List.getD, List.getElem?_eq_getElem hkl]; rfl)
          have HBs := Lib.hid (B_succ l k)
          generalize l[k / 8] = x at *
          rw [hq8] at hc2
          have HE1 := Lib.hid e1
          have HE2 := Lib.hid e2
          clear hc hq8 hr8 hkl
          go_wp2_with fail
          go_loopw [8, 9] (fun v q wx => ∃ j : Nat, j ≤ r8 ∧ q = .int .i64 j ∧ v = .int .u64 (x / 256 ^ j) ∧ wx = wr) (fun _ q _ => r8 - (intOf q).toNat)
          case atStart => exact ⟨0, Nat.zero_le _, rfl, by simp, rfl⟩
          case round =>
            obtain ⟨j, hj, rfl, rfl, rfl⟩ := hrel
            have y0 : 0 ≤ x / 256 ^ j := Int.ediv_nonneg x0 (Int.pow_nonneg (by decide))
            have y1 : x / 256 ^ j ≤ x := Int.ediv_le_self _ x0
            by_cases hj8 : j < r8
            · have HD := Lib.hid (byt_div x j x0)
              generalize x / 256 ^ j = y at *
              go_wp2
              go_roundw
              case rel => exact ⟨j + 1, by omega, by go_num, by rw [HD.out], by first | rfl | trivial⟩
              case measure => simp [intOf]; omega
            · obtain rfl : j = r8 := by omega
              have HD : Hid (((bt8 l k).toNat : Int) = x / 256 ^ j % 256) := Lib.hid HX.out
              generalize x / 256 ^ j = y at *
              have y2 : 0 ≤ y % 256 := Int.emod_nonneg _ (by decide)
              have y3 : y % 256 < 256 := Int.emod_lt_of_pos _ (by decide)
              go_wp2_with (at_builtin; refine wpList_append_own _ rfl _ _ 61 rfl w.heap.size 5 i0 (.int .u8 0) 1 1 Tryd.underlying61 HI.out.1 HI.out.2.1 HI.out.2.2.1 HI.out.2.2.2 rfl (by decide) _ _ _ rfl (HO.out.alloc _) ⟨_, 0, none⟩ 1 1 [.int .u8 (y % 256)] rfl rfl (cell_one_new _ _ _) (by simp [Value.oneCell']) (by unfold maxLen; omega) (by omega) (by simp; omega) ?_; intro v' w2 hown' hgrow _; obtain ⟨g', cap', rfl⟩ := ownsRow_succ hown'; have HO' := Lib.hid hown'; have HG := Lib.hid hgrow; clear hown' hgrow)
              go_roundw
              case rel =>
                refine ⟨k + 1, _, cap', by omega, by go_num, rfl, Lib.hid ?_, Lib.hid (by simp), Lib.hid ((HB.out.alloc HB.out.size _).grown HG.out (HB.out.alloc HB.out.size _).size (fun q e => (HO.out.lt q e).1))⟩
                rw [HBs.out]
                have e1 : wvs (B l k ++ [bt8 l k]) = wvs (B l k) ++ [.int .u8 (y % 256)] := by simp [wvs, HD.out]
                rw [e1]
                exact HO'.out
              case measure => simp [intOf] <;> omega
        · obtain rfl : k = m := by omega
          have hlenm : (B l k).length = k := B_length _ _
          have hsm : (B l k).length ≤ 100000 := by omega
          have HWd := Lib.hid (rwords_any (B l k) wr hsm)
          have HWL : Hid ((wds (B l k)).length ≤ 1000) := Lib.hid (by rw [wds_length, hlenm]; unfold nw; omega)
          have HCV : Hid (∀ W, Below wr.heap.size wr W → Sem.run Tryd.prog (convert 61 9 (.slice p k cp)) W = .ok (.string (str (B l k))) W) := Lib.hid (fun W hb => by
            have hO := own_below HO.out hb
            rcases hO.2 with ⟨e1, -⟩ | ⟨g, cap, cur, e1, -⟩
            · have ep : p = none := by injection e1
              exact absurd ep HPn.out
            · have ep : p = some ⟨g, 0, none⟩ := by injection e1
              subst ep
              have := conv_back W g (B l k) cp (CB.of_own hO)
              rwa [hlenm] at this)
          have hcv := HCV.out wr (Below.refl _ _)
          clear hlenm
          go_wp2_with fail
          refine HWd.out.mono ?_
          rintro e w1 ⟨v, rfl, ho1, hb1⟩
          obtain ⟨p1, c1, rfl, -, -, -⟩ := own_form ho1
          have HB1 := Lib.hid (HB.out.trans (hb1.mono hBs))
          have HO1 := Lib.hid (LV.of_own ho1)
          have HEq1 := Lib.hid (rsame_any p1 A (wds (B l k)).length n c1 c (wds (B l k)) l w1 HO1.out (HA.out.below HB1.out) rfl HL.out (by have := HWL.out; omega) (by omega))
          have HB0 := Lib.hid hb1
          clear ho1 hb1 hcv
          rcases Bool.eq_false_or_eq_true (decide (wds (B l k) = l)) with hd | hd
          · have HD := Lib.hid (of_decide_eq_true hd)
            rw [hd] at HEq1
            clear hd
            go_wp2_with fail
            refine HEq1.out.mono ?_
            rintro e w2 ⟨rfl, hb2⟩
            have HB2 := Lib.hid (HB1.out.trans (hb2.mono HB1.out.size))
            have hcv := HCV.out w2 (HB0.out.trans (hb2.mono HB0.out.size))
            clear hb2
            go_wp2
            go_ret2
            exact givesT_some (txt_yes (by rw [HL.out]; exact hm8) HD.out) rfl HB2.out
          · have HD := Lib.hid (of_decide_eq_false hd)
            rw [hd] at HEq1
            clear hd
            go_wp2_with fail
            refine HEq1.out.mono ?_
            rintro e w2 ⟨rfl, hb2⟩
            have HB2 := Lib.hid (HB1.out.trans (hb2.mono HB1.out.size))
            clear hb2
            go_wp2
            go_ret2
            exact givesT_none (txt_no HD.out) rfl HB2.out
end Go.Proofs.YthfeonmaajiajaaDoor
