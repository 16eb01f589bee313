/-
  The law ForestKinds: a forest with a Kind, or a Parent, that may not be is none; the document alone is one.
-/
import Derived.Test.YtbicaombdcnciaaDoorFoBe
import Derived.Test.YtbicaombdcnciaaDoorFoAc
import Derived.Test.YtbicaombdcnciaaDoorFoP
namespace Go.Proofs.YtbicaombdcnciaaDoor
open Go.ChangeShapes Go.WideShapes Go.ChangeAt Go.RowKit
set_option linter.unusedVariables false
set_option linter.unusedSimpArgs false

theorem info_node : (Tryd.prog.info? 36).map (fun i => (i.zero, i.size, i.bytes)) = some (some (.agg #[.int .i64 0, .string ⟨#[]⟩, .string ⟨#[]⟩, .slice none 0 0, .int .i64 0, .slice none 0 0]), 6, 96) := by kernel_rfl
set_option maxRecDepth 100000 in
set_option maxHeartbeats 8000000 in
theorem kinds_law (A : Option Addr) (F : List Mn) (c : Nat) (mx at0 kd pa : Int) (w : World) (hF : FR w A F) (hn : F.length ≤ 9223372036854775807) (hm : w.cell? ⟨0, 0, none⟩ = some (.int .i64 mx)) (ha : 0 ≤ at0 ∧ at0 ≤ 255) (hkd : I64 kd) (hpa : I64 pa) :
    Calls Tryd.prog 6 #[.slice A F.length c, .int .u8 at0, .int .i64 kd, .int .i64 pa] w (GivesV (.bool true) w) := by
  have hg0 : 0 < w.heap.size := World.block_lt_of_cell? _ _ hm
  have HF := Lib.hid hF
  have HB := Lib.hid (bounded_any A F c w hF hn)
  have HS := Lib.hid (fun (V : World) (hb : Below w.heap.size w V) => shown_true mx V ((hb.cell (p := ⟨0, 0, none⟩) hg0).trans hm))
  have HM := Lib.hid (fun (V : World) (hb : Below w.heap.size w V) (h : bdB F = true) => may_any A F c V (hF.below hb) (bd_sz h))
  have HL : Hid (bdB F = true → F.length ≤ 70) := Lib.hid (fun h => bd_len h)
  have HSz : Hid (bdB F = true → Sz F) := Lib.hid (fun h => bd_sz h)
  have HPos : Hid (mayB F = true → 0 < F.length) := Lib.hid (fun h => (mayB_parts h).1)
  have HKn : Hid (∀ n, n < F.length → (kd < 0 ∨ kd > 3 ∨ (kd == 0) ≠ ((n : Int) == 0)) → mayB (setK F n kd) = false) := Lib.hid (fun n hn h => kind_none hn h)
  have HPm : Hid (mayB F = true → ∀ n, n < F.length → mayB (setP F n pa) = decide (pa = par F n)) := Lib.hid (fun h n hn => parent_may h hn pa)
  clear hF hm
  generalize bdB F = BD at *
  generalize hMB : mayB F = MB at *
  have HMB := Lib.hid hMB
  clear hMB
  obtain ⟨n, hnn⟩ : ∃ n, F.length = n := ⟨_, rfl⟩
  have HNN := Lib.hid hnn
  rw [hnn] at hn HB HM HL ⊢
  clear hnn
  go_enter Tryd.func6, Tryd.ntmps6
  go_wp2_with fail
  refine HB.out.mono ?_
  rintro e w' ⟨rfl, rfl⟩
  cases BD with
  | false =>
    go_wp2_with fail
    refine (HS.out w' (Below.refl _ _)).mono ?_
    rintro e w1 ⟨rfl, hb⟩
    have HB1 := Lib.hid hb
    clear hb
    go_wp2
    go_ret
    exact ⟨rfl, HB1.out⟩
  | true =>
  have hn70 := HL.out rfl
  go_wp2_with fail
  refine (HM.out w' (Below.refl _ _) (by first | rfl | trivial)).mono ?_
  rintro e w1 ⟨rfl, hb⟩
  have HB1 := Lib.hid hb
  clear hb
  cases MB with
  | false =>
    go_wp2_with fail
    refine (HS.out w1 HB1.out).mono ?_
    rintro e w2 ⟨rfl, hb⟩
    have HB2 := Lib.hid (HB1.out.trans (hb.mono HB1.out.size))
    clear hb
    go_wp2
    go_ret
    exact ⟨rfl, HB2.out⟩
  | true =>
  go_wp2_with fail
  refine (HS.out w1 HB1.out).mono ?_
  rintro e w2 ⟨rfl, hb⟩
  have HB2 := Lib.hid (HB1.out.trans (hb.mono HB1.out.size))
  clear hb
  have hn0 : 0 < n := by rw [← HNN.out]; exact HPos.out (by first | rfl | trivial)
  obtain ⟨m0, hm0⟩ : ∃ m0, F[0]? = some m0 := ⟨_, List.getElem?_eq_getElem (by rw [HNN.out]; exact hn0)⟩
  obtain ⟨-, g, off, rfl, hg, -⟩ := HF.out 0 m0 hm0
  clear hm0
  obtain ⟨i0, hI, hZ0, hZ1, hZ2⟩ := info_parts info_node
  have HI1 := Lib.hid hI
  have HI2 := Lib.hid hZ0
  have HI3 := Lib.hid hZ1
  have HI4 := Lib.hid hZ2
  clear hI hZ0 hZ1 hZ2
  have HL6 : Hid ((fcells F).length = n * 6) := Lib.hid (by rw [fcells_length, HNN.out])
  have HCe : Hid (∀ (V : World), Below w'.heap.size w' V → ∀ j u, (fcells F)[j]? = some u → V.cell? ((⟨g, off, none⟩ : Addr).add j) = some u) := Lib.hid (fun V hb j u hu => by
    rw [show (⟨g, off, none⟩ : Addr).add j = ⟨g, off + j, none⟩ by unfold Addr.add; split <;> simp_all]
    exact row_cells (fr_row (HF.out.below hb)) j u hu)
  have hq0 : (0 : Int) < (n : Int) := by omega
  have hO2 : (w2.alloc (.cells #[] 36)).ownsRow w2.heap.size 36 6 (.slice (some ⟨w2.heap.size, 0, none⟩) 0 0) 0 [] := World.ownsRow_made w2 #[] 0 (Nat.le_refl _) (by simp [maxLen]) rfl
  have HO2 := Lib.hid hO2
  have HBa : Hid (Below w'.heap.size w' (w2.alloc (.cells #[] 36))) := Lib.hid (HB2.out.alloc HB2.out.size _)
  clear hO2
  go_upto_region 5 with (at_builtin; refine wpList_append_own_at _ rfl _ _ 23 rfl w2.heap.size 36 i0 _ 6 96 Tryd.underlying23 HI1.out HI2.out HI3.out HI4.out rfl (by decide) _ 0 [] rfl HO2.out ⟨g, off, none⟩ n c (fcells F) rfl HL6.out (HCe.out _ HBa.out) (fcells_one F) (by unfold maxLen; omega) (by omega) (by simp) ?_; intro v' w3 hown' hgrow _ hat; have HOw := Lib.hid hown'; have HGr := Lib.hid hgrow; clear hown' hgrow hat)
  have HB3 : Hid (Below w'.heap.size w' w3) := Lib.hid (HB2.out.trans ((((Below.refl w2.heap.size w2).alloc (Nat.le_refl _) _).grown HGr.out (by simp) (fun k e => by cases e; exact Nat.le_refl _)).mono HB2.out.size))
  have HOw' := HOw.out
  rw [Nat.zero_add, List.nil_append, ← HNN.out] at HOw'
  obtain ⟨g3, cap3, cur3, rfl, hb3, hg3, hc3, hm3, hs3, hr3⟩ := own_row HOw' (by rw [HNN.out]; exact hn0)
  rw [HNN.out] at hc3 hs3 ⊢
  obtain ⟨ix, hix⟩ : ∃ ix : Nat, at0 % (n : Int) = ix := ⟨(at0 % (n : Int)).toNat, by rw [Int.toNat_of_nonneg (Int.emod_nonneg _ (by omega))]⟩
  have hixn : ix < n := by have := Int.emod_lt_of_pos at0 (show (0 : Int) < n by omega); omega
  have hixF : ix < F.length := by rw [HNN.out]; exact hixn
  rw [hix]
  have HR3 := Lib.hid hr3
  have HG3 := Lib.hid hg3
  have x0 := (HR3.out ix F[ix] (List.getElem?_eq_getElem hixF)).c0
  rw [Nat.zero_add] at x0
  have fz : w3.frozen? ⟨g3, ix * 6, none⟩ = false := by simp [World.frozen?, HG3.out]
  have k0 : (0 : Int) ≤ (ix : Int) := by omega
  have k1 : (ix : Int) < (n : Int) := by omega
  obtain ⟨V3, hV3⟩ : ∃ V3, V3 = w3.setCell ⟨g3, ix * 6, none⟩ (.int .i64 kd) := ⟨_, rfl⟩
  have HV3s : Hid (V3.heap.size = w3.heap.size) := Lib.hid (by rw [hV3]; simp [World.setCell])
  have HB3V : Hid (Below w'.heap.size w' V3) := Lib.hid (by rw [hV3]; exact HB3.out.setCell (Nat.le_trans HB2.out.size hb3) _)
  have HF3 : Hid (FR V3 (some ⟨g3, 0, none⟩) (setK F ix kd)) := Lib.hid (row_fr HF.out HB3V.out (by rw [HV3s.out]; exact lt_of_block HG3.out) (by rw [hV3]; exact row_setK HR3.out HG3.out (by rw [HNN.out]; exact hs3) hixF kd) (setK_like hkd (fun i m hm => (HF.out i m hm).1)))
  have hO3 : (V3.alloc (.cells #[] 36)).ownsRow V3.heap.size 36 6 (.slice (some ⟨V3.heap.size, 0, none⟩) 0 0) 0 [] := World.ownsRow_made V3 #[] 0 (Nat.le_refl _) (by simp [maxLen]) rfl
  have HO3 := Lib.hid hO3
  have HBc : Hid (Below w'.heap.size w' (V3.alloc (.cells #[] 36))) := Lib.hid (HB3V.out.alloc HB3V.out.size _)
  have HIx := Lib.hid hix
  clear hO3 hr3 hg3 HOw' HOw HO2 hix
  go_upto_region 6 with fail
  rw [← hV3]
  clear hV3 x0 fz HB3 HR3 HG3
  go_upto_region 7 with (at_builtin; refine wpList_append_own_at _ rfl _ _ 23 rfl V3.heap.size 36 i0 _ 6 96 Tryd.underlying23 HI1.out HI2.out HI3.out HI4.out rfl (by decide) _ 0 [] rfl HO3.out ⟨g, off, none⟩ n c (fcells F) rfl HL6.out (HCe.out _ HBc.out) (fcells_one F) (by unfold maxLen; omega) (by omega) (by simp) ?_; intro v' w4 hown' hgrow _ hat; have HOw := Lib.hid hown'; have HGr4 := Lib.hid hgrow; clear hown' hgrow hat)
  have HB34 : Hid (Below V3.heap.size V3 w4) := Lib.hid (((Below.refl V3.heap.size V3).alloc (Nat.le_refl _) _).grown HGr4.out (by simp) (fun k e => by cases e; exact Nat.le_refl _))
  have HOw' := HOw.out
  rw [Nat.zero_add, List.nil_append, ← HNN.out] at HOw'
  obtain ⟨g4, cap4, cur4, rfl, hb4, hg4, hc4, hm4, hs4, hr4⟩ := own_row HOw' (by rw [HNN.out]; exact hn0)
  rw [HNN.out] at hc4 hs4 ⊢
  have HR4 := Lib.hid hr4
  have HG4 := Lib.hid hg4
  have x4 := (HR4.out ix F[ix] (List.getElem?_eq_getElem hixF)).c4
  rw [Nat.zero_add] at x4
  have fz : w4.frozen? ⟨g4, ix * 6 + 4, none⟩ = false := by simp [World.frozen?, HG4.out]
  obtain ⟨V4, hV4⟩ : ∃ V4, V4 = w4.setCell ⟨g4, ix * 6 + 4, none⟩ (.int .i64 pa) := ⟨_, rfl⟩
  have HV4s : Hid (V4.heap.size = w4.heap.size) := Lib.hid (by rw [hV4]; simp [World.setCell])
  have HB34V : Hid (Below V3.heap.size V3 V4) := Lib.hid (by rw [hV4]; exact HB34.out.setCell hb4 _)
  have HB4 : Hid (Below w'.heap.size w' V4) := Lib.hid (HB3V.out.trans (HB34V.out.mono HB3V.out.size))
  have HF4 : Hid (FR V4 (some ⟨g4, 0, none⟩) (setP F ix pa)) := Lib.hid (row_fr HF.out HB4.out (by rw [HV4s.out]; exact lt_of_block HG4.out) (by rw [hV4]; exact row_setP HR4.out HG4.out (by rw [HNN.out]; exact hs4) hixF pa) (setP_like hpa (fun i m hm => (HF.out i m hm).1)))
  have HF34 : Hid (FR V4 (some ⟨g3, 0, none⟩) (setK F ix kd)) := Lib.hid (HF3.out.below HB34V.out)
  clear hr4 hg4 HOw' HOw HO3
  go_upto_region 8 with fail
  rw [← hV4]
  clear hV4 x4 fz HB34 HR4 HG4 HF3 HB34V
  have HMg : Hid ((kd < 0 ∨ kd > 3 ∨ (kd == 0) ≠ ((ix : Int) == 0)) → Calls Tryd.prog 12 #[.slice (some ⟨g3, 0, none⟩) n cap3] V4 (GivesV (.bool false) V4)) := Lib.hid (fun h => by
    have := may_any (some ⟨g3, 0, none⟩) (setK F ix kd) cap3 V4 HF34.out (sz_like (HSz.out (by first | rfl | trivial)) (setK_length _ _ _) (fun m hm => setK_mem hm))
    rw [setK_length, HNN.out, HKn.out ix hixF h] at this
    exact this)
  obtain ⟨P, hP⟩ : ∃ P, P = par F ix := ⟨_, rfl⟩
  have HMh : Hid (∀ V, Below V4.heap.size V4 V → Calls Tryd.prog 12 #[.slice (some ⟨g4, 0, none⟩) n cap4] V (GivesV (.bool (decide (pa = P))) V)) := Lib.hid (fun V hb => by
    have := may_any (some ⟨g4, 0, none⟩) (setP F ix pa) cap4 V (HF4.out.below hb) (sz_like (HSz.out (by first | rfl | trivial)) (setP_length _ _ _) (fun m hm => setP_mem hm))
    rw [setP_length, HNN.out, HPm.out (by first | rfl | trivial) ix hixF, ← hP] at this
    exact this)
  have HMn : Hid (∀ V A7, FR V A7 [newM] → Calls Tryd.prog 12 #[.slice A7 1 1] V (GivesV (.bool true) V)) := Lib.hid (fun V A7 hA => by
    have := may_any A7 [newM] 1 V hA (bd_sz newM_bd)
    rw [newM_may] at this
    exact this)
  have HCg : Hid (∀ V, Below V4.heap.size V4 V → V.cell? ⟨g, off + ix * 6 + 4, none⟩ = some (.int .i64 P)) := Lib.hid (fun V hb => by
    obtain ⟨-, g', o', hA, -, hn⟩ := HF.out.below (HB4.out.trans (hb.mono HB4.out.size)) ix F[ix] (List.getElem?_eq_getElem hixF)
    cases hA
    rw [hP, par_at hixF]
    exact hn.c4)
  clear hP HF34 HF4 HKn HPm HSz HMB HNN hixF HCe HL6 HI1 HI2 HI3 HI4 HBa HBc HGr HGr4
  by_cases hk1 : kd < 0
  · have HG := Lib.hid (HMg.out (.inl hk1))
    go_wp2_with fail
    refine HG.out.mono ?_
    rintro e w5 ⟨rfl, hb⟩
    have HBX := Lib.hid hb
    clear hb HG
    go_upto_region 10 with fail
    by_cases hpp : pa = P
    · have hq : (pa == P) = true := by simpa using hpp
      rw [decide_eq_true hpp] at HMh
      clear hpp
      go_region_held3 (fun V => V.cell? ⟨g, off + ix * 6 + 4, none⟩ = some (.int .i64 P))
        (first | with_reducible exact HCg.out _ HBX.out | with_reducible exact HCg.out _ HBX.out.drew | with_reducible exact HCg.out _ HB6.out | with_reducible exact HCg.out _ HB7.out | with_reducible exact HCg.out _ HB8.out)
        (first
          | (go_at_call 16; refine (new_any _).mono ?_; rintro e w7 ⟨A7, rfl, hA7, hb⟩; have HA7 := Lib.hid hA7; have HB7 := Lib.hid (HB6.out.trans (hb.mono HB6.out.size)); clear hb hA7)
          | (go_at_call 12; refine (HMn.out _ _ HA7.out).mono ?_; rintro e w8 ⟨rfl, hb⟩; have HB8 := Lib.hid (HB7.out.trans (hb.mono HB7.out.size)); clear hb)
          | (go_at_call 12; refine (HMh.out _ HBX.out.drew).mono ?_; rintro e w6 ⟨rfl, hb⟩; have HB6 := Lib.hid (HBX.out.drew.trans (hb.mono HBX.out.drew.size)); clear hb))
      go_wp2
      go_ret
      exact ⟨rfl, HB4.out.trans (HB8.out.mono HB4.out.size)⟩
    · have hq : (pa == P) = false := by simpa using hpp
      rw [decide_eq_false hpp] at HMh
      clear hpp
      go_region_held3 (fun V => V.cell? ⟨g, off + ix * 6 + 4, none⟩ = some (.int .i64 P))
        (first | with_reducible exact HCg.out _ HBX.out | with_reducible exact HCg.out _ HBX.out.drew | with_reducible exact HCg.out _ HB6.out | with_reducible exact HCg.out _ HB7.out | with_reducible exact HCg.out _ HB8.out)
        (first
          | (go_at_call 16; refine (new_any _).mono ?_; rintro e w7 ⟨A7, rfl, hA7, hb⟩; have HA7 := Lib.hid hA7; have HB7 := Lib.hid (HB6.out.trans (hb.mono HB6.out.size)); clear hb hA7)
          | (go_at_call 12; refine (HMn.out _ _ HA7.out).mono ?_; rintro e w8 ⟨rfl, hb⟩; have HB8 := Lib.hid (HB7.out.trans (hb.mono HB7.out.size)); clear hb)
          | (go_at_call 12; refine (HMh.out _ HBX.out.drew).mono ?_; rintro e w6 ⟨rfl, hb⟩; have HB6 := Lib.hid (HBX.out.drew.trans (hb.mono HBX.out.drew.size)); clear hb))
      go_wp2
      go_ret
      exact ⟨rfl, HB4.out.trans (HB8.out.mono HB4.out.size)⟩
  by_cases hk2 : kd > 3
  · have hk2' : (3 : Int) < kd := hk2
    have HG := Lib.hid (HMg.out (.inr (.inl hk2)))
    go_wp2_with fail
    refine HG.out.mono ?_
    rintro e w5 ⟨rfl, hb⟩
    have HBX := Lib.hid hb
    clear hb HG
    go_upto_region 10 with fail
    by_cases hpp : pa = P
    · have hq : (pa == P) = true := by simpa using hpp
      rw [decide_eq_true hpp] at HMh
      clear hpp
      go_region_held3 (fun V => V.cell? ⟨g, off + ix * 6 + 4, none⟩ = some (.int .i64 P))
        (first | with_reducible exact HCg.out _ HBX.out | with_reducible exact HCg.out _ HBX.out.drew | with_reducible exact HCg.out _ HB6.out | with_reducible exact HCg.out _ HB7.out | with_reducible exact HCg.out _ HB8.out)
        (first
          | (go_at_call 16; refine (new_any _).mono ?_; rintro e w7 ⟨A7, rfl, hA7, hb⟩; have HA7 := Lib.hid hA7; have HB7 := Lib.hid (HB6.out.trans (hb.mono HB6.out.size)); clear hb hA7)
          | (go_at_call 12; refine (HMn.out _ _ HA7.out).mono ?_; rintro e w8 ⟨rfl, hb⟩; have HB8 := Lib.hid (HB7.out.trans (hb.mono HB7.out.size)); clear hb)
          | (go_at_call 12; refine (HMh.out _ HBX.out.drew).mono ?_; rintro e w6 ⟨rfl, hb⟩; have HB6 := Lib.hid (HBX.out.drew.trans (hb.mono HBX.out.drew.size)); clear hb))
      go_wp2
      go_ret
      exact ⟨rfl, HB4.out.trans (HB8.out.mono HB4.out.size)⟩
    · have hq : (pa == P) = false := by simpa using hpp
      rw [decide_eq_false hpp] at HMh
      clear hpp
      go_region_held3 (fun V => V.cell? ⟨g, off + ix * 6 + 4, none⟩ = some (.int .i64 P))
        (first | with_reducible exact HCg.out _ HBX.out | with_reducible exact HCg.out _ HBX.out.drew | with_reducible exact HCg.out _ HB6.out | with_reducible exact HCg.out _ HB7.out | with_reducible exact HCg.out _ HB8.out)
        (first
          | (go_at_call 16; refine (new_any _).mono ?_; rintro e w7 ⟨A7, rfl, hA7, hb⟩; have HA7 := Lib.hid hA7; have HB7 := Lib.hid (HB6.out.trans (hb.mono HB6.out.size)); clear hb hA7)
          | (go_at_call 12; refine (HMn.out _ _ HA7.out).mono ?_; rintro e w8 ⟨rfl, hb⟩; have HB8 := Lib.hid (HB7.out.trans (hb.mono HB7.out.size)); clear hb)
          | (go_at_call 12; refine (HMh.out _ HBX.out.drew).mono ?_; rintro e w6 ⟨rfl, hb⟩; have HB6 := Lib.hid (HBX.out.drew.trans (hb.mono HBX.out.drew.size)); clear hb))
      go_wp2
      go_ret
      exact ⟨rfl, HB4.out.trans (HB8.out.mono HB4.out.size)⟩
  have hk2' : ¬ (3 : Int) < kd := hk2
  rcases Bool.eq_false_or_eq_true (kd == 0) with hb1 | hb1 <;> rcases Bool.eq_false_or_eq_true ((ix : Int) == 0) with hb2 | hb2
  · have HBX := Lib.hid (Below.refl V4.heap.size V4)
    go_upto_region 10 with fail
    by_cases hpp : pa = P
    · have hq : (pa == P) = true := by simpa using hpp
      rw [decide_eq_true hpp] at HMh
      clear hpp
      go_region_held3 (fun V => V.cell? ⟨g, off + ix * 6 + 4, none⟩ = some (.int .i64 P))
        (first | with_reducible exact HCg.out _ HBX.out | with_reducible exact HCg.out _ HBX.out.drew | with_reducible exact HCg.out _ HB6.out | with_reducible exact HCg.out _ HB7.out | with_reducible exact HCg.out _ HB8.out)
        (first
          | (go_at_call 16; refine (new_any _).mono ?_; rintro e w7 ⟨A7, rfl, hA7, hb⟩; have HA7 := Lib.hid hA7; have HB7 := Lib.hid (HB6.out.trans (hb.mono HB6.out.size)); clear hb hA7)
          | (go_at_call 12; refine (HMn.out _ _ HA7.out).mono ?_; rintro e w8 ⟨rfl, hb⟩; have HB8 := Lib.hid (HB7.out.trans (hb.mono HB7.out.size)); clear hb)
          | (go_at_call 12; refine (HMh.out _ HBX.out.drew).mono ?_; rintro e w6 ⟨rfl, hb⟩; have HB6 := Lib.hid (HBX.out.drew.trans (hb.mono HBX.out.drew.size)); clear hb))
      go_wp2
      go_ret
      exact ⟨rfl, HB4.out.trans (HB8.out.mono HB4.out.size)⟩
    · have hq : (pa == P) = false := by simpa using hpp
      rw [decide_eq_false hpp] at HMh
      clear hpp
      go_region_held3 (fun V => V.cell? ⟨g, off + ix * 6 + 4, none⟩ = some (.int .i64 P))
        (first | with_reducible exact HCg.out _ HBX.out | with_reducible exact HCg.out _ HBX.out.drew | with_reducible exact HCg.out _ HB6.out | with_reducible exact HCg.out _ HB7.out | with_reducible exact HCg.out _ HB8.out)
        (first
          | (go_at_call 16; refine (new_any _).mono ?_; rintro e w7 ⟨A7, rfl, hA7, hb⟩; have HA7 := Lib.hid hA7; have HB7 := Lib.hid (HB6.out.trans (hb.mono HB6.out.size)); clear hb hA7)
          | (go_at_call 12; refine (HMn.out _ _ HA7.out).mono ?_; rintro e w8 ⟨rfl, hb⟩; have HB8 := Lib.hid (HB7.out.trans (hb.mono HB7.out.size)); clear hb)
          | (go_at_call 12; refine (HMh.out _ HBX.out.drew).mono ?_; rintro e w6 ⟨rfl, hb⟩; have HB6 := Lib.hid (HBX.out.drew.trans (hb.mono HBX.out.drew.size)); clear hb))
      go_wp2
      go_ret
      exact ⟨rfl, HB4.out.trans (HB8.out.mono HB4.out.size)⟩
  · have HG := Lib.hid (HMg.out (.inr (.inr (by rw [hb1, hb2]; decide))))
    go_wp2_with fail
    refine HG.out.mono ?_
    rintro e w5 ⟨rfl, hb⟩
    have HBX := Lib.hid hb
    clear hb HG
    go_upto_region 10 with fail
    by_cases hpp : pa = P
    · have hq : (pa == P) = true := by simpa using hpp
      rw [decide_eq_true hpp] at HMh
      clear hpp
      go_region_held3 (fun V => V.cell? ⟨g, off + ix * 6 + 4, none⟩ = some (.int .i64 P))
        (first | with_reducible exact HCg.out _ HBX.out | with_reducible exact HCg.out _ HBX.out.drew | with_reducible exact HCg.out _ HB6.out | with_reducible exact HCg.out _ HB7.out | with_reducible exact HCg.out _ HB8.out)
        (first
          | (go_at_call 16; refine (new_any _).mono ?_; rintro e w7 ⟨A7, rfl, hA7, hb⟩; have HA7 := Lib.hid hA7; have HB7 := Lib.hid (HB6.out.trans (hb.mono HB6.out.size)); clear hb hA7)
          | (go_at_call 12; refine (HMn.out _ _ HA7.out).mono ?_; rintro e w8 ⟨rfl, hb⟩; have HB8 := Lib.hid (HB7.out.trans (hb.mono HB7.out.size)); clear hb)
          | (go_at_call 12; refine (HMh.out _ HBX.out.drew).mono ?_; rintro e w6 ⟨rfl, hb⟩; have HB6 := Lib.hid (HBX.out.drew.trans (hb.mono HBX.out.drew.size)); clear hb))
      go_wp2
      go_ret
      exact ⟨rfl, HB4.out.trans (HB8.out.mono HB4.out.size)⟩
    · have hq : (pa == P) = false := by simpa using hpp
      rw [decide_eq_false hpp] at HMh
      clear hpp
      go_region_held3 (fun V => V.cell? ⟨g, off + ix * 6 + 4, none⟩ = some (.int .i64 P))
        (first | with_reducible exact HCg.out _ HBX.out | with_reducible exact HCg.out _ HBX.out.drew | with_reducible exact HCg.out _ HB6.out | with_reducible exact HCg.out _ HB7.out | with_reducible exact HCg.out _ HB8.out)
        (first
          | (go_at_call 16; refine (new_any _).mono ?_; rintro e w7 ⟨A7, rfl, hA7, hb⟩; have HA7 := Lib.hid hA7; have HB7 := Lib.hid (HB6.out.trans (hb.mono HB6.out.size)); clear hb hA7)
          | (go_at_call 12; refine (HMn.out _ _ HA7.out).mono ?_; rintro e w8 ⟨rfl, hb⟩; have HB8 := Lib.hid (HB7.out.trans (hb.mono HB7.out.size)); clear hb)
          | (go_at_call 12; refine (HMh.out _ HBX.out.drew).mono ?_; rintro e w6 ⟨rfl, hb⟩; have HB6 := Lib.hid (HBX.out.drew.trans (hb.mono HBX.out.drew.size)); clear hb))
      go_wp2
      go_ret
      exact ⟨rfl, HB4.out.trans (HB8.out.mono HB4.out.size)⟩
  · have HG := Lib.hid (HMg.out (.inr (.inr (by rw [hb1, hb2]; decide))))
    go_wp2_with fail
    refine HG.out.mono ?_
    rintro e w5 ⟨rfl, hb⟩
    have HBX := Lib.hid hb
    clear hb HG
    go_upto_region 10 with fail
    by_cases hpp : pa = P
    · have hq : (pa == P) = true := by simpa using hpp
      rw [decide_eq_true hpp] at HMh
      clear hpp
      go_region_held3 (fun V => V.cell? ⟨g, off + ix * 6 + 4, none⟩ = some (.int .i64 P))
        (first | with_reducible exact HCg.out _ HBX.out | with_reducible exact HCg.out _ HBX.out.drew | with_reducible exact HCg.out _ HB6.out | with_reducible exact HCg.out _ HB7.out | with_reducible exact HCg.out _ HB8.out)
        (first
          | (go_at_call 16; refine (new_any _).mono ?_; rintro e w7 ⟨A7, rfl, hA7, hb⟩; have HA7 := Lib.hid hA7; have HB7 := Lib.hid (HB6.out.trans (hb.mono HB6.out.size)); clear hb hA7)
          | (go_at_call 12; refine (HMn.out _ _ HA7.out).mono ?_; rintro e w8 ⟨rfl, hb⟩; have HB8 := Lib.hid (HB7.out.trans (hb.mono HB7.out.size)); clear hb)
          | (go_at_call 12; refine (HMh.out _ HBX.out.drew).mono ?_; rintro e w6 ⟨rfl, hb⟩; have HB6 := Lib.hid (HBX.out.drew.trans (hb.mono HBX.out.drew.size)); clear hb))
      go_wp2
      go_ret
      exact ⟨rfl, HB4.out.trans (HB8.out.mono HB4.out.size)⟩
    · have hq : (pa == P) = false := by simpa using hpp
      rw [decide_eq_false hpp] at HMh
      clear hpp
      go_region_held3 (fun V => V.cell? ⟨g, off + ix * 6 + 4, none⟩ = some (.int .i64 P))
        (first | with_reducible exact HCg.out _ HBX.out | with_reducible exact HCg.out _ HBX.out.drew | with_reducible exact HCg.out _ HB6.out | with_reducible exact HCg.out _ HB7.out | with_reducible exact HCg.out _ HB8.out)
        (first
          | (go_at_call 16; refine (new_any _).mono ?_; rintro e w7 ⟨A7, rfl, hA7, hb⟩; have HA7 := Lib.hid hA7; have HB7 := Lib.hid (HB6.out.trans (hb.mono HB6.out.size)); clear hb hA7)
          | (go_at_call 12; refine (HMn.out _ _ HA7.out).mono ?_; rintro e w8 ⟨rfl, hb⟩; have HB8 := Lib.hid (HB7.out.trans (hb.mono HB7.out.size)); clear hb)
          | (go_at_call 12; refine (HMh.out _ HBX.out.drew).mono ?_; rintro e w6 ⟨rfl, hb⟩; have HB6 := Lib.hid (HBX.out.drew.trans (hb.mono HBX.out.drew.size)); clear hb))
      go_wp2
      go_ret
      exact ⟨rfl, HB4.out.trans (HB8.out.mono HB4.out.size)⟩
  · have HBX := Lib.hid (Below.refl V4.heap.size V4)
    go_upto_region 10 with fail
    by_cases hpp : pa = P
    · have hq : (pa == P) = true := by simpa using hpp
      rw [decide_eq_true hpp] at HMh
      clear hpp
      go_region_held3 (fun V => V.cell? ⟨g, off + ix * 6 + 4, none⟩ = some (.int .i64 P))
        (first | with_reducible exact HCg.out _ HBX.out | with_reducible exact HCg.out _ HBX.out.drew | with_reducible exact HCg.out _ HB6.out | with_reducible exact HCg.out _ HB7.out | with_reducible exact HCg.out _ HB8.out)
        (first
          | (go_at_call 16; refine (new_any _).mono ?_; rintro e w7 ⟨A7, rfl, hA7, hb⟩; have HA7 := Lib.hid hA7; have HB7 := Lib.hid (HB6.out.trans (hb.mono HB6.out.size)); clear hb hA7)
          | (go_at_call 12; refine (HMn.out _ _ HA7.out).mono ?_; rintro e w8 ⟨rfl, hb⟩; have HB8 := Lib.hid (HB7.out.trans (hb.mono HB7.out.size)); clear hb)
          | (go_at_call 12; refine (HMh.out _ HBX.out.drew).mono ?_; rintro e w6 ⟨rfl, hb⟩; have HB6 := Lib.hid (HBX.out.drew.trans (hb.mono HBX.out.drew.size)); clear hb))
      go_wp2
      go_ret
      exact ⟨rfl, HB4.out.trans (HB8.out.mono HB4.out.size)⟩
    · have hq : (pa == P) = false := by simpa using hpp
      rw [decide_eq_false hpp] at HMh
      clear hpp
      go_region_held3 (fun V => V.cell? ⟨g, off + ix * 6 + 4, none⟩ = some (.int .i64 P))
        (first | with_reducible exact HCg.out _ HBX.out | with_reducible exact HCg.out _ HBX.out.drew | with_reducible exact HCg.out _ HB6.out | with_reducible exact HCg.out _ HB7.out | with_reducible exact HCg.out _ HB8.out)
        (first
          | (go_at_call 16; refine (new_any _).mono ?_; rintro e w7 ⟨A7, rfl, hA7, hb⟩; have HA7 := Lib.hid hA7; have HB7 := Lib.hid (HB6.out.trans (hb.mono HB6.out.size)); clear hb hA7)
          | (go_at_call 12; refine (HMn.out _ _ HA7.out).mono ?_; rintro e w8 ⟨rfl, hb⟩; have HB8 := Lib.hid (HB7.out.trans (hb.mono HB7.out.size)); clear hb)
          | (go_at_call 12; refine (HMh.out _ HBX.out.drew).mono ?_; rintro e w6 ⟨rfl, hb⟩; have HB6 := Lib.hid (HBX.out.drew.trans (hb.mono HBX.out.drew.size)); clear hb))
      go_wp2
      go_ret
      exact ⟨rfl, HB4.out.trans (HB8.out.mono HB4.out.size)⟩
end Go.Proofs.YtbicaombdcnciaaDoor
