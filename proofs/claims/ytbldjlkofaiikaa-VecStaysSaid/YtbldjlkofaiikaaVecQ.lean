/-
  New, Items, Get.
-/
import Derived.Test.YtbldjlkofaiikaaVecP
namespace Go.Proofs.Ytbldjlkofaiikaa
open Go.ChangeShapes Go.WideShapes Go.ChangeAt Go.RowKit
set_option linter.unusedVariables false
set_option linter.unusedSimpArgs false

/-- A pool of n free slots. -/
def freshP (n : Nat) : Pl := ⟨fresh n, List.replicate n []⟩
theorem freshP_ok {n : Nat} (h : n ≤ 500) : PK n 1 (freshP n) := by
  refine ⟨fresh_ok h, by simp [freshP], fun c hc => ?_, fun c hc => ?_⟩
  · rw [List.eq_of_mem_replicate hc]; simp
  · rw [List.eq_of_mem_replicate hc]; intro x hx; simp at hx
def zK : Array Value := #[.int .i64 0, .int .u64 0, .int .u64 0, .int .u64 0, .int .u64 0]
theorem made_cvs (n : Nat) : (madeCells zK (n * 5)).toList = cvs (List.replicate n []) := by
  apply List.ext_getElem?
  intro j
  rcases Nat.lt_or_ge j (n * 5) with hj | hj
  · have e : j = j / 5 * 5 + j % 5 := by omega
    have h1 := cvs_at (List.replicate n []) (j / 5) (j % 5) (by simp; omega) (by omega)
    rw [← e] at h1
    rw [h1, getD_replicate, if_pos (by omega)]
    rw [Array.getElem?_toList, madeCells, Array.getElem?_map, Array.getElem?_range, if_pos hj]
    show some (zK[j % 5]!) = _
    have h5 : j % 5 < 5 := by omega
    generalize j % 5 = r at *
    match r, h5 with
    | 0, _ => rfl
    | 1, _ => rfl
    | 2, _ => rfl
    | 3, _ => rfl
    | 4, _ => rfl
    | r + 5, h => omega
  · rw [List.getElem?_eq_none (by rw [Array.length_toList, size_madeCells]; exact hj), List.getElem?_eq_none (by rw [cvs_length]; simp; exact hj)]
def GivesN (p : Pl) (e : Int) (w : World) (en : Ending) (w' : World) : Prop :=
  ∃ vg vu vf vc, en = .returned (.tuple #[.agg #[vg, vu, vf, vc], .int .i64 e]) ∧ PA w' w.heap.size vg vu vf vc p ∧ Below w.heap.size w w'

set_option maxRecDepth 100000 in
set_option maxHeartbeats 4000000 in
theorem newV_ok (n : Nat) (w : World) (h : n ≤ 500) :
    Calls Try.prog 6 #[.int .i64 n] w (GivesN (freshP n) 0 w) := by
  obtain ⟨i0', hi0, hz0, hz1, hz2⟩ := info_parts info_K
  have mk : ∀ W : World, (Instr.makeSlice 29 (.int .i64 (n : Int)) (.int .i64 (n : Int))).run Try.prog W = .ok (.slice (some ⟨W.heap.size, 0, none⟩) n n) (W.alloc (.cells (madeCells zK (n * 5)) 83)) := fun W => by
    have hr := run_make (P := Try.prog) W 29 83 i0' _ Try.underlying29 hi0 hz0 .i64 .i64 n n (by omega) (Int.le_refl _) (by rw [hz2]; omega) (by omega)
    simp only [Int.toNat_natCast, hz1] at hr
    exact hr
  clear hi0 hz0 hz1 hz2
  go_enter Try.func6, Try.ntmps6
  go_wp2_with fail
  refine (new_ok n _ h).mono ?_
  rintro e w1 ⟨v1, v2, v3, rfl, hA, hb⟩
  obtain ⟨pg1, cg1, pu1, cu1, pf1, cf1, rfl, rfl, rfl⟩ := hA.form
  have HA := Lib.hid hA
  have HB := Lib.hid hb
  have hs1 := hb.size
  simp only [World.size_alloc] at hs1
  have HT : Hid (w1.heap[w.heap.size]? = some (.cells #[.slice none 0 0, .slice none 0 0, .slice none 0 0, .slice none 0 0] 31 (0, 0))) := Lib.hid ((hb.block _ (by simp)).trans (heap_alloc_new w _))
  clear hA hb
  obtain ⟨d0, d1, d2, d3, y0, y1, y2, y3⟩ := block4 HT.out
  have ne : w.heap.size ≠ w1.heap.size := by omega
  have ne' : w1.heap.size ≠ w.heap.size := by omega
  have ne2 : w.heap.size < w1.heap.size := by omega
  have ne3 : w.heap.size ≠ w1.heap.size + 1 := by omega
  go_wp2_with fail
  go_region
  all_goals go_wp2
  all_goals
    obtain ⟨V, hV⟩ : ∃ V, V = (((w1.setCell ⟨w.heap.size, 0, none⟩ (.slice pg1 (fresh n).gens.length cg1)).setCell ⟨w.heap.size, 1, none⟩ (.slice pu1 (fresh n).used.length cu1)).setCell ⟨w.heap.size, 2, none⟩ (.slice pf1 (fresh n).free.length cf1)).setCell ⟨w.heap.size, 3, none⟩ (.slice (some ⟨w1.heap.size + 1, 0, none⟩) n n) := ⟨_, rfl⟩
    have hAV : Ar V (w.heap.size + 1) (.slice pg1 (fresh n).gens.length cg1) (.slice pu1 (fresh n).used.length cu1) (.slice pf1 (fresh n).free.length cf1) (fresh n) := by
      rw [hV]
      exact Ar.set4 (HA.out.drop (by simp)) (by omega) _ _ _ _
    have hBV : Below w.heap.size w V := by
      rw [hV]
      exact below_set4 (((Below.refl _ w).alloc (Nat.le_refl _) _).trans (HB.out.mono (by simp))) (Nat.le_refl _) _ _ _ _
    have hVs : V.heap.size = w1.heap.size := by rw [hV]; simp
    have hVk : V.heap[w.heap.size]? = some (.cells #[.slice pg1 (fresh n).gens.length cg1, .slice pu1 (fresh n).used.length cu1, .slice pf1 (fresh n).free.length cf1, .slice (some ⟨w1.heap.size + 1, 0, none⟩) n n] 31 (0, 0)) := by
      rw [hV]
      have := HT.out
      simp [World.setCell, Array.getElem?_modify, this]
    rw [← hV]
    have hFk : (((V.alloc (.cells #[.slice pg1 (fresh n).gens.length cg1, .slice pu1 (fresh n).used.length cu1, .slice pf1 (fresh n).free.length cf1] 28)).alloc (.cells (madeCells zK (n * 5)) 83)).drew).heap[w.heap.size]? = some (.cells #[.slice pg1 (fresh n).gens.length cg1, .slice pu1 (fresh n).used.length cu1, .slice pf1 (fresh n).free.length cf1, .slice (some ⟨w1.heap.size + 1, 0, none⟩) n n] 31 (0, 0)) := by
      show ((V.alloc _).alloc _).heap[w.heap.size]? = _
      rw [heap_alloc_old _ _ (by simp; omega), heap_alloc_old _ _ (by omega)]
      exact hVk
    obtain ⟨k0, k1, k2, k3, -⟩ := block4 hFk
    clear hFk hVk
    refine bodyPost_ret (v := .tuple #[.agg #[.slice pg1 (fresh n).gens.length cg1, .slice pu1 (fresh n).used.length cu1, .slice pf1 (fresh n).free.length cf1, .slice (some ⟨w1.heap.size + 1, 0, none⟩) n n], .int .i64 0]) (by simp [results, Try.results6, go_sem, k0, k1, k2, k3]) rfl ⟨_, _, _, _, rfl, ?_, ?_⟩
    · refine ⟨(hAV.drop (by omega)).below (((Below.refl _ V).alloc (Nat.le_refl _) _).alloc (by simp) _).drew, ?_⟩
      refine ⟨by rw [cvs_length], .inr ⟨w1.heap.size + 1, n, madeCells zK (n * 5), by simp [freshP], by omega, ?_, by simp [freshP], by unfold maxLen; omega, size_madeCells _ _, ?_⟩⟩
      · rw [← hVs]
        exact heap_new1 V _ _
      · show List.take (List.length (List.replicate n []) * 5) _ = cvs (List.replicate n [])
        rw [made_cvs]
        exact List.take_of_length_le (by rw [cvs_length]; exact Nat.le_refl _)
    · exact ((hBV.alloc (by omega) _).alloc (by simp; omega) _).drew

/-! ### Items -/
def GivesI (o : Option (List Int)) (w : World) (en : Ending) (w' : World) : Prop :=
  ((o = none ∧ en = .returned (.tuple #[.slice none 0 0, .int .i64 30])) ∨ (∃ l v, o = some l ∧ en = .returned (.tuple #[v, .int .i64 0]) ∧ w'.ownsRow w.heap.size 41 1 v l.length (gvs l))) ∧ Below w.heap.size w w'
set_option maxRecDepth 100000 in
set_option maxHeartbeats 4000000 in
theorem items_pl (root : Int) (size : Nat) (vg vu vf vc : Value) (p : Pl) (b n : Nat) (G : Int) (w : World) (hA : PA w b vg vu vf vc p) (hP : PK n G p) (h0 : 0 ≤ root) (h1 : root ≤ 18446744073709551615) (hs : size ≤ 256) :
    Calls Try.prog 21 #[.agg #[vg, vu, vf, vc], .agg #[.int .u64 root, .int .i64 size]] w (GivesI (p.items ⟨root, size⟩) w) := by
  obtain ⟨T, hT⟩ : ∃ T, p.items ⟨root, size⟩ = T := ⟨_, rfl⟩
  rw [hT]
  have HT := Lib.hid hT
  clear hT
  have hsm := hP.ok.small
  have HA := Lib.hid hA
  have HP := Lib.hid hP
  clear hA hP
  obtain ⟨W, hW⟩ : ∃ W, W = (w.alloc (.cells #[vg, vu, vf, vc] 31)).alloc (.cells #[.int .u64 root, .int .i64 size] 43) := ⟨_, rfl⟩
  have HW : Hid (Below w.heap.size w W ∧ W.heap.size = w.heap.size + 2 ∧ W.heap[w.heap.size]? = some (.cells #[vg, vu, vf, vc] 31 (0, 0)) ∧ W.heap[w.heap.size + 1]? = some (.cells #[.int .u64 root, .int .i64 size] 43 (0, 0))) := Lib.hid (by
    subst hW
    refine ⟨((Below.refl _ w).alloc (Nat.le_refl _) _).alloc (by simp) _, by simp, ?_, heap_new1 _ _ _⟩
    rw [heap_alloc_old _ _ (by simp)]; exact heap_alloc_new w _)
  have HWE := Lib.hid hW
  clear hW
  go_enter Try.func21, Try.ntmps21
  go_upto_region 1 with fail
  rw [← HWE.out]
  clear HWE
  obtain ⟨x0, x1, x2, x3, -⟩ := block4 HW.out.2.2.1
  obtain ⟨u0, u1⟩ := block2 HW.out.2.2.2
  go_wp2_with fail
  refine (handles_pl root size vg vu vf vc p b n G W (HA.out.below HW.out.1) HP.out h0 h1 hs).mono ?_
  rintro e w1 ⟨⟨hd, rfl⟩ | ⟨ls, v1, hd, rfl, hrr⟩, hb1⟩
  · have HB : Hid (Below w.heap.size w w1) := Lib.hid (HW.out.1.trans (hb1.mono (by have := HW.out.2.1; omega)))
    obtain rfl : T = none := by
      rw [← HT.out, Pl.items]
      rw [show p.down (lvs (Vc.mk root size).size) [(Vc.mk root size).root] = none from hd]
    clear hb1
    go_wp2
    go_ret2
    exact ⟨.inl ⟨rfl, rfl⟩, HB.out⟩
  · obtain ⟨ll, lrow, lu, lix⟩ := down_ok HP.out hd (fun x hx => by simp at hx; subst hx; exact ⟨h0, h1⟩) (by
      have : 4 ^ lvs size ≤ 4 ^ 4 := Nat.pow_le_pow_right (by decide) (lvs_le size)
      simp; omega)
    have HD := Lib.hid hd
    have HL := Lib.hid (And.intro lrow (And.intro lu lix))
    have HB : Hid (Below w.heap.size w w1) := Lib.hid (HW.out.1.trans (hb1.mono (by have := HW.out.2.1; omega)))
    have hl4 : ls.length ≤ 4 := by rw [ll]; exact lvs_le _
    obtain ⟨pr, cr, rfl, -, -⟩ := hrr.form
    have HRR := Lib.hid hrr
    have HE0 : Hid (w1.heap[w.heap.size]? = some (.cells #[vg, vu, vf, vc] 31 (0, 0))) := Lib.hid ((hb1.block _ (by have := HW.out.2.1; omega)).trans HW.out.2.2.1)
    have hs1 := hb1.size
    have hs2 := HW.out.2.1
    clear hb1 hd lrow lu lix hrr ll x0 x1 x2 x3 u0 u1
    cases ls with
    | nil =>
      obtain rfl : T = some [] := by
        rw [← HT.out, Pl.items]
        rw [show p.down (lvs (Vc.mk root size).size) [(Vc.mk root size).root] = some [] from HD.out]
      simp only [List.length_nil] at *
      go_wp2
      go_ret2
      exact ⟨.inr ⟨[], _, rfl, rfl, World.ownsRow_nil _ _ _ _⟩, HB.out⟩
    | cons row rest =>
      obtain rfl : T = some (p.parts row) := by
        rw [← HT.out, Pl.items]
        rw [show p.down (lvs (Vc.mk root size).size) [(Vc.mk root size).root] = some (row :: rest) from HD.out]
      obtain ⟨gr, hgr, -, hgrl⟩ : ∃ g, pr = some ⟨g, 0, none⟩ ∧ W.heap.size ≤ g ∧ g < w1.heap.size := by
        obtain ⟨vs, h1, -⟩ := HRR.out
        exact own_some5 h1 (by simp)
      subst hgr
      obtain ⟨rq, rc, hcell, hrow⟩ := HRR.out.row (i := 0) (by simp)
      have hcell' : w1.cell? ⟨gr, 0, none⟩ = some (.slice rq row.length rc) := hcell
      have HRow : Hid (w1.ownsRow W.heap.size 41 1 (.slice rq row.length rc) row.length (gvs row)) := Lib.hid hrow
      have hrl := HL.out.1 row (by simp)
      have HF := Lib.hid (HP.out.fit (HL.out.2.1 row (by simp)) (List.all_eq_true.2 (fun h hh => (HL.out.2.2 row (by simp) h hh).2)))
      clear hcell hrow
      generalize hN : (row :: rest).length = N at *
      have hN0 : ¬ (N : Int) = 0 := by simp at hN; omega
      have hN1 : (0 : Int) < (N : Int) := by simp at hN; omega
      have hN2 : ((N : Int) == 0) = false := by simp; omega
      have hN3 : 0 < N := by omega
      have hN4 : N ≠ 0 := by omega
      obtain ⟨x0, x1, x2, x3, -⟩ := block4 HE0.out
      go_wp2_with fail
      go_region_held3 (fun w' => w'.cell? ⟨w.heap.size, 0, none⟩ = some vg ∧ w'.cell? ⟨w.heap.size, 1, none⟩ = some vu ∧ w'.cell? ⟨w.heap.size, 2, none⟩ = some vf ∧ w'.cell? ⟨w.heap.size, 3, none⟩ = some vc ∧ w'.cell? ⟨gr, 0, none⟩ = some (.slice rq row.length rc))
        (first
          | go_keep
          | exact HKK.out)
        (first
          | (go_at_call 54
             refine (parts_any row _ W.heap.size vg vu vf vc p b _ (HA.out.below HB.out.drew) HRow.out.drew HF.out (by rw [HP.out.len]; omega) (by omega)).mono ?_
             rintro e w2 ⟨v2, rfl, ho2, hb2⟩
             rw [gvs_length] at ho2
             obtain ⟨q2, c2, rfl, -, -, -⟩ := own_form ho2
             have HO2 := Lib.hid ho2
             have HB2 : Hid (Below w1.heap.size w1 w2) := Lib.hid ((Below.refl _ w1).drew.trans hb2)
             have HKK : Hid (w2.cell? ⟨w.heap.size, 0, none⟩ = some vg ∧ w2.cell? ⟨w.heap.size, 1, none⟩ = some vu ∧ w2.cell? ⟨w.heap.size, 2, none⟩ = some vf ∧ w2.cell? ⟨w.heap.size, 3, none⟩ = some vc ∧ w2.cell? ⟨gr, 0, none⟩ = some (.slice rq row.length rc)) := Lib.hid ⟨(HB2.out.cell (p := ⟨w.heap.size, 0, none⟩) (show w.heap.size < _ by omega)).trans x0, (HB2.out.cell (p := ⟨w.heap.size, 1, none⟩) (show w.heap.size < _ by omega)).trans x1, (HB2.out.cell (p := ⟨w.heap.size, 2, none⟩) (show w.heap.size < _ by omega)).trans x2, (HB2.out.cell (p := ⟨w.heap.size, 3, none⟩) (show w.heap.size < _ by omega)).trans x3, (HB2.out.cell (p := ⟨gr, 0, none⟩) hgrl).trans hcell'⟩
             clear ho2 hb2))
      go_wp2
      go_ret2
      exact ⟨.inr ⟨p.parts row, _, rfl, rfl, own_drop HO2.out (show w.heap.size ≤ w1.heap.size by omega)⟩, HB.out.trans (HB2.out.mono (by omega))⟩
end Go.Proofs.Ytbldjlkofaiikaa
