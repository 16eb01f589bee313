/-
  Whether a node has what its kind may have; whether the document has what it may.
-/
import Derived.Test.YtkcfpglmlhoiaaaDoorFoD
namespace Go.Proofs.YtkcfpglmlhoiaaaDoor
open Go.ChangeShapes Go.WideShapes Go.ChangeAt Go.RowKit
set_option linter.unusedVariables false
set_option linter.unusedSimpArgs false

theorem emp_yes {s : ByteArray} (h : s.size = 0) : emp s = true := by simp [emp, h]
theorem emp_no {s : ByteArray} (h : ¬ s.size = 0) : emp s = false := by simp [emp, h]
set_option maxRecDepth 100000 in
set_option maxHeartbeats 4000000 in
theorem hasItsOwn_any (m : Mn) (w : World) (hf : Fit m) (hA : AR w m.aA m.attrs) (hs : m.name.size ≤ 100000 ∧ m.text.size ≤ 100000 ∧ ∀ a ∈ m.attrs, a.1.size ≤ 100000 ∧ a.2.size ≤ 100000) :
    Calls Tryd.prog 21 #[nval m] w (GivesV (.bool (ownB m)) w) := by
  obtain ⟨hs1, hs2, hs3⟩ := hs
  have HA := Lib.hid hA
  have HS3 := Lib.hid hs3
  have hac := hf.ac
  have HO : Hid (ownB m = _) := Lib.hid (by rw [ownB])
  have HAt := Lib.hid (fun (W : World) (h : AR W m.aA m.attrs) => attrsMay_any m.aA m.attrs m.aC W h hac.1 hac.2 HS3.out)
  have HTx := Lib.hid (fun (W : World) => text_any m.text W hs2)
  have HNm := Lib.hid (fun (W : World) => name_any m.name W hs1)
  clear hA hs3 hf
  generalize ownB m = R at *
  unfold nval
  obtain ⟨kl, hkl⟩ : ∃ kl, m.kids.length = kl := ⟨_, rfl⟩
  obtain ⟨al, hal⟩ : ∃ al, m.attrs.length = al := ⟨_, rfl⟩
  rw [hal] at HAt
  rw [hkl, hal]
  have HKL := Lib.hid hkl
  have HAL := Lib.hid hal
  clear hkl hal hac
  obtain ⟨W, hW⟩ : ∃ W, W = w.alloc (.cells #[.int .i64 m.kind, .string m.name, .string m.text, .slice m.aA al m.aC, .int .i64 m.parent, .slice m.kA kl m.kC] 34) := ⟨_, rfl⟩
  have HWb : Hid (Below w.heap.size w W) := Lib.hid (by rw [hW]; exact (Below.refl _ _).alloc (Nat.le_refl _) _)
  have HWk : Hid (W.heap[w.heap.size]? = some (.cells #[.int .i64 m.kind, .string m.name, .string m.text, .slice m.aA al m.aC, .int .i64 m.parent, .slice m.kA kl m.kC] 34 (0, 0))) := Lib.hid (by rw [hW]; exact heap_alloc_new _ _)
  obtain ⟨x0, x1, x2, x3, x4, x5⟩ := block6 HWk.out
  by_cases hk23 : m.kind = 2 ∨ m.kind = 3
  · have hfz : W.frozen? ⟨w.heap.size, 2, none⟩ = false := by simp [World.frozen?, HWk.out]
    have HE : Hid (R = (decide (m.text.size ≤ 60) && (decide (kl = 0) && (emp m.name && decide (al = 0))))) := Lib.hid (by rw [HO.out, if_pos hk23, HKL.out, HAL.out])
    clear HO
    rcases Bool.eq_false_or_eq_true (decide (m.text.size ≤ 60)) with ht | ht
    · rw [ht] at HTx HE
      by_cases hk : kl = 0
      · subst hk
        by_cases hn : m.name.size = 0
        · have hn1 := empty_of hn
          rw [emp_yes hn] at HE
          by_cases ha : al = 0
          · subst ha
            rcases hk23 with hk2 | hk2
            all_goals
              rw [hk2] at x0
              rw [hk2] at hW ⊢
              go_enter Tryd.func21, Tryd.ntmps21
              go_upto_region 1 with fail
              rw [← hW]
              clear hW
              go_wp2_with fail
              refine (HTx.out W).mono ?_
              rintro e w' ⟨rfl, rfl⟩
              go_wp2
              go_ret
              exact ⟨ret_bool (by rw [HE.out]; rfl), HWb.out.setCell (Nat.le_refl _) _⟩
          · have ha1 : ((al : Int) == 0) = false := beq_eq_false_iff_ne.2 (by omega)
            have ha2 : ¬ (al : Int) = 0 := by omega
            rcases hk23 with hk2 | hk2
            all_goals
              rw [hk2] at x0
              rw [hk2] at hW ⊢
              go_enter Tryd.func21, Tryd.ntmps21
              go_upto_region 1 with fail
              rw [← hW]
              clear hW
              go_wp2_with fail
              refine (HTx.out W).mono ?_
              rintro e w' ⟨rfl, rfl⟩
              go_wp2
              go_ret
              exact ⟨ret_bool (by rw [HE.out]; simp [ha]), HWb.out.setCell (Nat.le_refl _) _⟩
        · have hn1 := some_of (s := m.name) (by omega)
          rw [emp_no hn] at HE
          rcases hk23 with hk2 | hk2
          all_goals
            rw [hk2] at x0
            rw [hk2] at hW ⊢
            go_enter Tryd.func21, Tryd.ntmps21
            go_upto_region 1 with fail
            rw [← hW]
            clear hW
            go_wp2_with fail
            refine (HTx.out W).mono ?_
            rintro e w' ⟨rfl, rfl⟩
            go_wp2
            go_ret
            exact ⟨ret_bool (by rw [HE.out]; simp), HWb.out.setCell (Nat.le_refl _) _⟩
      · have hk1 : ((kl : Int) != 0) = true := by simp; omega
        have hk3 : ¬ (kl : Int) = 0 := by omega
        rcases hk23 with hk2 | hk2
        all_goals
          rw [hk2] at x0
          rw [hk2] at hW ⊢
          go_enter Tryd.func21, Tryd.ntmps21
          go_upto_region 1 with fail
          rw [← hW]
          clear hW
          go_wp2_with fail
          refine (HTx.out W).mono ?_
          rintro e w' ⟨rfl, rfl⟩
          go_wp2
          go_ret
          exact ⟨ret_bool (by rw [HE.out]; simp [hk]), HWb.out⟩
    · rw [ht] at HTx HE
      rcases hk23 with hk2 | hk2
      all_goals
        rw [hk2] at x0
        rw [hk2] at hW ⊢
        go_enter Tryd.func21, Tryd.ntmps21
        go_upto_region 1 with fail
        rw [← hW]
        clear hW
        go_wp2_with fail
        refine (HTx.out W).mono ?_
        rintro e w' ⟨rfl, rfl⟩
        go_wp2
        go_ret
        exact ⟨ret_bool (by rw [HE.out]; rfl), HWb.out⟩
  by_cases hk0 : m.kind = 0
  · have HE : Hid (R = (emp m.name && (emp m.text && decide (al = 0)))) := Lib.hid (by rw [HO.out, if_neg hk23, if_pos hk0, HAL.out])
    clear HO hk23
    rw [hk0] at x0
    rw [hk0] at hW ⊢
    by_cases hn : m.name.size = 0
    · have hn1 := empty_of hn
      rw [emp_yes hn] at HE
      by_cases ht : m.text.size = 0
      · have ht1 := empty_of ht
        rw [emp_yes ht] at HE
        by_cases ha : al = 0
        · subst ha
          go_enter Tryd.func21, Tryd.ntmps21
          go_upto_region 1 with fail
          rw [← hW]
          clear hW
          go_wp2
          go_ret
          exact ⟨ret_bool (by rw [HE.out]; rfl), HWb.out⟩
        · have ha1 : ((al : Int) == 0) = false := beq_eq_false_iff_ne.2 (by omega)
          have ha2 : ¬ (al : Int) = 0 := by omega
          go_enter Tryd.func21, Tryd.ntmps21
          go_upto_region 1 with fail
          rw [← hW]
          clear hW
          go_wp2
          go_ret
          exact ⟨ret_bool (by rw [HE.out]; simp [ha]), HWb.out⟩
      · have ht1 := some_of (s := m.text) (by omega)
        rw [emp_no ht] at HE
        go_enter Tryd.func21, Tryd.ntmps21
        go_upto_region 1 with fail
        rw [← hW]
        clear hW
        go_wp2
        go_ret
        exact ⟨ret_bool (by rw [HE.out]; simp), HWb.out⟩
    · have hn1 := some_of (s := m.name) (by omega)
      rw [emp_no hn] at HE
      go_enter Tryd.func21, Tryd.ntmps21
      go_upto_region 1 with fail
      rw [← hW]
      clear hW
      go_wp2
      go_ret
      exact ⟨ret_bool (by rw [HE.out]; simp), HWb.out⟩
  by_cases hk1 : m.kind = 1
  · have HE : Hid (R = (nm m.name && (emp m.text && attrsB m.attrs))) := Lib.hid (by rw [HO.out, if_neg hk23, if_neg hk0, if_pos hk1])
    clear HO hk23 hk0
    rw [hk1] at x0
    rw [hk1] at hW ⊢
    rcases Bool.eq_false_or_eq_true (nm m.name) with hn | hn
    · rw [hn] at HE HNm
      by_cases ht : m.text.size = 0
      · have ht1 := empty_of ht
        rw [emp_yes ht] at HE
        generalize attrsB m.attrs = AB at *
        go_enter Tryd.func21, Tryd.ntmps21
        go_upto_region 1 with fail
        rw [← hW]
        clear hW
        go_wp2_with fail
        refine (HNm.out W).mono ?_
        rintro e w' ⟨rfl, rfl⟩
        go_wp2_with fail
        refine (HAt.out W (HA.out.below HWb.out)).mono ?_
        rintro e w1 ⟨rfl, hb⟩
        have HB := Lib.hid (HWb.out.trans (hb.mono HWb.out.size))
        clear hb
        go_wp2
        go_ret
        exact ⟨ret_bool (by rw [HE.out]; simp), HB.out⟩
      · have ht1 := some_of (s := m.text) (by omega)
        rw [emp_no ht] at HE
        go_enter Tryd.func21, Tryd.ntmps21
        go_upto_region 1 with fail
        rw [← hW]
        clear hW
        go_wp2_with fail
        refine (HNm.out W).mono ?_
        rintro e w' ⟨rfl, rfl⟩
        go_wp2
        go_ret
        exact ⟨ret_bool (by rw [HE.out]; simp), HWb.out⟩
    · rw [hn] at HE HNm
      go_enter Tryd.func21, Tryd.ntmps21
      go_upto_region 1 with fail
      rw [← hW]
      clear hW
      go_wp2_with fail
      refine (HNm.out W).mono ?_
      rintro e w' ⟨rfl, rfl⟩
      go_wp2
      go_ret
      exact ⟨ret_bool (by rw [HE.out]; simp), HWb.out⟩
  · have HE : Hid (R = false) := Lib.hid (by rw [HO.out, if_neg hk23, if_neg hk0, if_neg hk1])
    have n2 : ¬ m.kind = 2 := fun h => hk23 (.inl h)
    have n3 : ¬ m.kind = 3 := fun h => hk23 (.inr h)
    clear HO hk23
    go_enter Tryd.func21, Tryd.ntmps21
    go_upto_region 1 with fail
    rw [← hW]
    clear hW
    go_wp2
    go_ret
    exact ⟨ret_bool HE.out.symm, HWb.out⟩
end Go.Proofs.YtkcfpglmlhoiaaaDoor
