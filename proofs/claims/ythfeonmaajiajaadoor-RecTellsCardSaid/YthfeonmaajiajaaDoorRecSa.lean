/-
  The document's own comparisons of nodes, and which node may be.
-/
import Derived.Test.YthfeonmaajiajaaDoorRecS
namespace Go.Proofs.YthfeonmaajiajaaDoor
open Go.ChangeShapes Go.WideShapes Go.ChangeAt Go.RowKit
open Rm
set_option linter.unusedVariables false
set_option linter.unusedSimpArgs false

set_option maxHeartbeats 1000000 in
theorem stexts_any (A B : Option Addr) (n m ca cb : Nat) (l k : List Wd) (w : World) (hA : LV w A (svs l)) (hB : LV w B (svs k)) (hn : l.length = n) (hm : k.length = m) (hn1 : n ≤ 9223372036854775807) (hm1 : m ≤ 9223372036854775807) :
    Calls Tryd.prog 28 #[.slice A n ca, .slice B m cb] w fun e w' => e = .returned (.bool (decide (l = k))) ∧ Below w.heap.size w w' := by
  by_cases hnm : n = m
  · subst hnm
    have HA := Lib.hid hA
    have HB := Lib.hid hB
    have HN := Lib.hid hn
    have HM := Lib.hid hm
    clear hA hB hn hm
    have hne : ((n : Int) != (n : Int)) = false := by simp
    go_enter Tryd.func28, Tryd.ntmps28
    go_wp2
    go_loopw [5] (fun i wr => ∃ q : Nat, q ≤ n ∧ i = .int .i64 q ∧ Hid (l.take q = k.take q) ∧ Hid (∃ d, wr = w.drewN d)) (fun i _ => n - (intOf i).toNat)
    case atStart => exact ⟨0, Nat.zero_le _, rfl, Lib.hid (by simp), Lib.hid ⟨0, rfl⟩⟩
    case round =>
      obtain ⟨q, hq, rfl, HE, hd⟩ := hrel
      obtain ⟨d, rfl⟩ := hd.out
      by_cases hlt : q < n
      · have hl : q < l.length := by rw [HN.out]; exact hlt
        have hk : q < k.length := by rw [HM.out]; exact hlt
        obtain ⟨g, o, rfl, hg, hc⟩ := sat HA.out hl
        obtain ⟨g', o', rfl, hg', hc'⟩ := sat HB.out hk
        have HS1 := Lib.hid (List.take_succ_eq_append_getElem hl)
        have HS2 := Lib.hid (List.take_succ_eq_append_getElem hk)
        have HNE : Hid (l[q] ≠ k[q] → l ≠ k) := Lib.hid (fun h e => by subst e; exact h rfl)
        generalize l[q] = x at *
        generalize k[q] = y at *
        by_cases hx : x = y
        · subst hx
          generalize str x = sx at *
          go_wp2
          go_quiet (fail)
          go_wp2
          go_roundw
          case rel => exact ⟨q + 1, by omega, by go_num, Lib.hid (by rw [HS1.out, HS2.out, HE.out]), Lib.hid ⟨d + nq, by simp⟩⟩
          case measure => simp [intOf]; omega
        · have hb : ((str x).toList == (str y).toList) = false := by rw [str_toList, str_toList]; simpa using hx
          have HX := Lib.hid hx
          clear hx
          generalize str x = sx at *
          generalize str y = sy at *
          go_wp2
          go_quiet (fail)
          go_wp2
          go_ret
          exact ⟨ret_bool (decide_eq_false (HNE.out HX.out)).symm, bdrewN (bdrewN (Below.refl _ _) d) nq⟩
      · go_wp2
        go_ret
        refine ⟨ret_bool (decide_eq_true ?_).symm, bdrewN (Below.refl _ _) d⟩
        have := HE.out
        rwa [List.take_of_length_le (by rw [HN.out]; omega), List.take_of_length_le (by rw [HM.out]; omega)] at this
  · have hne : ((n : Int) != (m : Int)) = true := by simp; omega
    have HN := Lib.hid hn
    have HM := Lib.hid hm
    clear hn hm
    go_enter Tryd.func28, Tryd.ntmps28
    go_wp2
    go_ret
    exact ⟨ret_bool (decide_eq_false (fun e => hnm (by rw [← HN.out, ← HM.out, e]))).symm, Below.refl _ _⟩

/-- The same node? -/
def sameB (a b : Rc) : Bool := decide (a.kind = b.kind ∧ a.par = b.par ∧ a.name = b.name ∧ a.text = b.text ∧ a.root = b.root ∧ a.size = b.size ∧ a.attrs = b.attrs)
theorem sameB_iff {a b : Rc} : sameB a b = true ↔ a = b := by
  unfold sameB
  rw [decide_eq_true_iff]
  constructor
  · cases a; cases b
    rintro ⟨rfl, rfl, rfl, rfl, rfl, rfl, rfl⟩
    rfl
  · rintro rfl
    exact ⟨rfl, rfl, rfl, rfl, rfl, rfl, rfl⟩
set_option maxRecDepth 100000 in
set_option maxHeartbeats 1000000 in
theorem same_any (a b : Rc) (A B : Option Addr) (ca cb : Nat) (w : World) (hA : LV w A (svs a.attrs)) (hB : LV w B (svs b.attrs)) (ha : a.attrs.length ≤ 9223372036854775807) (hb : b.attrs.length ≤ 9223372036854775807) :
    Calls Tryd.prog 14 #[.agg (rcs a A ca), .agg (rcs b B cb)] w fun e w' => e = .returned (.bool (sameB a b)) ∧ Below w.heap.size w w' := by
  obtain ⟨W, hW⟩ : ∃ W, W = (w.alloc (.cells (rcs a A ca) 37)).alloc (.cells (rcs b B cb) 37) := ⟨_, rfl⟩
  have HW : Hid (Below w.heap.size w W ∧ W.heap[w.heap.size]? = some (.cells (rcs a A ca) 37 (0, 0)) ∧ W.heap[w.heap.size + 1]? = some (.cells (rcs b B cb) 37 (0, 0))) := Lib.hid (by
    subst hW
    refine ⟨((Below.refl _ w).alloc (Nat.le_refl _) _).alloc (by simp) _, ?_, ?_⟩
    · rw [heap_old _ _ (by simp)]; exact heap_new _ _
    · have := heap_new (w.alloc (.cells (rcs a A ca) 37)) (.cells (rcs b B cb) 37); simpa using this)
  have HST := Lib.hid (stexts_any A B a.attrs.length b.attrs.length ca cb a.attrs b.attrs W (hA.below HW.out.1) (hB.below HW.out.1) rfl rfl ha hb)
  clear hA hB
  go_enter Tryd.func14, Tryd.ntmps14
  go_upto_region 1 with fail
  rw [← hW]
  clear hW
  obtain ⟨x0, x1, x2, x3, x4, x5, x6⟩ := block7 HW.out.2.1
  obtain ⟨y0, y1, y2, y3, y4, y5, y6⟩ := block7 HW.out.2.2
  by_cases h1 : a.kind = b.kind
  · by_cases h2 : a.par = b.par
    · by_cases h3 : a.name = b.name
      · by_cases h4 : a.text = b.text
        · have h3s : str a.name = str b.name := by rw [h3]
          have h4s : str a.text = str b.text := by rw [h4]
          by_cases h5 : a.root = b.root
          · by_cases h6 : a.size = b.size
            · have HE : Hid (sameB a b = decide (a.attrs = b.attrs)) := Lib.hid (by simp [sameB, h1, h2, h3, h4, h5, h6])
              rw [← h1] at y0
              rw [← h2] at y1
              rw [← h3] at y2
              rw [← h4] at y3
              rw [← h5] at y5
              rw [← h6] at y6
              clear h1 h2 h3 h4 h5 h6 h3s h4s
              go_wp2_with fail
              refine HST.out.mono ?_
              rintro e w1 ⟨rfl, hb1⟩
              go_wp2
              go_ret
              exact ⟨ret_bool HE.out.symm, HW.out.1.trans (hb1.mono HW.out.1.size)⟩
            · go_wp2
              go_ret
              exact ⟨ret_bool (by simp [sameB, h6]), HW.out.1⟩
          · go_wp2
            go_ret
            exact ⟨ret_bool (by simp [sameB, h5]), HW.out.1⟩
        · have h4b : ((str a.text).toList == (str b.text).toList) = false := by rw [str_toList, str_toList]; simpa using h4
          have h3s : str a.name = str b.name := by rw [h3]
          go_wp2
          go_ret
          exact ⟨ret_bool (by simp [sameB, h4]), HW.out.1⟩
      · have h3b : ((str a.name).toList == (str b.name).toList) = false := by rw [str_toList, str_toList]; simpa using h3
        go_wp2
        go_ret
        exact ⟨ret_bool (by simp [sameB, h3]), HW.out.1⟩
    · go_wp2
      go_ret
      exact ⟨ret_bool (by simp [sameB, h2]), HW.out.1⟩
  · go_wp2
    go_ret
    exact ⟨ret_bool (by simp [sameB, h1]), HW.out.1⟩
end Go.Proofs.YthfeonmaajiajaaDoor
