/-
  What read reads.
-/
import Derived.Test.YthfeonmaajiajaaDoorRecK
namespace Go.Proofs.YthfeonmaajiajaaDoor
open Go.ChangeShapes Go.WideShapes Go.ChangeAt Go.RowKit
open Rm
set_option linter.unusedVariables false
set_option linter.unusedSimpArgs false

/-- Sixteen digits of two words. -/
def lv (l : List Int) (n : Nat) : List Int := (List.range n).map fun i => dg6 (l.getD (i / 8) 0) (i % 8)
theorem lv_length (l : List Int) (n : Nat) : (lv l n).length = n := by simp [lv]
theorem lv_eight (l : List Int) (k : Nat) : lv l (8 * (k + 1)) = lv l (8 * k) ++ (List.range 8).map (fun j => dg6 (l.getD k 0) j) := by
  unfold lv
  rw [show 8 * (k + 1) = 8 * k + 8 by omega, List.range_add, List.map_append, List.map_map]
  congr 1
  apply List.map_congr_left
  intro j hj
  have hj8 : j < 8 := by simpa using hj
  show dg6 (l.getD ((8 * k + j) / 8) 0) ((8 * k + j) % 8) = _
  rw [show (8 * k + j) / 8 = k by omega, show (8 * k + j) % 8 = j by omega]
theorem sp_lb (x : Int) (j : Nat) (hj : j < 8) : sp lb x j = dg6 x j := by
  have : j = 0 ∨ j = 1 ∨ j = 2 ∨ j = 3 ∨ j = 4 ∨ j = 5 ∨ j = 6 ∨ j = 7 := by omega
  rcases this with rfl | rfl | rfl | rfl | rfl | rfl | rfl | rfl <;> simp [sp, S, lb, dg6]
/-- A list of just these numbers is handed back in new memory. -/
def GivesI (l : List Int) (w : World) (e : Ending) (w' : World) : Prop := ∃ v, e = .returned v ∧ w'.ownsRow w.heap.size 3 1 v l.length (ivs l) ∧ Below w.heap.size w w'
set_option maxRecDepth 100000 in
set_option maxHeartbeats 4000000 in
theorem lback_any (A : Option Addr) (n c : Nat) (l : List Int) (w : World) (hA : LV w A (gvs l)) (hl : l.length = n) (hn : n ≤ 100) (hU : U64 l) (hT : BT w) :
    Calls Tryd.prog 34 #[.slice A n c] w (GivesI (lv l (8 * n)) w) := by
  obtain ⟨i0, hi, hz0, hz1, hz2⟩ := info_parts info_I
  have HI := Lib.hid (And.intro hi (And.intro hz0 (And.intro hz1 hz2)))
  have HA := Lib.hid hA
  have HL := Lib.hid hl
  have HU := Lib.hid hU
  have HT := Lib.hid hT
  clear hi hz0 hz1 hz2 hA hl hU hT
  go_enter Tryd.func34, Tryd.ntmps34
  go_wp2
  go_loopw [3, 9] (fun b q wr => ∃ (k : Nat) (p : Option Addr) (cp : Nat), k ≤ n ∧ q = .int .i64 k ∧ b = .slice p (8 * k) cp ∧ Hid (wr.ownsRow w.heap.size 3 1 (.slice p (8 * k) cp) (8 * k) (ivs (lv l (8 * k)))) ∧ Hid (Below w.heap.size w wr)) (fun _ q _ => n - (intOf q).toNat)
  case atStart => exact ⟨0, none, 0, Nat.zero_le _, rfl, rfl, Lib.hid (World.ownsRow_nil _ _ _ _), Lib.hid (Below.refl _ _)⟩
  case round =>
    obtain ⟨k, p, cp, hk, rfl, rfl, HO, HB⟩ := hrel
    have hBs := HB.out.size
    by_cases hlt : k < n
    · have hkl : k < l.length := by rw [HL.out]; exact hlt
      obtain ⟨g, o, rfl, hg, hc⟩ := gat HA.out hkl
      have hc2 := bcell HB.out hg hc
      obtain ⟨x0, x1⟩ := HU.out l[k] (List.getElem_mem hkl)
      obtain ⟨t0, t1, t2, t3, t4, t5, t6, t7⟩ := (HT.out.below HB.out).allL
      have HX : Hid (l.getD k 0 = l[k]) := Lib.hid (by rw [List.getD, List.getElem?_eq_getElem hkl]; rfl)
      have HE : Hid (lv l (8 * (k + 1)) = lv l (8 * k) ++ (List.range 8).map (fun j => dg6 (l.getD k 0) j)) := Lib.hid (lv_eight l k)
      rw [HX.out] at HE
      generalize l[k] = x at *
      have HSp := Lib.hid (split_L x wr x0 x1)
      have HPx : Hid (∀ j, j < 8 → sp lb x j = dg6 x j) := Lib.hid (fun j hj => sp_lb x j hj)
      generalize sp lb x = f at *
      clear hc
      go_wp2_with fail
      refine HSp.out.mono ?_
      rintro e w1 ⟨rfl, hb1⟩
      have HB1 := Lib.hid (HB.out.trans (hb1.mono hBs))
      have HO1 := Lib.hid (own_below HO.out hb1)
      clear hb1 hc2 t0 t1 t2 t3 t4 t5 t6 t7
      have hs1 := HB1.out.size
      go_upto_region 6 with fail
      obtain ⟨X, hX⟩ : ∃ X, X = w1.alloc (.cells #[.int .i64 (f 0), .int .i64 (f 1), .int .i64 (f 2), .int .i64 (f 3), .int .i64 (f 4), .int .i64 (f 5), .int .i64 (f 6), .int .i64 (f 7)] 63) := ⟨_, rfl⟩
      have HXB : Hid (Below w.heap.size w X) := Lib.hid (by subst hX; exact HB1.out.alloc hs1 _)
      have HXO : Hid (X.ownsRow w.heap.size 3 1 (.slice p (8 * k) cp) (8 * k) (ivs (lv l (8 * k)))) := Lib.hid (by subst hX; exact HO1.out.alloc _)
      have HXS : Hid (Srow X (some ⟨w1.heap.size, 0, none⟩) 8 1 (ivs ((List.range 8).map (fun j => dg6 x j)))) := Lib.hid (by
        have hk : X.heap[w1.heap.size]? = some (.cells (pArr f) 63 (0, 0)) := by subst hX; exact heap_new _ _
        refine ⟨by simp [ivs], (fun e => by cases e), fun ad e j u hu => ?_, ivs_one _⟩
        cases e
        rw [add_plain, Nat.zero_add]
        have hj : j < 8 := by
          have := (List.getElem?_eq_some_iff.1 hu).1
          simpa [ivs] using this
        have hu2 : u = .int .i64 (f j) := by
          simp [ivs, hj] at hu
          rw [HPx.out j hj, ← hu]
        rw [hu2]
        exact block_cell hk (pArr_at f hj))
      have hsX := HXB.out.size
      rw [← hX]
      clear hX
      go_wp2_with (at_builtin; refine wpList_row rfl _ _ rfl rfl Tryd.underlying55 HI.out.1 HI.out.2.1 HI.out.2.2.1 HI.out.2.2.2 rfl (by decide) rfl HXO.out _ rfl HXS.out (by unfold maxLen; omega) (by omega) (by omega) ?_; intro v' w2 hown' hgrow _; obtain ⟨p2, c2, rfl, -, -, -⟩ := own_form hown'; have HO2 := Lib.hid hown'; have HB2 : Hid (Below w.heap.size w w2) := Lib.hid (HXB.out.grown hgrow HXB.out.size (fun q e => (HXO.out.lt q e).1)); clear hown' hgrow)
      go_roundw
      case rel =>
        refine ⟨k + 1, p2, c2, by omega, by go_num, by rw [show 8 * (k + 1) = 8 * k + 8 by omega], Lib.hid ?_, HB2⟩
        rw [show 8 * (k + 1) = 8 * k + 8 by omega] at HE ⊢
        rw [HE.out, ivs_append]
        exact HO2.out
      case measure => simp [intOf]; omega
    · obtain rfl : k = n := by omega
      go_wp2
      go_ret
      refine ⟨_, rfl, ?_, HB.out⟩
      rw [lv_length]
      exact HO.out
end Go.Proofs.YthfeonmaajiajaaDoor
