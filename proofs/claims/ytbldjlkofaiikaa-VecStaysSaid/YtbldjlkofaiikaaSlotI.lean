/-
  Give of package slots.
-/
import Derived.Test.YtbldjlkofaiikaaSlotH
namespace Go.Proofs.Ytbldjlkofaiikaa
open Go.ChangeShapes Go.WideShapes Go.ChangeAt Go.RowKit
set_option linter.unusedVariables false

set_option maxHeartbeats 1000000 in
theorem give_no (h : Int) (vg vu vf : Value) (s : St) (b0 : Nat) (w : World) (hA : Ar w b0 vg vu vf s) (hg : s.gens.length ≤ 1000) (hf : s.free.length ≤ 1000) (hlu : s.used.length = s.gens.length) (h0 : 0 ≤ h) (h1 : h ≤ 18446744073709551615) (hlv : s.lv h = false) :
    Calls Try.prog 50 #[.agg #[vg, vu, vf], .int .u64 h] w (GivesE s 30 w) := by
  obtain ⟨pg, cg, rfl, _, _, _⟩ := own_form hA.g
  obtain ⟨pu, cu, rfl, _, _, _⟩ := own_form hA.u
  obtain ⟨pf, cf, rfl, _, _, _⟩ := own_form hA.f
  have HA := Lib.hid hA
  have HL := Lib.hid hlu
  have HLV := Lib.hid hlv
  have hu : s.used.length ≤ 1000 := by omega
  clear hA hlu hlv
  go_enter Try.func50, Try.ntmps50
  go_wp2_with fail
  obtain ⟨W, hW⟩ : ∃ W, W = ((w.alloc (.cells #[.slice pg s.gens.length cg, .slice pu s.used.length cu, .slice pf s.free.length cf] 28)).alloc (.cells #[.int .u64 h] 41)).alloc (.cells #[.slice none 0 0, .slice none 0 0, .slice none 0 0] 28) := ⟨_, rfl⟩
  have HW : Hid (Below w.heap.size w W ∧ W.heap.size = w.heap.size + 3 ∧ W.heap[w.heap.size]? = some (.cells #[.slice pg s.gens.length cg, .slice pu s.used.length cu, .slice pf s.free.length cf] 28 (0, 0)) ∧ W.heap[w.heap.size + 1 + 1]? = some (.cells #[.slice none 0 0, .slice none 0 0, .slice none 0 0] 28 (0, 0)) ∧
      W.cell? ⟨w.heap.size + 1, 0, none⟩ = some (.int .u64 h)) := Lib.hid (by
    subst hW
    refine ⟨(((Below.refl _ w).alloc (Nat.le_refl _) _).alloc (by simp) _).alloc (by simp; omega) _, by simp, ?_, ?_, ?_⟩
    · rw [heap_alloc_old _ _ (by simp; omega), heap_alloc_old _ _ (by simp)]
      exact heap_alloc_new _ _
    · exact (show ((w.alloc (.cells #[.slice pg s.gens.length cg, .slice pu s.used.length cu, .slice pf s.free.length cf] 28)).alloc (.cells #[.int .u64 h] 41)).heap.size = w.heap.size + 1 + 1 by simp) ▸ heap_alloc_new _ _
    · refine cell_of_one (t := 41) ?_
      rw [heap_alloc_old _ _ (by simp)]
      exact heap_alloc2_new _ _ _)
  rw [← hW]
  clear hW
  have HS := Lib.hid HW.out.2.1
  have HAW := Lib.hid (HA.out.below HW.out.1)
  refine (live_any h _ _ _ s b0 W HAW.out h0 h1 hg HL.out).mono ?_
  rw [HLV.out]
  rintro e w1 ⟨rfl, hb1⟩
  have HB1 := Lib.hid hb1
  have hs1 := hb1.size
  have HK1 : Hid (w1.heap[w.heap.size]? = some (.cells #[.slice pg s.gens.length cg, .slice pu s.used.length cu, .slice pf s.free.length cf] 28 (0, 0))) := Lib.hid ((hb1.block _ (by have := HS.out; omega)).trans HW.out.2.2.1)
  have HT1 : Hid (w1.heap[w.heap.size + 1 + 1]? = some (.cells #[.slice none 0 0, .slice none 0 0, .slice none 0 0] 28 (0, 0))) := Lib.hid ((hb1.block _ (by have := HS.out; omega)).trans HW.out.2.2.2.1)
  have hc1 : w1.cell? ⟨w.heap.size + 1, 0, none⟩ = some (.int .u64 h) := (hb1.cell (p := ⟨w.heap.size + 1, 0, none⟩) (by have := HS.out; show w.heap.size + 1 < _; omega)).trans HW.out.2.2.2.2
  obtain ⟨c0, c1, c2, _, _, _⟩ := block3 HK1.out
  have HA1 := Lib.hid (HAW.out.below hb1)
  clear hb1
  go_wp2_with fail
  refine (copyOf_any _ _ _ s b0 w1 HA1.out hg hu hf).mono ?_
  rintro e w2 ⟨v1, v2, v3, rfl, hA2, hb2⟩
  obtain ⟨p1, k1, rfl, _, _, _⟩ := own_form hA2.g
  obtain ⟨p2, k2, rfl, _, _, _⟩ := own_form hA2.u
  obtain ⟨p3, k3, rfl, _, _, _⟩ := own_form hA2.f
  have HA2 := Lib.hid hA2
  have HB2 := Lib.hid hb2
  have hs2 := hb2.size
  have HT2 : Hid (w2.heap[w.heap.size + 1 + 1]? = some (.cells #[.slice none 0 0, .slice none 0 0, .slice none 0 0] 28 (0, 0))) := Lib.hid ((hb2.block _ (by have := HS.out; omega)).trans HT1.out)
  obtain ⟨d0, d1, d2, y0, y1, y2⟩ := block3 HT2.out
  clear hA2 hb2
  go_wp2
  refine bodyPost_ret (v := .tuple #[.agg #[.slice p1 s.gens.length k1, .slice p2 s.used.length k2, .slice p3 s.free.length k3], .int .i64 30]) (by simp [results, Try.results50, go_sem, d0, d1, d2]) rfl ⟨_, _, _, rfl, ?_, ?_⟩
  · exact (HA2.out.set3 (by have := HS.out; omega) _ _ _).drop (by have := HS.out; omega)
  · exact below_set3 ((HW.out.1.trans (HB1.out.mono (by have := HS.out; omega))).trans (HB2.out.mono (by have := HS.out; omega))) (by omega) _ _ _

set_option maxHeartbeats 1000000 in
theorem give_ok (h : Int) (i : Nat) (vg vu vf : Value) (s : St) (b0 : Nat) (w : World) (hA : Ar w b0 vg vu vf s) (hg : s.gens.length ≤ 1000) (hf : s.free.length ≤ 1000) (hlu : s.used.length = s.gens.length) (h0 : 0 ≤ h) (h1 : h ≤ 18446744073709551615) (hlv : s.lv h = true) (hhi : h % 16777216 = i) (hi : i < s.gens.length) :
    Calls Try.prog 50 #[.agg #[vg, vu, vf], .int .u64 h] w (GivesE (s.gb i ((h + 16777216) % 18446744073709551616 / 16777216)) 0 w) := by
  obtain ⟨pg, cg, rfl, _, _, _⟩ := own_form hA.g
  obtain ⟨pu, cu, rfl, _, _, _⟩ := own_form hA.u
  obtain ⟨pf, cf, rfl, _, _, _⟩ := own_form hA.f
  have HA := Lib.hid hA
  have HL := Lib.hid hlu
  have HLV := Lib.hid hlv
  have hu : s.used.length ≤ 1000 := by omega
  clear hA hlu hlv
  have HHI := Lib.hid hhi
  clear hhi
  go_enter Try.func50, Try.ntmps50
  go_wp2_with fail
  obtain ⟨W, hW⟩ : ∃ W, W = ((w.alloc (.cells #[.slice pg s.gens.length cg, .slice pu s.used.length cu, .slice pf s.free.length cf] 28)).alloc (.cells #[.int .u64 h] 41)).alloc (.cells #[.slice none 0 0, .slice none 0 0, .slice none 0 0] 28) := ⟨_, rfl⟩
  have HW : Hid (Below w.heap.size w W ∧ W.heap.size = w.heap.size + 3 ∧ W.heap[w.heap.size]? = some (.cells #[.slice pg s.gens.length cg, .slice pu s.used.length cu, .slice pf s.free.length cf] 28 (0, 0)) ∧ W.heap[w.heap.size + 1 + 1]? = some (.cells #[.slice none 0 0, .slice none 0 0, .slice none 0 0] 28 (0, 0)) ∧
      W.cell? ⟨w.heap.size + 1, 0, none⟩ = some (.int .u64 h)) := Lib.hid (by
    subst hW
    refine ⟨(((Below.refl _ w).alloc (Nat.le_refl _) _).alloc (by simp) _).alloc (by simp; omega) _, by simp, ?_, ?_, ?_⟩
    · rw [heap_alloc_old _ _ (by simp; omega), heap_alloc_old _ _ (by simp)]
      exact heap_alloc_new _ _
    · exact (show ((w.alloc (.cells #[.slice pg s.gens.length cg, .slice pu s.used.length cu, .slice pf s.free.length cf] 28)).alloc (.cells #[.int .u64 h] 41)).heap.size = w.heap.size + 1 + 1 by simp) ▸ heap_alloc_new _ _
    · refine cell_of_one (t := 41) ?_
      rw [heap_alloc_old _ _ (by simp)]
      exact heap_alloc2_new _ _ _)
  rw [← hW]
  clear hW
  have HS := Lib.hid HW.out.2.1
  have HAW := Lib.hid (HA.out.below HW.out.1)
  refine (live_any h _ _ _ s b0 W HAW.out h0 h1 hg HL.out).mono ?_
  rw [HLV.out]
  rintro e w1 ⟨rfl, hb1⟩
  have HB1 := Lib.hid hb1
  have hs1 := hb1.size
  have HK1 : Hid (w1.heap[w.heap.size]? = some (.cells #[.slice pg s.gens.length cg, .slice pu s.used.length cu, .slice pf s.free.length cf] 28 (0, 0))) := Lib.hid ((hb1.block _ (by have := HS.out; omega)).trans HW.out.2.2.1)
  have HT1 : Hid (w1.heap[w.heap.size + 1 + 1]? = some (.cells #[.slice none 0 0, .slice none 0 0, .slice none 0 0] 28 (0, 0))) := Lib.hid ((hb1.block _ (by have := HS.out; omega)).trans HW.out.2.2.2.1)
  have hc1 : w1.cell? ⟨w.heap.size + 1, 0, none⟩ = some (.int .u64 h) := (hb1.cell (p := ⟨w.heap.size + 1, 0, none⟩) (by have := HS.out; show w.heap.size + 1 < _; omega)).trans HW.out.2.2.2.2
  obtain ⟨c0, c1, c2, _, _, _⟩ := block3 HK1.out
  have HA1 := Lib.hid (HAW.out.below hb1)
  clear hb1
  go_wp2_with fail
  refine (turnedG_any (w.heap.size + 1) i h _ _ _ s b0 w1 HA1.out hc1 h0 h1 HHI.out hi (by rw [HL.out]; exact hi) hg hu hf).mono ?_
  rintro e w2 ⟨v1, v2, v3, rfl, hA2, hb2⟩
  obtain ⟨p1, k1, rfl, _, _, _⟩ := own_form hA2.g
  obtain ⟨p2, k2, rfl, _, _, _⟩ := own_form hA2.u
  obtain ⟨p3, k3, rfl, _, _, _⟩ := own_form hA2.f
  have HA2 := Lib.hid hA2
  have HB2 := Lib.hid hb2
  have hs2 := hb2.size
  have HT2 : Hid (w2.heap[w.heap.size + 1 + 1]? = some (.cells #[.slice none 0 0, .slice none 0 0, .slice none 0 0] 28 (0, 0))) := Lib.hid ((hb2.block _ (by have := HS.out; omega)).trans HT1.out)
  obtain ⟨d0, d1, d2, y0, y1, y2⟩ := block3 HT2.out
  clear hA2 hb2
  obtain ⟨t, ht⟩ : ∃ t, s.gb i ((h + 16777216) % 18446744073709551616 / 16777216) = t := ⟨_, rfl⟩
  rw [ht] at HA2 ⊢
  have HTE := Lib.hid ht
  clear ht
  go_upto_region 4 with fail
  obtain ⟨V, hV⟩ : ∃ V, V = w2.alloc (.cells #[.slice p1 t.gens.length k1, .slice p2 t.used.length k2, .slice p3 t.free.length k3] 28) := ⟨_, rfl⟩
  have HV : Hid (Below w2.heap.size w2 V ∧ V.heap[w2.heap.size]? = some (.cells #[.slice p1 t.gens.length k1, .slice p2 t.used.length k2, .slice p3 t.free.length k3] 28 (0, 0))) := Lib.hid (by
    subst hV
    exact ⟨(Below.refl _ w2).alloc (Nat.le_refl _) _, heap_alloc_new _ _⟩)
  rw [← hV]
  clear hV d0 d1 d2 y0 y1 y2
  obtain ⟨x0, x1, x2, _, _, _⟩ := block3 HV.out.2
  have HTV : Hid (V.heap[w.heap.size + 1 + 1]? = some (.cells #[.slice none 0 0, .slice none 0 0, .slice none 0 0] 28 (0, 0))) := Lib.hid ((HV.out.1.block _ (by have := HS.out; omega)).trans HT2.out)
  obtain ⟨d0, d1, d2, y0, y1, y2⟩ := block3 HTV.out
  go_wp2
  refine bodyPost_ret (v := .tuple #[.agg #[.slice p1 t.gens.length k1, .slice p2 t.used.length k2, .slice p3 t.free.length k3], .int .i64 0]) (by simp [results, Try.results50, go_sem, d0, d1, d2]) rfl ⟨_, _, _, rfl, ?_, ?_⟩
  · rw [HTE.out]
    exact ((HA2.out.below HV.out.1).set3 (by have := HS.out; omega) _ _ _).drop (by have := HS.out; omega)
  · exact below_set3 (((HW.out.1.trans (HB1.out.mono (by have := HS.out; omega))).trans (HB2.out.mono (by have := HS.out; omega))).trans (HV.out.1.mono (by have := HS.out; omega))) (by omega) _ _ _
end Go.Proofs.Ytbldjlkofaiikaa
