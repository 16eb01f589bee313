/-
  Take and Give of package slots.
-/
import Derived.Test.YtbldjlkofaiikaaSlotG
namespace Go.Proofs.Ytbldjlkofaiikaa
open Go.ChangeShapes Go.WideShapes Go.ChangeAt Go.RowKit
set_option linter.unusedVariables false

/-- An arena, a handle and an error's number are handed back, the arena in new memory. -/
def GivesT (s : St) (h e : Int) (w : World) (en : Ending) (w' : World) : Prop :=
  ∃ vg vu vf, en = .returned (.tuple #[.agg #[vg, vu, vf], .int .u64 h, .int .i64 e]) ∧ Ar w' w.heap.size vg vu vf s ∧ Below w.heap.size w w'
/-- An arena and an error's number are handed back, the arena in new memory. -/
def GivesE (s : St) (e : Int) (w : World) (en : Ending) (w' : World) : Prop :=
  ∃ vg vu vf, en = .returned (.tuple #[.agg #[vg, vu, vf], .int .i64 e]) ∧ Ar w' w.heap.size vg vu vf s ∧ Below w.heap.size w w'
/-- A store of three cells into a block below leaves an arena. -/
theorem Ar.set3 {w : World} {b k : Nat} {vg vu vf : Value} {s : St} (h : Ar w b vg vu vf s) (hk : k < b) (x y z : Value) : Ar (((w.setCell ⟨k, 0, none⟩ x).setCell ⟨k, 1, none⟩ y).setCell ⟨k, 2, none⟩ z) b vg vu vf s :=
  ⟨ownsRow_setCell_below (ownsRow_setCell_below (ownsRow_setCell_below h.g hk _) hk _) hk _, ownsRow_setCell_below (ownsRow_setCell_below (ownsRow_setCell_below h.u hk _) hk _) hk _, ownsRow_setCell_below (ownsRow_setCell_below (ownsRow_setCell_below h.f hk _) hk _) hk _⟩
theorem below_set3 {a w : World} {B k : Nat} (h : Below B a w) (hk : B ≤ k) (x y z : Value) : Below B a (((w.setCell ⟨k, 0, none⟩ x).setCell ⟨k, 1, none⟩ y).setCell ⟨k, 2, none⟩ z) :=
  ((h.setCell (p := ⟨k, 0, none⟩) hk _).setCell (p := ⟨k, 1, none⟩) hk _).setCell (p := ⟨k, 2, none⟩) hk _

set_option maxHeartbeats 1000000 in
theorem take_full (vg vu vf : Value) (s : St) (b0 : Nat) (w : World) (hA : Ar w b0 vg vu vf s) (hg : s.gens.length ≤ 1000) (hu : s.used.length ≤ 1000) (hf : s.free.length = 0) :
    Calls Try.prog 71 #[.agg #[vg, vu, vf]] w (GivesT s 0 2 w) := by
  obtain ⟨pg, cg, rfl, _, _, _⟩ := own_form hA.g
  obtain ⟨pu, cu, rfl, _, _, _⟩ := own_form hA.u
  obtain ⟨pf, cf, rfl, _, _, _⟩ := own_form hA.f
  have HA := Lib.hid hA
  have HF := Lib.hid hf
  rw [hf]
  clear hA hf
  go_enter Try.func71, Try.ntmps71
  go_wp2_with fail
  obtain ⟨W, hW⟩ : ∃ W, W = ((w.alloc (.cells #[.slice pg s.gens.length cg, .slice pu s.used.length cu, .slice pf 0 cf] 28)).alloc (.cells #[.slice none 0 0, .slice none 0 0, .slice none 0 0] 28)).alloc (.cells #[.int .i64 (-1)] 3) := ⟨_, rfl⟩
  have HW : Hid (Below w.heap.size w W ∧ W.heap.size = w.heap.size + 3 ∧ W.heap[w.heap.size + 1]? = some (.cells #[.slice none 0 0, .slice none 0 0, .slice none 0 0] 28 (0, 0))) := Lib.hid (by
    subst hW
    refine ⟨(((Below.refl _ w).alloc (Nat.le_refl _) _).alloc (by simp) _).alloc (by simp; omega) _, by simp, ?_⟩
    rw [heap_alloc_old _ _ (by simp)]
    exact heap_alloc2_new _ _ _)
  rw [← hW]
  clear hW
  have HS := Lib.hid HW.out.2.1
  have hA2 := HA.out.below HW.out.1
  rw [HF.out] at hA2
  refine (copyOf_any _ _ _ s b0 W hA2 hg hu (by rw [HF.out]; omega)).mono ?_
  clear hA2
  rintro e w1 ⟨v1, v2, v3, rfl, hA1, hb1⟩
  obtain ⟨p1, k1, rfl, _, _, _⟩ := own_form hA1.g
  obtain ⟨p2, k2, rfl, _, _, _⟩ := own_form hA1.u
  obtain ⟨p3, k3, rfl, _, _, _⟩ := own_form hA1.f
  have HA1 := Lib.hid hA1
  have HB1 := Lib.hid hb1
  have HT : Hid (w1.heap[w.heap.size + 1]? = some (.cells #[.slice none 0 0, .slice none 0 0, .slice none 0 0] 28 (0, 0))) := Lib.hid ((hb1.block _ (by have := HS.out; omega)).trans HW.out.2.2)
  obtain ⟨d0, d1, d2, y0, y1, y2⟩ := block3 HT.out
  clear hA1 hb1
  go_wp2
  refine bodyPost_ret (v := .tuple #[.agg #[.slice p1 s.gens.length k1, .slice p2 s.used.length k2, .slice p3 s.free.length k3], .int .u64 0, .int .i64 2]) (by simp [results, Try.results71, go_sem, d0, d1, d2]) rfl ⟨_, _, _, rfl, ?_, ?_⟩
  · exact (HA1.out.set3 (by have := HS.out; omega) _ _ _).drop (by have := HS.out; omega)
  · exact below_set3 (HW.out.1.trans (HB1.out.mono (by have := HS.out; omega))) (by omega) _ _ _

set_option maxHeartbeats 1000000 in
theorem take_ok (i : Nat) (fr : List Int) (G : Int) (vg vu vf : Value) (s : St) (b0 : Nat) (w : World) (hA : Ar w b0 vg vu vf s) (hg : s.gens.length ≤ 1000) (hu : s.used.length ≤ 1000) (hf : s.free.length ≤ 1000)
    (hfr : s.free = fr ++ [(i : Int)]) (hi : i < s.gens.length) (hi2 : i < s.used.length) (hG : s.gens.getD i 0 = G) (g0 : 0 ≤ G) (g1 : G ≤ 1099511627775) :
    Calls Try.prog 71 #[.agg #[vg, vu, vf]] w (GivesT (s.tk i) (hd i G) 0 w) := by
  obtain ⟨pg, cg, rfl, _, _, _⟩ := own_form hA.g
  obtain ⟨pu, cu, rfl, _, _, _⟩ := own_form hA.u
  obtain ⟨pf, cf, rfl, _, _, _⟩ := own_form hA.f
  have hfl : 0 < s.free.length := by rw [hfr]; simp
  obtain ⟨gf, rfl, _, hgf⟩ := own_some hA.f hfl
  have cf0 : w.cell? ⟨gf, s.free.length - 1, none⟩ = some (.int .i64 i) := by
    rw [own_at_int hA.f (by omega), hfr]
    simp [List.getD]
  have HA := Lib.hid hA
  have HFR := Lib.hid hfr
  have HG := Lib.hid hG
  clear hA hfr hG
  obtain ⟨m, hm⟩ : ∃ m, s.free.length = m + 1 := ⟨s.free.length - 1, by omega⟩
  rw [hm] at cf0 hf ⊢
  have HM := Lib.hid hm
  clear hm hfl
  rw [Nat.add_sub_cancel] at cf0
  have m0 : (0 : Int) ≤ (m : Int) := by omega
  have m1 : (m : Int) < ((m + 1 : Nat) : Int) := by omega
  go_enter Try.func71, Try.ntmps71
  have cfW : ∀ o1 o2 o3 : Obj, (((w.alloc o1).alloc o2).alloc o3).cell? ⟨gf, m, none⟩ = some (.int .i64 i) := fun o1 o2 o3 => by
    rw [World.cell?_alloc_lt _ _ _ (by simp; omega), World.cell?_alloc_lt _ _ _ (by simp; omega), World.cell?_alloc_lt _ _ _ hgf]
    exact cf0
  go_wp2_with fail
  obtain ⟨W, hW⟩ : ∃ W, W = (((w.alloc (.cells #[.slice pg s.gens.length cg, .slice pu s.used.length cu, .slice (some ⟨gf, 0, none⟩) (m + 1) cf] 28)).alloc (.cells #[.slice none 0 0, .slice none 0 0, .slice none 0 0] 28)).alloc (.cells #[.int .i64 m] 3)).alloc (.cells #[.int .i64 i] 3) := ⟨_, rfl⟩
  have HW : Hid (Below w.heap.size w W ∧ W.heap.size = w.heap.size + 4 ∧ W.heap[w.heap.size + 1]? = some (.cells #[.slice none 0 0, .slice none 0 0, .slice none 0 0] 28 (0, 0)) ∧
      W.cell? ⟨w.heap.size + 1 + 1, 0, none⟩ = some (.int .i64 m) ∧ W.cell? ⟨w.heap.size + 1 + 1 + 1, 0, none⟩ = some (.int .i64 i)) := Lib.hid (by
    subst hW
    refine ⟨((((Below.refl _ w).alloc (Nat.le_refl _) _).alloc (by simp) _).alloc (by simp; omega) _).alloc (by simp; omega) _, by simp, ?_, ?_, ?_⟩
    · rw [heap_alloc_old _ _ (by simp), heap_alloc_old _ _ (by simp)]
      exact heap_alloc2_new _ _ _
    · refine cell_of_one (t := 3) ?_
      rw [heap_alloc_old _ _ (by simp)]
      exact (show ((w.alloc (.cells #[.slice pg s.gens.length cg, .slice pu s.used.length cu, .slice (some ⟨gf, 0, none⟩) (m + 1) cf] 28)).alloc (.cells #[.slice none 0 0, .slice none 0 0, .slice none 0 0] 28)).heap.size = w.heap.size + 1 + 1 by simp) ▸ heap_alloc_new _ _
    · refine cell_of_one (t := 3) ?_
      exact (show (((w.alloc (.cells #[.slice pg s.gens.length cg, .slice pu s.used.length cu, .slice (some ⟨gf, 0, none⟩) (m + 1) cf] 28)).alloc (.cells #[.slice none 0 0, .slice none 0 0, .slice none 0 0] 28)).alloc (.cells #[.int .i64 m] 3)).heap.size = w.heap.size + 1 + 1 + 1 by simp) ▸ heap_alloc_new _ _)
  rw [← hW]
  clear hW cfW
  have HS := Lib.hid HW.out.2.1
  have hA2 := HA.out.below HW.out.1
  rw [HM.out] at hA2
  refine (turnedT_any (w.heap.size + 1 + 1) (w.heap.size + 1 + 1 + 1) i _ _ _ s b0 W hA2 (by rw [HW.out.2.2.2.1, HM.out]; congr 2; omega) HW.out.2.2.2.2 hi2 (by have := HM.out; omega) hg hu (by have := HM.out; omega)).mono ?_
  clear hA2
  rintro e w1 ⟨v1, v2, v3, rfl, hA1, hb1⟩
  obtain ⟨p1, k1, rfl, _, _, _⟩ := own_form hA1.g
  obtain ⟨p2, k2, rfl, _, _, _⟩ := own_form hA1.u
  obtain ⟨p3, k3, rfl, _, _, _⟩ := own_form hA1.f
  have hs1 := hb1.size
  have HA1 := Lib.hid hA1
  have HB1 := Lib.hid hb1
  have HT : Hid (w1.heap[w.heap.size + 1]? = some (.cells #[.slice none 0 0, .slice none 0 0, .slice none 0 0] 28 (0, 0))) := Lib.hid ((hb1.block _ (by have := HS.out; omega)).trans HW.out.2.2.1)
  have HI1 : Hid (w1.cell? ⟨w.heap.size + 1 + 1 + 1, 0, none⟩ = some (.int .i64 i)) := Lib.hid ((hb1.cell (p := ⟨w.heap.size + 1 + 1 + 1, 0, none⟩) (by have := HS.out; show w.heap.size + 1 + 1 + 1 < _; omega)).trans HW.out.2.2.2.2)
  clear hA1 hb1
  go_wp2_with fail
  obtain ⟨t, ht⟩ : ∃ t, s.tk i = t := ⟨_, rfl⟩
  have htg : t.gens = s.gens := by rw [← ht]; rfl
  rw [ht] at HA1 ⊢
  have HTE := Lib.hid ht
  have HTG := Lib.hid htg
  clear ht htg
  obtain ⟨V, hV⟩ : ∃ V, V = w1.alloc (.cells #[.slice p1 t.gens.length k1, .slice p2 t.used.length k2, .slice p3 t.free.length k3] 28) := ⟨_, rfl⟩
  have HV : Hid (Below w1.heap.size w1 V ∧ V.heap[w1.heap.size]? = some (.cells #[.slice p1 t.gens.length k1, .slice p2 t.used.length k2, .slice p3 t.free.length k3] 28 (0, 0)) ∧ V.heap.size = w1.heap.size + 1) := Lib.hid (by
    subst hV
    exact ⟨(Below.refl _ w1).alloc (Nat.le_refl _) _, heap_alloc_new _ _, by simp⟩)
  rw [← hV]
  clear hV
  have HAV := Lib.hid (HA1.out.below HV.out.1)
  have HCV : Hid (∀ w', Below V.heap.size V w' → w'.cell? ⟨w1.heap.size, 0, none⟩ = some (.slice p1 t.gens.length k1) ∧ w'.cell? ⟨w1.heap.size, 1, none⟩ = some (.slice p2 t.used.length k2) ∧ w'.cell? ⟨w1.heap.size, 2, none⟩ = some (.slice p3 t.free.length k3) ∧ w'.cell? ⟨w.heap.size + 1 + 1 + 1, 0, none⟩ = some (.int .i64 i)) := Lib.hid (fun w' hb => by
    obtain ⟨c0, c1, c2, _⟩ := block3 HV.out.2.1
    have hsz := HV.out.2.2
    have := HS.out
    exact ⟨(hb.cell (p := ⟨w1.heap.size, 0, none⟩) (by show w1.heap.size < _; omega)).trans c0, (hb.cell (p := ⟨w1.heap.size, 1, none⟩) (by show w1.heap.size < _; omega)).trans c1, (hb.cell (p := ⟨w1.heap.size, 2, none⟩) (by show w1.heap.size < _; omega)).trans c2,
      (hb.cell (p := ⟨w.heap.size + 1 + 1 + 1, 0, none⟩) (by show w.heap.size + 1 + 1 + 1 < _; omega)).trans ((HV.out.1.cell (p := ⟨w.heap.size + 1 + 1 + 1, 0, none⟩) (by show w.heap.size + 1 + 1 + 1 < _; omega)).trans HI1.out)⟩)
  have HTV : Hid (V.heap[w.heap.size + 1]? = some (.cells #[.slice none 0 0, .slice none 0 0, .slice none 0 0] 28 (0, 0))) := Lib.hid ((HV.out.1.block _ (by have := HS.out; omega)).trans HT.out)
  have HVS := Lib.hid HV.out.2.2
  have hne1 : w.heap.size + 1 ≠ w1.heap.size := by have := HS.out; omega
  go_region_held3 (fun w' => w'.cell? ⟨w1.heap.size, 0, none⟩ = some (.slice p1 t.gens.length k1) ∧ w'.cell? ⟨w1.heap.size, 1, none⟩ = some (.slice p2 t.used.length k2) ∧ w'.cell? ⟨w1.heap.size, 2, none⟩ = some (.slice p3 t.free.length k3) ∧ w'.cell? ⟨w.heap.size + 1 + 1 + 1, 0, none⟩ = some (.int .i64 i))
    (first
      | exact HCV.out _ (Below.refl _ _).drew
      | exact HCV.out _ HB3.out
      | go_keep)
    (first
      | (go_at_call 88
         refine (handle_any i G _ _ _ t W.heap.size _ HAV.out.drew (by rw [HTG.out]; exact hi) (by rw [HTG.out]; exact hg) (by rw [HTG.out]; exact HG.out) g0 g1).mono ?_
         rintro e w3 ⟨rfl, hb3⟩
         have HB3 : Hid (Below V.heap.size V w3) := Lib.hid ((Below.refl _ _).drew.trans hb3)
         have HT3 : Hid (w3.heap[w.heap.size + 1]? = some (.cells #[.slice none 0 0, .slice none 0 0, .slice none 0 0] 28 (0, 0))) := Lib.hid ((HB3.out.block _ (by have := HS.out; have := HVS.out; omega)).trans HTV.out)
         obtain ⟨d0, d1, d2, y0, y1, y2⟩ := block3 HT3.out
         clear hb3))
  go_wp2
  refine bodyPost_ret (v := .tuple #[.agg #[.slice p1 t.gens.length k1, .slice p2 t.used.length k2, .slice p3 t.free.length k3], .int .u64 (hd i G), .int .i64 0]) (by simp [results, Try.results71, go_sem, d0, d1, d2]) rfl ⟨_, _, _, rfl, ?_, ?_⟩
  · rw [HTE.out]
    exact ((HAV.out.below HB3.out).set3 (by have := HS.out; omega) _ _ _).drop (by have := HS.out; omega)
  · exact below_set3 (((HW.out.1.trans (HB1.out.mono (by have := HS.out; omega))).trans (HV.out.1.mono (by have := HS.out; omega))).trans (HB3.out.mono (by have := HS.out; have := HVS.out; omega))) (by omega) _ _ _
end Go.Proofs.Ytbldjlkofaiikaa
