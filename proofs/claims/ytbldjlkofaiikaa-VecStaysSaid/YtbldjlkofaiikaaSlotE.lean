/-
  What 'turned' makes of an arena; the handle of a slot; whether a handle is live; those that are.
-/
import Derived.Test.YtbldjlkofaiikaaSlotD
namespace Go.Proofs.Ytbldjlkofaiikaa
open Go.ChangeShapes Go.WideShapes Go.ChangeAt Go.RowKit
set_option linter.unusedVariables false

theorem bcell {W w1 : World} {B : Nat} (hb : Below B W w1) : (∀ b o, b < B → w1.cell? ⟨b, o, none⟩ = W.cell? ⟨b, o, none⟩) ∧ (∀ b o, b < B → w1.frozen? ⟨b, o, none⟩ = W.frozen? ⟨b, o, none⟩) :=
  ⟨fun b o h => hb.cell (p := ⟨b, o, none⟩) h, fun b o h => hb.frozen (p := ⟨b, o, none⟩) h⟩

set_option maxHeartbeats 1000000 in
theorem turnedT_any (a b i : Nat) (vg vu vf : Value) (s : St) (b0 : Nat) (w : World) (hA : Ar w b0 vg vu vf s) (ha : w.cell? ⟨a, 0, none⟩ = some (.int .i64 ((s.free.length : Int) - 1))) (hb : w.cell? ⟨b, 0, none⟩ = some (.int .i64 i))
    (hi : i < s.used.length) (hf0 : 0 < s.free.length) (hg : s.gens.length ≤ 1000) (hm : s.used.length ≤ 1000) (hf : s.free.length ≤ 1000) :
    Calls Try.prog 77 #[.agg #[vg, vu, vf], .func (.func 87) #[] #[.pointer (some ⟨a, 0, none⟩), .pointer (some ⟨b, 0, none⟩)]] w (GivesSt (s.tk i) w) := by
  obtain ⟨pg, cg, rfl, _, _, _⟩ := own_form hA.g
  obtain ⟨pu, cu, rfl, _, _, _⟩ := own_form hA.u
  obtain ⟨pf, cf, rfl, _, _, _⟩ := own_form hA.f
  have HA := Lib.hid hA
  have la := World.block_lt_of_cell? w _ ha
  have lb := World.block_lt_of_cell? w _ hb
  clear hA
  go_enter Try.func77, Try.ntmps77
  go_wp2_with fail
  obtain ⟨W, hW⟩ : ∃ W, W = (w.alloc (.cells #[.slice pg s.gens.length cg, .slice pu s.used.length cu, .slice pf s.free.length cf] 28)).alloc (.cells #[.slice none 0 0, .slice none 0 0, .slice none 0 0] 28) := ⟨_, rfl⟩
  have HW : Hid (Below w.heap.size w W ∧ W.heap.size = w.heap.size + 2 ∧ W.heap[w.heap.size + 1]? = some (.cells #[.slice none 0 0, .slice none 0 0, .slice none 0 0] 28 (0, 0))) := Lib.hid (by
    subst hW
    refine ⟨((Below.refl _ w).alloc (Nat.le_refl _) _).alloc (by simp) _, by simp, heap_alloc2_new _ _ _⟩)
  rw [← hW]
  clear hW
  refine (copyOf_any _ _ _ s b0 W (HA.out.below HW.out.1) hg hm hf).mono ?_
  rintro e w1 ⟨v1, v2, v3, rfl, hA1, hb1⟩
  obtain ⟨p1, k1, rfl, _, _, _⟩ := own_form hA1.g
  obtain ⟨p2, k2, rfl, _, _, _⟩ := own_form hA1.u
  obtain ⟨p3, k3, rfl, _, _, _⟩ := own_form hA1.f
  have HA1 := Lib.hid hA1
  have HB1 := Lib.hid hb1
  have HS := Lib.hid HW.out.2.1
  have hs1 : w.heap.size + 2 ≤ w1.heap.size := by have := hb1.size; have := HS.out; omega
  clear hA1 hb1
  go_wp2_with fail
  obtain ⟨V, hV⟩ : ∃ V, V = w1.alloc (.cells #[.slice p1 s.gens.length k1, .slice p2 s.used.length k2, .slice p3 s.free.length k3] 28) := ⟨_, rfl⟩
  have HV : Hid (Below w1.heap.size w1 V ∧ V.heap[w1.heap.size]? = some (.cells #[.slice p1 s.gens.length k1, .slice p2 s.used.length k2, .slice p3 s.free.length k3] 28 (0, 0))) := Lib.hid (by
    subst hV
    exact ⟨(Below.refl _ w1).alloc (Nat.le_refl _) _, heap_alloc_new _ _⟩)
  rw [← hV]
  clear hV
  have HBV : Hid (Below w.heap.size w V) := Lib.hid ((HW.out.1.trans (HB1.out.mono (by have := HS.out; omega))).trans (HV.out.1.mono (by omega)))
  have HT : Hid (V.heap[w.heap.size + 1]? = some (.cells #[.slice none 0 0, .slice none 0 0, .slice none 0 0] 28 (0, 0))) := Lib.hid (by
    rw [HV.out.1.block _ (by omega), HB1.out.block _ (by have := HS.out; omega)]
    exact HW.out.2.2)
  refine (takeF_st w1.heap.size a b i (w.heap.size + 2) _ _ _ s V HV.out.2 hs1 ((HA1.out.drop (by have := HS.out; omega)).below HV.out.1) ((HBV.out.cell (p := ⟨a, 0, none⟩) la).trans ha) ((HBV.out.cell (p := ⟨b, 0, none⟩) lb).trans hb) (by omega) (by omega) hi hf0 hm).mono ?_
  rintro e w2 ⟨rfl, v4, hk2, hA2, hb2⟩
  obtain ⟨p4, k4, rfl, _, _, _⟩ := own_form hA2.f
  obtain ⟨c0, c1, c2, _, _, _⟩ := block3 hk2
  have HT2 : Hid (w2.heap[w.heap.size + 1]? = some (.cells #[.slice none 0 0, .slice none 0 0, .slice none 0 0] 28 (0, 0))) := Lib.hid ((hb2.block _ (by omega)).trans HT.out)
  obtain ⟨d0, d1, d2, y0, y1, y2⟩ := block3 HT2.out
  have HA2 := Lib.hid hA2
  have HB2 : Hid (Below w.heap.size w w2) := Lib.hid (HBV.out.trans (hb2.mono (by omega)))
  clear hk2 hA2 hb2
  go_wp2
  refine bodyPost_ret (v := .agg #[.slice p1 s.gens.length k1, .slice p2 s.used.length k2, .slice p4 (s.tk i).free.length k4]) (by simp [results, Try.results77, go_sem, d0, d1, d2]) rfl ⟨_, _, _, rfl, ⟨?_, ?_, ?_⟩, ?_⟩
  · exact own_drop (ownsRow_setCell_below (ownsRow_setCell_below (ownsRow_setCell_below HA2.out.g (by simp) _) (by simp) _) (by simp) _) (by omega)
  · exact own_drop (ownsRow_setCell_below (ownsRow_setCell_below (ownsRow_setCell_below HA2.out.u (by simp) _) (by simp) _) (by simp) _) (by omega)
  · exact own_drop (ownsRow_setCell_below (ownsRow_setCell_below (ownsRow_setCell_below HA2.out.f (by simp) _) (by simp) _) (by simp) _) (by omega)
  · exact ((HB2.out.setCell (by simp) _).setCell (by simp) _).setCell (by simp) _

set_option maxHeartbeats 1000000 in
theorem turnedG_any (a i : Nat) (h : Int) (vg vu vf : Value) (s : St) (b0 : Nat) (w : World) (hA : Ar w b0 vg vu vf s) (ha : w.cell? ⟨a, 0, none⟩ = some (.int .u64 h))
    (h0 : 0 ≤ h) (h1 : h ≤ 18446744073709551615) (hhi : h % 16777216 = i) (hi : i < s.gens.length) (hi2 : i < s.used.length) (hg : s.gens.length ≤ 1000) (hm : s.used.length ≤ 1000) (hf : s.free.length ≤ 1000) :
    Calls Try.prog 77 #[.agg #[vg, vu, vf], .func (.func 78) #[] #[.pointer (some ⟨a, 0, none⟩)]] w (GivesSt (s.gb i ((h + 16777216) % 18446744073709551616 / 16777216)) w) := by
  obtain ⟨pg, cg, rfl, _, _, _⟩ := own_form hA.g
  obtain ⟨pu, cu, rfl, _, _, _⟩ := own_form hA.u
  obtain ⟨pf, cf, rfl, _, _, _⟩ := own_form hA.f
  have HA := Lib.hid hA
  have la := World.block_lt_of_cell? w _ ha
  clear hA
  go_enter Try.func77, Try.ntmps77
  go_wp2_with fail
  obtain ⟨W, hW⟩ : ∃ W, W = (w.alloc (.cells #[.slice pg s.gens.length cg, .slice pu s.used.length cu, .slice pf s.free.length cf] 28)).alloc (.cells #[.slice none 0 0, .slice none 0 0, .slice none 0 0] 28) := ⟨_, rfl⟩
  have HW : Hid (Below w.heap.size w W ∧ W.heap.size = w.heap.size + 2 ∧ W.heap[w.heap.size + 1]? = some (.cells #[.slice none 0 0, .slice none 0 0, .slice none 0 0] 28 (0, 0))) := Lib.hid (by
    subst hW
    refine ⟨((Below.refl _ w).alloc (Nat.le_refl _) _).alloc (by simp) _, by simp, heap_alloc2_new _ _ _⟩)
  rw [← hW]
  clear hW
  refine (copyOf_any _ _ _ s b0 W (HA.out.below HW.out.1) hg hm hf).mono ?_
  rintro e w1 ⟨v1, v2, v3, rfl, hA1, hb1⟩
  obtain ⟨p1, k1, rfl, _, _, _⟩ := own_form hA1.g
  obtain ⟨p2, k2, rfl, _, _, _⟩ := own_form hA1.u
  obtain ⟨p3, k3, rfl, _, _, _⟩ := own_form hA1.f
  have HA1 := Lib.hid hA1
  have HB1 := Lib.hid hb1
  have HS := Lib.hid HW.out.2.1
  have hs1 : w.heap.size + 2 ≤ w1.heap.size := by have := hb1.size; have := HS.out; omega
  clear hA1 hb1
  go_wp2_with fail
  obtain ⟨V, hV⟩ : ∃ V, V = w1.alloc (.cells #[.slice p1 s.gens.length k1, .slice p2 s.used.length k2, .slice p3 s.free.length k3] 28) := ⟨_, rfl⟩
  have HV : Hid (Below w1.heap.size w1 V ∧ V.heap[w1.heap.size]? = some (.cells #[.slice p1 s.gens.length k1, .slice p2 s.used.length k2, .slice p3 s.free.length k3] 28 (0, 0))) := Lib.hid (by
    subst hV
    exact ⟨(Below.refl _ w1).alloc (Nat.le_refl _) _, heap_alloc_new _ _⟩)
  rw [← hV]
  clear hV
  have HBV : Hid (Below w.heap.size w V) := Lib.hid ((HW.out.1.trans (HB1.out.mono (by have := HS.out; omega))).trans (HV.out.1.mono (by omega)))
  have HT : Hid (V.heap[w.heap.size + 1]? = some (.cells #[.slice none 0 0, .slice none 0 0, .slice none 0 0] 28 (0, 0))) := Lib.hid (by
    rw [HV.out.1.block _ (by omega), HB1.out.block _ (by have := HS.out; omega)]
    exact HW.out.2.2)
  refine (giveF_st w1.heap.size a i (w.heap.size + 2) h _ _ _ s V HV.out.2 hs1 ((HA1.out.drop (by have := HS.out; omega)).below HV.out.1) ((HBV.out.cell (p := ⟨a, 0, none⟩) la).trans ha) (by omega) h0 h1 hhi hi hi2 hg hm hf).mono ?_
  rintro e w2 ⟨rfl, v4, hk2, hA2, hb2⟩
  obtain ⟨p4, k4, rfl, _, _, _⟩ := own_form hA2.f
  obtain ⟨c0, c1, c2, _, _, _⟩ := block3 hk2
  have HT2 : Hid (w2.heap[w.heap.size + 1]? = some (.cells #[.slice none 0 0, .slice none 0 0, .slice none 0 0] 28 (0, 0))) := Lib.hid ((hb2.block _ (by omega)).trans HT.out)
  obtain ⟨d0, d1, d2, y0, y1, y2⟩ := block3 HT2.out
  have HA2 := Lib.hid hA2
  have HB2 : Hid (Below w.heap.size w w2) := Lib.hid (HBV.out.trans (hb2.mono (by omega)))
  clear hk2 hA2 hb2
  go_wp2
  refine bodyPost_ret (v := .agg #[.slice p1 s.gens.length k1, .slice p2 s.used.length k2, .slice p4 (s.gb i ((h + 16777216) % 18446744073709551616 / 16777216)).free.length k4]) (by simp [results, Try.results77, go_sem, d0, d1, d2]) rfl ⟨_, _, _, rfl, ⟨?_, ?_, ?_⟩, ?_⟩
  · exact own_drop (ownsRow_setCell_below (ownsRow_setCell_below (ownsRow_setCell_below HA2.out.g (by simp) _) (by simp) _) (by simp) _) (by omega)
  · exact own_drop (ownsRow_setCell_below (ownsRow_setCell_below (ownsRow_setCell_below HA2.out.u (by simp) _) (by simp) _) (by simp) _) (by omega)
  · exact own_drop (ownsRow_setCell_below (ownsRow_setCell_below (ownsRow_setCell_below HA2.out.f (by simp) _) (by simp) _) (by simp) _) (by omega)
  · exact ((HB2.out.setCell (by simp) _).setCell (by simp) _).setCell (by simp) _
end Go.Proofs.Ytbldjlkofaiikaa
