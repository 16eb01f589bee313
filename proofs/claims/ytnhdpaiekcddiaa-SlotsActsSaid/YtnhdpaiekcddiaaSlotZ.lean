/-
  The document's own Take.
-/
import Derived.Test.YtnhdpaiekcddiaaSlotY
namespace Go.Proofs.Ytnhdpaiekcddiaa
open Go.ChangeShapes Go.WideShapes Go.ChangeAt Go.RowKit
set_option linter.unusedVariables false

/-- A slot taken, in memory. -/
theorem Ar.took {w : World} {B k i gu gf cu cf : Nat} {vg : Value} {s : St} {t : TypeId} {cs : Array Value} (hA : Ar w B vg (.slice (some ⟨gu, 0, none⟩) s.used.length cu) (.slice (some ⟨gf, 0, none⟩) s.free.length cf) s) (hk : w.heap[k]? = some (.cells cs t (0, 0)))
    (ht1 : 23 ≠ t) (ht2 : 4 ≠ t) (ht3 : 3 ≠ t) (hf : 0 < s.free.length) (x : Value) :
    Ar ((w.setCell ⟨k, 2, none⟩ x).setCell ⟨gu, i, none⟩ (.bool true)) B vg (.slice (some ⟨gu, 0, none⟩) (s.tk i).used.length cu) (.slice (some ⟨gf, 0, none⟩) (s.tk i).free.length cf) (s.tk i) := by
  have hku : gu ≠ k := fun e => own_apart hA.u hk ht2 (by rw [e]; rfl)
  have hkf : gf ≠ k := fun e => own_apart hA.f hk ht3 (by rw [e]; rfl)
  have hgk : vg.ownBlock ≠ some k := own_apart hA.g hk ht1
  have hgg : vg.ownBlock ≠ some gu := own_apart2 hA.g hA.u rfl (by decide)
  have hff : gf ≠ gu := fun e => own_apart2 hA.f hA.u rfl (by decide) (by rw [e]; rfl)
  refine ⟨ownsRow_setCell_other (ownsRow_setCell_other hA.g hgk _) hgg _, ?_, ?_⟩
  · have h1 := (ownsRow_setCell_other hA.u (a := ⟨k, 2, none⟩) (by simpa [Value.ownBlock] using hku) x).stored i (.bool true)
    rw [St.tk, List.length_set, set_map_bool]
    exact h1.1
  · have h1 := ownsRow_setCell_other (ownsRow_setCell_other hA.f (a := ⟨k, 2, none⟩) (by simpa [Value.ownBlock] using hkf) x) (a := ⟨gu, i, none⟩) (by simpa [Value.ownBlock] using hff) (.bool true)
    obtain ⟨fr, y, hfr⟩ : ∃ fr y, s.free = fr ++ [y] := ⟨_, _, (List.dropLast_concat_getLast (List.ne_nil_of_length_pos hf)).symm⟩
    rw [St.tk]
    simp only [hfr, List.dropLast_concat, List.length_append, List.length_cons, List.length_nil, Nat.zero_add] at h1 ⊢
    rw [ivs, List.map_append] at h1
    exact ownsRow_pop (by simp [ivs]) h1

/-- The same values, a handle and an error's number are handed back. -/
def SameT (vg vu vf : Value) (h e : Int) (w : World) (en : Ending) (w' : World) : Prop := en = .returned (.tuple #[.agg #[vg, vu, vf], .int .u64 h, .int .i64 e]) ∧ Below w.heap.size w w'
set_option maxHeartbeats 1000000 in
theorem rtake_full (vg vu vf : Value) (s : St) (b0 : Nat) (w : World) (hA : Ar w b0 vg vu vf s) (hf : s.free.length = 0) :
    Calls Try.prog 14 #[.agg #[vg, vu, vf]] w (SameT vg vu vf 0 2 w) := by
  obtain ⟨pg, cg, rfl, _, _, _⟩ := own_form hA.g
  obtain ⟨pu, cu, rfl, _, _, _⟩ := own_form hA.u
  obtain ⟨pf, cf, rfl, _, _, _⟩ := own_form hA.f
  rw [hf]
  clear hA hf
  go_enter Try.func14, Try.ntmps14
  go_wp2
  refine bodyPost_ret (v := .tuple #[.agg #[.slice pg s.gens.length cg, .slice pu s.used.length cu, .slice pf 0 cf], .int .u64 0, .int .i64 2]) (by simp [results, Try.results14, go_sem]) rfl ⟨rfl, ?_⟩
  exact ((Below.refl _ w).alloc (Nat.le_refl _) _).alloc (by simp) _

set_option maxHeartbeats 2000000 in
theorem rtake_ok (i : Nat) (fr : List Int) (G : Int) (vg vu vf : Value) (s : St) (b0 : Nat) (w : World) (hA : Ar w b0 vg vu vf s) (hg : s.gens.length ≤ 1000) (hu : s.used.length ≤ 1000) (hf : s.free.length ≤ 1000)
    (hfr : s.free = fr ++ [(i : Int)]) (hi : i < s.gens.length) (hi2 : i < s.used.length) (hG : s.gens.getD i 0 = G) (g0 : 0 ≤ G) (g1 : G ≤ 1099511627775) :
    Calls Try.prog 14 #[.agg #[vg, vu, vf]] w (GivesT (s.tk i) (hd i G) 0 w) := by
  obtain ⟨pg, cg, rfl, _, _, _⟩ := own_form hA.g
  obtain ⟨pu, cu, rfl, _, _, _⟩ := own_form hA.u
  obtain ⟨pf, cf, rfl, _, _, _⟩ := own_form hA.f
  have hfl : 0 < s.free.length := by rw [hfr]; simp
  have hflz : ((s.free.length : Int) == 0) = false := by rw [beq_eq_false_iff_ne]; omega
  have HA := Lib.hid hA
  have HFR := Lib.hid hfr
  have HG := Lib.hid hG
  clear hA hfr hG
  go_enter Try.func14, Try.ntmps14
  go_wp2_with fail
  obtain ⟨W, hW⟩ : ∃ W, W = (w.alloc (.cells #[.slice pg s.gens.length cg, .slice pu s.used.length cu, .slice pf s.free.length cf] 33)).alloc (.cells #[.slice none 0 0, .slice none 0 0, .slice none 0 0] 33) := ⟨_, rfl⟩
  have HW : Hid (Below w.heap.size w W ∧ W.heap.size = w.heap.size + 2 ∧ W.heap[w.heap.size]? = some (.cells #[.slice pg s.gens.length cg, .slice pu s.used.length cu, .slice pf s.free.length cf] 33 (0, 0)) ∧ W.heap[w.heap.size + 1]? = some (.cells #[.slice none 0 0, .slice none 0 0, .slice none 0 0] 33 (0, 0))) := Lib.hid (by
    subst hW
    refine ⟨((Below.refl _ w).alloc (Nat.le_refl _) _).alloc (by simp) _, by simp, ?_, heap_alloc2_new _ _ _⟩
    rw [heap_alloc_old _ _ (by simp)]; exact heap_alloc_new w _)
  rw [← hW]
  clear hW
  have HS := Lib.hid HW.out.2.1
  refine (copied_any _ _ _ s b0 W (HA.out.below HW.out.1) hg hu hf).mono ?_
  rintro e w1 ⟨v1, v2, v3, rfl, hA1, hb1⟩
  obtain ⟨p1, k1, p2, k2, p3, k3, rfl, rfl, rfl⟩ := hA1.form
  have HK1 : Hid (w1.heap[w.heap.size]? = some (.cells #[.slice pg s.gens.length cg, .slice pu s.used.length cu, .slice pf s.free.length cf] 33 (0, 0))) := Lib.hid ((hb1.block _ (by have := HS.out; omega)).trans HW.out.2.2.1)
  have HT1 : Hid (w1.heap[w.heap.size + 1]? = some (.cells #[.slice none 0 0, .slice none 0 0, .slice none 0 0] 33 (0, 0))) := Lib.hid ((hb1.block _ (by have := HS.out; omega)).trans HW.out.2.2.2)
  have HA1 := Lib.hid hA1
  have HB1 : Hid (Below w.heap.size w w1) := Lib.hid (HW.out.1.trans (hb1.mono (by have := HS.out; omega)))
  clear hA1 hb1
  obtain ⟨c0, c1, c2, z0, z1, z2⟩ := block3 HK1.out
  go_upto_region 4 with fail
  obtain ⟨V, hV⟩ : ∃ V, V = ((w1.setCell ⟨w.heap.size, 0, none⟩ (.slice p1 s.gens.length k1)).setCell ⟨w.heap.size, 1, none⟩ (.slice p2 s.used.length k2)).setCell ⟨w.heap.size, 2, none⟩ (.slice p3 s.free.length k3) := ⟨_, rfl⟩
  have HKV : Hid (V.heap[w.heap.size]? = some (.cells #[.slice p1 s.gens.length k1, .slice p2 s.used.length k2, .slice p3 s.free.length k3] 33 (0, 0))) := Lib.hid (by rw [hV]; exact heap_set123 HK1.out _ _ _)
  have HTV : Hid (V.heap[w.heap.size + 1]? = some (.cells #[.slice none 0 0, .slice none 0 0, .slice none 0 0] 33 (0, 0))) := Lib.hid (by
    rw [hV, heap_set_other _ _ _ (by simp), heap_set_other _ _ _ (by simp), heap_set_other _ _ _ (by simp)]; exact HT1.out)
  have HAV : Hid (Ar V W.heap.size (.slice p1 s.gens.length k1) (.slice p2 s.used.length k2) (.slice p3 s.free.length k3) s) := Lib.hid (by rw [hV]; exact HA1.out.set3 (by have := HS.out; omega) _ _ _)
  have HBV : Hid (Below w.heap.size w V) := Lib.hid (by rw [hV]; exact below_set3 HB1.out (Nat.le_refl _) _ _ _)
  rw [← hV]
  clear hV c0 c1 c2 z0 z1 z2
  obtain ⟨c0, c1, c2, z0, z1, z2⟩ := block3 HKV.out
  obtain ⟨gg, rfl, hgg, hgg'⟩ := own_some HAV.out.g (by omega)
  obtain ⟨gu, rfl, hgu, hgu'⟩ := own_some HAV.out.u (by omega)
  obtain ⟨gf, rfl, hgf, hgf'⟩ := own_some HAV.out.f hfl
  have cf0 : V.cell? ⟨gf, s.free.length - 1, none⟩ = some (.int .i64 i) := by
    rw [own_at_int HAV.out.f (by omega), HFR.out]
    simp [List.getD]
  have cu0 := own_at_bool HAV.out.u hi2
  have zu0 := HAV.out.u.frozenAt i
  have cg0 := own_at_gen HAV.out.g hi
  rw [HG.out] at cg0
  have hkf : k3 ≤ maxLen := by obtain ⟨_, c, e, _, h, _⟩ := own_form HAV.out.f; cases e; exact h
  have hkn : s.free.length ≤ k3 := by obtain ⟨_, c, e, h, _, _⟩ := own_form HAV.out.f; cases e; exact h
  have HMX := Lib.hid hkf
  clear hkf
  obtain ⟨m, hm⟩ : ∃ m, s.free.length = m + 1 := ⟨s.free.length - 1, by omega⟩
  have hmz : (s.free.length : Int) - 1 = (m : Int) := by omega
  rw [hm, Nat.add_sub_cancel] at cf0
  have m0 : (0 : Int) ≤ (m : Int) := by omega
  have m1 : (m : Int) < (s.free.length : Int) := by omega
  have m2 : (m : Int) ≤ (k3 : Int) := by omega
  have i0 : (0 : Int) ≤ (i : Int) := by omega
  have i1 : (i : Int) < (s.used.length : Int) := by omega
  have i2 : (i : Int) < (s.gens.length : Int) := by omega
  have n1 : gu ≠ w.heap.size := by have := HS.out; omega
  have n2 : gg ≠ w.heap.size := by have := HS.out; omega
  have n3 : gg ≠ gu := fun e => own_apart2 HAV.out.g HAV.out.u rfl (by decide) (by rw [e]; rfl)
  have HM := Lib.hid hm
  clear hm
  go_upto_region 8 with fail
  clear hmz
  obtain ⟨U, hU⟩ : ∃ U, U = (V.setCell ⟨w.heap.size, 2, none⟩ (.slice (some ⟨gf, 0, none⟩) m k3)).setCell ⟨gu, i, none⟩ (.bool true) := ⟨_, rfl⟩
  have hul : (s.tk i).used.length = s.used.length := by simp [St.tk]
  have hgl : (s.tk i).gens.length = s.gens.length := rfl
  have hfl2 : (s.tk i).free.length = m := by have := HM.out; simp [St.tk]; omega
  have HAU : Hid (Ar U W.heap.size (.slice (some ⟨gg, 0, none⟩) s.gens.length k1) (.slice (some ⟨gu, 0, none⟩) s.used.length k2) (.slice (some ⟨gf, 0, none⟩) m k3) (s.tk i)) := Lib.hid (by
    have := HAV.out.took (i := i) HKV.out (by decide) (by decide) (by decide) hfl (.slice (some ⟨gf, 0, none⟩) m k3)
    rw [hul, hfl2] at this
    rw [hU]
    exact this)
  have HKU : Hid (U.heap[w.heap.size]? = some (.cells #[.slice (some ⟨gg, 0, none⟩) s.gens.length k1, .slice (some ⟨gu, 0, none⟩) s.used.length k2, .slice (some ⟨gf, 0, none⟩) m k3] 33 (0, 0))) := Lib.hid (by
    rw [hU, heap_set_other _ _ _ n1]; exact heap_set3 HKV.out _)
  have HTU : Hid (U.heap[w.heap.size + 1]? = some (.cells #[.slice none 0 0, .slice none 0 0, .slice none 0 0] 33 (0, 0))) := Lib.hid (by
    rw [hU, heap_set_other _ _ _ (by show gu ≠ _; have := HS.out; omega), heap_set_other _ _ _ (by simp)]; exact HTV.out)
  have HBU : Hid (Below w.heap.size w U) := Lib.hid (by
    rw [hU]; exact (HBV.out.setCell (p := ⟨w.heap.size, 2, none⟩) (Nat.le_refl _) _).setCell (p := ⟨gu, i, none⟩) (by have := HS.out; show w.heap.size ≤ gu; omega) _)
  have cgU : U.cell? ⟨gg, i, none⟩ = some (.int .u64 G) := by
    have := own_at_gen HAU.out.g (show i < s.gens.length from hi)
    rw [this]
    congr 2
  rw [← hU]
  clear hU c0 c1 c2 z0 z1 z2 cf0 cu0 zu0 cg0 hul hgl hfl2
  obtain ⟨c0, c1, c2, z0, z1, z2⟩ := block3 HKU.out
  obtain ⟨d0, d1, d2, y0, y1, y2⟩ := block3 HTU.out
  go_wp2_with fail
  refine (refof_in i G _ i0 (by omega) g0 g1).mono ?_
  rintro e w5 ⟨rfl, rfl⟩
  go_wp2
  refine bodyPost_ret (v := .tuple #[.agg #[.slice (some ⟨gg, 0, none⟩) s.gens.length k1, .slice (some ⟨gu, 0, none⟩) s.used.length k2, .slice (some ⟨gf, 0, none⟩) m k3], .int .u64 (hd i G), .int .i64 0]) (by simp [results, Try.results14, go_sem, d0, d1, d2, hd]) rfl ⟨_, _, _, rfl, ?_, ?_⟩
  · exact (HAU.out.set3 (by have := HS.out; omega) _ _ _).drop (by have := HS.out; omega)
  · exact below_set3 HBU.out (by omega) _ _ _
end Go.Proofs.Ytnhdpaiekcddiaa
