/-
  The document's own Give.
-/
import Derived.Test.YtnhdpaiekcddiaaSlotZ
namespace Go.Proofs.Ytnhdpaiekcddiaa
open Go.ChangeShapes Go.WideShapes Go.ChangeAt Go.RowKit
set_option linter.unusedVariables false

/-- The same values and an error's number are handed back. -/
def SameE (vg vu vf : Value) (e : Int) (w : World) (en : Ending) (w' : World) : Prop := en = .returned (.tuple #[.agg #[vg, vu, vf], .int .i64 e]) ∧ Below w.heap.size w w'

set_option maxHeartbeats 2000000 in
theorem rgive_no (h : Int) (vg vu vf : Value) (s : St) (b0 : Nat) (w : World) (hA : Ar w b0 vg vu vf s) (hg : s.gens.length ≤ 1000) (hf : s.free.length ≤ 1000) (hlu : s.used.length = s.gens.length) (h0 : 0 ≤ h) (h1 : h ≤ 18446744073709551615) (hlv : s.lv h = false) :
    Calls Try.prog 16 #[.agg #[vg, vu, vf], .int .u64 h] w (SameE vg vu vf 30 w) := by
  obtain ⟨pg, cg, rfl, _, _, _⟩ := own_form hA.g
  obtain ⟨pu, cu, rfl, _, _, _⟩ := own_form hA.u
  obtain ⟨pf, cf, rfl, _, _, _⟩ := own_form hA.f
  have HA := Lib.hid hA
  have HL := Lib.hid hlu
  have HLV := Lib.hid hlv
  have hu : s.used.length ≤ 1000 := by omega
  clear hA hlu hlv
  go_enter Try.func16, Try.ntmps16
  go_wp2_with fail
  obtain ⟨W, hW⟩ : ∃ W, W = (w.alloc (.cells #[.slice pg s.gens.length cg, .slice pu s.used.length cu, .slice pf s.free.length cf] 33)).alloc (.cells #[.slice none 0 0, .slice none 0 0, .slice none 0 0] 33) := ⟨_, rfl⟩
  have HW : Hid (Below w.heap.size w W ∧ W.heap.size = w.heap.size + 2 ∧ W.heap[w.heap.size]? = some (.cells #[.slice pg s.gens.length cg, .slice pu s.used.length cu, .slice pf s.free.length cf] 33 (0, 0)) ∧ W.heap[w.heap.size + 1]? = some (.cells #[.slice none 0 0, .slice none 0 0, .slice none 0 0] 33 (0, 0))) := Lib.hid (by
    subst hW
    exact ⟨((Below.refl _ w).alloc (Nat.le_refl _) _).alloc (by simp) _, by simp, eh2a _ _ _, eh2b _ _ _⟩)
  rw [← hW]
  clear hW
  have HS := Lib.hid HW.out.2.1
  have HAW := Lib.hid (HA.out.below HW.out.1)
  refine (reflive_any h _ _ _ s b0 W HAW.out h0 h1 hg HL.out).mono ?_
  rw [HLV.out]
  rintro e w0 ⟨rfl, hb0⟩
  have HB0 : Hid (Below w.heap.size w w0) := Lib.hid (HW.out.1.trans (hb0.mono (by have := HS.out; omega)))
  have HA0 := Lib.hid (HAW.out.below hb0)
  have HK0 : Hid (w0.heap[w.heap.size]? = some (.cells #[.slice pg s.gens.length cg, .slice pu s.used.length cu, .slice pf s.free.length cf] 33 (0, 0))) := Lib.hid ((hb0.block _ (by have := HS.out; omega)).trans HW.out.2.2.1)
  have HT0 : Hid (w0.heap[w.heap.size + 1]? = some (.cells #[.slice none 0 0, .slice none 0 0, .slice none 0 0] 33 (0, 0))) := Lib.hid ((hb0.block _ (by have := HS.out; omega)).trans HW.out.2.2.2)
  have hs0 : w.heap.size + 2 ≤ w0.heap.size := by have := hb0.size; have := HS.out; omega
  clear hb0
  obtain ⟨c0, c1, c2, z0, z1, z2⟩ := block3 HK0.out
  obtain ⟨d0, d1, d2, y0, y1, y2⟩ := block3 HT0.out
  go_wp2
  refine bodyPost_ret (v := .tuple #[.agg #[.slice pg s.gens.length cg, .slice pu s.used.length cu, .slice pf s.free.length cf], .int .i64 30]) (by simp [results, Try.results16, go_sem, d0, d1, d2]) rfl ⟨rfl, ?_⟩
  exact below_set3 HB0.out (by omega) _ _ _

set_option maxHeartbeats 2000000 in
theorem rgive_ok (h : Int) (i : Nat) (vg vu vf : Value) (s : St) (b0 : Nat) (w : World) (hA : Ar w b0 vg vu vf s) (hg : s.gens.length ≤ 1000) (hf : s.free.length ≤ 1000) (hlu : s.used.length = s.gens.length) (h0 : 0 ≤ h) (h1 : h ≤ 18446744073709551615) (hlv : s.lv h = true) (hhi : h % 16777216 = i) (hi : i < s.gens.length) :
    Calls Try.prog 16 #[.agg #[vg, vu, vf], .int .u64 h] w (GivesE (s.gb i ((h + 16777216) % 18446744073709551616 / 16777216)) 0 w) := by
  obtain ⟨pg, cg, rfl, _, _, _⟩ := own_form hA.g
  obtain ⟨pu, cu, rfl, _, _, _⟩ := own_form hA.u
  obtain ⟨pf, cf, rfl, _, _, _⟩ := own_form hA.f
  have HA := Lib.hid hA
  have HL := Lib.hid hlu
  have HLV := Lib.hid hlv
  have hu : s.used.length ≤ 1000 := by omega
  clear hA hlu hlv
  have HHI := Lib.hid hhi
  clear hhi
  go_enter Try.func16, Try.ntmps16
  go_wp2_with fail
  obtain ⟨W, hW⟩ : ∃ W, W = (w.alloc (.cells #[.slice pg s.gens.length cg, .slice pu s.used.length cu, .slice pf s.free.length cf] 33)).alloc (.cells #[.slice none 0 0, .slice none 0 0, .slice none 0 0] 33) := ⟨_, rfl⟩
  have HW : Hid (Below w.heap.size w W ∧ W.heap.size = w.heap.size + 2 ∧ W.heap[w.heap.size]? = some (.cells #[.slice pg s.gens.length cg, .slice pu s.used.length cu, .slice pf s.free.length cf] 33 (0, 0)) ∧ W.heap[w.heap.size + 1]? = some (.cells #[.slice none 0 0, .slice none 0 0, .slice none 0 0] 33 (0, 0))) := Lib.hid (by
    subst hW
    exact ⟨((Below.refl _ w).alloc (Nat.le_refl _) _).alloc (by simp) _, by simp, eh2a _ _ _, eh2b _ _ _⟩)
  rw [← hW]
  clear hW
  have HS := Lib.hid HW.out.2.1
  have HAW := Lib.hid (HA.out.below HW.out.1)
  refine (reflive_any h _ _ _ s b0 W HAW.out h0 h1 hg HL.out).mono ?_
  rw [HLV.out]
  rintro e w0 ⟨rfl, hb0⟩
  have HB0 : Hid (Below w.heap.size w w0) := Lib.hid (HW.out.1.trans (hb0.mono (by have := HS.out; omega)))
  have HA0 := Lib.hid (HAW.out.below hb0)
  have HK0 : Hid (w0.heap[w.heap.size]? = some (.cells #[.slice pg s.gens.length cg, .slice pu s.used.length cu, .slice pf s.free.length cf] 33 (0, 0))) := Lib.hid ((hb0.block _ (by have := HS.out; omega)).trans HW.out.2.2.1)
  have HT0 : Hid (w0.heap[w.heap.size + 1]? = some (.cells #[.slice none 0 0, .slice none 0 0, .slice none 0 0] 33 (0, 0))) := Lib.hid ((hb0.block _ (by have := HS.out; omega)).trans HW.out.2.2.2)
  have hs0 : w.heap.size + 2 ≤ w0.heap.size := by have := hb0.size; have := HS.out; omega
  clear hb0
  obtain ⟨c0, c1, c2, z0, z1, z2⟩ := block3 HK0.out
  go_wp2_with fail
  refine (copied_any _ _ _ s b0 w0 HA0.out hg hu hf).mono ?_
  rintro e w1 ⟨v1, v2, v3, rfl, hA1, hb1⟩
  obtain ⟨p1, k1, p2, k2, p3, k3, rfl, rfl, rfl⟩ := hA1.form
  have HK1 : Hid (w1.heap[w.heap.size]? = some (.cells #[.slice pg s.gens.length cg, .slice pu s.used.length cu, .slice pf s.free.length cf] 33 (0, 0))) := Lib.hid ((hb1.block _ (by omega)).trans HK0.out)
  have HT1 : Hid (w1.heap[w.heap.size + 1]? = some (.cells #[.slice none 0 0, .slice none 0 0, .slice none 0 0] 33 (0, 0))) := Lib.hid ((hb1.block _ (by omega)).trans HT0.out)
  have HA1 := Lib.hid hA1
  have HB1 : Hid (Below w.heap.size w w1) := Lib.hid (HB0.out.trans (hb1.mono (by omega)))
  clear hA1 hb1 c0 c1 c2 z0 z1 z2
  obtain ⟨c0, c1, c2, z0, z1, z2⟩ := block3 HK1.out
  go_wp2_with fail
  refine (refindex_any h _ h0 h1).mono ?_
  rw [HHI.out]
  rintro e w' ⟨rfl, rfl⟩
  go_upto_region 5 with fail
  obtain ⟨V, hV⟩ : ∃ V, V = ((w1.setCell ⟨w.heap.size, 0, none⟩ (.slice p1 s.gens.length k1)).setCell ⟨w.heap.size, 1, none⟩ (.slice p2 s.used.length k2)).setCell ⟨w.heap.size, 2, none⟩ (.slice p3 s.free.length k3) := ⟨_, rfl⟩
  have HKV : Hid (V.heap[w.heap.size]? = some (.cells #[.slice p1 s.gens.length k1, .slice p2 s.used.length k2, .slice p3 s.free.length k3] 33 (0, 0))) := Lib.hid (by rw [hV]; exact heap_set123 HK1.out _ _ _)
  have HTV : Hid (V.heap[w.heap.size + 1]? = some (.cells #[.slice none 0 0, .slice none 0 0, .slice none 0 0] 33 (0, 0))) := Lib.hid (by
    rw [hV, heap_set_other _ _ _ (by simp), heap_set_other _ _ _ (by simp), heap_set_other _ _ _ (by simp)]; exact HT1.out)
  have HAV : Hid (Ar V w0.heap.size (.slice p1 s.gens.length k1) (.slice p2 s.used.length k2) (.slice p3 s.free.length k3) s) := Lib.hid (by rw [hV]; exact HA1.out.set3 (by omega) _ _ _)
  have HBV : Hid (Below w.heap.size w V) := Lib.hid (by rw [hV]; exact below_set3 HB1.out (Nat.le_refl _) _ _ _)
  rw [← hV]
  clear hV c0 c1 c2 z0 z1 z2
  obtain ⟨c0, c1, c2, z0, z1, z2⟩ := block3 HKV.out
  have hi' : i < s.used.length := by rw [HL.out]; exact hi
  obtain ⟨gg, rfl, hgg, hgg'⟩ := own_some HAV.out.g (by omega)
  obtain ⟨gu, rfl, hgu, hgu'⟩ := own_some HAV.out.u (by omega)
  have cg0 := own_at_gen HAV.out.g hi
  have zg0 := HAV.out.g.frozenAt i
  have cu0 := own_at_bool HAV.out.u hi'
  have zu0 := HAV.out.u.frozenAt i
  have i0 : (0 : Int) ≤ (i : Int) := by omega
  have i1 : (i : Int) < (s.gens.length : Int) := by omega
  have i2 : (i : Int) < (s.used.length : Int) := by omega
  have n1 : gu ≠ w.heap.size := by omega
  have n2 : gg ≠ w.heap.size := by omega
  have n3 : gu ≠ gg := fun e => own_apart2 HAV.out.u HAV.out.g rfl (by decide) (by rw [e]; rfl)
  go_wp2_with fail
  obtain ⟨G, hG⟩ : ∃ G, (h + 16777216) % 18446744073709551616 / 16777216 = G := ⟨_, rfl⟩
  obtain ⟨Nx, hNx⟩ : ∃ Nx, (h + 16777216) % 18446744073709551616 = Nx := ⟨_, rfl⟩
  have x0 : 0 ≤ Nx := by omega
  have x1 : Nx ≤ 18446744073709551615 := by omega
  have hNG : Nx / 16777216 = G := by rw [← hNx]; exact hG
  have HNx : Hid (∀ W, Calls Try.prog 34 #[.int .u64 h] W (Quiet (.int .u64 Nx) W)) := Lib.hid (fun W => by rw [← hNx]; exact refnext_any h W h0 h1)
  have HGx : Hid (∀ W, Calls Try.prog 33 #[.int .u64 Nx] W fun e w' => e = .returned (.int .u64 G) ∧ W = w') := Lib.hid (fun W => by rw [← hNG]; exact refgen_any Nx W x0 x1)
  have HGe := Lib.hid hG
  rw [hG]
  clear hG hNx hNG
  obtain ⟨V1, hV⟩ : ∃ V1, V1 = V.setCell ⟨gu, i, none⟩ (.bool false) := ⟨_, rfl⟩
  have cg1 : V1.cell? ⟨gg, i, none⟩ = some (.int .u64 (s.gens.getD i 0)) := by rw [hV, World.cell?_setCell_other _ _ _ _ (by intro e; cases e; exact n3 rfl)]; exact cg0
  have zg1 : V1.frozen? ⟨gg, i, none⟩ = false := by
    have := (ownsRow_setCell_other HAV.out.g (a := ⟨gu, i, none⟩) (by simpa [Value.ownBlock] using Ne.symm n3) (.bool false)).frozenAt i
    rw [hV]; exact this
  have ck1 : V1.cell? ⟨w.heap.size, 0, none⟩ = some (.slice (some ⟨gg, 0, none⟩) s.gens.length k1) := by rw [hV, World.cell?_setCell_other _ _ _ _ (by intro e; cases e; exact n1 rfl)]; exact c0
  have HVE := Lib.hid hV
  rw [← hV]
  clear hV
  go_region_held3 (fun w' => w'.cell? ⟨w.heap.size, 0, none⟩ = some (.slice (some ⟨gg, 0, none⟩) s.gens.length k1))
    (go_keep)
    (first
      | (go_at_call 34; refine (HNx.out _).mono ?_; rintro e w' ⟨rfl, d, rfl⟩)
      | (go_at_call 33; refine (HGx.out _).mono ?_; rintro e w' ⟨rfl, rfl⟩))
  go_upto_region 7 with fail
  obtain ⟨U, hU⟩ : ∃ U, U = (V1.drewN (1 + d)).setCell ⟨gg, i, none⟩ (.int .u64 G) := ⟨_, rfl⟩
  have hgf : (Value.slice p3 s.free.length k3).ownBlock ≠ some gg := own_apart2 HAV.out.f HAV.out.g rfl (by decide)
  have huf : (Value.slice p3 s.free.length k3).ownBlock ≠ some gu := own_apart2 HAV.out.f HAV.out.u rfl (by decide)
  have hA1 : Ar V1 w0.heap.size (.slice (some ⟨gg, 0, none⟩) s.gens.length k1) (.slice (some ⟨gu, 0, none⟩) s.used.length k2) (.slice p3 s.free.length k3) { s with used := s.used.set i false } := by
    rw [HVE.out]
    refine ⟨ownsRow_setCell_other HAV.out.g (by simpa [Value.ownBlock] using Ne.symm n3) _, ?_, ownsRow_setCell_other HAV.out.f huf _⟩
    simp only [List.length_set, set_map_bool]
    exact (HAV.out.u.stored i (.bool false)).1
  have hA2 := hA1.drewN (1 + d)
  have HAU : Hid (Ar U w0.heap.size (.slice (some ⟨gg, 0, none⟩) s.gens.length k1) (.slice (some ⟨gu, 0, none⟩) s.used.length k2) (.slice p3 s.free.length k3) { s with gens := s.gens.set i G, used := s.used.set i false }) := Lib.hid (by
    rw [hU]
    refine ⟨?_, ownsRow_setCell_other hA2.u (by simpa [Value.ownBlock] using n3) _, ownsRow_setCell_other hA2.f hgf _⟩
    simp only [List.length_set, set_map_gen]
    exact (hA2.g.stored i (.int .u64 G)).1)
  have HFU : Hid (U.ownsRow w0.heap.size 3 1 (.slice p3 s.free.length k3) s.free.length (ivs s.free)) := Lib.hid HAU.out.f
  have HKU : Hid (U.heap[w.heap.size]? = some (.cells #[.slice (some ⟨gg, 0, none⟩) s.gens.length k1, .slice (some ⟨gu, 0, none⟩) s.used.length k2, .slice p3 s.free.length k3] 33 (0, 0))) := Lib.hid (by
    rw [hU, heap_set_other _ _ _ n2]
    show V1.heap[w.heap.size]? = _
    rw [HVE.out, heap_set_other _ _ _ n1]
    exact HKV.out)
  have HTU : Hid (U.heap[w.heap.size + 1]? = some (.cells #[.slice none 0 0, .slice none 0 0, .slice none 0 0] 33 (0, 0))) := Lib.hid (by
    rw [hU, heap_set_other _ _ _ (by show gg ≠ _; omega)]
    show V1.heap[w.heap.size + 1]? = _
    rw [HVE.out, heap_set_other _ _ _ (by show gu ≠ _; omega)]
    exact HTV.out)
  have HBU : Hid (Below w.heap.size w U) := Lib.hid (by
    have hb1 : Below w.heap.size w V1 := by rw [HVE.out]; exact HBV.out.setCell (p := ⟨gu, i, none⟩) (by show w.heap.size ≤ gu; omega) _
    rw [hU]
    exact (below_drewN hb1 (1 + d)).setCell (p := ⟨gg, i, none⟩) (by show w.heap.size ≤ gg; omega) _)
  rw [← hU]
  clear hU hA1 hA2 c0 c1 c2 z0 z1 z2 cg0 zg0 cu0 zu0 cg1 zg1 ck1
  have HN := Lib.hid (And.intro hgf huf)
  clear hgf huf
  obtain ⟨c0, c1, c2, z0, z1, z2⟩ := block3 HKU.out
  have hkU := lt_of_block HTU.out
  have hsU := HBU.out.size
  have hwU : w0.heap.size ≤ U.heap.size := by have := HAU.out.g.lt gg rfl; omega
  obtain ⟨i0', hi0, hz0, hz1, hz2⟩ := info_parts info_F
  have hI := Lib.hid hi0
  have hZ0 := Lib.hid hz0
  have hZ1 := Lib.hid hz1
  have hZ2 := Lib.hid hz2
  clear hi0 hz0 hz1 hz2
  go_upto_region 8 with (at_builtin; refine wpList_append_own_at _ rfl _ _ 27 rfl w0.heap.size 3 i0' (.int .i64 0) 1 8 Try.underlying27 hI.out hZ0.out hZ1.out hZ2.out rfl (by decide) _ _ _ rfl (HFU.out.alloc _) ⟨U.heap.size, 0, none⟩ 1 1 [.int .i64 i] rfl rfl (cell_one_new _ _ _) (by simp [Value.oneCell']) (by unfold maxLen; omega) (by omega) (by simp; omega) ?_; intro v' w5 hown' hgrow _ hat; obtain ⟨g', cap', rfl⟩ := own_succ hown'; have HO' := Lib.hid hown'; have HGR : Hid ((U.alloc (.cells #[.int .i64 i] 3)).grownBy w5 (Value.slice p3 s.free.length k3).ownBlock) := Lib.hid hgrow; have HK5 : Hid (w5.heap[w.heap.size]? = some (.cells #[.slice (some ⟨gg, 0, none⟩) s.gens.length k1, .slice (some ⟨gu, 0, none⟩) s.used.length k2, .slice p3 s.free.length k3] 33 (0, 0))) := Lib.hid (by rw [hgrow.block _ (by simp; omega) (Ne.symm (own_apart HFU.out HKU.out (by decide)))]; exact (Below.heap_alloc _ _ _ (by omega)).trans HKU.out); obtain ⟨d0, d1, d2, y0, y1, y2⟩ := block3 HK5.out; clear hown' hgrow hat)
  obtain ⟨X, hX⟩ : ∃ X, X = w5.setCell ⟨w.heap.size, 2, none⟩ (.slice (some ⟨g', 0, none⟩) (s.free.length + 1) cap') := ⟨_, rfl⟩
  have HKX : Hid (X.heap[w.heap.size]? = some (.cells #[.slice (some ⟨gg, 0, none⟩) s.gens.length k1, .slice (some ⟨gu, 0, none⟩) s.used.length k2, .slice (some ⟨g', 0, none⟩) (s.free.length + 1) cap'] 33 (0, 0))) := Lib.hid (by rw [hX]; exact heap_set3 HK5.out _)
  have HTX : Hid (X.heap[w.heap.size + 1]? = some (.cells #[.slice none 0 0, .slice none 0 0, .slice none 0 0] 33 (0, 0))) := Lib.hid (by
    rw [hX, heap_set_other _ _ _ (by simp), HGR.out.block _ (by simp; omega) (Ne.symm (own_apart HFU.out HTU.out (by decide)))]
    exact (Below.heap_alloc _ _ _ (by omega)).trans HTU.out)
  have HAX : Hid (Ar X w0.heap.size (.slice (some ⟨gg, 0, none⟩) s.gens.length k1) (.slice (some ⟨gu, 0, none⟩) s.used.length k2) (.slice (some ⟨g', 0, none⟩) (s.free.length + 1) cap') (s.gb i G)) := Lib.hid (by
    have hne5 : (Value.slice (some ⟨g', 0, none⟩) (s.free.length + 1) cap').ownBlock ≠ some w.heap.size := own_apart HO'.out HK5.out (by decide)
    rw [hX]
    refine ⟨?_, ?_, ?_⟩
    · exact ownsRow_setCell_other ((HAU.out.g.alloc _).kept HGR.out (.inr (Ne.symm HN.out.1))) (by simpa [Value.ownBlock] using n2) _
    · exact ownsRow_setCell_other ((HAU.out.u.alloc _).kept HGR.out (.inr (Ne.symm HN.out.2))) (by simpa [Value.ownBlock] using n1) _
    · have := ownsRow_setCell_other HO'.out (a := ⟨w.heap.size, 2, none⟩) hne5 (.slice (some ⟨g', 0, none⟩) (s.free.length + 1) cap')
      simp only [St.gb, List.length_append, List.length_cons, List.length_nil, Nat.zero_add, ivs, List.map_append, List.map_cons, List.map_nil] at this ⊢
      exact this)
  have HBX : Hid (Below w.heap.size w X) := Lib.hid (by
    rw [hX]
    exact ((HBU.out.alloc HBU.out.size _).grown HGR.out (by simp; omega) (fun q e => by have := (HFU.out.lt q e).1; omega)).setCell (p := ⟨w.heap.size, 2, none⟩) (Nat.le_refl _) _)
  rw [← hX]
  clear hX d0 d1 d2 y0 y1 y2
  obtain ⟨c0', c1', c2', _, _, _⟩ := block3 HKX.out
  obtain ⟨d0, d1, d2, y0, y1, y2⟩ := block3 HTX.out
  go_wp2
  refine bodyPost_ret (v := .tuple #[.agg #[.slice (some ⟨gg, 0, none⟩) s.gens.length k1, .slice (some ⟨gu, 0, none⟩) s.used.length k2, .slice (some ⟨g', 0, none⟩) (s.free.length + 1) cap'], .int .i64 0]) (by simp [results, Try.results16, go_sem, d0, d1, d2]) rfl ⟨_, _, _, rfl, ?_, ?_⟩
  · rw [HGe.out]
    exact (HAX.out.set3 (by omega) _ _ _).drop (by omega)
  · exact below_set3 HBX.out (by omega) _ _ _
end Go.Proofs.Ytnhdpaiekcddiaa
