/-
  A pool, copied.
-/
import Derived.Test.YtbldjlkofaiikaaVecE
namespace Go.Proofs.Ytbldjlkofaiikaa
open Go.ChangeShapes Go.WideShapes Go.ChangeAt Go.RowKit
set_option linter.unusedVariables false
set_option linter.unusedSimpArgs false

/-- A pool p is handed back in new memory. -/
def GivesPl (p : Pl) (w : World) (en : Ending) (w' : World) : Prop :=
  ∃ vg vu vf vc, en = .returned (.agg #[vg, vu, vf, vc]) ∧ PA w' w.heap.size vg vu vf vc p ∧ Below w.heap.size w w'
theorem keep4 {W w' : World} {B k : Nat} {a b c d : Value} (h : W.heap[k]? = some (.cells #[a, b, c, d] 31 (0, 0))) (hk : k < B) (hb : Below B W w') :
    w'.cell? ⟨k, 0, none⟩ = some a ∧ w'.cell? ⟨k, 1, none⟩ = some b ∧ w'.cell? ⟨k, 2, none⟩ = some c ∧ w'.cell? ⟨k, 3, none⟩ = some d ∧ Hid (Below B W w') := by
  obtain ⟨c0, c1, c2, c3, -⟩ := block4 ((hb.block k hk).trans h)
  exact ⟨c0, c1, c2, c3, Lib.hid hb⟩

theorem own_set4 {w : World} {b k size : Nat} {e : TypeId} {v : Value} {n : Nat} {xs : List Value} (h : w.ownsRow b e size v n xs) (hk : k < b) (x y z u : Value) : ((((w.setCell ⟨k, 0, none⟩ x).setCell ⟨k, 1, none⟩ y).setCell ⟨k, 2, none⟩ z).setCell ⟨k, 3, none⟩ u).ownsRow b e size v n xs :=
  ownsRow_setCell_below (ownsRow_setCell_below (ownsRow_setCell_below (ownsRow_setCell_below h hk _) hk _) hk _) hk _
theorem Ar.set4 {w : World} {b k : Nat} {vg vu vf : Value} {s : St} (h : Ar w b vg vu vf s) (hk : k < b) (x y z u : Value) : Ar ((((w.setCell ⟨k, 0, none⟩ x).setCell ⟨k, 1, none⟩ y).setCell ⟨k, 2, none⟩ z).setCell ⟨k, 3, none⟩ u) b vg vu vf s :=
  ⟨own_set4 h.g hk _ _ _ _, own_set4 h.u hk _ _ _ _, own_set4 h.f hk _ _ _ _⟩
theorem below_set4 {a w : World} {B k : Nat} (h : Below B a w) (hk : B ≤ k) (x y z u : Value) : Below B a ((((w.setCell ⟨k, 0, none⟩ x).setCell ⟨k, 1, none⟩ y).setCell ⟨k, 2, none⟩ z).setCell ⟨k, 3, none⟩ u) :=
  (((h.setCell hk _).setCell hk _).setCell hk _).setCell hk _

set_option maxRecDepth 100000 in
set_option maxHeartbeats 2000000 in
theorem copyOf_pl (vg vu vf vc : Value) (p : Pl) (b : Nat) (w : World) (h : PA w b vg vu vf vc p) (hg : p.st.gens.length ≤ 1000) (hu : p.st.used.length ≤ 1000) (hf : p.st.free.length ≤ 1000) (hc : p.ch.length ≤ 1000) :
    Calls Try.prog 35 #[.agg #[vg, vu, vf, vc]] w (GivesPl p w) := by
  obtain ⟨pg, cg, pu, cu, pf, cf, pc, cc, rfl, rfl, rfl, rfl⟩ := h.form
  have HA := Lib.hid h
  clear h
  go_enter Try.func35, Try.ntmps35
  go_wp2_with fail
  obtain ⟨W, hW⟩ : ∃ W, W = (w.alloc (.cells #[.slice pg p.st.gens.length cg, .slice pu p.st.used.length cu, .slice pf p.st.free.length cf, .slice pc p.ch.length cc] 31)).alloc (.cells #[.slice none 0 0, .slice none 0 0, .slice none 0 0, .slice none 0 0] 31) := ⟨_, rfl⟩
  have HW : Hid (Below w.heap.size w W ∧ W.heap.size = w.heap.size + 2 ∧ W.heap[w.heap.size]? = some (.cells #[.slice pg p.st.gens.length cg, .slice pu p.st.used.length cu, .slice pf p.st.free.length cf, .slice pc p.ch.length cc] 31 (0, 0)) ∧ W.heap[w.heap.size + 1]? = some (.cells #[.slice none 0 0, .slice none 0 0, .slice none 0 0, .slice none 0 0] 31 (0, 0))) := Lib.hid (by
    subst hW
    refine ⟨((Below.refl _ w).alloc (Nat.le_refl _) _).alloc (by simp) _, by simp, ?_, heap_new1 _ _ _⟩
    rw [heap_alloc_old _ _ (by simp)]; exact heap_alloc_new w _)
  rw [← hW]
  clear hW
  have HK := Lib.hid HW.out.2.2.1
  have HBW := Lib.hid ((Below.refl (w.heap.size + 2) W).drew)
  have HS := Lib.hid HW.out.2.1
  have HAW := Lib.hid (HA.out.below HW.out.1)
  obtain ⟨x0, x1, x2, x3, -⟩ := block4 HK.out
  go_cut [3] from 4 to 16 (fun t wx => ∃ (k : Nat) (p1 : Option Addr) (k1 : Nat) (p2 : Option Addr) (k2 : Nat) (p3 : Option Addr) (k3 : Nat), t = .pointer (some ⟨k, 0, none⟩) ∧
      Hid (wx.heap[k]? = some (.cells #[.slice p1 p.st.gens.length k1, .slice p2 p.st.used.length k2, .slice p3 p.st.free.length k3] 28 (0, 0)) ∧ w.heap.size + 2 ≤ k ∧ Ar wx (w.heap.size + 2) (.slice p1 p.st.gens.length k1) (.slice p2 p.st.used.length k2) (.slice p3 p.st.free.length k3) p.st ∧ Below (w.heap.size + 2) W wx))
  case first =>
   go_region_held3 (fun w' => w'.cell? ⟨w.heap.size, 0, none⟩ = some (.slice pg p.st.gens.length cg) ∧ w'.cell? ⟨w.heap.size, 1, none⟩ = some (.slice pu p.st.used.length cu) ∧ w'.cell? ⟨w.heap.size, 2, none⟩ = some (.slice pf p.st.free.length cf) ∧ w'.cell? ⟨w.heap.size, 3, none⟩ = some (.slice pc p.ch.length cc) ∧ Hid (Below (w.heap.size + 2) W w'))
    (first
      | exact keep4 HK.out (by omega) HBW.out
      | exact keep4 HK.out (by omega) (HBW.out.alloc (by have := HS.out; simp; omega) _)
      | exact keep4 HK.out (by omega) HB1.out
      | exact keep4 HK.out (by omega) (HB1.out.alloc (by have := HS.out; have := HB1.out.size; simp; omega) _)
      | exact keep4 HK.out (by omega) HB2.out
      | exact keep4 HK.out (by omega) (HB2.out.alloc (by have := HS.out; have := HB2.out.size; simp; omega) _)
      | exact keep4 HK.out (by omega) HB3.out
      | exact keep4 HK.out (by omega) (HB3.out.alloc (by have := HS.out; have := HB3.out.size; simp; omega) _)
      | exact keep4 HK.out (by omega) (((HB3.out.setCell (by have := HS.out; simp; omega) _).setCell (by have := HS.out; simp; omega) _).setCell (by have := HS.out; simp; omega) _)
      | exact keep4 HK.out (by omega) (((HB3.out.setCell (by have := HS.out; have := HB1.out.size; simp; omega) _).setCell (by have := HS.out; have := HB1.out.size; simp; omega) _).setCell (by have := HS.out; have := HB1.out.size; simp; omega) _)
      | exact keep4 HK.out (by omega) (((HB3.out.setCell (by have := HS.out; have := HB2.out.size; simp; omega) _).setCell (by have := HS.out; have := HB2.out.size; simp; omega) _).setCell (by have := HS.out; have := HB2.out.size; simp; omega) _))
    (first
      | (go_at_call 64
         refine (cloneG _ _ _ b _ (own_below HAW.out.ar.g (((by first | exact HBW.out | exact HBW.out.alloc (by have := HS.out; have := HBW.out.size; simp; omega) _) : Below (w.heap.size + 2) W _).mono (by have := HS.out; omega))) (gvs_one _) (by omega)).mono ?_
         rintro e w1 ⟨v1, rfl, ho1, hb1⟩
         obtain ⟨p1, k1, rfl, -, -, -⟩ := own_form ho1
         have HO1 := Lib.hid ho1
         have HB1 : Hid (Below (w.heap.size + 2) W w1) := Lib.hid (Below.trans (by first | exact HBW.out | exact HBW.out.alloc (by have := HS.out; have := HBW.out.size; simp; omega) _) (hb1.mono (by have := HS.out; have := HBW.out.size; simp; omega)))
         first | (have HX1 : Hid (w1.heap[W.heap.size]? = some (.cells #[.slice none 0 0, .slice none 0 0, .slice none 0 0] 28 (0, 0))) := Lib.hid ((hb1.block _ (by simp)).trans (heap_alloc_new (W.drew) _)); obtain ⟨d0, d1, d2, y0, y1, y2⟩ := block3 HX1.out) | skip
         clear hb1 ho1)
      | (go_at_call 65
         refine (cloneU _ _ _ b _ (own_below HAW.out.ar.u (((by first | exact HB1.out | exact HB1.out.alloc (by have := HS.out; have := HB1.out.size; simp; omega) _) : Below (w.heap.size + 2) W _).mono (by have := HS.out; omega))) (bvs_one _) (by omega)).mono ?_
         rintro e w2 ⟨v2, rfl, ho2, hb2⟩
         obtain ⟨p2, k2, rfl, -, -, -⟩ := own_form ho2
         have HO2 := Lib.hid ho2
         have HB2 : Hid (Below (w.heap.size + 2) W w2) := Lib.hid (Below.trans (by first | exact HB1.out | exact HB1.out.alloc (by have := HS.out; have := HB1.out.size; simp; omega) _) (hb2.mono (by have := HS.out; have := HB1.out.size; simp; omega)))
         have HO12 := Lib.hid (own_below (by first | exact HO1.out | exact HO1.out.alloc _) hb2)
         first | (have HX2 : Hid (w2.heap[(w1).heap.size]? = some (.cells #[.slice none 0 0, .slice none 0 0, .slice none 0 0] 28 (0, 0))) := Lib.hid ((hb2.block _ (by simp)).trans (heap_alloc_new (w1) _)); obtain ⟨d0, d1, d2, y0, y1, y2⟩ := block3 HX2.out) | skip
         first | (have HX12 : Hid (w2.heap[W.heap.size]? = some (.cells #[.slice none 0 0, .slice none 0 0, .slice none 0 0] 28 (0, 0))) := Lib.hid ((hb2.block _ (lt_of_block HX1.out)).trans HX1.out); obtain ⟨d0, d1, d2, y0, y1, y2⟩ := block3 HX12.out) | skip
         clear hb2 ho2)
      | (go_at_call 66
         refine (cloneF _ _ _ b _ (own_below HAW.out.ar.f (((by first | exact HB2.out | exact HB2.out.alloc (by have := HS.out; have := HB2.out.size; simp; omega) _) : Below (w.heap.size + 2) W _).mono (by have := HS.out; omega))) (ivs_one _) (by omega)).mono ?_
         rintro e w3 ⟨v3, rfl, ho3, hb3⟩
         obtain ⟨p3, k3, rfl, -, -, -⟩ := own_form ho3
         have HO3 := Lib.hid ho3
         have HB3 : Hid (Below (w.heap.size + 2) W w3) := Lib.hid (Below.trans (by first | exact HB2.out | exact HB2.out.alloc (by have := HS.out; have := HB2.out.size; simp; omega) _) (hb3.mono (by have := HS.out; have := HB2.out.size; simp; omega)))
         have HO13 := Lib.hid (own_below (by first | exact HO12.out | exact HO12.out.alloc _) hb3)
         have HO23 := Lib.hid (own_below (by first | exact HO2.out | exact HO2.out.alloc _) hb3)
         first | (have HX3 : Hid (w3.heap[(w2).heap.size]? = some (.cells #[.slice none 0 0, .slice none 0 0, .slice none 0 0] 28 (0, 0))) := Lib.hid ((hb3.block _ (by simp)).trans (heap_alloc_new (w2) _)); obtain ⟨d0, d1, d2, y0, y1, y2⟩ := block3 HX3.out) | skip
         first | (have HX13 : Hid (w3.heap[W.heap.size]? = some (.cells #[.slice none 0 0, .slice none 0 0, .slice none 0 0] 28 (0, 0))) := Lib.hid ((hb3.block _ (lt_of_block HX12.out)).trans HX12.out); obtain ⟨d0, d1, d2, y0, y1, y2⟩ := block3 HX13.out) | skip
         first | (have HX23 : Hid (w3.heap[(w1).heap.size]? = some (.cells #[.slice none 0 0, .slice none 0 0, .slice none 0 0] 28 (0, 0))) := Lib.hid ((hb3.block _ (lt_of_block HX2.out)).trans HX2.out); obtain ⟨d0, d1, d2, y0, y1, y2⟩ := block3 HX23.out) | skip
         clear hb3 ho3))
   all_goals
     go_wp2
     go_meet
     have hs0 := HS.out
     have hs1 := HB1.out.size
     have hs2 := HB2.out.size
     have hs3 := HB3.out.size
     have AR : Ar w3 (w.heap.size + 2) (.slice p1 p.st.gens.length k1) (.slice p2 p.st.used.length k2) (.slice p3 p.st.free.length k3) p.st := ⟨own_drop HO13.out (by first | omega | (simp; omega)), own_drop HO23.out (by first | omega | (simp; omega)), own_drop HO3.out (by first | omega | (simp; omega))⟩
     first
       | exact ⟨w3.heap.size, _, _, _, _, _, _, rfl, Lib.hid ⟨heap_alloc_new _ _, by omega, AR.below ((Below.refl _ _).alloc (Nat.le_refl _) _), HB3.out.alloc (by omega) _⟩⟩
       | exact ⟨w2.heap.size, _, _, _, _, _, _, rfl, Lib.hid ⟨heap_set123 HX3.out _ _ _, by omega, AR.set3t HX3.out (by decide) (by decide) (by decide) _ _ _, below_set3 HB3.out (by omega) _ _ _⟩⟩
       | exact ⟨w1.heap.size, _, _, _, _, _, _, rfl, Lib.hid ⟨heap_set123 HX23.out _ _ _, by omega, AR.set3t HX23.out (by decide) (by decide) (by decide) _ _ _, below_set3 HB3.out (by omega) _ _ _⟩⟩
       | exact ⟨W.heap.size, _, _, _, _, _, _, rfl, Lib.hid ⟨heap_set123 HX13.out _ _ _, by omega, AR.set3t HX13.out (by decide) (by decide) (by decide) _ _ _, below_set3 HB3.out (by omega) _ _ _⟩⟩
  case rest =>
   obtain ⟨k, p1, k1, p2, k2, p3, k3, rfl, HM⟩ := hcut

   clear x0 x1 x2 x3
   have HK2 : Hid (wc.heap[w.heap.size]? = some (.cells #[.slice pg p.st.gens.length cg, .slice pu p.st.used.length cu, .slice pf p.st.free.length cf, .slice pc p.ch.length cc] 31 (0, 0))) := Lib.hid ((HM.out.2.2.2.block _ (by omega)).trans HK.out)
   have HR2 : Hid (wc.heap[w.heap.size + 1]? = some (.cells #[.slice none 0 0, .slice none 0 0, .slice none 0 0, .slice none 0 0] 31 (0, 0))) := Lib.hid ((HM.out.2.2.2.block _ (by omega)).trans HW.out.2.2.2)
   have HBx := Lib.hid HM.out.2.2.2
   have HAx := Lib.hid HM.out.2.2.1
   have HKx := Lib.hid HM.out.1
   have hk := HM.out.2.1
   have hsx := HBx.out.size
   obtain ⟨x0, x1, x2, x3, -⟩ := block4 HK2.out
   obtain ⟨c0, c1, c2, -⟩ := block3 HKx.out
   have HCV : Hid (∀ w', Below (wc.heap.size) wc w' → w'.cell? ⟨w.heap.size, 3, none⟩ = some (.slice pc p.ch.length cc) ∧ w'.cell? ⟨k, 0, none⟩ = some (.slice p1 p.st.gens.length k1) ∧ w'.cell? ⟨k, 1, none⟩ = some (.slice p2 p.st.used.length k2) ∧ w'.cell? ⟨k, 2, none⟩ = some (.slice p3 p.st.free.length k3)) := Lib.hid (fun w' hb => by
     obtain ⟨-, -, -, h3, -⟩ := block4 ((hb.block _ (lt_of_block HK2.out)).trans HK2.out)
     obtain ⟨e0, e1, e2, -⟩ := block3 ((hb.block _ (lt_of_block HKx.out)).trans HKx.out)
     exact ⟨h3, e0, e1, e2⟩)
   have HCS : Hid (∀ w' a1 a2 a3 a4, Below (wc.heap.size) wc w' → ((((w'.setCell ⟨w.heap.size + 1, 0, none⟩ a1).setCell ⟨w.heap.size + 1, 1, none⟩ a2).setCell ⟨w.heap.size + 1, 2, none⟩ a3).setCell ⟨w.heap.size + 1, 3, none⟩ a4).cell? ⟨w.heap.size, 3, none⟩ = some (.slice pc p.ch.length cc) ∧ ((((w'.setCell ⟨w.heap.size + 1, 0, none⟩ a1).setCell ⟨w.heap.size + 1, 1, none⟩ a2).setCell ⟨w.heap.size + 1, 2, none⟩ a3).setCell ⟨w.heap.size + 1, 3, none⟩ a4).cell? ⟨k, 0, none⟩ = some (.slice p1 p.st.gens.length k1) ∧ ((((w'.setCell ⟨w.heap.size + 1, 0, none⟩ a1).setCell ⟨w.heap.size + 1, 1, none⟩ a2).setCell ⟨w.heap.size + 1, 2, none⟩ a3).setCell ⟨w.heap.size + 1, 3, none⟩ a4).cell? ⟨k, 1, none⟩ = some (.slice p2 p.st.used.length k2) ∧ ((((w'.setCell ⟨w.heap.size + 1, 0, none⟩ a1).setCell ⟨w.heap.size + 1, 1, none⟩ a2).setCell ⟨w.heap.size + 1, 2, none⟩ a3).setCell ⟨w.heap.size + 1, 3, none⟩ a4).cell? ⟨k, 2, none⟩ = some (.slice p3 p.st.free.length k3)) := Lib.hid (fun w' a1 a2 a3 a4 hb => by
     have hn : ∀ j, j ≠ w.heap.size + 1 → ((((w'.setCell ⟨w.heap.size + 1, 0, none⟩ a1).setCell ⟨w.heap.size + 1, 1, none⟩ a2).setCell ⟨w.heap.size + 1, 2, none⟩ a3).setCell ⟨w.heap.size + 1, 3, none⟩ a4).heap[j]? = w'.heap[j]? := fun j hj => by
       rw [heap_set_other _ _ _ (Ne.symm hj), heap_set_other _ _ _ (Ne.symm hj), heap_set_other _ _ _ (Ne.symm hj), heap_set_other _ _ _ (Ne.symm hj)]
     obtain ⟨-, -, -, h3, -⟩ := block4 ((hn w.heap.size (by omega)).trans ((hb.block _ (lt_of_block HK2.out)).trans HK2.out))
     obtain ⟨e0, e1, e2, -⟩ := block3 ((hn k (by omega)).trans ((hb.block _ (lt_of_block HKx.out)).trans HKx.out))
     exact ⟨h3, e0, e1, e2⟩)
   have HCX : Hid (wc.ownsRow b 83 5 (.slice pc p.ch.length cc) p.ch.length (cvs p.ch)) := Lib.hid (own_below HAW.out.cs (HBx.out.mono (by have := HS.out; omega)))
   go_wp2_with fail
   go_region_held3 (fun w' => w'.cell? ⟨w.heap.size, 3, none⟩ = some (.slice pc p.ch.length cc) ∧ w'.cell? ⟨k, 0, none⟩ = some (.slice p1 p.st.gens.length k1) ∧ w'.cell? ⟨k, 1, none⟩ = some (.slice p2 p.st.used.length k2) ∧ w'.cell? ⟨k, 2, none⟩ = some (.slice p3 p.st.free.length k3))
    (first
      | exact HCV.out _ (Below.refl _ _).drew
      | exact HCV.out _ HB4.out
      | exact HCS.out _ _ _ _ _ HB4.out)
    (first
      | (go_at_call 67
         refine (cloneC _ _ _ b _ (own_below HCX.out (Below.refl _ _).drew) (cvs_one _) (by omega)).mono ?_
         rintro e w4 ⟨v4, rfl, ho4, hb4⟩
         obtain ⟨p4, k4, rfl, -, -⟩ := own_form5 ho4
         have HO4 := Lib.hid ho4
         have HB4 : Hid (Below wc.heap.size wc w4) := Lib.hid ((Below.refl _ _).drew.trans hb4)
         have HR4 : Hid (w4.heap[w.heap.size + 1]? = some (.cells #[.slice none 0 0, .slice none 0 0, .slice none 0 0, .slice none 0 0] 31 (0, 0))) := Lib.hid ((HB4.out.block _ (lt_of_block HR2.out)).trans HR2.out)
         obtain ⟨d0, d1, d2, d3, y0, y1, y2, y3⟩ := block4 HR4.out
         clear hb4 ho4))
   go_wp2
   have hs0 := HS.out
   refine bodyPost_ret (v := .agg #[.slice p1 p.st.gens.length k1, .slice p2 p.st.used.length k2, .slice p3 p.st.free.length k3, .slice p4 p.ch.length k4]) (by simp [results, Try.results35, go_sem, d0, d1, d2, d3]) rfl ⟨_, _, _, _, rfl, ⟨?_, ?_⟩, ?_⟩
   · exact ((HAx.out.below HB4.out).set4 (by omega) _ _ _ _).drop (by omega)
   · exact own_drop (own_set4 (own_drop HO4.out (by show w.heap.size + 2 ≤ _; simp; omega)) (by omega) _ _ _ _) (by omega)
   · exact below_set4 ((HW.out.1.trans (HBx.out.mono (by omega))).trans (HB4.out.mono (by omega))) (by omega) _ _ _ _
end Go.Proofs.Ytbldjlkofaiikaa
