/-
  Change: the walk.
-/
import Derived.Test.YtbldjlkofaiikaaVecO
namespace Go.Proofs.Ytbldjlkofaiikaa
open Go.ChangeShapes Go.WideShapes Go.ChangeAt Go.RowKit
set_option linter.unusedVariables false
set_option linter.unusedSimpArgs false

theorem block2 {w : World} {k : Nat} {a b : Value} {t : TypeId} (h : w.heap[k]? = some (.cells #[a, b] t (0, 0))) : w.cell? ⟨k, 0, none⟩ = some a ∧ w.cell? ⟨k, 1, none⟩ = some b := by
  simp [World.cell?, h]
theorem block2f {w : World} {k : Nat} {a b : Value} {t : TypeId} (h : w.heap[k]? = some (.cells #[a, b] t (0, 0))) : w.cell? ⟨k, 0, none⟩ = some a ∧ w.cell? ⟨k, 1, none⟩ = some b ∧ w.frozen? ⟨k, 0, none⟩ = false ∧ w.frozen? ⟨k, 1, none⟩ = false := by
  simp [World.cell?, World.frozen?, h]
theorem own_set2 {w : World} {b k size : Nat} {e : TypeId} {v : Value} {n : Nat} {xs : List Value} (h : w.ownsRow b e size v n xs) (hk : k < b) (x y : Value) : ((w.setCell ⟨k, 0, none⟩ x).setCell ⟨k, 1, none⟩ y).ownsRow b e size v n xs :=
  ownsRow_setCell_below (ownsRow_setCell_below h hk _) hk _
theorem PA.set2 {w : World} {b k : Nat} {vg vu vf vc : Value} {p : Pl} (h : PA w b vg vu vf vc p) (hk : k < b) (x y : Value) : PA ((w.setCell ⟨k, 0, none⟩ x).setCell ⟨k, 1, none⟩ y) b vg vu vf vc p :=
  ⟨⟨own_set2 h.ar.g hk _ _, own_set2 h.ar.u hk _ _, own_set2 h.ar.f hk _ _⟩, own_set2 h.cs hk _ _⟩
theorem PA.set4 {w : World} {b k : Nat} {vg vu vf vc : Value} {p : Pl} (h : PA w b vg vu vf vc p) (hk : k < b) (x y z u : Value) : PA ((((w.setCell ⟨k, 0, none⟩ x).setCell ⟨k, 1, none⟩ y).setCell ⟨k, 2, none⟩ z).setCell ⟨k, 3, none⟩ u) b vg vu vf vc p :=
  ⟨h.ar.set4 hk _ _ _ _, own_set4 h.cs hk _ _ _ _⟩
theorem below_set2 {a w : World} {B k : Nat} (h : Below B a w) (hk : B ≤ k) (x y : Value) : Below B a ((w.setCell ⟨k, 0, none⟩ x).setCell ⟨k, 1, none⟩ y) := (h.setCell hk _).setCell hk _
theorem set2_other (w : World) {k j : Nat} (x y : Value) (h : j ≠ k) : ((w.setCell ⟨k, 0, none⟩ x).setCell ⟨k, 1, none⟩ y).heap[j]? = w.heap[j]? := by rw [ne_set _ _ _ h, ne_set _ _ _ h]
theorem set4_other (w : World) {k j : Nat} (x y z u : Value) (h : j ≠ k) : ((((w.setCell ⟨k, 0, none⟩ x).setCell ⟨k, 1, none⟩ y).setCell ⟨k, 2, none⟩ z).setCell ⟨k, 3, none⟩ u).heap[j]? = w.heap[j]? := by rw [ne_set _ _ _ h, ne_set _ _ _ h, ne_set _ _ _ h, ne_set _ _ _ h]
theorem heap4of (w : World) (o o' o'' o3 : Obj) : Below w.heap.size w ((((w.alloc o).alloc o').alloc o'').alloc o3) ∧ ((((w.alloc o).alloc o').alloc o'').alloc o3).heap.size = w.heap.size + 4 ∧ ((((w.alloc o).alloc o').alloc o'').alloc o3).heap[w.heap.size]? = some o ∧ ((((w.alloc o).alloc o').alloc o'').alloc o3).heap[w.heap.size + 1]? = some o' ∧ ((((w.alloc o).alloc o').alloc o'').alloc o3).heap[w.heap.size + 1 + 1]? = some o'' ∧ ((((w.alloc o).alloc o').alloc o'').alloc o3).heap[w.heap.size + 1 + 1 + 1]? = some o3 := by
  refine ⟨(((Below.refl _ w).alloc (Nat.le_refl _) _).alloc (by simp) _ |>.alloc (by simp; omega) _).alloc (by simp; omega) _, by simp, ?_, ?_, ?_, ?_⟩
  · rw [heap_alloc_old _ _ (by simp; omega), heap_alloc_old _ _ (by simp; omega), heap_alloc_old _ _ (by simp)]; exact heap_alloc_new w _
  · rw [heap_alloc_old _ _ (by simp), heap_alloc_old _ _ (by simp)]; exact heap_new1 _ _ _
  · rw [heap_alloc_old _ _ (by simp)]; exact heap_new2 _ _ _ _
  · exact heap_new3 _ _ _ _ _

set_option maxRecDepth 100000 in
set_option maxHeartbeats 4000000 in
theorem change_argl (root : Int) (size : Nat) (items : List Int) (pi : Option Addr) (ci : Nat) (vg vu vf vc : Value) (p : Pl) (b n : Nat) (G : Int) (w : World) (hA : PA w b vg vu vf vc p) (hP : PK n G p) (hI : RL w pi items) (hci : items.length ≤ ci) (hcm : ci ≤ 9223372036854775807) (hil : 200 < items.length) (hil2 : items.length ≤ 1000) :
    Calls Try.prog 14 #[.agg #[vg, vu, vf, vc], .agg #[.int .u64 root, .int .i64 size], .slice pi items.length ci] w (GivesC ⟨p, ⟨root, size⟩, [], 1⟩ w) := by
  have HA := Lib.hid hA
  have HP := Lib.hid hP
  clear hA hP hI
  have hsm := HP.out.ok.small
  obtain ⟨W, hW⟩ : ∃ W, W = (((w.alloc (.cells #[vg, vu, vf, vc] 31)).alloc (.cells #[.int .u64 root, .int .i64 size] 43)).alloc (.cells #[.slice none 0 0, .slice none 0 0, .slice none 0 0, .slice none 0 0] 31)).alloc (.cells #[.int .u64 0, .int .i64 0] 43) := ⟨_, rfl⟩
  have HW : Hid (Below w.heap.size w W ∧ W.heap.size = w.heap.size + 4 ∧ W.heap[w.heap.size]? = some (.cells #[vg, vu, vf, vc] 31 (0, 0)) ∧ W.heap[w.heap.size + 1]? = some (.cells #[.int .u64 root, .int .i64 size] 43 (0, 0)) ∧ W.heap[w.heap.size + 1 + 1]? = some (.cells #[.slice none 0 0, .slice none 0 0, .slice none 0 0, .slice none 0 0] 31 (0, 0)) ∧ W.heap[w.heap.size + 1 + 1 + 1]? = some (.cells #[.int .u64 0, .int .i64 0] 43 (0, 0))) := Lib.hid (by
    subst hW
    exact heap4of w _ _ _ _)
  have HWE := Lib.hid hW
  clear hW
  have HB0 : Hid (Below (w.heap.size + 4) W W) := Lib.hid (Below.refl _ _)
  have HCV : Hid (∀ w' : World, w'.heap[w.heap.size]? = some (.cells #[vg, vu, vf, vc] 31 (0, 0)) → w'.heap[w.heap.size + 1]? = some (.cells #[.int .u64 root, .int .i64 size] 43 (0, 0)) → w'.cell? ⟨w.heap.size, 0, none⟩ = some vg ∧ w'.cell? ⟨w.heap.size, 1, none⟩ = some vu ∧ w'.cell? ⟨w.heap.size, 2, none⟩ = some vf ∧ w'.cell? ⟨w.heap.size, 3, none⟩ = some vc ∧ w'.cell? ⟨w.heap.size + 1, 0, none⟩ = some (.int .u64 root) ∧ w'.cell? ⟨w.heap.size + 1, 1, none⟩ = some (.int .i64 size)) := Lib.hid (fun w' h1 h2 => by
    obtain ⟨a, b, c, d, -⟩ := block4 h1
    obtain ⟨e, f⟩ := block2 h2
    exact ⟨a, b, c, d, e, f⟩)
  go_enter Try.func14, Try.ntmps14
  go_wp2_with fail
  rw [← HWE.out]
  have HE0 : Hid (W.heap[w.heap.size]? = some (.cells #[vg, vu, vf, vc] 31 (0, 0))) := Lib.hid ((HB0.out.block _ (by omega)).trans HW.out.2.2.1)
  have HE1 : Hid (W.heap[w.heap.size + 1]? = some (.cells #[.int .u64 root, .int .i64 size] 43 (0, 0))) := Lib.hid ((HB0.out.block _ (by omega)).trans HW.out.2.2.2.1)
  have HE2 : Hid (W.heap[w.heap.size + 1 + 1]? = some (.cells #[.slice none 0 0, .slice none 0 0, .slice none 0 0, .slice none 0 0] 31 (0, 0))) := Lib.hid ((HB0.out.block _ (by omega)).trans HW.out.2.2.2.2.1)
  have HE3 : Hid (W.heap[w.heap.size + 1 + 1 + 1]? = some (.cells #[.int .u64 0, .int .i64 0] 43 (0, 0))) := Lib.hid ((HB0.out.block _ (by omega)).trans HW.out.2.2.2.2.2)
  have HBX : Hid (Below w.heap.size w W) := Lib.hid (HW.out.1.trans (HB0.out.mono (by omega)))
  have hsX : w.heap.size + 4 ≤ W.heap.size := by have := HB0.out.size; have := HW.out.2.1; omega
  have HE0d : Hid (W.drew.heap[w.heap.size]? = some (.cells #[vg, vu, vf, vc] 31 (0, 0))) := Lib.hid HE0.out
  have HE1d : Hid (W.drew.heap[w.heap.size + 1]? = some (.cells #[.int .u64 root, .int .i64 size] 43 (0, 0))) := Lib.hid HE1.out
  obtain ⟨x0, x1, x2, x3, -⟩ := block4 HE0.out
  obtain ⟨u0, u1⟩ := block2 HE1.out
  go_region_held3 (fun w' => w'.cell? ⟨w.heap.size, 0, none⟩ = some vg ∧ w'.cell? ⟨w.heap.size, 1, none⟩ = some vu ∧ w'.cell? ⟨w.heap.size, 2, none⟩ = some vf ∧ w'.cell? ⟨w.heap.size, 3, none⟩ = some vc ∧ w'.cell? ⟨w.heap.size + 1, 0, none⟩ = some (.int .u64 root) ∧ w'.cell? ⟨w.heap.size + 1, 1, none⟩ = some (.int .i64 size))
    (first
      | with_reducible exact HCV.out _ HE0.out HE1.out
      | with_reducible exact HCV.out _ HE0d.out HE1d.out
      | with_reducible exact HCV.out _ HF0.out HF1.out
      | with_reducible exact HCV.out _ ((set4_other _ _ _ _ _ (by omega)).trans HF0.out) ((set4_other _ _ _ _ _ (by omega)).trans HF1.out)
      | with_reducible exact HCV.out _ ((set2_other _ _ _ (by omega)).trans HF0.out) ((set2_other _ _ _ (by omega)).trans HF1.out)
      | with_reducible exact HCV.out _ ((set2_other _ _ _ (by omega)).trans ((set4_other _ _ _ _ _ (by omega)).trans HF0.out)) ((set2_other _ _ _ (by omega)).trans ((set4_other _ _ _ _ _ (by omega)).trans HF1.out))
      | with_reducible exact HCV.out _ ((set4_other _ _ _ _ _ (by omega)).trans ((set2_other _ _ _ (by omega)).trans HF0.out)) ((set4_other _ _ _ _ _ (by omega)).trans ((set2_other _ _ _ (by omega)).trans HF1.out)))
    (first
      | (go_at_call 35
         refine (copyOf_pl vg vu vf vc p b _ (HA.out.below HBX.out.drew) (by have := HP.out.ok.gens; omega) (by have := HP.out.ok.used; omega) (by have := HP.out.ok.free_le; omega) (by have := HP.out.len; omega)).mono ?_
         rintro e w7 ⟨v1, v2, v3, v4, rfl, hpa7, hb7⟩
         obtain ⟨pg7, cg7, pu7, cu7, pf7, cf7, pc7, cc7, rfl, rfl, rfl, rfl⟩ := hpa7.form
         have HPA7 := Lib.hid hpa7
         have HB7 := Lib.hid hb7
         have HF0 := Lib.hid ((hb7.block _ (by show w.heap.size < W.heap.size; omega)).trans HE0.out)
         have HF1 := Lib.hid ((hb7.block _ (by show w.heap.size + 1 < W.heap.size; omega)).trans HE1.out)
         have HF2 := Lib.hid ((hb7.block _ (by show w.heap.size + 1 + 1 < W.heap.size; omega)).trans HE2.out)
         have HF3 := Lib.hid ((hb7.block _ (by show w.heap.size + 1 + 1 + 1 < W.heap.size; omega)).trans HE3.out)
         obtain ⟨d0, d1, d2, d3, y0, y1, y2, y3⟩ := block4 HF2.out
         obtain ⟨g0, g1, z0, z1⟩ := block2f HF3.out
         clear hpa7 hb7))
  all_goals
    go_wp2
    have hB7s : w.heap.size + 4 ≤ w7.heap.size := by have := HB7.out.size; have h2 : W.drew.heap.size = W.heap.size := rfl; omega
    refine bodyPost_ret (v := .tuple #[.agg #[.slice pg7 p.st.gens.length cg7, .slice pu7 p.st.used.length cu7, .slice pf7 p.st.free.length cf7, .slice pc7 p.ch.length cc7], .agg #[.int .u64 root, .int .i64 size], .slice none 0 0, .int .i64 1]) (by simp [results, Try.results14, go_sem, d0, d1, d2, d3, g0, g1]) rfl ⟨_, _, _, _, _, rfl, ?_, World.ownsRow_nil _ _ _ _, ?_⟩
    · exact PA.drop ((PA.set4 HPA7.out (by show w.heap.size + 1 + 1 < W.heap.size; omega) _ _ _ _).set2 (by show w.heap.size + 1 + 1 + 1 < W.heap.size; omega) _ _) (by show w.heap.size ≤ W.heap.size; omega)
    · exact below_set2 (below_set4 (HBX.out.trans ((Below.refl _ W).drew.trans HB7.out |>.mono (show w.heap.size ≤ W.heap.size by omega))) (by omega) _ _ _ _) (by omega) _ _

theorem PA.pb {w : World} {b : Nat} {vg vu vf : Value} {g cc : Nat} {p : Pl} (h : PA w b vg vu vf (.slice (some ⟨g, 0, none⟩) p.ch.length cc) p) : PB (w.alloc (.cells #[vg, vu, vf, .slice (some ⟨g, 0, none⟩) p.ch.length cc] 31)) w.heap.size g b cc vg vu vf p :=
  ⟨heap_alloc_new _ _, h.below ((Below.refl _ _).alloc (Nat.le_refl _) _)⟩

set_option maxRecDepth 100000 in
set_option maxHeartbeats 8000000 in
theorem change_rl (root : Int) (size : Nat) (items : List Int) (pi : Option Addr) (ci : Nat) (vg vu vf vc : Value) (p : Pl) (b n : Nat) (G : Int) (w : World) (hA : PA w b vg vu vf vc p) (hP : PK n G p) (hI : RL w pi items) (hci : items.length ≤ ci) (hcm : ci ≤ 9223372036854775807) (hil : items.length ≤ 200) (hiU : U64 items) (h0 : 0 ≤ root) (h1 : root ≤ 18446744073709551615) (hs : size ≤ 256) (hG : G ≤ 1099511627775) (hn0 : 0 < n) :
    Calls Try.prog 14 #[.agg #[vg, vu, vf, vc], .agg #[.int .u64 root, .int .i64 size], .slice pi items.length ci] w (GivesC (p.change ⟨root, size⟩ items) w) := by
  obtain ⟨T, hT⟩ : ∃ T, p.change ⟨root, size⟩ items = T := ⟨_, rfl⟩
  rw [hT]
  have HT := Lib.hid hT
  clear hT
  have HA := Lib.hid hA
  have HP := Lib.hid hP
  have HI := Lib.hid hI
  have HIU := Lib.hid hiU
  clear hA hP hI hiU
  have hsm := HP.out.ok.small
  obtain ⟨W, hW⟩ : ∃ W, W = (((w.alloc (.cells #[vg, vu, vf, vc] 31)).alloc (.cells #[.int .u64 root, .int .i64 size] 43)).alloc (.cells #[.slice none 0 0, .slice none 0 0, .slice none 0 0, .slice none 0 0] 31)).alloc (.cells #[.int .u64 0, .int .i64 0] 43) := ⟨_, rfl⟩
  have HW : Hid (Below w.heap.size w W ∧ W.heap.size = w.heap.size + 4 ∧ W.heap[w.heap.size]? = some (.cells #[vg, vu, vf, vc] 31 (0, 0)) ∧ W.heap[w.heap.size + 1]? = some (.cells #[.int .u64 root, .int .i64 size] 43 (0, 0)) ∧ W.heap[w.heap.size + 1 + 1]? = some (.cells #[.slice none 0 0, .slice none 0 0, .slice none 0 0, .slice none 0 0] 31 (0, 0)) ∧ W.heap[w.heap.size + 1 + 1 + 1]? = some (.cells #[.int .u64 0, .int .i64 0] 43 (0, 0))) := Lib.hid (by
    subst hW
    exact heap4of w _ _ _ _)
  have HWE := Lib.hid hW
  clear hW
  have HB0 : Hid (Below (w.heap.size + 4) W W) := Lib.hid (Below.refl _ _)
  have HCV : Hid (∀ w' : World, w'.heap[w.heap.size]? = some (.cells #[vg, vu, vf, vc] 31 (0, 0)) → w'.heap[w.heap.size + 1]? = some (.cells #[.int .u64 root, .int .i64 size] 43 (0, 0)) → w'.cell? ⟨w.heap.size, 0, none⟩ = some vg ∧ w'.cell? ⟨w.heap.size, 1, none⟩ = some vu ∧ w'.cell? ⟨w.heap.size, 2, none⟩ = some vf ∧ w'.cell? ⟨w.heap.size, 3, none⟩ = some vc ∧ w'.cell? ⟨w.heap.size + 1, 0, none⟩ = some (.int .u64 root) ∧ w'.cell? ⟨w.heap.size + 1, 1, none⟩ = some (.int .i64 size)) := Lib.hid (fun w' h1 h2 => by
    obtain ⟨a, b, c, d, -⟩ := block4 h1
    obtain ⟨e, f⟩ := block2 h2
    exact ⟨a, b, c, d, e, f⟩)
  have hni : ¬ (200 : Int) < (items.length : Int) := by omega
  go_enter Try.func14, Try.ntmps14
  go_upto_region 3 with fail
  rw [← HWE.out]
  clear HWE
  obtain ⟨x0, x1, x2, x3, -⟩ := block4 HW.out.2.2.1
  obtain ⟨u0, u1⟩ := block2 HW.out.2.2.2.1
  go_wp2_with fail
  refine (handles_pl root size vg vu vf vc p b n G W (HA.out.below HW.out.1) HP.out h0 h1 hs).mono ?_
  show ∀ e w', GivesH (p.down (lvs size) [root]) W e w' → _
  rintro e w1 ⟨⟨hd, rfl⟩ | ⟨old, vo, hd, rfl, hro⟩, hb1⟩
  · have HD := Lib.hid hd
    have HB1 : Hid (Below (w.heap.size + 4) W w1) := Lib.hid (hb1.mono (by have := HW.out.2.1; omega))
    clear hd hb1 x0 x1 x2 x3 u0 u1
    obtain rfl : T = ⟨p, ⟨root, size⟩, [], 30⟩ := by
      rw [← HT.out, Pl.change, if_neg (by omega)]
      rw [show p.down (lvs (Vc.mk root size).size) [(Vc.mk root size).root] = none from HD.out]
    have hs1 := HB1.out.size
    have hs0 := HW.out.2.1
    go_wp2_with fail
    obtain ⟨X, hX⟩ : ∃ X, X = w1.alloc (.cells #[.slice none 0 0] 77) := ⟨_, rfl⟩
    have HBq : Hid (Below (w.heap.size + 4) W X) := Lib.hid (by rw [hX]; exact HB1.out.alloc (by omega) _)
    rw [← hX]
    clear hX hs1 hs0
    have HE0 : Hid (X.heap[w.heap.size]? = some (.cells #[vg, vu, vf, vc] 31 (0, 0))) := Lib.hid ((HBq.out.block _ (by omega)).trans HW.out.2.2.1)
    have HE1 : Hid (X.heap[w.heap.size + 1]? = some (.cells #[.int .u64 root, .int .i64 size] 43 (0, 0))) := Lib.hid ((HBq.out.block _ (by omega)).trans HW.out.2.2.2.1)
    have HE2 : Hid (X.heap[w.heap.size + 1 + 1]? = some (.cells #[.slice none 0 0, .slice none 0 0, .slice none 0 0, .slice none 0 0] 31 (0, 0))) := Lib.hid ((HBq.out.block _ (by omega)).trans HW.out.2.2.2.2.1)
    have HE3 : Hid (X.heap[w.heap.size + 1 + 1 + 1]? = some (.cells #[.int .u64 0, .int .i64 0] 43 (0, 0))) := Lib.hid ((HBq.out.block _ (by omega)).trans HW.out.2.2.2.2.2)
    have HBX : Hid (Below w.heap.size w X) := Lib.hid (HW.out.1.trans (HBq.out.mono (by omega)))
    have hsX : w.heap.size + 4 ≤ X.heap.size := by have := HBq.out.size; have := HW.out.2.1; omega
    have HE0d : Hid (X.drew.heap[w.heap.size]? = some (.cells #[vg, vu, vf, vc] 31 (0, 0))) := Lib.hid HE0.out
    have HE1d : Hid (X.drew.heap[w.heap.size + 1]? = some (.cells #[.int .u64 root, .int .i64 size] 43 (0, 0))) := Lib.hid HE1.out
    obtain ⟨x0, x1, x2, x3, -⟩ := block4 HE0.out
    obtain ⟨u0, u1⟩ := block2 HE1.out
    go_region_held3 (fun w' => w'.cell? ⟨w.heap.size, 0, none⟩ = some vg ∧ w'.cell? ⟨w.heap.size, 1, none⟩ = some vu ∧ w'.cell? ⟨w.heap.size, 2, none⟩ = some vf ∧ w'.cell? ⟨w.heap.size, 3, none⟩ = some vc ∧ w'.cell? ⟨w.heap.size + 1, 0, none⟩ = some (.int .u64 root) ∧ w'.cell? ⟨w.heap.size + 1, 1, none⟩ = some (.int .i64 size))
      (first
        | with_reducible exact HCV.out _ HE0.out HE1.out
        | with_reducible exact HCV.out _ HE0d.out HE1d.out
        | with_reducible exact HCV.out _ HF0.out HF1.out
        | with_reducible exact HCV.out _ ((set4_other _ _ _ _ _ (by omega)).trans HF0.out) ((set4_other _ _ _ _ _ (by omega)).trans HF1.out)
        | with_reducible exact HCV.out _ ((set2_other _ _ _ (by omega)).trans HF0.out) ((set2_other _ _ _ (by omega)).trans HF1.out)
        | with_reducible exact HCV.out _ ((set2_other _ _ _ (by omega)).trans ((set4_other _ _ _ _ _ (by omega)).trans HF0.out)) ((set2_other _ _ _ (by omega)).trans ((set4_other _ _ _ _ _ (by omega)).trans HF1.out))
        | with_reducible exact HCV.out _ ((set4_other _ _ _ _ _ (by omega)).trans ((set2_other _ _ _ (by omega)).trans HF0.out)) ((set4_other _ _ _ _ _ (by omega)).trans ((set2_other _ _ _ (by omega)).trans HF1.out)))
      (first
        | (go_at_call 35
           refine (copyOf_pl vg vu vf vc p b _ (HA.out.below HBX.out.drew) (by have := HP.out.ok.gens; omega) (by have := HP.out.ok.used; omega) (by have := HP.out.ok.free_le; omega) (by have := HP.out.len; omega)).mono ?_
           rintro e w7 ⟨v1, v2, v3, v4, rfl, hpa7, hb7⟩
           obtain ⟨pg7, cg7, pu7, cu7, pf7, cf7, pc7, cc7, rfl, rfl, rfl, rfl⟩ := hpa7.form
           have HPA7 := Lib.hid hpa7
           have HB7 := Lib.hid hb7
           have HF0 := Lib.hid ((hb7.block _ (by show w.heap.size < X.heap.size; omega)).trans HE0.out)
           have HF1 := Lib.hid ((hb7.block _ (by show w.heap.size + 1 < X.heap.size; omega)).trans HE1.out)
           have HF2 := Lib.hid ((hb7.block _ (by show w.heap.size + 1 + 1 < X.heap.size; omega)).trans HE2.out)
           have HF3 := Lib.hid ((hb7.block _ (by show w.heap.size + 1 + 1 + 1 < X.heap.size; omega)).trans HE3.out)
           obtain ⟨d0, d1, d2, d3, y0, y1, y2, y3⟩ := block4 HF2.out
           obtain ⟨g0, g1, z0, z1⟩ := block2f HF3.out
           clear hpa7 hb7))
    all_goals
      go_wp2
      have hB7s : w.heap.size + 4 ≤ w7.heap.size := by have := HB7.out.size; have h2 : X.drew.heap.size = X.heap.size := rfl; omega
      refine bodyPost_ret (v := .tuple #[.agg #[.slice pg7 p.st.gens.length cg7, .slice pu7 p.st.used.length cu7, .slice pf7 p.st.free.length cf7, .slice pc7 p.ch.length cc7], .agg #[.int .u64 root, .int .i64 size], .slice none 0 0, .int .i64 30]) (by simp [results, Try.results14, go_sem, d0, d1, d2, d3, g0, g1]) rfl ⟨_, _, _, _, _, rfl, ?_, World.ownsRow_nil _ _ _ _, ?_⟩
      · exact PA.drop ((PA.set4 HPA7.out (by show w.heap.size + 1 + 1 < X.heap.size; omega) _ _ _ _).set2 (by show w.heap.size + 1 + 1 + 1 < X.heap.size; omega) _ _) (by show w.heap.size ≤ X.heap.size; omega)
      · exact below_set2 (below_set4 (HBX.out.trans ((Below.refl _ X).drew.trans HB7.out |>.mono (show w.heap.size ≤ X.heap.size by omega))) (by omega) _ _ _ _) (by omega) _ _
  · have HD := Lib.hid hd
    have HB1 : Hid (Below (w.heap.size + 4) W w1) := Lib.hid (hb1.mono (by have := HW.out.2.1; omega))
    have HRO := Lib.hid hro
    clear hd hb1 hro x0 x1 x2 x3 u0 u1
    obtain ⟨ol, orow, ou, oix⟩ := down_ok HP.out HD.out (fun x hx => by simp at hx; subst hx; exact ⟨h0, h1⟩) (by
      have : 4 ^ lvs size ≤ 4 ^ 4 := Nat.pow_le_pow_right (by decide) (lvs_le size)
      simp; omega)
    have HOO : Hid (OldOk n old) := Lib.hid ⟨by rw [ol]; exact lvs_le size, orow, ou, fun r hr h hh => (oix r hr h hh).1⟩
    clear ol orow ou oix
    obtain ⟨po, co, rfl, -, -⟩ := HRO.out.form
    have hs1 := HB1.out.size
    have hs0 := HW.out.2.1
    go_upto_region 6 with fail
    obtain ⟨X, hX⟩ : ∃ X, X = w1.alloc (.cells #[.slice po old.length co] 77) := ⟨_, rfl⟩
    have HBX : Hid (Below (w.heap.size + 4) W X) := Lib.hid (by rw [hX]; exact HB1.out.alloc (by omega) _)
    have HXO : Hid (X.heap[w1.heap.size]? = some (.cells #[.slice po old.length co] 77 (0, 0))) := Lib.hid (by rw [hX]; exact heap_alloc_new _ _)
    have HXR : Hid (RR X 0 (.slice po old.length co) old) := Lib.hid (by rw [hX]; exact (HRO.out.drop (Nat.zero_le _)).below ((Below.refl _ _).alloc (Nat.le_refl _) _))
    have HXs : Hid (X.heap.size = w1.heap.size + 1) := Lib.hid (by rw [hX]; simp)
    rw [← hX]
    clear hX
    obtain ⟨x0, x1, x2, x3, -⟩ := block4 ((HBX.out.block w.heap.size (by omega)).trans HW.out.2.2.1)
    go_wp2_with fail
    refine (copyOf_pl vg vu vf vc p b X (HA.out.below (HW.out.1.trans (HBX.out.mono (by omega)))) (by have := HP.out.ok.gens; omega) (by have := HP.out.ok.used; omega) (by have := HP.out.ok.free_le; omega) (by have := HP.out.len; omega)).mono ?_
    rintro e w2 ⟨v1, v2, v3, v4, rfl, hpa2, hb2⟩
    obtain ⟨pg2, cg2, pu2, cu2, pf2, cf2, pc2, cc2, rfl, rfl, rfl, rfl⟩ := hpa2.form
    obtain ⟨g2, hpc, hg2a, hg2b⟩ := own_some5 hpa2.cs (by have := HP.out.len; omega)
    subst hpc
    have HPA2 := Lib.hid hpa2
    have HB2 := Lib.hid hb2
    have hs2 := hb2.size
    clear hpa2 hb2
    have hX1 := HXs.out
    go_upto_region 7 with fail
    obtain ⟨V, hV⟩ : ∃ V, V = w2.alloc (.cells #[.slice pg2 p.st.gens.length cg2, .slice pu2 p.st.used.length cu2, .slice pf2 p.st.free.length cf2, .slice (some ⟨g2, 0, none⟩) p.ch.length cc2] 31) := ⟨_, rfl⟩
    have HPV : Hid (PB V w2.heap.size g2 X.heap.size cc2 (.slice pg2 p.st.gens.length cg2) (.slice pu2 p.st.used.length cu2) (.slice pf2 p.st.free.length cf2) p) := Lib.hid (by rw [hV]; exact HPA2.out.pb)
    have HBV : Hid (Below X.heap.size X V) := Lib.hid (by rw [hV]; exact HB2.out.alloc hs2 _)
    have hVs : V.heap.size = w2.heap.size + 1 := by rw [hV]; simp
    rw [← hV]
    clear hV
    have HBVW : Hid (Below (w.heap.size + 4) W V) := Lib.hid (HBX.out.trans (HBV.out.mono (by omega)))
    have HVO : Hid (V.heap[w1.heap.size]? = some (.cells #[.slice po old.length co] 77 (0, 0))) := Lib.hid ((HBV.out.block _ (by omega)).trans HXO.out)
    have HVR := Lib.hid (HXR.out.below HBV.out)
    have HIV : Hid (∀ w', But w2.heap.size g2 V w' → RL w' pi items) := Lib.hid (fun w' hb => HI.out.below ((HW.out.1.trans (HBVW.out.mono (by omega))).trans ((hb.below (B := X.heap.size) (by omega) hs2 hg2a).mono (by omega))))
    have HRA := Lib.hid (raise_pl items pi ci w1.heap.size w2.heap.size g2 X.heap.size cc2 0 old _ _ _ _ p n G V HIV.out hci hcm hil HIU.out HVO.out HVR.out HOO.out HPV.out HP.out hG hs2)
    unfold placeF at HRA
    go_wp2_with fail
    refine HRA.out.mono ?_
    show ∀ e w', GivesR w2.heap.size g2 X.heap.size cc2 (p.raise old (lvs items.length) items) V e w' → _
    rintro e w3 ⟨⟨hd3, rfl⟩ | ⟨q, rows, vr, vg3, vu3, vf3, hd3, rfl, hrr, hpb⟩, hbut⟩
    · have HD3 := Lib.hid hd3
      have HB3 : Hid (Below (w.heap.size + 4) W w3) := Lib.hid (HBVW.out.trans ((hbut.below (B := X.heap.size) (by omega) hs2 hg2a).mono (by omega)))
      clear hd3 hbut x0 x1 x2 x3
      obtain rfl : T = ⟨p, ⟨root, size⟩, [], 2⟩ := by
        rw [← HT.out, Pl.change, if_neg (by omega)]
        rw [show p.down (lvs (Vc.mk root size).size) [(Vc.mk root size).root] = some old from HD.out]
        simp only [HD3.out]
      clear HRO HXO HXR HVO HVR HRA HPV HIV hs1 hs2
      go_wp2_with fail
      have HE0 : Hid (w3.heap[w.heap.size]? = some (.cells #[vg, vu, vf, vc] 31 (0, 0))) := Lib.hid ((HB3.out.block _ (by omega)).trans HW.out.2.2.1)
      have HE1 : Hid (w3.heap[w.heap.size + 1]? = some (.cells #[.int .u64 root, .int .i64 size] 43 (0, 0))) := Lib.hid ((HB3.out.block _ (by omega)).trans HW.out.2.2.2.1)
      have HE2 : Hid (w3.heap[w.heap.size + 1 + 1]? = some (.cells #[.slice none 0 0, .slice none 0 0, .slice none 0 0, .slice none 0 0] 31 (0, 0))) := Lib.hid ((HB3.out.block _ (by omega)).trans HW.out.2.2.2.2.1)
      have HE3 : Hid (w3.heap[w.heap.size + 1 + 1 + 1]? = some (.cells #[.int .u64 0, .int .i64 0] 43 (0, 0))) := Lib.hid ((HB3.out.block _ (by omega)).trans HW.out.2.2.2.2.2)
      have HBX : Hid (Below w.heap.size w w3) := Lib.hid (HW.out.1.trans (HB3.out.mono (by omega)))
      have hsX : w.heap.size + 4 ≤ w3.heap.size := by have := HB3.out.size; have := HW.out.2.1; omega
      have HE0d : Hid (w3.drew.heap[w.heap.size]? = some (.cells #[vg, vu, vf, vc] 31 (0, 0))) := Lib.hid HE0.out
      have HE1d : Hid (w3.drew.heap[w.heap.size + 1]? = some (.cells #[.int .u64 root, .int .i64 size] 43 (0, 0))) := Lib.hid HE1.out
      obtain ⟨x0, x1, x2, x3, -⟩ := block4 HE0.out
      obtain ⟨u0, u1⟩ := block2 HE1.out
      go_region_held3 (fun w' => w'.cell? ⟨w.heap.size, 0, none⟩ = some vg ∧ w'.cell? ⟨w.heap.size, 1, none⟩ = some vu ∧ w'.cell? ⟨w.heap.size, 2, none⟩ = some vf ∧ w'.cell? ⟨w.heap.size, 3, none⟩ = some vc ∧ w'.cell? ⟨w.heap.size + 1, 0, none⟩ = some (.int .u64 root) ∧ w'.cell? ⟨w.heap.size + 1, 1, none⟩ = some (.int .i64 size))
        (first
          | with_reducible exact HCV.out _ HE0.out HE1.out
          | with_reducible exact HCV.out _ HE0d.out HE1d.out
          | with_reducible exact HCV.out _ HF0.out HF1.out
          | with_reducible exact HCV.out _ ((set4_other _ _ _ _ _ (by omega)).trans HF0.out) ((set4_other _ _ _ _ _ (by omega)).trans HF1.out)
          | with_reducible exact HCV.out _ ((set2_other _ _ _ (by omega)).trans HF0.out) ((set2_other _ _ _ (by omega)).trans HF1.out)
          | with_reducible exact HCV.out _ ((set2_other _ _ _ (by omega)).trans ((set4_other _ _ _ _ _ (by omega)).trans HF0.out)) ((set2_other _ _ _ (by omega)).trans ((set4_other _ _ _ _ _ (by omega)).trans HF1.out))
          | with_reducible exact HCV.out _ ((set4_other _ _ _ _ _ (by omega)).trans ((set2_other _ _ _ (by omega)).trans HF0.out)) ((set4_other _ _ _ _ _ (by omega)).trans ((set2_other _ _ _ (by omega)).trans HF1.out)))
        (first
          | (go_at_call 35
             refine (copyOf_pl vg vu vf vc p b _ (HA.out.below HBX.out.drew) (by have := HP.out.ok.gens; omega) (by have := HP.out.ok.used; omega) (by have := HP.out.ok.free_le; omega) (by have := HP.out.len; omega)).mono ?_
             rintro e w7 ⟨v1, v2, v3, v4, rfl, hpa7, hb7⟩
             obtain ⟨pg7, cg7, pu7, cu7, pf7, cf7, pc7, cc7, rfl, rfl, rfl, rfl⟩ := hpa7.form
             have HPA7 := Lib.hid hpa7
             have HB7 := Lib.hid hb7
             have HF0 := Lib.hid ((hb7.block _ (by show w.heap.size < w3.heap.size; omega)).trans HE0.out)
             have HF1 := Lib.hid ((hb7.block _ (by show w.heap.size + 1 < w3.heap.size; omega)).trans HE1.out)
             have HF2 := Lib.hid ((hb7.block _ (by show w.heap.size + 1 + 1 < w3.heap.size; omega)).trans HE2.out)
             have HF3 := Lib.hid ((hb7.block _ (by show w.heap.size + 1 + 1 + 1 < w3.heap.size; omega)).trans HE3.out)
             obtain ⟨d0, d1, d2, d3, y0, y1, y2, y3⟩ := block4 HF2.out
             obtain ⟨g0, g1, z0, z1⟩ := block2f HF3.out
             clear hpa7 hb7))
      all_goals
        go_wp2
        have hB7s : w.heap.size + 4 ≤ w7.heap.size := by have := HB7.out.size; have h2 : w3.drew.heap.size = w3.heap.size := rfl; omega
        refine bodyPost_ret (v := .tuple #[.agg #[.slice pg7 p.st.gens.length cg7, .slice pu7 p.st.used.length cu7, .slice pf7 p.st.free.length cf7, .slice pc7 p.ch.length cc7], .agg #[.int .u64 root, .int .i64 size], .slice none 0 0, .int .i64 2]) (by simp [results, Try.results14, go_sem, d0, d1, d2, d3, g0, g1]) rfl ⟨_, _, _, _, _, rfl, ?_, World.ownsRow_nil _ _ _ _, ?_⟩
        · exact PA.drop ((PA.set4 HPA7.out (by show w.heap.size + 1 + 1 < w3.heap.size; omega) _ _ _ _).set2 (by show w.heap.size + 1 + 1 + 1 < w3.heap.size; omega) _ _) (by show w.heap.size ≤ w3.heap.size; omega)
        · exact below_set2 (below_set4 (HBX.out.trans ((Below.refl _ w3).drew.trans HB7.out |>.mono (show w.heap.size ≤ w3.heap.size by omega))) (by omega) _ _ _ _) (by omega) _ _
    · have HD3 := Lib.hid hd3
      have hbl := hbut.below (B := X.heap.size) (by omega) hs2 hg2a
      have HB3 : Hid (Below (w.heap.size + 4) W w3) := Lib.hid (HBVW.out.trans (hbl.mono (by omega)))
      have HVO3 : Hid (w3.heap[w1.heap.size]? = some (.cells #[.slice po old.length co] 77 (0, 0))) := Lib.hid ((hbl.block _ (by omega)).trans HVO.out)
      have HVR3 := Lib.hid (RR.keeps HPV.out hbut HVR.out)
      have HRR3 := Lib.hid hrr
      have HPB3 := Lib.hid hpb
      clear hd3 hbut hbl hrr hpb x0 x1 x2 x3
      obtain ⟨hrl, hrw⟩ := raise_len HD3.out (by omega)
      have hr4 : rows.length ≤ 4 := by rw [hrl]; exact lvs_le _
      have HRW := Lib.hid hrw
      clear hrl hrw
      obtain rfl : T = ⟨q, ⟨atR rows (rows.length - 1) 0, items.length⟩, left rows 0 old, 0⟩ := by
        rw [← HT.out, Pl.change, if_neg (by omega)]
        rw [show p.down (lvs (Vc.mk root size).size) [(Vc.mk root size).root] = some old from HD.out]
        simp only [HD3.out]
      clear HRO HXO HXR HVO HVR HRA HPV HIV
      obtain ⟨pr, cr, rfl, -, -⟩ := HRR3.out.form
      obtain ⟨pg3, cg3, pu3, cu3, pf3, cf3, pc3, cc3, e1, e2, e3, -⟩ := HPB3.out.pa.form
      subst e1 e2 e3
      have HAT3 : Hid (∀ w' : World, Below w3.heap.size w3 w' → Calls Try.prog 39 #[.slice pr rows.length cr, .int .i64 ((rows.length : Int) - 1), .int .i64 0] w' fun e w'' => e = .returned (.int .u64 (atR rows (rows.length - 1) 0)) ∧ w' = w'') := Lib.hid (fun w' hb => by
        by_cases hz : rows.length = 0
        · have : rows = [] := List.eq_nil_of_length_eq_zero hz
          subst this
          exact at_neg _ _
        · have e : ((rows.length : Int) - 1) = ((rows.length - 1 : Nat) : Int) := by omega
          rw [e]
          exact at_in (rows.length - 1) 0 rows _ _ w' (HRR3.out.below hb) (by omega) (by omega) (by omega) (fun r hr => by have := HRW.out r hr; omega))
      have HLF := Lib.hid (fun (w' : World) (hb : Below w3.heap.size w3 w') => left_pl old rows _ _ 0 V.heap.size w' (HVR3.out.below hb) (HRR3.out.below hb) HOO.out.len hr4 HOO.out.row HRW.out)
      generalize hrt : atR rows (rows.length - 1) 0 = rt at *
      have hgl := HPB3.out.pa
      have HE2 : Hid (w3.heap[w.heap.size + 1 + 1]? = some (.cells #[.slice none 0 0, .slice none 0 0, .slice none 0 0, .slice none 0 0] 31 (0, 0))) := Lib.hid ((HB3.out.block _ (by omega)).trans HW.out.2.2.2.2.1)
      have HE3 : Hid (w3.heap[w.heap.size + 1 + 1 + 1]? = some (.cells #[.int .u64 0, .int .i64 0] 43 (0, 0))) := Lib.hid ((HB3.out.block _ (by omega)).trans HW.out.2.2.2.2.2)
      have hs3 := HB3.out.size
      have hk3 := lt_of_block HPB3.out.blk
      have hko3 := lt_of_block HVO3.out
      obtain ⟨x0, x1, x2, x3, -⟩ := block4 HPB3.out.blk
      have o0 : w3.cell? ⟨w1.heap.size, 0, none⟩ = some (.slice po old.length co) := by have := HVO3.out; simp [World.cell?, this]
      have HC10 : Hid (∀ w' : World, w'.heap[w2.heap.size]? = some (.cells #[.slice pg3 q.st.gens.length cg3, .slice pu3 q.st.used.length cu3, .slice pf3 q.st.free.length cf3, .slice (some ⟨g2, 0, none⟩) q.ch.length cc2] 31 (0, 0)) → w'.heap[w1.heap.size]? = some (.cells #[.slice po old.length co] 77 (0, 0)) → w'.cell? ⟨w2.heap.size, 0, none⟩ = some (.slice pg3 q.st.gens.length cg3) ∧ w'.cell? ⟨w2.heap.size, 1, none⟩ = some (.slice pu3 q.st.used.length cu3) ∧ w'.cell? ⟨w2.heap.size, 2, none⟩ = some (.slice pf3 q.st.free.length cf3) ∧ w'.cell? ⟨w2.heap.size, 3, none⟩ = some (.slice (some ⟨g2, 0, none⟩) q.ch.length cc2) ∧ w'.cell? ⟨w1.heap.size, 0, none⟩ = some (.slice po old.length co)) := Lib.hid (fun w' h1 h2 => by
        obtain ⟨a, b, c, d, -⟩ := block4 h1
        exact ⟨a, b, c, d, by simp [World.cell?, h2]⟩)
      have HG0 := Lib.hid HPB3.out.blk
      have HG0d : Hid (w3.drew.heap[w2.heap.size]? = some (.cells #[.slice pg3 q.st.gens.length cg3, .slice pu3 q.st.used.length cu3, .slice pf3 q.st.free.length cf3, .slice (some ⟨g2, 0, none⟩) q.ch.length cc2] 31 (0, 0))) := Lib.hid HPB3.out.blk
      have HG1d : Hid (w3.drew.heap[w1.heap.size]? = some (.cells #[.slice po old.length co] 77 (0, 0))) := Lib.hid HVO3.out
      have HWR : Hid (IntKind.i64.wrap ((rows.length : Int) - 1) = (rows.length : Int) - 1) := Lib.hid (by rw [IntKind.wrap_i64]; omega)
      have n1 : w2.heap.size ≠ w.heap.size + 1 + 1 := by omega
      have n2 : w2.heap.size ≠ w.heap.size + 1 + 1 + 1 := by omega
      have n3 : w1.heap.size ≠ w.heap.size + 1 + 1 := by omega
      have n4 : w1.heap.size ≠ w.heap.size + 1 + 1 + 1 := by omega
      go_upto_region 10 with fail
      go_region_held3 (fun w' => w'.cell? ⟨w2.heap.size, 0, none⟩ = some (.slice pg3 q.st.gens.length cg3) ∧ w'.cell? ⟨w2.heap.size, 1, none⟩ = some (.slice pu3 q.st.used.length cu3) ∧ w'.cell? ⟨w2.heap.size, 2, none⟩ = some (.slice pf3 q.st.free.length cf3) ∧ w'.cell? ⟨w2.heap.size, 3, none⟩ = some (.slice (some ⟨g2, 0, none⟩) q.ch.length cc2) ∧ w'.cell? ⟨w1.heap.size, 0, none⟩ = some (.slice po old.length co))
        (first
          | with_reducible exact HC10.out _ HG0.out HVO3.out
          | with_reducible exact HC10.out _ HG0d.out HG1d.out
          | with_reducible exact HC10.out _ HF0.out HF1.out
          | with_reducible exact HC10.out _ ((set4_other _ _ _ _ _ n1).trans HF0.out) ((set4_other _ _ _ _ _ n3).trans HF1.out)
          | with_reducible exact HC10.out _ ((set2_other _ _ _ n2).trans HF0.out) ((set2_other _ _ _ n4).trans HF1.out)
          | with_reducible exact HC10.out _ ((set2_other _ _ _ n2).trans ((set4_other _ _ _ _ _ n1).trans HF0.out)) ((set2_other _ _ _ n4).trans ((set4_other _ _ _ _ _ n3).trans HF1.out))
          | with_reducible exact HC10.out _ ((set4_other _ _ _ _ _ n1).trans ((set2_other _ _ _ n2).trans HF0.out)) ((set4_other _ _ _ _ _ n3).trans ((set2_other _ _ _ n4).trans HF1.out)))
        (first
          | (go_at_call 39
             rw [HWR.out]
             refine (HAT3.out _ (Below.refl _ _).drew).mono ?_
             rintro e w6 ⟨rfl, rfl⟩)
          | (go_at_call 42
             refine (HLF.out _ (Below.refl _ _).drew).mono ?_
             rintro e w8 ⟨v8, rfl, ho8, hb8⟩
             rw [gvs_length] at ho8
             obtain ⟨p8, c8, rfl, -, -, -⟩ := own_form ho8
             have HO8 := Lib.hid ho8
             have HB8 := Lib.hid hb8
             have HF0 := Lib.hid ((hb8.block _ (show w2.heap.size < w3.heap.size from hk3)).trans HG0.out)
             have HF1 := Lib.hid ((hb8.block _ (show w1.heap.size < w3.heap.size from hko3)).trans HVO3.out)
             have HF2 := Lib.hid ((hb8.block _ (show w.heap.size + 1 + 1 < w3.heap.size by omega)).trans HE2.out)
             have HF3 := Lib.hid ((hb8.block _ (show w.heap.size + 1 + 1 + 1 < w3.heap.size by omega)).trans HE3.out)
             obtain ⟨d0, d1, d2, d3, y0, y1, y2, y3⟩ := block4 HF2.out
             obtain ⟨g0, g1, z0, z1⟩ := block2f HF3.out
             clear ho8 hb8))
      all_goals
        go_wp2
        refine bodyPost_ret (v := .tuple #[.agg #[.slice pg3 q.st.gens.length cg3, .slice pu3 q.st.used.length cu3, .slice pf3 q.st.free.length cf3, .slice (some ⟨g2, 0, none⟩) q.ch.length cc2], .agg #[.int .u64 rt, .int .i64 items.length], .slice p8 (left rows 0 old).length c8, .int .i64 0]) (by simp [results, Try.results14, go_sem, d0, d1, d2, d3, g0, g1]) rfl ⟨_, _, _, _, _, rfl, ?_, ?_, ?_⟩
        · exact PA.drop ((PA.set4 (HPB3.out.pa.below ((Below.refl _ w3).drew.trans HB8.out)) (by omega) _ _ _ _).set2 (by omega) _ _) (by omega)
        · exact own_drop (own_set2 (own_set4 HO8.out (show w.heap.size + 1 + 1 < w3.heap.size by omega) _ _ _ _) (show w.heap.size + 1 + 1 + 1 < w3.heap.size by omega) _ _) (show w.heap.size ≤ w3.heap.size by omega)
        · exact below_set2 (below_set4 ((HW.out.1.trans (HB3.out.mono (by omega))).trans ((Below.refl _ w3).drew.trans HB8.out |>.mono (show w.heap.size ≤ w3.heap.size by omega))) (by omega) _ _ _ _) (by omega) _ _
theorem change_in (root : Int) (size : Nat) (items : List Int) (vi : Value) (bi : Nat) (vg vu vf vc : Value) (p : Pl) (b n : Nat) (G : Int) (w : World) (hA : PA w b vg vu vf vc p) (hP : PK n G p) (hI : w.ownsRow bi 41 1 vi items.length (gvs items)) (hil : items.length ≤ 200) (hiU : U64 items) (h0 : 0 ≤ root) (h1 : root ≤ 18446744073709551615) (hs : size ≤ 256) (hG : G ≤ 1099511627775) (hn0 : 0 < n) :
    Calls Try.prog 14 #[.agg #[vg, vu, vf, vc], .agg #[.int .u64 root, .int .i64 size], vi] w (GivesC (p.change ⟨root, size⟩ items) w) := by
  obtain ⟨pi, ci, rfl, hci, hcm, -⟩ := own_form hI
  unfold maxLen at hcm
  exact change_rl root size items pi ci vg vu vf vc p b n G w hA hP (RL.of_own hI) hci (by omega) hil hiU h0 h1 hs hG hn0
theorem change_arg (root : Int) (size : Nat) (items : List Int) (vi : Value) (bi : Nat) (vg vu vf vc : Value) (p : Pl) (b n : Nat) (G : Int) (w : World) (hA : PA w b vg vu vf vc p) (hP : PK n G p) (hI : w.ownsRow bi 41 1 vi items.length (gvs items)) (hil : 200 < items.length) (hil2 : items.length ≤ 1000) :
    Calls Try.prog 14 #[.agg #[vg, vu, vf, vc], .agg #[.int .u64 root, .int .i64 size], vi] w (GivesC ⟨p, ⟨root, size⟩, [], 1⟩ w) := by
  obtain ⟨pi, ci, rfl, hci, hcm, -⟩ := own_form hI
  unfold maxLen at hcm
  exact change_argl root size items pi ci vg vu vf vc p b n G w hA hP (RL.of_own hI) hci (by omega) hil hil2
end Go.Proofs.Ytbldjlkofaiikaa
