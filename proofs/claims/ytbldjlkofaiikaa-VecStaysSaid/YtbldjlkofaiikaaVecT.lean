/-
  Set, Insert, Remove: the list with its items turned.
-/
import Derived.Test.YtbldjlkofaiikaaVecQ
namespace Go.Proofs.Ytbldjlkofaiikaa
open Go.ChangeShapes Go.WideShapes Go.ChangeAt Go.RowKit
set_option linter.unusedVariables false
set_option linter.unusedSimpArgs false

theorem change_any (root : Int) (size : Nat) (items : List Int) (vi : Value) (bi : Nat) (vg vu vf vc : Value) (p : Pl) (b n : Nat) (G : Int) (w : World) (hA : PA w b vg vu vf vc p) (hP : PK n G p) (hI : w.ownsRow bi 41 1 vi items.length (gvs items))
    (hil : items.length ≤ 1000) (hiU : U64 items) (h0 : 0 ≤ root) (h1 : root ≤ 18446744073709551615) (hs : size ≤ 256) (hG : G ≤ 1099511627775) (hn0 : 0 < n) :
    Calls Try.prog 14 #[.agg #[vg, vu, vf, vc], .agg #[.int .u64 root, .int .i64 size], vi] w (GivesC (p.change ⟨root, size⟩ items) w) := by
  by_cases h : items.length ≤ 200
  · exact change_in root size items vi bi vg vu vf vc p b n G w hA hP hI h hiU h0 h1 hs hG hn0
  · rw [Pl.change, if_pos (by omega)]
    exact change_arg root size items vi bi vg vu vf vc p b n G w hA hP hI (by omega) hil
/-- What a turn of items comes to: a list l, in memory from B on. -/
def GivesTu (B : Nat) (l : List Int) (w : World) (en : Ending) (w' : World) : Prop :=
  ∃ v, en = .returned v ∧ w'.ownsRow B 41 1 v l.length (gvs l) ∧ Below B w w'

theorem set_nl {l : List Int} {k : Nat} {x : Int} (h : l.length ≤ 1000 ∧ U64 l ∧ 0 ≤ x ∧ x ≤ 18446744073709551615) : (l.set k x).length ≤ 1000 ∧ U64 (l.set k x) := by
  refine ⟨by rw [List.length_set]; exact h.1, fun y hy => ?_⟩
  rcases List.mem_or_eq_of_mem_set hy with hy | rfl
  · exact h.2.1 y hy
  · exact h.2.2
set_option maxRecDepth 100000 in
set_option maxHeartbeats 1000000 in
theorem setF_any (kx ki k B : Nat) (x : Int) (l : List Int) (v : Value) (w : World) (hx : w.cell? ⟨kx, 0, none⟩ = some (.int .u64 x)) (hi : w.cell? ⟨ki, 0, none⟩ = some (.int .i64 k)) (ho : w.ownsRow B 41 1 v l.length (gvs l)) (hk : k < l.length) :
    Calls Try.prog 30 #[v, .pointer (some ⟨kx, 0, none⟩), .pointer (some ⟨ki, 0, none⟩)] w (GivesTu B (l.set k x) w) := by
  obtain ⟨pl, cl, rfl, -, -, -⟩ := own_form ho
  obtain ⟨g, rfl, hg, -⟩ := own_some ho (by omega)
  have hc := own_at_gen ho hk
  have hz := ho.frozenAt k
  have k0 : (0 : Int) ≤ (k : Int) := by omega
  have k1 : (k : Int) < (l.length : Int) := by omega
  have HO := Lib.hid ho
  clear ho
  generalize l.getD k 0 = y at *
  go_enter Try.func30, Try.ntmps30
  go_wp2
  go_ret
  refine ⟨_, rfl, ?_, (Below.refl _ w).setCell hg _⟩
  have := (HO.out.stored k (.int .u64 x)).1
  rw [← set_map_gen] at this
  rw [List.length_set]
  exact this

set_option maxRecDepth 100000 in
set_option maxHeartbeats 4000000 in
theorem editS_bad (root : Int) (size : Nat) (i last : Int) (kx ki : Nat) (x : Int) (vg vu vf vc : Value) (p : Pl) (b n : Nat) (G : Int) (w : World) (hA : PA w b vg vu vf vc p) (hP : PK n G p) (hi : i < 0 ∨ last < i) :
    Calls Try.prog 29 #[.agg #[vg, vu, vf, vc], .agg #[.int .u64 root, .int .i64 size], .int .i64 i, .int .i64 last, .func (.func 30) #[] #[.pointer (some ⟨kx, 0, none⟩), .pointer (some ⟨ki, 0, none⟩)]] w (GivesC ⟨p, ⟨root, size⟩, [], 73⟩ w) := by
  have HA := Lib.hid hA
  have HP := Lib.hid hP
  clear hA hP
  have hsm := HP.out.ok.small
  obtain ⟨W, hW⟩ : ∃ W, W = (((w.alloc (.cells #[vg, vu, vf, vc] 31)).alloc (.cells #[.int .u64 root, .int .i64 size] 43)).alloc (.cells #[.slice none 0 0, .slice none 0 0, .slice none 0 0, .slice none 0 0] 31)).alloc (.cells #[.int .u64 0, .int .i64 0] 43) := ⟨_, rfl⟩
  have HW : Hid (Below w.heap.size w W ∧ W.heap.size = w.heap.size + 4 ∧ W.heap[w.heap.size]? = some (.cells #[vg, vu, vf, vc] 31 (0, 0)) ∧ W.heap[w.heap.size + 1]? = some (.cells #[.int .u64 root, .int .i64 size] 43 (0, 0)) ∧ W.heap[w.heap.size + 1 + 1]? = some (.cells #[.slice none 0 0, .slice none 0 0, .slice none 0 0, .slice none 0 0] 31 (0, 0)) ∧ W.heap[w.heap.size + 1 + 1 + 1]? = some (.cells #[.int .u64 0, .int .i64 0] 43 (0, 0))) := Lib.hid (by
    subst hW
    exact heap4of w _ _ _ _)
  have HWE := Lib.hid hW
  clear hW
  have HB0 : Hid (Below (w.heap.size + 4) W W) := Lib.hid (Below.refl _ _)
  have HCV : Hid (∀ w' : World, w'.heap[w.heap.size]? = some (.cells #[vg, vu, vf, vc] 31 (0, 0)) → w'.heap[w.heap.size + 1]? = some (.cells #[.int .u64 root, .int .i64 size] 43 (0, 0)) → w'.cell? ⟨w.heap.size, 0, none⟩ = some vg ∧ w'.cell? ⟨w.heap.size, 1, none⟩ = some vu ∧ w'.cell? ⟨w.heap.size, 2, none⟩ = some vf ∧ w'.cell? ⟨w.heap.size, 3, none⟩ = some vc ∧ w'.cell? ⟨w.heap.size + 1, 0, none⟩ = some (.int .u64 root) ∧ w'.cell? ⟨w.heap.size + 1, 1, none⟩ = some (.int .i64 size)) := Lib.hid (fun w' h1 h2 => by
    obtain ⟨a, b, c, d, -⟩ := block4 h1
    obtain ⟨e, f⟩ := block2 h2
    exact ⟨a, b, c, d, e, f⟩)
  by_cases hi0 : i < 0
  · go_enter Try.func29, Try.ntmps29
    go_wp2_with fail
    rw [← HWE.out]
    have HE0 : Hid (W.heap[w.heap.size]? = some (.cells #[vg, vu, vf, vc] 31 (0, 0))) := Lib.hid ((HB0.out.block _ (by omega)).trans HW.out.2.2.1)
    have HE1 : Hid (W.heap[w.heap.size + 1]? = some (.cells #[.int .u64 root, .int .i64 size] 43 (0, 0))) := Lib.hid ((HB0.out.block _ (by omega)).trans HW.out.2.2.2.1)
    have HE2 : Hid (W.heap[w.heap.size + 1 + 1]? = some (.cells #[.slice none 0 0, .slice none 0 0, .slice none 0 0, .slice none 0 0] 31 (0, 0))) := Lib.hid ((HB0.out.block _ (by omega)).trans HW.out.2.2.2.2.1)
    have HE3 : Hid (W.heap[w.heap.size + 1 + 1 + 1]? = some (.cells #[.int .u64 0, .int .i64 0] 43 (0, 0))) := Lib.hid ((HB0.out.block _ (by omega)).trans HW.out.2.2.2.2.2)
    have HBX : Hid (Below w.heap.size w W) := Lib.hid (HW.out.1.trans (HB0.out.mono (by omega)))
    have hsX : w.heap.size + 4 ≤ W.heap.size := by have := HB0.out.size; have := HW.out.2.1; omega
    have HE0d : Hid (W.drew.heap[w.heap.size]? = some (.cells #[vg, vu, vf, vc] 31 (0, 0))) := Lib.hid HE0.out
    have HE1d : Hid (W.drew.heap[w.heap.size + 1]? = some (.cells #[.int .u64 root, .int .i64 size] 43 (0, 0))) := Lib.hid HE1.out
    obtain ⟨x0, x1, x2, x3, -⟩ := block4 HE0.out
    obtain ⟨u0, u1⟩ := block2 HE1.out
    go_region_held3 (fun w' => w'.cell? ⟨w.heap.size, 0, none⟩ = some vg ∧ w'.cell? ⟨w.heap.size, 1, none⟩ = some vu ∧ w'.cell? ⟨w.heap.size, 2, none⟩ = some vf ∧ w'.cell? ⟨w.heap.size, 3, none⟩ = some vc ∧ w'.cell? ⟨w.heap.size + 1, 0, none⟩ = some (.int .u64 root) ∧ w'.cell? ⟨w.heap.size + 1, 1, none⟩ = some (.int .i64 size))
      (first
        | with_reducible exact HCV.out _ HE0.out HE1.out
        | with_reducible exact HCV.out _ HE0d.out HE1d.out
        | with_reducible exact HCV.out _ HF0.out HF1.out
        | with_reducible exact HCV.out _ ((set4_other _ _ _ _ _ (by omega)).trans HF0.out) ((set4_other _ _ _ _ _ (by omega)).trans HF1.out)
        | with_reducible exact HCV.out _ ((set2_other _ _ _ (by omega)).trans HF0.out) ((set2_other _ _ _ (by omega)).trans HF1.out)
        | with_reducible exact HCV.out _ ((set2_other _ _ _ (by omega)).trans ((set4_other _ _ _ _ _ (by omega)).trans HF0.out)) ((set2_other _ _ _ (by omega)).trans ((set4_other _ _ _ _ _ (by omega)).trans HF1.out))
        | with_reducible exact HCV.out _ ((set4_other _ _ _ _ _ (by omega)).trans ((set2_other _ _ _ (by omega)).trans HF0.out)) ((set4_other _ _ _ _ _ (by omega)).trans ((set2_other _ _ _ (by omega)).trans HF1.out)))
      (first
        | (go_at_call 35
           refine (copyOf_pl vg vu vf vc p b _ (HA.out.below HBX.out.drew) (by have := HP.out.ok.gens; omega) (by have := HP.out.ok.used; omega) (by have := HP.out.ok.free_le; omega) (by have := HP.out.len; omega)).mono ?_
           rintro e w7 ⟨v1, v2, v3, v4, rfl, hpa7, hb7⟩
           obtain ⟨pg7, cg7, pu7, cu7, pf7, cf7, pc7, cc7, rfl, rfl, rfl, rfl⟩ := hpa7.form
           have HPA7 := Lib.hid hpa7
           have HB7 := Lib.hid hb7
           have HF0 := Lib.hid ((hb7.block _ (by show w.heap.size < W.heap.size; omega)).trans HE0.out)
           have HF1 := Lib.hid ((hb7.block _ (by show w.heap.size + 1 < W.heap.size; omega)).trans HE1.out)
           have HF2 := Lib.hid ((hb7.block _ (by show w.heap.size + 1 + 1 < W.heap.size; omega)).trans HE2.out)
           have HF3 := Lib.hid ((hb7.block _ (by show w.heap.size + 1 + 1 + 1 < W.heap.size; omega)).trans HE3.out)
           obtain ⟨d0, d1, d2, d3, y0, y1, y2, y3⟩ := block4 HF2.out
           obtain ⟨g0, g1, z0, z1⟩ := block2f HF3.out
           clear hpa7 hb7))
    all_goals
      go_wp2
      have hB7s : w.heap.size + 4 ≤ w7.heap.size := by have := HB7.out.size; have h2 : W.drew.heap.size = W.heap.size := rfl; omega
      refine bodyPost_ret (v := .tuple #[.agg #[.slice pg7 p.st.gens.length cg7, .slice pu7 p.st.used.length cu7, .slice pf7 p.st.free.length cf7, .slice pc7 p.ch.length cc7], .agg #[.int .u64 root, .int .i64 size], .slice none 0 0, .int .i64 73]) (by simp [results, Try.results29, go_sem, d0, d1, d2, d3, g0, g1]) rfl ⟨_, _, _, _, _, rfl, ?_, World.ownsRow_nil _ _ _ _, ?_⟩
      · exact PA.drop ((PA.set4 HPA7.out (by show w.heap.size + 1 + 1 < W.heap.size; omega) _ _ _ _).set2 (by show w.heap.size + 1 + 1 + 1 < W.heap.size; omega) _ _) (by show w.heap.size ≤ W.heap.size; omega)
      · exact below_set2 (below_set4 (HBX.out.trans ((Below.refl _ W).drew.trans HB7.out |>.mono (show w.heap.size ≤ W.heap.size by omega))) (by omega) _ _ _ _) (by omega) _ _
  · have hi1 : last < i := by omega
    go_enter Try.func29, Try.ntmps29
    go_wp2_with fail
    rw [← HWE.out]
    have HE0 : Hid (W.heap[w.heap.size]? = some (.cells #[vg, vu, vf, vc] 31 (0, 0))) := Lib.hid ((HB0.out.block _ (by omega)).trans HW.out.2.2.1)
    have HE1 : Hid (W.heap[w.heap.size + 1]? = some (.cells #[.int .u64 root, .int .i64 size] 43 (0, 0))) := Lib.hid ((HB0.out.block _ (by omega)).trans HW.out.2.2.2.1)
    have HE2 : Hid (W.heap[w.heap.size + 1 + 1]? = some (.cells #[.slice none 0 0, .slice none 0 0, .slice none 0 0, .slice none 0 0] 31 (0, 0))) := Lib.hid ((HB0.out.block _ (by omega)).trans HW.out.2.2.2.2.1)
    have HE3 : Hid (W.heap[w.heap.size + 1 + 1 + 1]? = some (.cells #[.int .u64 0, .int .i64 0] 43 (0, 0))) := Lib.hid ((HB0.out.block _ (by omega)).trans HW.out.2.2.2.2.2)
    have HBX : Hid (Below w.heap.size w W) := Lib.hid (HW.out.1.trans (HB0.out.mono (by omega)))
    have hsX : w.heap.size + 4 ≤ W.heap.size := by have := HB0.out.size; have := HW.out.2.1; omega
    have HE0d : Hid (W.drew.heap[w.heap.size]? = some (.cells #[vg, vu, vf, vc] 31 (0, 0))) := Lib.hid HE0.out
    have HE1d : Hid (W.drew.heap[w.heap.size + 1]? = some (.cells #[.int .u64 root, .int .i64 size] 43 (0, 0))) := Lib.hid HE1.out
    obtain ⟨x0, x1, x2, x3, -⟩ := block4 HE0.out
    obtain ⟨u0, u1⟩ := block2 HE1.out
    go_region_held3 (fun w' => w'.cell? ⟨w.heap.size, 0, none⟩ = some vg ∧ w'.cell? ⟨w.heap.size, 1, none⟩ = some vu ∧ w'.cell? ⟨w.heap.size, 2, none⟩ = some vf ∧ w'.cell? ⟨w.heap.size, 3, none⟩ = some vc ∧ w'.cell? ⟨w.heap.size + 1, 0, none⟩ = some (.int .u64 root) ∧ w'.cell? ⟨w.heap.size + 1, 1, none⟩ = some (.int .i64 size))
      (first
        | with_reducible exact HCV.out _ HE0.out HE1.out
        | with_reducible exact HCV.out _ HE0d.out HE1d.out
        | with_reducible exact HCV.out _ HF0.out HF1.out
        | with_reducible exact HCV.out _ ((set4_other _ _ _ _ _ (by omega)).trans HF0.out) ((set4_other _ _ _ _ _ (by omega)).trans HF1.out)
        | with_reducible exact HCV.out _ ((set2_other _ _ _ (by omega)).trans HF0.out) ((set2_other _ _ _ (by omega)).trans HF1.out)
        | with_reducible exact HCV.out _ ((set2_other _ _ _ (by omega)).trans ((set4_other _ _ _ _ _ (by omega)).trans HF0.out)) ((set2_other _ _ _ (by omega)).trans ((set4_other _ _ _ _ _ (by omega)).trans HF1.out))
        | with_reducible exact HCV.out _ ((set4_other _ _ _ _ _ (by omega)).trans ((set2_other _ _ _ (by omega)).trans HF0.out)) ((set4_other _ _ _ _ _ (by omega)).trans ((set2_other _ _ _ (by omega)).trans HF1.out)))
      (first
        | (go_at_call 35
           refine (copyOf_pl vg vu vf vc p b _ (HA.out.below HBX.out.drew) (by have := HP.out.ok.gens; omega) (by have := HP.out.ok.used; omega) (by have := HP.out.ok.free_le; omega) (by have := HP.out.len; omega)).mono ?_
           rintro e w7 ⟨v1, v2, v3, v4, rfl, hpa7, hb7⟩
           obtain ⟨pg7, cg7, pu7, cu7, pf7, cf7, pc7, cc7, rfl, rfl, rfl, rfl⟩ := hpa7.form
           have HPA7 := Lib.hid hpa7
           have HB7 := Lib.hid hb7
           have HF0 := Lib.hid ((hb7.block _ (by show w.heap.size < W.heap.size; omega)).trans HE0.out)
           have HF1 := Lib.hid ((hb7.block _ (by show w.heap.size + 1 < W.heap.size; omega)).trans HE1.out)
           have HF2 := Lib.hid ((hb7.block _ (by show w.heap.size + 1 + 1 < W.heap.size; omega)).trans HE2.out)
           have HF3 := Lib.hid ((hb7.block _ (by show w.heap.size + 1 + 1 + 1 < W.heap.size; omega)).trans HE3.out)
           obtain ⟨d0, d1, d2, d3, y0, y1, y2, y3⟩ := block4 HF2.out
           obtain ⟨g0, g1, z0, z1⟩ := block2f HF3.out
           clear hpa7 hb7))
    all_goals
      go_wp2
      have hB7s : w.heap.size + 4 ≤ w7.heap.size := by have := HB7.out.size; have h2 : W.drew.heap.size = W.heap.size := rfl; omega
      refine bodyPost_ret (v := .tuple #[.agg #[.slice pg7 p.st.gens.length cg7, .slice pu7 p.st.used.length cu7, .slice pf7 p.st.free.length cf7, .slice pc7 p.ch.length cc7], .agg #[.int .u64 root, .int .i64 size], .slice none 0 0, .int .i64 73]) (by simp [results, Try.results29, go_sem, d0, d1, d2, d3, g0, g1]) rfl ⟨_, _, _, _, _, rfl, ?_, World.ownsRow_nil _ _ _ _, ?_⟩
      · exact PA.drop ((PA.set4 HPA7.out (by show w.heap.size + 1 + 1 < W.heap.size; omega) _ _ _ _).set2 (by show w.heap.size + 1 + 1 + 1 < W.heap.size; omega) _ _) (by show w.heap.size ≤ W.heap.size; omega)
      · exact below_set2 (below_set4 (HBX.out.trans ((Below.refl _ W).drew.trans HB7.out |>.mono (show w.heap.size ≤ W.heap.size by omega))) (by omega) _ _ _ _) (by omega) _ _

set_option maxRecDepth 100000 in
set_option maxHeartbeats 8000000 in
theorem editS_in (root : Int) (size : Nat) (i last : Int) (kx ki : Nat) (x : Int) (vg vu vf vc : Value) (p : Pl) (b n : Nat) (G : Int) (w : World) (hA : PA w b vg vu vf vc p) (hP : PK n G p) (h0 : 0 ≤ root) (h1 : root ≤ 18446744073709551615) (hs : size ≤ 256) (hG : G ≤ 1099511627775) (hn0 : 0 < n) (hi : 0 ≤ i) (hi2 : i ≤ last) (hkx : w.cell? ⟨kx, 0, none⟩ = some (.int .u64 x)) (hki : w.cell? ⟨ki, 0, none⟩ = some (.int .i64 i))
    (hl : ∀ l, p.items ⟨root, size⟩ = some l → i.toNat < l.length ∧ l.length ≤ 1000 ∧ U64 l ∧ 0 ≤ x ∧ x ≤ 18446744073709551615) :
    Calls Try.prog 29 #[.agg #[vg, vu, vf, vc], .agg #[.int .u64 root, .int .i64 size], .int .i64 i, .int .i64 last, .func (.func 30) #[] #[.pointer (some ⟨kx, 0, none⟩), .pointer (some ⟨ki, 0, none⟩)]] w (GivesC (match p.items ⟨root, size⟩ with | none => ⟨p, ⟨root, size⟩, [], 30⟩ | some l => p.change ⟨root, size⟩ (l.set i.toNat x)) w) := by
  obtain ⟨T, hT⟩ : ∃ T, (match p.items ⟨root, size⟩ with | none => Told.mk p ⟨root, size⟩ [] 30 | some l => p.change ⟨root, size⟩ (l.set i.toNat x)) = T := ⟨_, rfl⟩
  rw [hT]
  have HT := Lib.hid hT
  clear hT
  have HA := Lib.hid hA
  have HP := Lib.hid hP
  have HLL := Lib.hid hl
  clear hA hP hl
  have hsm := HP.out.ok.small
  obtain ⟨W, hW⟩ : ∃ W, W = (((w.alloc (.cells #[vg, vu, vf, vc] 31)).alloc (.cells #[.int .u64 root, .int .i64 size] 43)).alloc (.cells #[.slice none 0 0, .slice none 0 0, .slice none 0 0, .slice none 0 0] 31)).alloc (.cells #[.int .u64 0, .int .i64 0] 43) := ⟨_, rfl⟩
  have HW : Hid (Below w.heap.size w W ∧ W.heap.size = w.heap.size + 4 ∧ W.heap[w.heap.size]? = some (.cells #[vg, vu, vf, vc] 31 (0, 0)) ∧ W.heap[w.heap.size + 1]? = some (.cells #[.int .u64 root, .int .i64 size] 43 (0, 0)) ∧ W.heap[w.heap.size + 1 + 1]? = some (.cells #[.slice none 0 0, .slice none 0 0, .slice none 0 0, .slice none 0 0] 31 (0, 0)) ∧ W.heap[w.heap.size + 1 + 1 + 1]? = some (.cells #[.int .u64 0, .int .i64 0] 43 (0, 0))) := Lib.hid (by
    subst hW
    exact heap4of w _ _ _ _)
  have HWE := Lib.hid hW
  clear hW
  have HB0 : Hid (Below (w.heap.size + 4) W W) := Lib.hid (Below.refl _ _)
  have HCV : Hid (∀ w' : World, w'.heap[w.heap.size]? = some (.cells #[vg, vu, vf, vc] 31 (0, 0)) → w'.heap[w.heap.size + 1]? = some (.cells #[.int .u64 root, .int .i64 size] 43 (0, 0)) → w'.cell? ⟨w.heap.size, 0, none⟩ = some vg ∧ w'.cell? ⟨w.heap.size, 1, none⟩ = some vu ∧ w'.cell? ⟨w.heap.size, 2, none⟩ = some vf ∧ w'.cell? ⟨w.heap.size, 3, none⟩ = some vc ∧ w'.cell? ⟨w.heap.size + 1, 0, none⟩ = some (.int .u64 root) ∧ w'.cell? ⟨w.heap.size + 1, 1, none⟩ = some (.int .i64 size)) := Lib.hid (fun w' h1 h2 => by
    obtain ⟨a, b, c, d, -⟩ := block4 h1
    obtain ⟨e, f⟩ := block2 h2
    exact ⟨a, b, c, d, e, f⟩)
  have hi0 : ¬ i < 0 := by omega
  have hi3 : ¬ last < i := by omega
  go_enter Try.func29, Try.ntmps29
  go_upto_region 3 with fail
  rw [← HWE.out]
  clear HWE
  obtain ⟨x0, x1, x2, x3, -⟩ := block4 HW.out.2.2.1
  obtain ⟨u0, u1⟩ := block2 HW.out.2.2.2.1
  go_wp2_with fail
  refine (items_pl root size vg vu vf vc p b n G W (HA.out.below HW.out.1) HP.out h0 h1 hs).mono ?_
  show ∀ e w', GivesI (p.items ⟨root, size⟩) W e w' → _
  rintro e w1 ⟨⟨hd, rfl⟩ | ⟨l, vl, hd, rfl, hol⟩, hb1⟩
  · have HB1 : Hid (Below (w.heap.size + 4) W w1) := Lib.hid (hb1.mono (by have := HW.out.2.1; omega))
    obtain rfl : T = ⟨p, ⟨root, size⟩, [], 30⟩ := by
      rw [← HT.out, hd]
    clear hd hb1 x0 x1 x2 x3 u0 u1
    go_wp2_with fail
    have HE0 : Hid (w1.heap[w.heap.size]? = some (.cells #[vg, vu, vf, vc] 31 (0, 0))) := Lib.hid ((HB1.out.block _ (by omega)).trans HW.out.2.2.1)
    have HE1 : Hid (w1.heap[w.heap.size + 1]? = some (.cells #[.int .u64 root, .int .i64 size] 43 (0, 0))) := Lib.hid ((HB1.out.block _ (by omega)).trans HW.out.2.2.2.1)
    have HE2 : Hid (w1.heap[w.heap.size + 1 + 1]? = some (.cells #[.slice none 0 0, .slice none 0 0, .slice none 0 0, .slice none 0 0] 31 (0, 0))) := Lib.hid ((HB1.out.block _ (by omega)).trans HW.out.2.2.2.2.1)
    have HE3 : Hid (w1.heap[w.heap.size + 1 + 1 + 1]? = some (.cells #[.int .u64 0, .int .i64 0] 43 (0, 0))) := Lib.hid ((HB1.out.block _ (by omega)).trans HW.out.2.2.2.2.2)
    have HBX : Hid (Below w.heap.size w w1) := Lib.hid (HW.out.1.trans (HB1.out.mono (by omega)))
    have hsX : w.heap.size + 4 ≤ w1.heap.size := by have := HB1.out.size; have := HW.out.2.1; omega
    have HE0d : Hid (w1.drew.heap[w.heap.size]? = some (.cells #[vg, vu, vf, vc] 31 (0, 0))) := Lib.hid HE0.out
    have HE1d : Hid (w1.drew.heap[w.heap.size + 1]? = some (.cells #[.int .u64 root, .int .i64 size] 43 (0, 0))) := Lib.hid HE1.out
    obtain ⟨x0, x1, x2, x3, -⟩ := block4 HE0.out
    obtain ⟨u0, u1⟩ := block2 HE1.out
    go_region_held3 (fun w' => w'.cell? ⟨w.heap.size, 0, none⟩ = some vg ∧ w'.cell? ⟨w.heap.size, 1, none⟩ = some vu ∧ w'.cell? ⟨w.heap.size, 2, none⟩ = some vf ∧ w'.cell? ⟨w.heap.size, 3, none⟩ = some vc ∧ w'.cell? ⟨w.heap.size + 1, 0, none⟩ = some (.int .u64 root) ∧ w'.cell? ⟨w.heap.size + 1, 1, none⟩ = some (.int .i64 size))
      (first
        | with_reducible exact HCV.out _ HE0.out HE1.out
        | with_reducible exact HCV.out _ HE0d.out HE1d.out
        | with_reducible exact HCV.out _ HF0.out HF1.out
        | with_reducible exact HCV.out _ ((set4_other _ _ _ _ _ (by omega)).trans HF0.out) ((set4_other _ _ _ _ _ (by omega)).trans HF1.out)
        | with_reducible exact HCV.out _ ((set2_other _ _ _ (by omega)).trans HF0.out) ((set2_other _ _ _ (by omega)).trans HF1.out)
        | with_reducible exact HCV.out _ ((set2_other _ _ _ (by omega)).trans ((set4_other _ _ _ _ _ (by omega)).trans HF0.out)) ((set2_other _ _ _ (by omega)).trans ((set4_other _ _ _ _ _ (by omega)).trans HF1.out))
        | with_reducible exact HCV.out _ ((set4_other _ _ _ _ _ (by omega)).trans ((set2_other _ _ _ (by omega)).trans HF0.out)) ((set4_other _ _ _ _ _ (by omega)).trans ((set2_other _ _ _ (by omega)).trans HF1.out)))
      (first
        | (go_at_call 35
           refine (copyOf_pl vg vu vf vc p b _ (HA.out.below HBX.out.drew) (by have := HP.out.ok.gens; omega) (by have := HP.out.ok.used; omega) (by have := HP.out.ok.free_le; omega) (by have := HP.out.len; omega)).mono ?_
           rintro e w7 ⟨v1, v2, v3, v4, rfl, hpa7, hb7⟩
           obtain ⟨pg7, cg7, pu7, cu7, pf7, cf7, pc7, cc7, rfl, rfl, rfl, rfl⟩ := hpa7.form
           have HPA7 := Lib.hid hpa7
           have HB7 := Lib.hid hb7
           have HF0 := Lib.hid ((hb7.block _ (by show w.heap.size < w1.heap.size; omega)).trans HE0.out)
           have HF1 := Lib.hid ((hb7.block _ (by show w.heap.size + 1 < w1.heap.size; omega)).trans HE1.out)
           have HF2 := Lib.hid ((hb7.block _ (by show w.heap.size + 1 + 1 < w1.heap.size; omega)).trans HE2.out)
           have HF3 := Lib.hid ((hb7.block _ (by show w.heap.size + 1 + 1 + 1 < w1.heap.size; omega)).trans HE3.out)
           obtain ⟨d0, d1, d2, d3, y0, y1, y2, y3⟩ := block4 HF2.out
           obtain ⟨g0, g1, z0, z1⟩ := block2f HF3.out
           clear hpa7 hb7))
    all_goals
      go_wp2
      have hB7s : w.heap.size + 4 ≤ w7.heap.size := by have := HB7.out.size; have h2 : w1.drew.heap.size = w1.heap.size := rfl; omega
      refine bodyPost_ret (v := .tuple #[.agg #[.slice pg7 p.st.gens.length cg7, .slice pu7 p.st.used.length cu7, .slice pf7 p.st.free.length cf7, .slice pc7 p.ch.length cc7], .agg #[.int .u64 root, .int .i64 size], .slice none 0 0, .int .i64 30]) (by simp [results, Try.results29, go_sem, d0, d1, d2, d3, g0, g1]) rfl ⟨_, _, _, _, _, rfl, ?_, World.ownsRow_nil _ _ _ _, ?_⟩
      · exact PA.drop ((PA.set4 HPA7.out (by show w.heap.size + 1 + 1 < w1.heap.size; omega) _ _ _ _).set2 (by show w.heap.size + 1 + 1 + 1 < w1.heap.size; omega) _ _) (by show w.heap.size ≤ w1.heap.size; omega)
      · exact below_set2 (below_set4 (HBX.out.trans ((Below.refl _ w1).drew.trans HB7.out |>.mono (show w.heap.size ≤ w1.heap.size by omega))) (by omega) _ _ _ _) (by omega) _ _
  · have HB1 : Hid (Below (w.heap.size + 4) W w1) := Lib.hid (hb1.mono (by have := HW.out.2.1; omega))
    have HC := Lib.hid (HLL.out l hd)
    have hTe : T = p.change ⟨root, size⟩ (l.set i.toNat x) := by
      rw [← HT.out, hd]
    clear HT
    have HOL := Lib.hid hol
    obtain ⟨pl, cl, rfl, -, -, -⟩ := own_form hol
    have hsw := HW.out.2.1
    have hs1 := hb1.size
    clear hd hb1 hol x0 x1 x2 x3 u0 u1
    have HE0 : Hid (w1.heap[w.heap.size]? = some (.cells #[vg, vu, vf, vc] 31 (0, 0))) := Lib.hid ((HB1.out.block _ (by omega)).trans HW.out.2.2.1)
    have HE1 : Hid (w1.heap[w.heap.size + 1]? = some (.cells #[.int .u64 root, .int .i64 size] 43 (0, 0))) := Lib.hid ((HB1.out.block _ (by omega)).trans HW.out.2.2.2.1)
    have HE2 : Hid (w1.heap[w.heap.size + 1 + 1]? = some (.cells #[.slice none 0 0, .slice none 0 0, .slice none 0 0, .slice none 0 0] 31 (0, 0))) := Lib.hid ((HB1.out.block _ (by omega)).trans HW.out.2.2.2.2.1)
    have HE3 : Hid (w1.heap[w.heap.size + 1 + 1 + 1]? = some (.cells #[.int .u64 0, .int .i64 0] 43 (0, 0))) := Lib.hid ((HB1.out.block _ (by omega)).trans HW.out.2.2.2.2.2)
    have HE0d : Hid (w1.drew.heap[w.heap.size]? = some (.cells #[vg, vu, vf, vc] 31 (0, 0))) := Lib.hid HE0.out
    have HE1d : Hid (w1.drew.heap[w.heap.size + 1]? = some (.cells #[.int .u64 root, .int .i64 size] 43 (0, 0))) := Lib.hid HE1.out
    have HBw : Hid (Below w.heap.size w w1) := Lib.hid (HW.out.1.trans (HB1.out.mono (by omega)))
    obtain ⟨x0, x1, x2, x3, -⟩ := block4 HE0.out
    obtain ⟨u0, u1⟩ := block2 HE1.out
    have hTU := setF_any kx ki i.toNat W.heap.size x l _ w1.drew ((HBw.out.cell (p := ⟨kx, 0, none⟩) (World.block_lt_of_cell? w _ hkx)).trans hkx) ((HBw.out.cell (p := ⟨ki, 0, none⟩) (World.block_lt_of_cell? w _ hki)).trans (by rw [hki, Int.toNat_of_nonneg hi])) HOL.out.drew HC.out.1
    have hNL : (l.set i.toNat x).length ≤ 1000 ∧ U64 (l.set i.toNat x) := set_nl HC.out.2
    have HCH0 := fun (w2 : World) (v2 : Value) (hB : Below w.heap.size w w2) (hO : w2.ownsRow W.heap.size 41 1 v2 (l.set i.toNat x).length (gvs (l.set i.toNat x))) => change_any root size (l.set i.toNat x) v2 W.heap.size vg vu vf vc p b n G w2 (HA.out.below hB) HP.out hO hNL.1 hNL.2 h0 h1 hs hG hn0
    rw [← hTe] at HCH0
    generalize l.set i.toNat x = nl at *
    have HTU := Lib.hid hTU
    have HCH := Lib.hid HCH0
    clear hTU hNL HCH0 hTe
    go_wp2_with fail
    go_region_held3 (fun w' => w'.cell? ⟨w.heap.size, 0, none⟩ = some vg ∧ w'.cell? ⟨w.heap.size, 1, none⟩ = some vu ∧ w'.cell? ⟨w.heap.size, 2, none⟩ = some vf ∧ w'.cell? ⟨w.heap.size, 3, none⟩ = some vc ∧ w'.cell? ⟨w.heap.size + 1, 0, none⟩ = some (.int .u64 root) ∧ w'.cell? ⟨w.heap.size + 1, 1, none⟩ = some (.int .i64 size))
      (first
        | with_reducible exact HCV.out _ HE0.out HE1.out
        | with_reducible exact HCV.out _ HE0d.out HE1d.out
        | with_reducible exact HCV.out _ HF0.out HF1.out
        | with_reducible exact HCV.out _ HI0.out HI1.out
        | with_reducible exact HCV.out _ ((set4_other _ _ _ _ _ (by omega)).trans HI0.out) ((set4_other _ _ _ _ _ (by omega)).trans HI1.out)
        | with_reducible exact HCV.out _ ((set2_other _ _ _ (by omega)).trans HI0.out) ((set2_other _ _ _ (by omega)).trans HI1.out)
        | with_reducible exact HCV.out _ ((set2_other _ _ _ (by omega)).trans ((set4_other _ _ _ _ _ (by omega)).trans HI0.out)) ((set2_other _ _ _ (by omega)).trans ((set4_other _ _ _ _ _ (by omega)).trans HI1.out))
        | with_reducible exact HCV.out _ ((set4_other _ _ _ _ _ (by omega)).trans ((set2_other _ _ _ (by omega)).trans HI0.out)) ((set4_other _ _ _ _ _ (by omega)).trans ((set2_other _ _ _ (by omega)).trans HI1.out)))
      (first
        | (go_at_call 30
           refine HTU.out.mono ?_
           rintro e w2 ⟨v2, rfl, ho2, hb2⟩
           obtain ⟨q2, c2, rfl, -, -, -⟩ := own_form ho2
           have HO2 := Lib.hid ho2
           have HB2 : Hid (Below W.heap.size w1 w2) := Lib.hid ((Below.refl _ w1).drew.trans hb2)
           have HBw2 : Hid (Below w.heap.size w w2) := Lib.hid (HBw.out.trans (HB2.out.mono (by omega)))
           have HF0 := Lib.hid ((HB2.out.block w.heap.size (by omega)).trans HE0.out)
           have HF1 := Lib.hid ((HB2.out.block (w.heap.size + 1) (by omega)).trans HE1.out)
           have hs2 := HB2.out.size
           clear ho2 hb2)
        | (go_at_call 14
           refine (HCH.out _ _ HBw2.out HO2.out).mono ?_
           rintro e w3 ⟨v3, v4, v5, v6, v7, rfl, hpa3, hol3, hb3⟩
           obtain ⟨pg7, cg7, pu7, cu7, pf7, cf7, pc7, cc7, rfl, rfl, rfl, rfl⟩ := hpa3.form
           obtain ⟨p8, c8, rfl, -, -, -⟩ := own_form hol3
           have HPA7 := Lib.hid hpa3
           have HO8 := Lib.hid hol3
           have HB7 := Lib.hid hb3
           have HI0 := Lib.hid ((hb3.block _ (by omega)).trans HF0.out)
           have HI1 := Lib.hid ((hb3.block _ (by omega)).trans HF1.out)
           have HI2 := Lib.hid ((hb3.block _ (by omega)).trans ((HB2.out.block (w.heap.size + 1 + 1) (by omega)).trans HE2.out))
           have HI3 := Lib.hid ((hb3.block _ (by omega)).trans ((HB2.out.block (w.heap.size + 1 + 1 + 1) (by omega)).trans HE3.out))
           obtain ⟨d0, d1, d2, d3, y0, y1, y2, y3⟩ := block4 HI2.out
           obtain ⟨g0, g1, z0, z1⟩ := block2f HI3.out
           have hs3 := hb3.size
           clear hpa3 hol3 hb3))
    all_goals
      go_wp2
      refine bodyPost_ret (v := .tuple #[.agg #[.slice pg7 T.p.st.gens.length cg7, .slice pu7 T.p.st.used.length cu7, .slice pf7 T.p.st.free.length cf7, .slice pc7 T.p.ch.length cc7], .agg #[.int .u64 T.v.root, .int .i64 T.v.size], .slice p8 T.gone.length c8, .int .i64 T.e]) (by simp [results, Try.results29, go_sem, d0, d1, d2, d3, g0, g1]) rfl ⟨_, _, _, _, _, rfl, ?_, ?_, ?_⟩
      · exact PA.drop ((PA.set4 HPA7.out (by omega) _ _ _ _).set2 (by omega) _ _) (by omega)
      · exact own_drop (own_set2 (own_set4 HO8.out (by omega) _ _ _ _) (by omega) _ _) (by omega)
      · exact below_set2 (below_set4 (HBw2.out.trans (HB7.out.mono (by omega))) (by omega) _ _ _ _) (by omega) _ _

end Go.Proofs.Ytbldjlkofaiikaa
