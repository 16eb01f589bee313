/-
  The handles of all that are taken: the program's, and the document's own.
-/
import Derived.Test.YtnlnfkjjfbgceaaSlotF
namespace Go.Proofs.Ytnlnfkjjfbgceaa
open Go.ChangeShapes Go.WideShapes Go.ChangeAt Go.RowKit
set_option linter.unusedVariables false

theorem al_length (s : St) : ∀ k, (s.al k).length ≤ k
  | 0 => Nat.le_refl _
  | k + 1 => by
    have := al_length s k
    unfold St.al
    split <;> simp <;> omega
theorem al_yes {s : St} {k : Nat} (h : s.used.getD k false = true) : s.al (k + 1) = s.al k ++ [hd k (s.gens.getD k 0)] := by rw [St.al, if_pos h]
theorem al_no {s : St} {k : Nat} (h : s.used.getD k false = false) : s.al (k + 1) = s.al k := by rw [St.al, if_neg (by rw [h]; decide)]

set_option maxHeartbeats 2000000 in
theorem refall_any (vg vu vf : Value) (s : St) (b0 : Nat) (w : World) (hA : Ar w b0 vg vu vf s) (hl : s.gens.length ≤ 1000) (hlu : s.used.length = s.gens.length) (hgb : ∀ i, i < s.gens.length → 0 ≤ s.gens.getD i 0 ∧ s.gens.getD i 0 ≤ 1099511627775) :
    Calls Try.prog 29 #[.agg #[vg, vu, vf]] w (GivesRow 41 (gvs (s.al s.gens.length)) w) := by
  obtain ⟨pg, cg, rfl, _, _, _⟩ := own_form hA.g
  obtain ⟨pu, cu, rfl, _, _, _⟩ := own_form hA.u
  obtain ⟨pf, cf, rfl, _, _, _⟩ := own_form hA.f
  have HA := Lib.hid hA
  have HGB := Lib.hid hgb
  clear hA hgb
  obtain ⟨n, hn⟩ : ∃ n, s.gens.length = n := ⟨_, rfl⟩
  rw [hn] at hlu hl
  rw [hlu, hn] at HA ⊢
  rw [hn] at HGB
  have HN := Lib.hid hn
  have HL := Lib.hid hlu
  clear hn hlu
  obtain ⟨i0, hi0, hz0, hz1, hz2⟩ := info_parts info_G
  have hI := Lib.hid hi0
  have hZ0 := Lib.hid hz0
  have hZ1 := Lib.hid hz1
  have hZ2 := Lib.hid hz2
  clear hi0 hz0 hz1 hz2
  obtain ⟨W, hW⟩ : ∃ W, W = w.alloc (.cells #[.slice pg n cg, .slice pu n cu, .slice pf s.free.length cf] 35) := ⟨_, rfl⟩
  have HW : Hid (Below w.heap.size w W ∧ W.heap[w.heap.size]? = some (.cells #[.slice pg n cg, .slice pu n cu, .slice pf s.free.length cf] 35 (0, 0)) ∧ W.heap.size = w.heap.size + 1) := Lib.hid (by
    subst hW; exact ⟨(Below.refl _ w).alloc (Nat.le_refl _) _, heap_alloc_new w _, by simp⟩)
  have HWE := Lib.hid hW
  have HAW := Lib.hid (HA.out.below HW.out.1)
  have HSW := Lib.hid HW.out.2.2
  clear hW
  go_enter Try.func29, Try.ntmps29
  go_wp2_with fail
  rw [← HWE.out]
  go_loopw [3, 4] (fun l i wr => ∃ (k : Nat) (p : Option Addr) (cap : Nat), k ≤ n ∧ i = .int .i64 k ∧ l = .slice p (s.al k).length cap ∧
      Hid (wr.ownsRow (w.heap.size + 1) 41 1 (.slice p (s.al k).length cap) (s.al k).length (gvs (s.al k))) ∧ Hid (Below (w.heap.size + 1) W wr)) (fun _ i _ => n - (intOf i).toNat)
  case atStart =>
    have hm := World.ownsRow_made (e := 41) (size := 1) (base := w.heap.size + 1) W #[] 0 (by have := HSW.out; omega) (by simp [maxLen]) rfl
    refine ⟨0, _, _, Nat.zero_le _, rfl, rfl, Lib.hid ?_, Lib.hid ((Below.refl _ W).alloc (by have := HSW.out; omega) _)⟩
    first | exact hm | (rw [HSW.out] at hm; exact hm)
  case round =>
    obtain ⟨k, p, cap, hk, rfl, rfl, HO, HB⟩ := hrel
    have hal := al_length s k
    have HAr := Lib.hid (HAW.out.below (HB.out.mono (by rw [HSW.out]; exact Nat.le_refl _)))
    have HKr : Hid (wr.heap[w.heap.size]? = some (.cells #[.slice pg n cg, .slice pu n cu, .slice pf s.free.length cf] 35 (0, 0))) := Lib.hid ((HB.out.block _ (by omega)).trans HW.out.2.1)
    obtain ⟨c0, c1, c2, z0, z1, z2⟩ := block3 HKr.out
    have hBs : w.heap.size + 1 ≤ wr.heap.size := by have := HB.out.size; have := HSW.out; omega
    by_cases hlt : k < n
    · have k0 : (0 : Int) ≤ (k : Int) := by omega
      have k1 : (k : Int) < (n : Int) := by omega
      obtain ⟨gg, rfl, _, hgg⟩ := own_some (n := n) (by have := HAr.out.g; rw [HN.out] at this; exact this) (by omega)
      obtain ⟨gu, rfl, _, hgu⟩ := own_some (n := n) (by have := HAr.out.u; rw [HL.out] at this; exact this) (by omega)
      have cg0 := own_at_gen (i := k) (n := n) (by have := HAr.out.g; rw [HN.out] at this; exact this) hlt
      have cu0 := own_at_bool (i := k) (n := n) (by have := HAr.out.u; rw [HL.out] at this; exact this) hlt
      rcases Bool.eq_false_or_eq_true (s.used.getD k false) with hu | hu
      · rw [hu] at cu0
        have HE := Lib.hid (al_yes hu)
        clear hu
        obtain ⟨G, hG⟩ : ∃ G, s.gens.getD k 0 = G := ⟨_, rfl⟩
        obtain ⟨g0, g1⟩ := HGB.out k hlt
        rw [hG] at cg0 g0 g1 HE
        have HGe := Lib.hid hG
        clear hG
        go_wp2_with fail
        refine (refof_in k G _ (by omega) (by omega) g0 g1).mono ?_
        rintro e w3 ⟨rfl, rfl⟩
        go_wp2_with (at_builtin; refine wpList_append_own_at _ rfl _ _ 24 rfl (w.heap.size + 1) 41 i0 (.int .u64 0) 1 8 Try.underlying24 hI.out hZ0.out hZ1.out hZ2.out rfl (by decide) _ _ _ rfl (HO.out.alloc _) ⟨wr.heap.size, 0, none⟩ 1 1 [.int .u64 (G * 16777216 + k)] rfl rfl (cell_one_new _ _ _) (by simp [Value.oneCell']) (by unfold maxLen; omega) (by omega) (by simp; omega) ?_; intro v' w4 hown' hgrow _ hat; obtain ⟨g', cap', rfl⟩ := own_succ hown'
                     have HO' := Lib.hid hown'
                     have HGR := Lib.hid hgrow
                     clear hown' hgrow hat)
        go_roundw
        case rel =>
          refine ⟨k + 1, some ⟨g', 0, none⟩, cap', by omega, by go_num, ?_, Lib.hid ?_, Lib.hid ?_⟩
          · rw [HE.out, List.length_append]; rfl
          · rw [HE.out, List.length_append, gvs, List.map_append]; exact HO'.out
          · exact (HB.out.alloc (by omega) _).grown HGR.out (by simp; omega) (fun q e => (HO.out.lt q e).1)
        case measure => simp [intOf] <;> omega
      · rw [hu] at cu0
        have HE := Lib.hid (al_no hu)
        clear hu
        go_wp2
        go_roundw
        case rel => exact ⟨k + 1, p, cap, by omega, by go_num, by rw [HE.out], Lib.hid (by rw [HE.out]; exact HO.out), HB⟩
        case measure => simp [intOf] <;> omega
    · obtain rfl : k = n := by omega
      go_wp2
      go_ret
      refine ⟨_, rfl, ?_, HW.out.1.trans (HB.out.mono (by omega))⟩
      rw [gvs_length]
      exact own_drop HO.out (by omega)
end Go.Proofs.Ytnlnfkjjfbgceaa
