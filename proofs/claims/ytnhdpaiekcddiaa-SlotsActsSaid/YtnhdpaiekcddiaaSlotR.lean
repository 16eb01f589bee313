/-
  The law SlotsFull, at any input.
-/
import Derived.Test.YtnhdpaiekcddiaaSlotQ
namespace Go.Proofs.Ytnhdpaiekcddiaa
open Go.ChangeShapes Go.WideShapes Go.ChangeAt Go.RowKit
set_option linter.unusedVariables false

/-- An arena of n slots of which the first k are taken. -/
def full (n k : Nat) : St := ⟨List.replicate n 1, List.replicate k true ++ List.replicate (n - k) false, (downs n).take (n - k)⟩
theorem full_zero (n : Nat) : full n 0 = fresh n := by
  unfold full fresh
  rw [List.take_of_length_le (by rw [downs_length]; omega)]
  simp
theorem downs_at : ∀ {n j : Nat} (h : j < (downs n).length), (downs n)[j] = ((n - 1 - j : Nat) : Int)
  | 0, j, h => by simp [downs] at h
  | n + 1, 0, h => by simp [downs]
  | n + 1, j + 1, h => by
    simp only [downs, List.getElem_cons_succ]
    rw [downs_at]
    congr 1
    omega
theorem full_free {n k : Nat} (h : k < n) : (full n k).free = (downs n).take (n - k - 1) ++ [(k : Int)] := by
  show (downs n).take (n - k) = _
  obtain ⟨d, hd⟩ : ∃ d, n - k = d + 1 := ⟨n - k - 1, by omega⟩
  rw [hd, List.take_succ_eq_append_getElem (by rw [downs_length]; omega), downs_at]
  congr 3
  omega
theorem full_tk {n k : Nat} (h : k < n) : (full n k).tk k = full n (k + 1) := by
  have hf := full_free h
  unfold St.tk
  rw [hf, List.dropLast_concat]
  show St.mk (List.replicate n 1) ((List.replicate k true ++ List.replicate (n - k) false).set k true) _ = St.mk _ _ _
  congr 1
  · obtain ⟨d, hd⟩ : ∃ d, n - k = d + 1 := ⟨n - k - 1, by omega⟩
    rw [hd, show n - (k + 1) = d by omega, List.set_append_right k true (by simp), List.length_replicate, Nat.sub_self, List.replicate_succ, List.set_cons_zero, List.replicate_succ' (n := k)]
    simp
theorem full_ok {n : Nat} (hn : n ≤ 500) : ∀ {k : Nat}, k ≤ n → Ok n 1 (full n k)
  | 0, _ => by rw [full_zero]; exact fresh_ok hn
  | k + 1, h => by
    rw [← full_tk (by omega)]
    exact (full_ok hn (by omega)).tk (full_free (by omega))
theorem full_gen {n k i : Nat} (h : i < n) : (full n k).gens.getD i 0 = 1 := by
  show (List.replicate n (1 : Int)).getD i 0 = 1
  rw [getD_replicate, if_pos h]
theorem full_none (n : Nat) : (full n n).free = [] := by
  show (downs n).take (n - n) = []
  rw [Nat.sub_self]; rfl
theorem full_al (n : Nat) : ((full n n).al n).length = n := by
  rw [al_count]
  show ((List.replicate n true ++ List.replicate (n - n) false).take n).count true = n
  rw [Nat.sub_self, List.replicate_zero, List.append_nil, List.take_of_length_le (by simp)]
  simp
theorem sameB_refl (s : St) : sameB s s = true := by simp [sameB]

set_option maxHeartbeats 4000000 in
theorem full_law (a0 : Int) (w0 : (Lit.int .u8 a0).wf = true) (w : World) :
    Calls Try.prog 7 #[.int .u8 a0] w (GivesV (.bool true) w) := by
  obtain ⟨l0, u0⟩ := u8_wf w0
  clear w0
  obtain ⟨n, rfl⟩ := Int.eq_ofNat_of_zero_le l0
  have hn : n ≤ 255 := by omega
  go_enter Try.func7, Try.ntmps7
  go_wp2_with fail
  refine (new_ok n _ (by omega)).mono ?_
  rw [← full_zero]
  rintro e w1 ⟨v1, v2, v3, rfl, hA, hb⟩
  obtain ⟨pg, cg, pu, cu, pf, cf, rfl, rfl, rfl⟩ := hA.form
  have hsz := hb.size
  have HB1 := Lib.hid hb
  have HX := Lib.hid (Box.new 29 hA)
  clear hA hb
  go_wp2_with fail
  obtain ⟨V, hV⟩ : ∃ V, V = w1.alloc (.cells #[.slice pg (full n 0).gens.length cg, .slice pu (full n 0).used.length cu, .slice pf (full n 0).free.length cf] 29) := ⟨_, rfl⟩
  have HBV : Hid (Below w.heap.size w V) := Lib.hid (by subst hV; exact HB1.out.alloc HB1.out.size _)
  rw [← hV] at HX ⊢
  clear hV
  obtain ⟨k, hk⟩ : ∃ k, k = w1.heap.size := ⟨_, rfl⟩
  rw [← hk] at HX hsz ⊢
  clear hk HB1
  go_loopw [6] (fun i wr => ∃ (q : Nat) (pg : Option Addr) (cg : Nat) (pu : Option Addr) (cu : Nat) (pf : Option Addr) (cf : Nat), q ≤ n ∧ i = .int .i64 q ∧ Hid (Box 29 wr k pg cg pu cu pf cf (full n q)) ∧ Hid (Below w.heap.size w wr)) (fun i _ => n - (intOf i).toNat)
  case atStart => exact ⟨0, pg, cg, pu, cu, pf, cf, Nat.zero_le _, rfl, HX, HBV⟩
  case round =>
    clear HX HBV
    obtain ⟨q, pg, cg, pu, cu, pf, cf, hq, rfl, HX, HBV⟩ := hrel
    obtain ⟨c0, c1, c2, z0, z1, z2⟩ := block3 HX.out.blk
    by_cases hlt : q < n
    · have HT : Hid ((full n q).tk q = full n (q + 1)) := Lib.hid (full_tk hlt)
      go_wp2_with fail
      refine (takeO (full_ok (by omega) (by omega)) (by omega) HX.out.ar (full_free hlt) hlt).mono ?_
      rw [HT.out, full_gen hlt]
      rintro e w2 ⟨v1, v2, v3, rfl, hA, hb⟩
      obtain ⟨pg2, cg2, pu2, cu2, pf2, cf2, rfl, rfl, rfl⟩ := hA.form
      have HX2 := Lib.hid (Box.new 29 hA)
      have HXk := Lib.hid (HX.out.below hb)
      have HB2 := Lib.hid (HBV.out.trans (hb.mono HBV.out.size))
      clear hA hb
      obtain ⟨H, hH⟩ : ∃ H, hd q 1 = H := ⟨_, rfl⟩
      have hb1 : (H % 16777216 != (q : Int)) = false := by rw [← hH, hd_index (by omega)]; simp
      have h0 : 0 ≤ H := by rw [← hH]; unfold hd; omega
      have h1 : H ≤ 18446744073709551615 := by rw [← hH]; unfold hd; omega
      rw [hH]
      clear hH
      go_upto_region 7 with fail
      obtain ⟨V2, hV⟩ : ∃ V, V = w2.alloc (.cells #[.slice pg2 (full n (q + 1)).gens.length cg2, .slice pu2 (full n (q + 1)).used.length cu2, .slice pf2 (full n (q + 1)).free.length cf2] 29) := ⟨_, rfl⟩
      have HBV2 : Hid (Below w.heap.size w V2) := Lib.hid (by subst hV; exact HB2.out.alloc HB2.out.size _)
      have HXV : Hid (Box 29 V2 k pg cg pu cu pf cf (full n q)) := Lib.hid (by subst hV; exact HXk.out.below ((Below.refl _ _).alloc (Nat.le_refl _) _))
      rw [← hV] at HX2 ⊢
      clear hV c0 c1 c2 z0 z1 z2
      obtain ⟨x0, x1, x2, _, _, _⟩ := block3 HX2.out.blk
      obtain ⟨c0, c1, c2, z0, z1, z2⟩ := block3 HXV.out.blk
      go_wp2
      go_roundw
      case rel => exact ⟨q + 1, pg2, cg2, pu2, cu2, pf2, cf2, by omega, by go_num, Lib.hid (Box.set HXV.out.blk HX2.out.ar (by decide) (by decide) (by decide)), Lib.hid (below_set3 HBV2.out hsz _ _ _)⟩
      case measure => simp [intOf] <;> omega
    · obtain rfl : q = n := by omega
      have HO := Lib.hid (full_ok (n := q) (k := q) (by omega) (Nat.le_refl _))
      go_wp2_with fail
      refine (takeN HO.out HX.out.ar (full_none q)).mono ?_
      rintro e w2 ⟨v1, v2, v3, rfl, hA, hb⟩
      obtain ⟨pg2, cg2, pu2, cu2, pf2, cf2, rfl, rfl, rfl⟩ := hA.form
      have HX2 := Lib.hid (Box.new 29 hA)
      have HXk := Lib.hid (HX.out.below hb)
      have HB2 := Lib.hid (HBV.out.trans (hb.mono HBV.out.size))
      clear hA hb
      go_wp2_with fail
      obtain ⟨V2, hV⟩ : ∃ V, V = w2.alloc (.cells #[.slice pg2 (full q q).gens.length cg2, .slice pu2 (full q q).used.length cu2, .slice pf2 (full q q).free.length cf2] 29) := ⟨_, rfl⟩
      have HBV2 : Hid (Below w.heap.size w V2) := Lib.hid (by subst hV; exact HB2.out.alloc HB2.out.size _)
      have HXV : Hid (Box 29 V2 k pg cg pu cu pf cf (full q q)) := Lib.hid (by subst hV; exact HXk.out.below ((Below.refl _ _).alloc (Nat.le_refl _) _))
      rw [← hV] at HX2 ⊢
      clear hV c0 c1 c2 z0 z1 z2
      have HCV : Hid (∀ w', Below V2.heap.size V2 w' → w'.cell? ⟨w2.heap.size, 0, none⟩ = some (.slice pg2 (full q q).gens.length cg2) ∧ w'.cell? ⟨w2.heap.size, 1, none⟩ = some (.slice pu2 (full q q).used.length cu2) ∧ w'.cell? ⟨w2.heap.size, 2, none⟩ = some (.slice pf2 (full q q).free.length cf2) ∧
          w'.cell? ⟨k, 0, none⟩ = some (.slice pg (full q q).gens.length cg) ∧ w'.cell? ⟨k, 1, none⟩ = some (.slice pu (full q q).used.length cu) ∧ w'.cell? ⟨k, 2, none⟩ = some (.slice pf (full q q).free.length cf)) := Lib.hid (fun w' hb => by
        obtain ⟨x0, x1, x2, _, _, _⟩ := block3 (HX2.out.below hb).blk
        obtain ⟨c0, c1, c2, z0, z1, z2⟩ := block3 (HXV.out.below hb).blk
        exact ⟨x0, x1, x2, c0, c1, c2⟩)
      have hg5 := HO.out.gens
      have hu5 := HO.out.used
      have hf5 := HO.out.free_le
      have HL5 := Lib.hid (And.intro hg5 (And.intro hu5 hf5))
      clear hg5 hu5 hf5
      have HAL := Lib.hid (full_al q)
      have HS1 := Lib.hid (sameB_refl (full q q))
      obtain ⟨F, hF⟩ : ∃ F, full q q = F := ⟨_, rfl⟩
      rw [hF] at HO HX2 HXV HCV HL5 HAL HS1 ⊢
      clear hF
      go_region_held3 (fun w' => w'.cell? ⟨w2.heap.size, 0, none⟩ = some (.slice pg2 F.gens.length cg2) ∧ w'.cell? ⟨w2.heap.size, 1, none⟩ = some (.slice pu2 F.used.length cu2) ∧ w'.cell? ⟨w2.heap.size, 2, none⟩ = some (.slice pf2 F.free.length cf2) ∧
          w'.cell? ⟨k, 0, none⟩ = some (.slice pg F.gens.length cg) ∧ w'.cell? ⟨k, 1, none⟩ = some (.slice pu F.used.length cu) ∧ w'.cell? ⟨k, 2, none⟩ = some (.slice pf F.free.length cf))
        (first
          | exact HCV.out _ (Below.refl _ _).drew
          | exact HCV.out _ HB7.out
          | exact HCV.out _ HB6.out
          | exact HCV.out _ HB5.out
          | exact HCV.out _ HB4.out
          | exact HCV.out _ HB3.out)
        (first
          | (go_at_call 12
             refine (its_any _ _ _ F 0 _ HX2.out.ar.drew).mono ?_
             rintro e w3 ⟨rfl, hb3⟩
             have HB3 : Hid (Below V2.heap.size V2 w3) := Lib.hid ((Below.refl _ _).drew.trans hb3)
             clear hb3)
          | (go_at_call 12
             refine (its_any _ _ _ F 0 _ (HXV.out.ar.below HB3.out)).mono ?_
             rintro e w4 ⟨rfl, hb4⟩
             have HB4 : Hid (Below V2.heap.size V2 w4) := Lib.hid (HB3.out.trans (hb4.mono HB3.out.size))
             clear hb4)
          | (go_at_call 11
             refine (same_any _ _ _ _ _ _ F F 0 0 _ (HX2.out.ar.below HB4.out) (HXV.out.ar.below HB4.out) (by have := HL5.out.1; omega) (by have := HL5.out.1; omega) (by have := HL5.out.2.1; omega) (by have := HL5.out.2.1; omega) (by have := HL5.out.2.2; omega) (by have := HL5.out.2.2; omega)).mono ?_
             rw [HS1.out]
             rintro e w5 ⟨rfl, hb5⟩
             have HB5 : Hid (Below V2.heap.size V2 w5) := Lib.hid (HB4.out.trans (hb5.mono HB4.out.size))
             clear hb5)
          | (go_at_call 19
             refine (allO HO.out (by omega) (HXV.out.ar.below HB5.out)).mono ?_
             rintro e w6 ⟨v6, rfl, ho6, hb6⟩
             obtain ⟨p6, c6, rfl, _, _, _⟩ := own_form ho6
             rw [gvs_length, HAL.out]
             have HB6 : Hid (Below V2.heap.size V2 w6) := Lib.hid (HB5.out.trans (hb6.mono HB5.out.size))
             clear hb6 ho6)
          | (go_at_call 8
             refine (shown_any _).mono ?_
             rintro e w7 ⟨rfl, hb7⟩
             have HB7 : Hid (Below V2.heap.size V2 w7) := Lib.hid (HB6.out.trans (hb7.mono HB6.out.size))
             clear hb7))
      go_wp2
      go_ret
      exact ⟨rfl, HBV2.out.trans (HB7.out.mono HBV2.out.size)⟩
end Go.Proofs.Ytnhdpaiekcddiaa
