/-
  The handle of a slot; whether a handle is live; those that are: the program's, and the document's own.
-/
import Derived.Test.YtbldjlkofaiikaaSlotE
namespace Go.Proofs.Ytbldjlkofaiikaa
open Go.ChangeShapes Go.WideShapes Go.ChangeAt Go.RowKit
set_option linter.unusedVariables false

/-- A value is handed back; nothing that lay there has turned. -/
def GivesV (v : Value) (w : World) (en : Ending) (w' : World) : Prop := en = .returned v ∧ Below w.heap.size w w'

set_option maxHeartbeats 400000 in
theorem handle_any (i : Nat) (G : Int) (vg vu vf : Value) (s : St) (b0 : Nat) (w : World) (hA : Ar w b0 vg vu vf s) (hi : i < s.gens.length) (hl : s.gens.length ≤ 1000) (hG : s.gens.getD i 0 = G) (g0 : 0 ≤ G) (g1 : G ≤ 1099511627775) :
    Calls Try.prog 88 #[.agg #[vg, vu, vf], .int .i64 i] w (GivesV (.int .u64 (hd i G)) w) := by
  obtain ⟨pg, cg, rfl, _, _, _⟩ := own_form hA.g
  obtain ⟨pu, cu, rfl, _, _, _⟩ := own_form hA.u
  obtain ⟨pf, cf, rfl, _, _, _⟩ := own_form hA.f
  obtain ⟨gg, rfl, _, hgg⟩ := own_some hA.g (by omega)
  have cg0 := own_at_gen hA.g hi
  rw [hG] at cg0
  have HA := Lib.hid hA
  have HG := Lib.hid hG
  clear hA hG
  have i0 : (0 : Int) ≤ (i : Int) := by omega
  have i1 : (i : Int) < (s.gens.length : Int) := by omega
  have ne : gg ≠ w.heap.size := by omega
  go_enter Try.func88, Try.ntmps88
  go_wp2_with fail
  refine (of_in _ _ _ (by omega) (by omega) g0 g1).mono ?_
  rintro e w' ⟨rfl, rfl⟩
  go_wp2
  go_ret
  exact ⟨rfl, (Below.refl _ w).alloc (Nat.le_refl _) _⟩
theorem lv_out {s : St} {h : Int} (hi : s.used.length ≤ (h % 16777216).toNat) : s.lv h = false := by
  unfold St.lv
  rw [List.getD, List.getElem?_eq_none hi]
  rfl
theorem lv_free {s : St} {h : Int} (hi : s.used.getD (h % 16777216).toNat false = false) : s.lv h = false := by
  unfold St.lv
  rw [hi]
  rfl
theorem lv_used {s : St} {h : Int} (hi : s.used.getD (h % 16777216).toNat false = true) : s.lv h = (s.gens.getD (h % 16777216).toNat 0 == h / 16777216) := by
  unfold St.lv
  rw [hi]
  rfl

set_option maxHeartbeats 1000000 in
theorem live_any (h : Int) (vg vu vf : Value) (s : St) (b0 : Nat) (w : World) (hA : Ar w b0 vg vu vf s) (h0 : 0 ≤ h) (h1 : h ≤ 18446744073709551615) (hl : s.gens.length ≤ 1000) (hlu : s.used.length = s.gens.length) :
    Calls Try.prog 58 #[.agg #[vg, vu, vf], .int .u64 h] w (GivesV (.bool (s.lv h)) w) := by
  obtain ⟨i, hi⟩ : ∃ i : Nat, h % 16777216 = i := ⟨(h % 16777216).toNat, by omega⟩
  have hin : (h % 16777216).toNat = i := by omega
  have hib : i ≤ 16777215 := by omega
  obtain ⟨pg, cg, rfl, _, _, _⟩ := own_form hA.g
  obtain ⟨pu, cu, rfl, _, _, _⟩ := own_form hA.u
  obtain ⟨pf, cf, rfl, _, _, _⟩ := own_form hA.f
  have HA := Lib.hid hA
  clear hA
  obtain ⟨W, hW⟩ : ∃ W, W = w.alloc (.cells #[.slice pg s.gens.length cg, .slice pu s.used.length cu, .slice pf s.free.length cf] 28) := ⟨_, rfl⟩
  have HW : Hid (Below w.heap.size w W ∧ W.heap[w.heap.size]? = some (.cells #[.slice pg s.gens.length cg, .slice pu s.used.length cu, .slice pf s.free.length cf] 28 (0, 0))) := Lib.hid (by
    subst hW; exact ⟨(Below.refl _ w).alloc (Nat.le_refl _) _, heap_alloc_new w _⟩)
  obtain ⟨c0, c1, c2, _, _, _⟩ := block3 HW.out.2
  have HAW := Lib.hid (HA.out.below HW.out.1)
  have i0 : (0 : Int) ≤ (i : Int) := by omega
  have HL := Lib.hid hlu
  have HI := Lib.hid hi
  have HIN := Lib.hid hin
  have HWE := Lib.hid hW
  clear hlu hi hin hW
  by_cases hlt : i < s.gens.length
  · have i1 : (i : Int) < (s.gens.length : Int) := by omega
    have i2 : (i : Int) < (s.used.length : Int) := by have := HL.out; omega
    obtain ⟨gg, rfl, _, hgg⟩ := own_some HAW.out.g (by omega)
    obtain ⟨gu, rfl, _, hgu⟩ := own_some HAW.out.u (by have := HL.out; omega)
    have cg0 := own_at_gen HAW.out.g hlt
    have cu0 := own_at_bool HAW.out.u (show i < s.used.length by have := HL.out; omega)
    rcases Bool.eq_false_or_eq_true (s.used.getD i false) with hu | hu
    · have hv : s.lv h = (s.gens.getD i 0 == h / 16777216) := by have := lv_used (s := s) (h := h); rw [HIN.out] at this; exact this hu
      rw [hu] at cu0
      rw [hv]
      have HV := Lib.hid hv
      have HU := Lib.hid hu
      clear hv hu
      obtain ⟨G, hG⟩ : ∃ G, s.gens.getD i 0 = G := ⟨_, rfl⟩
      rw [hG] at cg0 ⊢
      have HG := Lib.hid hG
      clear hG
      go_enter Try.func58, Try.ntmps58
      go_wp2_with fail
      refine (index_any h _ h0 h1).mono ?_
      rw [HI.out]
      rintro e w' ⟨rfl, rfl⟩
      go_wp2_with fail
      rw [← HWE.out]
      go_quiet ((go_at_call 79; exact still (gen_any _ _ h0 h1)))
      go_wp2
      go_ret
      exact ⟨rfl, below_drewN HW.out.1 _⟩
    · have hv : s.lv h = false := lv_free (by rw [HIN.out]; exact hu)
      rw [hu] at cu0
      rw [hv]
      clear hv hu
      go_enter Try.func58, Try.ntmps58
      go_wp2_with fail
      refine (index_any h _ h0 h1).mono ?_
      rw [HI.out]
      rintro e w' ⟨rfl, rfl⟩
      go_wp2_with fail
      rw [← HWE.out]
      go_quiet ((go_at_call 79; exact still (gen_any _ _ h0 h1)))
      go_wp2
      go_ret
      exact ⟨rfl, below_drewN HW.out.1 _⟩
  · have hd : decide (i < s.gens.length) = false := by simpa using hlt
    have hv : s.lv h = false := lv_out (by rw [HIN.out, HL.out]; omega)
    rw [hv]
    clear hv
    go_enter Try.func58, Try.ntmps58
    go_wp2_with fail
    refine (index_any h _ h0 h1).mono ?_
    rw [HI.out]
    rintro e w' ⟨rfl, rfl⟩
    go_wp2_with fail
    rw [← HWE.out]
    go_quiet ((go_at_call 79; exact still (gen_any _ _ h0 h1)))
    go_wp2
    go_ret
    exact ⟨rfl, below_drewN HW.out.1 _⟩

set_option maxHeartbeats 1000000 in
theorem reflive_any (h : Int) (vg vu vf : Value) (s : St) (b0 : Nat) (w : World) (hA : Ar w b0 vg vu vf s) (h0 : 0 ≤ h) (h1 : h ≤ 18446744073709551615) (hl : s.gens.length ≤ 1000) (hlu : s.used.length = s.gens.length) :
    Calls Try.prog 61 #[.agg #[vg, vu, vf], .int .u64 h] w (GivesV (.bool (s.lv h)) w) := by
  obtain ⟨i, hi⟩ : ∃ i : Nat, h % 16777216 = i := ⟨(h % 16777216).toNat, by omega⟩
  have hin : (h % 16777216).toNat = i := by omega
  have hib : i ≤ 16777215 := by omega
  obtain ⟨pg, cg, rfl, _, _, _⟩ := own_form hA.g
  obtain ⟨pu, cu, rfl, _, _, _⟩ := own_form hA.u
  obtain ⟨pf, cf, rfl, _, _, _⟩ := own_form hA.f
  have HA := Lib.hid hA
  clear hA
  obtain ⟨W, hW⟩ : ∃ W, W = w.alloc (.cells #[.slice pg s.gens.length cg, .slice pu s.used.length cu, .slice pf s.free.length cf] 35) := ⟨_, rfl⟩
  have HW : Hid (Below w.heap.size w W ∧ W.heap[w.heap.size]? = some (.cells #[.slice pg s.gens.length cg, .slice pu s.used.length cu, .slice pf s.free.length cf] 35 (0, 0))) := Lib.hid (by
    subst hW; exact ⟨(Below.refl _ w).alloc (Nat.le_refl _) _, heap_alloc_new w _⟩)
  obtain ⟨c0, c1, c2, _, _, _⟩ := block3 HW.out.2
  have HAW := Lib.hid (HA.out.below HW.out.1)
  have i0 : (0 : Int) ≤ (i : Int) := by omega
  have HL := Lib.hid hlu
  have HI := Lib.hid hi
  have HIN := Lib.hid hin
  have HWE := Lib.hid hW
  clear hlu hi hin hW
  by_cases hlt : i < s.gens.length
  · have i1 : (i : Int) < (s.gens.length : Int) := by omega
    have i2 : (i : Int) < (s.used.length : Int) := by have := HL.out; omega
    obtain ⟨gg, rfl, _, hgg⟩ := own_some HAW.out.g (by omega)
    obtain ⟨gu, rfl, _, hgu⟩ := own_some HAW.out.u (by have := HL.out; omega)
    have cg0 := own_at_gen HAW.out.g hlt
    have cu0 := own_at_bool HAW.out.u (show i < s.used.length by have := HL.out; omega)
    rcases Bool.eq_false_or_eq_true (s.used.getD i false) with hu | hu
    · have hv : s.lv h = (s.gens.getD i 0 == h / 16777216) := by have := lv_used (s := s) (h := h); rw [HIN.out] at this; exact this hu
      rw [hu] at cu0
      rw [hv]
      have HV := Lib.hid hv
      have HU := Lib.hid hu
      clear hv hu
      obtain ⟨G, hG⟩ : ∃ G, s.gens.getD i 0 = G := ⟨_, rfl⟩
      rw [hG] at cg0 ⊢
      have HG := Lib.hid hG
      clear hG
      go_enter Try.func61, Try.ntmps61
      go_wp2_with fail
      refine (refindex_any h _ h0 h1).mono ?_
      rw [HI.out]
      rintro e w' ⟨rfl, rfl⟩
      go_wp2_with fail
      rw [← HWE.out]
      go_quiet ((go_at_call 81; exact still (refgen_any _ _ h0 h1)))
      go_wp2
      go_ret
      exact ⟨rfl, below_drewN HW.out.1 _⟩
    · have hv : s.lv h = false := lv_free (by rw [HIN.out]; exact hu)
      rw [hu] at cu0
      rw [hv]
      clear hv hu
      go_enter Try.func61, Try.ntmps61
      go_wp2_with fail
      refine (refindex_any h _ h0 h1).mono ?_
      rw [HI.out]
      rintro e w' ⟨rfl, rfl⟩
      go_wp2_with fail
      rw [← HWE.out]
      go_quiet ((go_at_call 81; exact still (refgen_any _ _ h0 h1)))
      go_wp2
      go_ret
      exact ⟨rfl, below_drewN HW.out.1 _⟩
  · have hd : decide (i < s.gens.length) = false := by simpa using hlt
    have hv : s.lv h = false := lv_out (by rw [HIN.out, HL.out]; omega)
    rw [hv]
    clear hv
    go_enter Try.func61, Try.ntmps61
    go_wp2_with fail
    refine (refindex_any h _ h0 h1).mono ?_
    rw [HI.out]
    rintro e w' ⟨rfl, rfl⟩
    go_wp2_with fail
    rw [← HWE.out]
    go_quiet ((go_at_call 81; exact still (refgen_any _ _ h0 h1)))
    go_wp2
    go_ret
    exact ⟨rfl, below_drewN HW.out.1 _⟩
end Go.Proofs.Ytbldjlkofaiikaa
