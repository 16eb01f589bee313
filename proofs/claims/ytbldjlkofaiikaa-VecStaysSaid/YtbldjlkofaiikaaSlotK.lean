/-
  The document's own Handles and Same; the law's its.
-/
import Derived.Test.YtbldjlkofaiikaaSlotJ
namespace Go.Proofs.Ytbldjlkofaiikaa
open Go.ChangeShapes Go.WideShapes Go.ChangeAt Go.RowKit
set_option linter.unusedVariables false

theorem take_more {α : Type} {l : List α} {k : Nat} (h : k < l.length) : l.take (k + 1) = l.take k ++ [l[k]] := List.take_succ_eq_append_getElem h
theorem getD_at {α : Type} {l : List α} {k : Nat} (d : α) (h : k < l.length) : l.getD k d = l[k] := by rw [List.getD, List.getElem?_eq_getElem h]; rfl

set_option maxHeartbeats 1000000 in
theorem handles_any (v v' : Value) (l l' : List Int) (b b' : Nat) (w : World) (h : w.ownsRow b 41 1 v l.length (gvs l)) (h' : w.ownsRow b' 41 1 v' l'.length (gvs l')) (hl : l.length ≤ 1000) (hl' : l'.length ≤ 1000) :
    Calls Try.prog 20 #[v, v'] w (GivesV (.bool (decide (l = l'))) w) := by
  obtain ⟨p, c, rfl, _, _, _⟩ := own_form h
  obtain ⟨p', c', rfl, _, _, _⟩ := own_form h'
  have HO := Lib.hid h
  have HO' := Lib.hid h'
  clear h h'
  by_cases hnm : l.length = l'.length
  · obtain ⟨n, hn⟩ : ∃ n, l.length = n := ⟨_, rfl⟩
    have hn' : l'.length = n := by omega
    rw [hn] at HO ⊢
    rw [hn'] at HO' ⊢
    have HN := Lib.hid hn
    have HN' := Lib.hid hn'
    have hnn : n ≤ 1000 := by omega
    clear hn hn' hnm
    go_enter Try.func20, Try.ntmps20
    go_wp2
    go_loopw [5] (fun i wr => ∃ k : Nat, k ≤ n ∧ i = .int .i64 k ∧ Hid (l.take k = l'.take k) ∧ Hid (∃ d, wr = w.drewN d)) (fun i _ => n - (intOf i).toNat)
    case atStart => exact ⟨0, Nat.zero_le _, rfl, Lib.hid (by simp), Lib.hid ⟨0, rfl⟩⟩
    case round =>
      obtain ⟨k, hk, rfl, heq, hd⟩ := hrel
      obtain ⟨d, rfl⟩ := hd.out
      by_cases hlt : k < n
      · have k0 : (0 : Int) ≤ (k : Int) := by omega
        have k1 : (k : Int) < (n : Int) := by omega
        obtain ⟨g, rfl, _, _⟩ := own_some HO.out (by omega)
        obtain ⟨g', rfl, _, _⟩ := own_some HO'.out (by omega)
        have hkl : k < l.length := by rw [HN.out]; exact hlt
        have hkl' : k < l'.length := by rw [HN'.out]; exact hlt
        have c0 := own_at_gen HO.out hlt
        have c1 := own_at_gen HO'.out hlt
        have HS := Lib.hid (take_more hkl)
        have HS' := Lib.hid (take_more hkl')
        rw [getD_at 0 hkl] at c0
        rw [getD_at 0 hkl'] at c1
        by_cases hx : l[k] = l'[k]
        · have HX := Lib.hid hx
          generalize l[k] = x at *
          generalize l'[k] = y at *
          subst hx
          go_wp2
          go_quiet (fail)
          go_wp2
          go_roundw
          case rel => exact ⟨k + 1, by omega, by go_num, Lib.hid (by rw [HS.out, HS'.out, heq.out]), Lib.hid ⟨d + nq, by simp⟩⟩
          case measure => simp [intOf] <;> omega
        · have hne : l ≠ l' := by
            intro e
            subst e
            exact hx rfl
          have HNE := Lib.hid hne
          generalize l[k] = x at *
          generalize l'[k] = y at *
          have hb : (x != y) = true := by simpa using hx
          clear hx hne
          go_wp2
          go_quiet (fail)
          go_wp2
          go_ret
          refine ⟨ret_bool ?_, below_drewN (below_drewN (Below.refl _ _) d) nq⟩
          rw [decide_eq_false HNE.out]
      · go_wp2
        go_ret
        refine ⟨ret_bool ?_, below_drewN (Below.refl _ _) d⟩
        have := heq.out
        rw [List.take_of_length_le (by rw [HN.out]; omega), List.take_of_length_le (by rw [HN'.out]; omega)] at this
        simp [this]
  · have hne : ((l.length : Int) != (l'.length : Int)) = true := by simp; omega
    have hne2 : l ≠ l' := fun e => hnm (by rw [e])
    have HNE := Lib.hid hne2
    clear hne2 hnm
    go_enter Try.func20, Try.ntmps20
    go_wp2
    go_ret
    refine ⟨ret_bool ?_, Below.refl _ _⟩
    rw [decide_eq_false HNE.out]

/-- Whether two arenas are the same. -/
def sameB (s t : St) : Bool := decide (s.used = t.used) && (decide (s.free = t.free) && decide (s.gens = t.gens))

set_option maxHeartbeats 4000000 in
theorem same_any (vg vu vf vg' vu' vf' : Value) (s t : St) (b b' : Nat) (w : World) (hA : Ar w b vg vu vf s) (hB : Ar w b' vg' vu' vf' t) (hl : s.gens.length ≤ 1000) (hl' : t.gens.length ≤ 1000) (hu : s.used.length ≤ 1000) (hu' : t.used.length ≤ 1000) (hf : s.free.length ≤ 1000) (hf' : t.free.length ≤ 1000) :
    Calls Try.prog 53 #[.agg #[vg, vu, vf], .agg #[vg', vu', vf']] w (GivesV (.bool (sameB s t)) w) := by
  obtain ⟨pg, cg, rfl, _, _, _⟩ := own_form hA.g
  obtain ⟨pu, cu, rfl, _, _, _⟩ := own_form hA.u
  obtain ⟨pf, cf, rfl, _, _, _⟩ := own_form hA.f
  obtain ⟨pg', cg', rfl, _, _, _⟩ := own_form hB.g
  obtain ⟨pu', cu', rfl, _, _, _⟩ := own_form hB.u
  obtain ⟨pf', cf', rfl, _, _, _⟩ := own_form hB.f
  obtain ⟨W, hW⟩ : ∃ W, W = (w.alloc (.cells #[.slice pg s.gens.length cg, .slice pu s.used.length cu, .slice pf s.free.length cf] 35)).alloc (.cells #[.slice pg' t.gens.length cg', .slice pu' t.used.length cu', .slice pf' t.free.length cf'] 35) := ⟨_, rfl⟩
  have HW : Hid (Below w.heap.size w W ∧ W.heap[w.heap.size]? = some (.cells #[.slice pg s.gens.length cg, .slice pu s.used.length cu, .slice pf s.free.length cf] 35 (0, 0)) ∧ W.heap[w.heap.size + 1]? = some (.cells #[.slice pg' t.gens.length cg', .slice pu' t.used.length cu', .slice pf' t.free.length cf'] 35 (0, 0))) := Lib.hid (by
    subst hW
    refine ⟨((Below.refl _ w).alloc (Nat.le_refl _) _).alloc (by simp) _, ?_, heap_alloc2_new _ _ _⟩
    rw [heap_alloc_old _ _ (by simp)]; exact heap_alloc_new w _)
  have HA := Lib.hid (hA.below HW.out.1)
  have HB := Lib.hid (hB.below HW.out.1)
  have HWE := Lib.hid hW
  clear hA hB hW
  obtain ⟨a0, a1, a2, _, _, _⟩ := block3 HW.out.2.1
  obtain ⟨e0, e1, e2, _, _, _⟩ := block3 HW.out.2.2
  by_cases hnu : s.used.length = t.used.length
  · by_cases hnf : s.free.length = t.free.length
    · obtain ⟨n, hn⟩ : ∃ n, s.used.length = n := ⟨_, rfl⟩
      obtain ⟨m, hm⟩ : ∃ m, s.free.length = m := ⟨_, rfl⟩
      have hn' : t.used.length = n := by omega
      have hm' : t.free.length = m := by omega
      rw [hn, hm] at HA
      rw [hn] at a1
      rw [hm] at a2
      rw [hn', hm'] at HB
      rw [hn'] at e1
      rw [hm'] at e2
      rw [hn, hm, hn', hm'] at HW HWE
      rw [hn, hm, hn', hm']
      have HN := Lib.hid hn
      have HN' := Lib.hid hn'
      have HM := Lib.hid hm
      have HM' := Lib.hid hm'
      have hnn : n ≤ 1000 := by omega
      have hmm : m ≤ 1000 := by omega
      clear hn hn' hm hm' hnu hnf
      have hOu : W.ownsRow b 4 1 (.slice pu n cu) n (bvs s.used) := by have := HA.out.u; rw [HN.out] at this; exact this
      have hOu' : W.ownsRow b' 4 1 (.slice pu' n cu') n (bvs t.used) := by have := HB.out.u; rw [HN'.out] at this; exact this
      have hOf : W.ownsRow b 3 1 (.slice pf m cf) m (ivs s.free) := by have := HA.out.f; rw [HM.out] at this; exact this
      have hOf' : W.ownsRow b' 3 1 (.slice pf' m cf') m (ivs t.free) := by have := HB.out.f; rw [HM'.out] at this; exact this
      have HOu := Lib.hid hOu
      have HOu' := Lib.hid hOu'
      have HOf := Lib.hid hOf
      have HOf' := Lib.hid hOf'
      clear hOu hOu' hOf hOf'
      go_enter Try.func53, Try.ntmps53
      go_wp2
      rw [← HWE.out]
      go_loopw [5] (fun i wr => ∃ k : Nat, k ≤ n ∧ i = .int .i64 k ∧ Hid (s.used.take k = t.used.take k) ∧ Hid (∃ d, wr = W.drewN d)) (fun i _ => n - (intOf i).toNat)
      case atStart => exact ⟨0, Nat.zero_le _, rfl, Lib.hid (by simp), Lib.hid ⟨0, rfl⟩⟩
      case round =>
        obtain ⟨k, hk, rfl, heq, hd⟩ := hrel
        obtain ⟨d, rfl⟩ := hd.out
        by_cases hlt : k < n
        · have k0 : (0 : Int) ≤ (k : Int) := by omega
          have k1 : (k : Int) < (n : Int) := by omega
          obtain ⟨g, rfl, _, _⟩ := own_some HOu.out (by omega)
          obtain ⟨g', rfl, _, _⟩ := own_some HOu'.out (by omega)
          have hkl : k < s.used.length := by rw [HN.out]; exact hlt
          have hkl' : k < t.used.length := by rw [HN'.out]; exact hlt
          have c0 := own_at_bool HOu.out hlt
          have c1 := own_at_bool HOu'.out hlt
          have HS := Lib.hid (take_more hkl)
          have HS' := Lib.hid (take_more hkl')
          rw [getD_at false hkl] at c0
          rw [getD_at false hkl'] at c1
          by_cases hx : s.used[k] = t.used[k]
          · generalize s.used[k] = x at *
            generalize t.used[k] = y at *
            subst hx
            have hb : (x != x) = false := by simp
            go_wp2
            go_quiet (fail)
            go_wp2
            go_roundw
            case rel => exact ⟨k + 1, by omega, by go_num, Lib.hid (by rw [HS.out, HS'.out, heq.out]), Lib.hid ⟨d + nq, by simp⟩⟩
            case measure => simp [intOf] <;> omega
          · have hne : s.used ≠ t.used := by
              intro e
              apply hx
              simp [e]
            have HNE := Lib.hid hne
            generalize s.used[k] = x at *
            generalize t.used[k] = y at *
            clear hne HS HS'
            cases x <;> cases y
            · exact absurd rfl hx
            · clear hx
              go_wp2
              go_quiet (fail)
              go_wp2
              go_ret
              refine ⟨ret_bool ?_, HW.out.1.trans (below_drewN (below_drewN (Below.refl _ _) d) nq)⟩
              rw [sameB, decide_eq_false HNE.out]
              rfl
            · clear hx
              go_wp2
              go_quiet (fail)
              go_wp2
              go_ret
              refine ⟨ret_bool ?_, HW.out.1.trans (below_drewN (below_drewN (Below.refl _ _) d) nq)⟩
              rw [sameB, decide_eq_false HNE.out]
              rfl
            · exact absurd rfl hx
        · have hused : s.used = t.used := by
            have := heq.out
            rw [List.take_of_length_le (by rw [HN.out]; omega), List.take_of_length_le (by rw [HN'.out]; omega)] at this
            exact this
          have HUS := Lib.hid hused
          clear hused
          go_wp2
          go_loopw [6] (fun i wr => ∃ k : Nat, k ≤ m ∧ i = .int .i64 k ∧ Hid (s.free.take k = t.free.take k) ∧ Hid (∃ d, wr = W.drewN d)) (fun i _ => m - (intOf i).toNat)
          case atStart => exact ⟨0, Nat.zero_le _, rfl, Lib.hid (by simp), Lib.hid ⟨d, rfl⟩⟩
          case round =>
            clear heq hd hk hlt
            obtain ⟨k, hk, rfl, heq, hd⟩ := hrel
            obtain ⟨d, rfl⟩ := hd.out
            by_cases hlt : k < m
            · have k0 : (0 : Int) ≤ (k : Int) := by omega
              have k1 : (k : Int) < (m : Int) := by omega
              obtain ⟨g, rfl, _, _⟩ := own_some HOf.out (by omega)
              obtain ⟨g', rfl, _, _⟩ := own_some HOf'.out (by omega)
              have hkl : k < s.free.length := by rw [HM.out]; exact hlt
              have hkl' : k < t.free.length := by rw [HM'.out]; exact hlt
              have c0 := own_at_int HOf.out hlt
              have c1 := own_at_int HOf'.out hlt
              have HS := Lib.hid (take_more hkl)
              have HS' := Lib.hid (take_more hkl')
              rw [getD_at 0 hkl] at c0
              rw [getD_at 0 hkl'] at c1
              by_cases hx : s.free[k] = t.free[k]
              · generalize s.free[k] = x at *
                generalize t.free[k] = y at *
                subst hx
                go_wp2
                go_quiet (fail)
                go_wp2
                go_roundw
                case rel => exact ⟨k + 1, by omega, by go_num, Lib.hid (by rw [HS.out, HS'.out, heq.out]), Lib.hid ⟨d + nq, by simp⟩⟩
                case measure => simp [intOf] <;> omega
              · have hne : s.free ≠ t.free := by
                  intro e
                  apply hx
                  simp [e]
                have HNE := Lib.hid hne
                generalize s.free[k] = x at *
                generalize t.free[k] = y at *
                have hb : (x != y) = true := by simpa using hx
                clear hx hne
                go_wp2
                go_quiet (fail)
                go_wp2
                go_ret
                refine ⟨ret_bool ?_, HW.out.1.trans (below_drewN (below_drewN (Below.refl _ _) d) nq)⟩
                rw [sameB, decide_eq_false HNE.out, Bool.false_and, Bool.and_false]
            · have hfree : s.free = t.free := by
                have := heq.out
                rw [List.take_of_length_le (by rw [HM.out]; omega), List.take_of_length_le (by rw [HM'.out]; omega)] at this
                exact this
              have HFR := Lib.hid hfree
              clear hfree
              go_wp2_with fail
              refine (handles_any _ _ s.gens t.gens b b' _ (HA.out.drewN d).g (HB.out.drewN d).g hl hl').mono ?_
              rintro e w5 ⟨rfl, hb5⟩
              have HB5 := Lib.hid hb5
              clear hb5
              go_wp2
              go_ret
              refine ⟨ret_bool ?_, HW.out.1.trans ((below_drewN (Below.refl _ _) d).trans (HB5.out.mono (by have := HW.out.1.size; simpa using this)))⟩
              rw [sameB, decide_eq_true HUS.out, decide_eq_true HFR.out]
              rfl
    · have hne : ((s.free.length : Int) != (t.free.length : Int)) = true := by simp; omega
      have hnuZ : ((s.used.length : Int) != (t.used.length : Int)) = false := by simp; omega
      have hne2 : s.free ≠ t.free := fun e => hnf (by rw [e])
      have HNE := Lib.hid hne2
      clear hne2 hnf hnu
      go_enter Try.func53, Try.ntmps53
      go_wp2
      rw [← HWE.out]
      go_ret
      refine ⟨ret_bool ?_, HW.out.1⟩
      rw [sameB, decide_eq_false HNE.out, Bool.false_and, Bool.and_false]
  · have hne : ((s.used.length : Int) != (t.used.length : Int)) = true := by simp; omega
    have hne2 : s.used ≠ t.used := fun e => hnu (by rw [e])
    have HNE := Lib.hid hne2
    clear hne2 hnu
    go_enter Try.func53, Try.ntmps53
    go_wp2
    rw [← HWE.out]
    go_ret
    refine ⟨ret_bool ?_, HW.out.1⟩
    rw [sameB, decide_eq_false HNE.out]
    rfl
end Go.Proofs.Ytbldjlkofaiikaa
