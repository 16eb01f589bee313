/-
  The document's Ints: whether two lists of numbers are the same.
-/
import Derived.Test.YtaacikjoafobfaaGreatDoorZFiB
import Derived.Test.YtaacikjoafobfaaGreatDoorG04
namespace Go.Proofs.YtaacikjoafobfaaGreatDoor.Fi
open Go.ChangeShapes Go.WideShapes Go.ChangeAt Go.RowKit
set_option linter.unusedVariables false
set_option linter.unusedSimpArgs false

set_option maxHeartbeats 1000000 in
theorem rints_any (A B : Option Addr) (l l' : List Int) (c d : Nat) (w : World) (hI : IR w A l) (hJ : IR w B l') (h1 : l.length ≤ 1000) (h2 : l'.length ≤ 1000) :
    Calls Tryz.prog 20 #[.slice A l.length c, .slice B l'.length d] w (GivesV (.bool (eqI l l')) w) := by
  have HI := Lib.hid hI
  have HJ := Lib.hid hJ
  have HE : Hid (eqI l l' = decide (l = l')) := Lib.hid rfl
  generalize eqI l l' = R at *
  obtain ⟨n, hn⟩ : ∃ n, l.length = n := ⟨_, rfl⟩
  obtain ⟨n', hn'⟩ : ∃ n, l'.length = n := ⟨_, rfl⟩
  have HN := Lib.hid hn
  have HN' := Lib.hid hn'
  rw [hn] at h1 ⊢
  rw [hn'] at h2 ⊢
  clear hI hJ hn hn'
  go_enter Tryz.func20, Tryz.ntmps20
  by_cases hnn : n = n'
  · have hb : ((n : Int) != (n' : Int)) = false := by subst hnn; simp
    have HNN := Lib.hid hnn
    clear hnn
    go_wp2_with fail
    go_loopw [5] (fun q wr => ∃ k : Nat, k ≤ n ∧ q = .int .i64 k ∧ Hid (l.take k = l'.take k) ∧ Hid (Below w.heap.size w wr)) (fun q _ => n - (intOf q).toNat)
    case atStart => exact ⟨0, Nat.zero_le _, rfl, Lib.hid rfl, Lib.hid (Below.refl _ _)⟩
    case round =>
      obtain ⟨k, hk, rfl, HK, HB⟩ := hrel
      by_cases hlt : k < n
      · have k0 : (0 : Int) ≤ (k : Int) := by omega
        have k1 : (k : Int) < (n : Int) := by omega
        have k2 : (k : Int) < (n' : Int) := by have := HNN.out; omega
        have hkl : k < l.length := by rw [HN.out]; exact hlt
        have hkl' : k < l'.length := by rw [HN'.out, ← HNN.out]; exact hlt
        obtain ⟨g, off, rfl, hg, hc⟩ := HI.out.below HB.out k hkl
        obtain ⟨g', off', rfl, hg', hc'⟩ := HJ.out.below HB.out k hkl'
        have HT := Lib.hid (eq_upto (l := l) (l' := l') (k := k) 0 (by rw [HN.out, HN'.out, HNN.out]) hkl HK.out)
        have HX : Hid (l.getD k 0 ≠ l'.getD k 0 → l ≠ l') := Lib.hid (ne_of_take 0)
        generalize l.getD k 0 = y at *
        generalize l'.getD k 0 = y' at *
        clear hkl hkl'
        rcases Bool.eq_false_or_eq_true (y != y') with hy | hy
        · go_upto_region 6 with fail
          go_quiet (fail)
          go_wp2
          go_ret
          refine ⟨ret_bool ?_, below_drewN HB.out _⟩
          rw [HE.out]
          exact (decide_eq_false (HX.out (by simpa using hy))).symm
        · go_upto_region 6 with fail
          go_quiet (fail)
          go_wp2
          go_roundw
          case rel => exact ⟨k + 1, by omega, by go_num, Lib.hid (HT.out.2 (by simpa using hy)), Lib.hid (below_drewN HB.out _)⟩
          case measure => simp [intOf] <;> omega
      · obtain rfl : k = n := by omega
        have e : l = l' := by
          have := HK.out
          rwa [List.take_of_length_le (by rw [HN.out]; exact Nat.le_refl _), List.take_of_length_le (by rw [HN'.out, ← HNN.out]; exact Nat.le_refl _)] at this
        have HEE : Hid (R = true) := Lib.hid (by rw [HE.out, decide_eq_true_eq]; exact e)
        clear e
        go_wp2
        go_ret
        exact ⟨ret_bool HEE.out.symm, HB.out⟩
  · have hb : ((n : Int) != (n' : Int)) = true := by simp; omega
    go_wp2
    go_ret
    refine ⟨ret_bool ?_, Below.refl _ _⟩
    rw [HE.out]
    symm
    rw [decide_eq_false_iff_not]
    intro e
    rw [← HN.out, ← HN'.out, e] at hnn
    exact hnn rfl
end Go.Proofs.YtaacikjoafobfaaGreatDoor.Fi
