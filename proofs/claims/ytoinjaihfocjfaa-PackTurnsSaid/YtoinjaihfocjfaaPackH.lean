/-
  The laws PackHandles and PackTurns, walked: each returns true, and the memory grows only.
-/
import Derived.Test.YtoinjaihfocjfaaPackG
namespace Go.Proofs.Ytoinjaihfocjfaa
open Go.ChangeShapes Go.WideShapes Go.ChangeAt Go.RowKit
set_option linter.unusedVariables false

set_option maxHeartbeats 400000 in
theorem packHandles_walk (a0 a1 a2 : Int) (w0 : (Lit.int .i64 a0).wf = true) (w1 : (Lit.int .u64 a1).wf = true) (w2 : (Lit.int .u64 a2).wf = true) (w : World) :
    Calls Try.prog 3 #[.int .i64 a0, .int .u64 a1, .int .u64 a2] w fun e w' => e = .returned (.bool true) ∧ Grown w w' := by
  obtain ⟨l0, u0⟩ := i64_wf w0
  obtain ⟨l1, u1⟩ := u64_wf w1
  obtain ⟨l2, u2⟩ := u64_wf w2
  clear w0 w1 w2
  by_cases h : a0 < 0 ∨ 16777215 < a0 ∨ 1099511627775 < a1
  · have H := Lib.hid h
    clear h
    go_enter Try.func3, Try.ntmps3
    go_wp2_with fail
    refine (of_out _ _ _ l0 u0 l1 u1 H.out).mono ?_
    rintro e w' ⟨rfl, rfl⟩
    go_wp2_with fail
    refine (refof_out _ _ _ l0 u0 l1 u1 H.out).mono ?_
    rintro e w' ⟨rfl, rfl⟩
    go_wp2_with fail
    refine (index_any _ _ l2 u2).mono ?_
    rintro e w' ⟨rfl, rfl⟩
    go_wp2_with fail
    refine (refindex_any _ _ l2 u2).mono ?_
    rintro e w' ⟨rfl, rfl⟩
    go_wp2_with fail
    refine (gen_any _ _ l2 u2).mono ?_
    rintro e w' ⟨rfl, rfl⟩
    go_wp2_with fail
    refine (refgen_any _ _ l2 u2).mono ?_
    rintro e w' ⟨rfl, rfl⟩
    go_wp2_with fail
    refine (next_any _ _ l2 u2).mono ?_
    rintro e w' ⟨rfl, rfl⟩
    go_wp2_with fail
    refine (refnext_any _ _ l2 u2).mono ?_
    rintro e w' ⟨rfl, hg1⟩
    have Hg1 := Lib.hid hg1
    clear hg1
    go_wp2_with fail
    refine (shown_any _).mono ?_
    rintro e w' ⟨rfl, hg⟩
    have Hg := Lib.hid hg
    clear hg
    go_wp2
    go_ret
    exact ⟨rfl, gtrans Hg1.out Hg.out⟩
  · have hi0 : 0 ≤ a0 := by omega
    have hi1 : a0 ≤ 16777215 := by omega
    have hg1 : a1 ≤ 1099511627775 := by omega
    clear h
    go_enter Try.func3, Try.ntmps3
    go_wp2_with fail
    refine (of_in _ _ _ hi0 hi1 l1 hg1).mono ?_
    rintro e w' ⟨rfl, rfl⟩
    go_wp2_with fail
    refine (refof_in _ _ _ hi0 hi1 l1 hg1).mono ?_
    rintro e w' ⟨rfl, rfl⟩
    go_wp2_with fail
    refine (index_any _ _ l2 u2).mono ?_
    rintro e w' ⟨rfl, rfl⟩
    go_wp2_with fail
    refine (refindex_any _ _ l2 u2).mono ?_
    rintro e w' ⟨rfl, rfl⟩
    go_wp2_with fail
    refine (gen_any _ _ l2 u2).mono ?_
    rintro e w' ⟨rfl, rfl⟩
    go_wp2_with fail
    refine (refgen_any _ _ l2 u2).mono ?_
    rintro e w' ⟨rfl, rfl⟩
    go_wp2_with fail
    refine (next_any _ _ l2 u2).mono ?_
    rintro e w' ⟨rfl, rfl⟩
    go_wp2_with fail
    refine (refnext_any _ _ l2 u2).mono ?_
    rintro e w' ⟨rfl, hg1⟩
    have Hg1 := Lib.hid hg1
    clear hg1
    go_wp2_with fail
    refine (shown_any _).mono ?_
    rintro e w' ⟨rfl, hg⟩
    have Hg := Lib.hid hg
    clear hg
    go_wp2
    go_ret
    exact ⟨rfl, gtrans Hg1.out Hg.out⟩

def Turned (h : Int) (k : Nat) (X : Int) : Prop := X = (h + k * 16777216) % 18446744073709551616
theorem turned_index {h : Int} {k : Nat} {X : Int} (t : Turned h k X) : X % 16777216 = h % 16777216 := by unfold Turned at t; omega
theorem turned_next {h : Int} {k : Nat} {X : Int} (t : Turned h k X) : Turned h (k + 1) ((X + 16777216) % 18446744073709551616) := by unfold Turned at *; omega
theorem turned_same {h : Int} {k : Nat} {X : Int} (h0 : 0 ≤ h) (h1 : h ≤ 18446744073709551615) (hk : k ≤ 255) (t : Turned h k X) : (((k : Int) == 0) == (X == h)) = true := by
  unfold Turned at t
  rw [beq_iff_eq, Bool.eq_iff_iff, beq_iff_eq, beq_iff_eq]
  omega

set_option maxHeartbeats 400000 in
theorem packTurns_walk (a0 a1 : Int) (w0 : (Lit.int .u64 a0).wf = true) (w1 : (Lit.int .u8 a1).wf = true) (w : World) :
    Calls Try.prog 8 #[.int .u64 a0, .int .u8 a1] w fun e w' => e = .returned (.bool true) ∧ Grown w w' := by
  obtain ⟨l0, u0⟩ := u64_wf w0
  obtain ⟨l1, u1⟩ := u8_wf w1
  clear w0 w1
  obtain ⟨n, rfl⟩ := Int.eq_ofNat_of_zero_le l1
  go_enter Try.func8, Try.ntmps8
  go_wp2_with fail
  go_loop [5, 6] (fun x i => ∃ (k : Nat) (X : Int), k ≤ n ∧ i = .int .i64 k ∧ x = .int .u64 X ∧ 0 ≤ X ∧ X ≤ 18446744073709551615 ∧ Turned a0 k X) (fun _ i => n - (intOf i).toNat)
  case atStart => exact ⟨0, a0, Nat.zero_le _, rfl, rfl, l0, u0, by unfold Turned; omega⟩
  case round =>
    obtain ⟨k, X, hk, rfl, rfl, hX0, hX1, hT⟩ := hrel
    by_cases hlt : k < n
    · have hi := turned_index hT
      have hb1 : ((X + 16777216) % 18446744073709551616 == X) = false := by rw [beq_eq_false_iff_ne]; omega
      have hb2 : ((X + 16777216) % 18446744073709551616 % 16777216 != a0 % 16777216) = false := by rw [bne_eq_false_iff_eq]; omega
      have hb3 : ((X + 16777216) % 18446744073709551616 / 16777216 != (X / 16777216 + 1) % 1099511627776) = false := by rw [bne_eq_false_iff_eq]; omega
      have hy0 : 0 ≤ (X + 16777216) % 18446744073709551616 := by omega
      have hy1 : (X + 16777216) % 18446744073709551616 ≤ 18446744073709551615 := by omega
      have hN := turned_next hT
      clear hi hT
      generalize hY : (X + 16777216) % 18446744073709551616 = Y at *
      have HY := Lib.hid hY
      clear hY
      go_wp2_with fail
      refine (next_any _ _ hX0 hX1).mono ?_
      rw [HY.out]
      rintro e w' ⟨rfl, rfl⟩
      go_wp2_with fail
      refine (index_any _ _ hy0 hy1).mono ?_
      rintro e w' ⟨rfl, rfl⟩
      go_wp2_with fail
      refine (index_any _ _ l0 u0).mono ?_
      rintro e w' ⟨rfl, rfl⟩
      go_wp2_with fail
      refine (gen_any _ _ hy0 hy1).mono ?_
      rintro e w' ⟨rfl, rfl⟩
      go_wp2_with fail
      refine (gen_any _ _ hX0 hX1).mono ?_
      rintro e w' ⟨rfl, rfl⟩
      go_wp2_with fail
      go_round
      case rel => exact ⟨k + 1, Y, by omega, by go_num, rfl, hy0, hy1, hN⟩
      case measure => simp [intOf]; omega
    · obtain rfl : k = n := by omega
      have hb := turned_same l0 u0 (by omega) hT
      go_wp2_with fail
      refine (shown_any _).mono ?_
      rintro e w' ⟨rfl, hg⟩
      go_wp2
      go_ret
      exact ⟨rfl, hg⟩
end Go.Proofs.Ytoinjaihfocjfaa
