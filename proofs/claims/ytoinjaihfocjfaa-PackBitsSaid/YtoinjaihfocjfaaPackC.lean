/-
  What the document's own calls for layer 1 (numbers) come to.
-/
import Derived.Test.YtoinjaihfocjfaaPackA
import Derived.Deep.QuietTactic
import Derived.BigQuiet
namespace Go.Proofs.Ytoinjaihfocjfaa
open Go.ChangeShapes Go.WideShapes Go.ChangeAt Go.RowKit
set_option linter.unusedVariables false

theorem pow_step (k n : Nat) (h : k < n) (hn : n ≤ 63) : ((2 ^ k : Nat) : Int) * 2 = ((2 ^ (k + 1) : Nat) : Int) ∧ ((2 ^ k : Nat) : Int) ≤ 4611686018427387904 := by
  have h2 : 2 ^ k ≤ 2 ^ 62 := Nat.pow_le_pow_right (by decide) (by omega)
  have h3 : (2 : Nat) ^ 62 = 4611686018427387904 := by decide
  refine ⟨?_, by omega⟩
  rw [Nat.pow_succ]; omega

set_option maxHeartbeats 400000 in
theorem power_any (n : Nat) (w : World) (hn : n ≤ 63) :
    Calls Try.prog 35 #[.int .i64 n] w fun e w' => e = .returned (.int .u64 ((2 ^ n : Nat) : Int)) ∧ w = w' := by
  go_enter Try.func35, Try.ntmps35
  go_wp2
  go_loop [3, 4] (fun x i => ∃ k : Nat, k ≤ n ∧ i = .int .i64 k ∧ x = .int .u64 ((2 ^ k : Nat) : Int)) (fun _ i => n - (intOf i).toNat)
  case atStart => exact ⟨0, Nat.zero_le _, rfl, rfl⟩
  case round =>
    obtain ⟨k, hk, rfl, rfl⟩ := hrel
    by_cases hlt : k < n
    · obtain ⟨hs, hb⟩ := pow_step k n hlt hn
      have Hs := Lib.hid hs
      clear hs
      have hp : (0 : Int) ≤ ((2 ^ k : Nat) : Int) := Int.natCast_nonneg _
      generalize ((2 ^ k : Nat) : Int) = p at *
      go_wp2
      go_round
      case rel => exact ⟨k + 1, by omega, by go_num, by rw [← Hs.out]⟩
      case measure => simp [intOf]; omega
    · obtain rfl : k = n := by omega
      go_wp2
      go_ret
      exact ⟨rfl, rfl⟩
theorem power24 (w : World) : Calls Try.prog 35 #[.int .i64 24] w fun e w' => e = .returned (.int .u64 16777216) ∧ w = w' := power_any 24 w (by decide)
theorem power40 (w : World) : Calls Try.prog 35 #[.int .i64 40] w fun e w' => e = .returned (.int .u64 1099511627776) ∧ w = w' := power_any 40 w (by decide)
end Go.Proofs.Ytoinjaihfocjfaa
