/-
  What Levels comes to; and the small case that every law of layer 1 runs.
-/
import Derived.Test.YtoinjaihfocjfaaPackD
namespace Go.Proofs.Ytoinjaihfocjfaa
open Go.ChangeShapes Go.WideShapes Go.ChangeAt Go.RowKit
set_option linter.unusedVariables false

set_option maxHeartbeats 400000 in
theorem levels_small (n : Int) (w : World) (h : n < 2) :
    Calls Try.prog 29 #[.int .i64 n] w fun e w' => e = .returned (.int .i64 0) ∧ w = w' := by
  go_enter Try.func29, Try.ntmps29
  go_wp2
  go_ret
  exact ⟨rfl, rfl⟩
set_option maxHeartbeats 400000 in
theorem levels_big (n : Int) (w : World) (h : 2 ≤ n) (h1 : n ≤ 9223372036854775807) :
    Calls Try.prog 29 #[.int .i64 n] w fun e w' => e = .returned (.int .i64 (((Lib.bitLen (n - 1).toNat : Int) + 1) / 2)) ∧ w = w' := by
  have hb : (Lib.bitLen (n - 1).toNat : Int) ≤ 64 := by
    have := Lib.bitLen_le (n - 1).toNat 64 (by decide) (by omega)
    omega
  have hb0 : 0 ≤ (Lib.bitLen (n - 1).toNat : Int) := Int.natCast_nonneg _
  have L := fun w => len_any (n - 1) w (by omega) (by omega)
  generalize (Lib.bitLen (n - 1).toNat : Int) = l at *
  have HL := Lib.hid L
  clear L
  go_enter Try.func29, Try.ntmps29
  go_wp2_with (go_at_call 36; refine (HL.out _).mono ?_; rintro e w' ⟨rfl, rfl⟩)
  go_ret
  exact ⟨ret_int (by omega), rfl⟩

theorem of53 (w : World) : Calls Try.prog 12 #[.int .i64 5, .int .u64 3] w fun e w' => e = .returned (.tuple #[.int .u64 50331653, .bool true]) ∧ w = w' :=
  of_in 5 3 w (by decide) (by decide) (by decide) (by decide)
theorem zig3 (w : World) : Calls Try.prog 21 #[.int .i64 (-3)] w fun e w' => e = .returned (.int .u64 5) ∧ w = w' :=
  zig_neg (-3) w (by decide) (by decide)
theorem levels17 (w : World) : Calls Try.prog 29 #[.int .i64 17] w fun e w' => e = .returned (.int .i64 3) ∧ w = w' :=
  levels_big 17 w (by decide) (by decide)
theorem bytes258 (w : World) : Calls Try.prog 33 #[.int .u64 258] w fun e w' => e = .returned (.string ⟨#[2, 2, 1]⟩) ∧ Grown w w' ∧ Below w.heap.size w w' :=
  bytes2 258 w (by decide) (by decide)

set_option maxHeartbeats 400000 in
theorem shown_both (w : World) :
    Calls Try.prog 20 #[] w fun e w' => e = .returned (.bool true) ∧ Grown w w' ∧ Below w.heap.size w w' := by
  go_enter Try.func20, Try.ntmps20
  go_wp2_with fail
  refine (of53 _).mono ?_
  rintro e w' ⟨rfl, rfl⟩
  go_wp2_with fail
  refine (zig3 _).mono ?_
  rintro e w' ⟨rfl, rfl⟩
  go_wp2_with fail
  refine (levels17 _).mono ?_
  rintro e w' ⟨rfl, rfl⟩
  go_wp2_with fail
  refine (bytes258 _).mono ?_
  rintro e w' ⟨rfl, hg⟩
  have Hg := Lib.hid hg
  clear hg
  go_wp2
  go_ret
  exact ⟨rfl, Hg.out⟩
theorem shown_any (w : World) : Calls Try.prog 20 #[] w fun e w' => e = .returned (.bool true) ∧ Grown w w' :=
  (shown_both w).mono fun _ _ h => ⟨h.1, h.2.1⟩
theorem shown_below (w : World) : Calls Try.prog 20 #[] w fun e w' => e = .returned (.bool true) ∧ Below w.heap.size w w' :=
  (shown_both w).mono fun _ _ h => ⟨h.1, h.2.2⟩
end Go.Proofs.Ytoinjaihfocjfaa
