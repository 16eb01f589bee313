/-
  The laws PackRises, PackParts and PackZigs, walked: each returns true, and the memory grows only.
-/
import Derived.Test.YtoinjaihfocjfaaPackS
import Derived.Test.YtoinjaihfocjfaaPackC
namespace Go.Proofs.Ytoinjaihfocjfaa
open Go.ChangeShapes Go.WideShapes Go.ChangeAt Go.RowKit
set_option linter.unusedVariables false

theorem i64_wf {n : Int} (h : (Lit.int .i64 n).wf = true) : -9223372036854775808 ≤ n ∧ n ≤ 9223372036854775807 := by
  simpa [Lit.wf, IntKind.min, IntKind.max, IntKind.signed, IntKind.bits] using h
theorem u64_wf {n : Int} (h : (Lit.int .u64 n).wf = true) : 0 ≤ n ∧ n ≤ 18446744073709551615 := by
  simpa [Lit.wf, IntKind.min, IntKind.max, IntKind.signed, IntKind.bits] using h
theorem u32_wf {n : Int} (h : (Lit.int .u32 n).wf = true) : 0 ≤ n ∧ n ≤ 4294967295 := by
  simpa [Lit.wf, IntKind.min, IntKind.max, IntKind.signed, IntKind.bits] using h
theorem u8_wf {n : Int} (h : (Lit.int .u8 n).wf = true) : 0 ≤ n ∧ n ≤ 255 := by
  simpa [Lit.wf, IntKind.min, IntKind.max, IntKind.signed, IntKind.bits] using h

set_option maxHeartbeats 400000 in
theorem packRises_walk (a0 a1 : Int) (w0 : (Lit.int .i64 a0).wf = true) (w1 : (Lit.int .i64 a1).wf = true) (w : World) :
    Calls Try.prog 11 #[.int .i64 a0, .int .i64 a1] w fun e w' => e = .returned (.bool true) ∧ Grown w w' := by
  obtain ⟨l0, u0⟩ := i64_wf w0
  obtain ⟨l1, u1⟩ := i64_wf w1
  clear w0 w1
  by_cases h0 : a0 < 0 <;> by_cases h1 : a1 < 0
  · by_cases he : a0 = a1
    · subst he
      go_enter Try.func11, Try.ntmps11
      go_wp2_with (go_at_call 20; refine (shown_any _).mono ?_; rintro e w' ⟨rfl, hg⟩)
      go_ret
      exact ⟨rfl, by assumption⟩
    · have hb : (a0 == a1) = false := by simpa using he
      have hB : (decide (a0 < a1) == decide (-2 * a1 - 1 < -2 * a0 - 1)) = true := by
        rw [beq_iff_eq, decide_eq_decide]; omega
      clear he
      go_enter Try.func11, Try.ntmps11
      go_wp2_with fail
      refine (zig_neg _ _ h0 l0).mono ?_
      rintro e w' ⟨rfl, rfl⟩
      go_wp2_with fail
      refine (zig_neg _ _ h1 l1).mono ?_
      rintro e w' ⟨rfl, rfl⟩
      go_wp2_with fail
      refine (shown_any _).mono ?_
      rintro e w' ⟨rfl, hg⟩
      go_wp2
      go_ret
      exact ⟨rfl, hg⟩
  · go_enter Try.func11, Try.ntmps11
    go_wp2_with (go_at_call 20; refine (shown_any _).mono ?_; rintro e w' ⟨rfl, hg⟩)
    go_ret
    exact ⟨rfl, by assumption⟩
  · go_enter Try.func11, Try.ntmps11
    go_wp2_with (go_at_call 20; refine (shown_any _).mono ?_; rintro e w' ⟨rfl, hg⟩)
    go_ret
    exact ⟨rfl, by assumption⟩
  · by_cases he : a0 = a1
    · subst he
      go_enter Try.func11, Try.ntmps11
      go_wp2_with (go_at_call 20; refine (shown_any _).mono ?_; rintro e w' ⟨rfl, hg⟩)
      go_ret
      exact ⟨rfl, by assumption⟩
    · have hb : (a0 == a1) = false := by simpa using he
      have hB : (decide (a0 < a1) == decide (2 * a0 < 2 * a1)) = true := by
        rw [beq_iff_eq, decide_eq_decide]; omega
      clear he
      go_enter Try.func11, Try.ntmps11
      go_wp2_with fail
      refine (zig_pos _ _ (by omega) u0).mono ?_
      rintro e w' ⟨rfl, rfl⟩
      go_wp2_with fail
      refine (zig_pos _ _ (by omega) u1).mono ?_
      rintro e w' ⟨rfl, rfl⟩
      go_wp2_with fail
      refine (shown_any _).mono ?_
      rintro e w' ⟨rfl, hg⟩
      go_wp2
      go_ret
      exact ⟨rfl, hg⟩
end Go.Proofs.Ytoinjaihfocjfaa
