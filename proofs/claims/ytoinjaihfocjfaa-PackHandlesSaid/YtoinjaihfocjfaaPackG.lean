/-
  The laws PackHandles and PackTurns, walked: each returns true, and the memory grows only.
-/
import Derived.Test.YtoinjaihfocjfaaPackE
namespace Go.Proofs.Ytoinjaihfocjfaa
open Go.ChangeShapes Go.WideShapes Go.ChangeAt Go.RowKit
set_option linter.unusedVariables false

theorem grown_drewN (w : World) (n : Nat) : Grown w (w.drewN n) := by
  have h := Grown.refl w
  exact h
theorem still {P : Program} {f : FuncId} {args : Array Value} {w : World} {n : Nat} {v : Value} (h : Calls P f args (w.drewN n) fun e w' => e = .returned v ∧ w.drewN n = w') :
    Calls P f args (w.drewN n) fun e w' => e = .returned v ∧ ∃ m, w' = w.drewN m := by
  refine h.mono ?_
  rintro e w' ⟨he, hw⟩
  exact ⟨he, n, hw.symm⟩

set_option maxHeartbeats 400000 in
theorem refindex_any (u : Int) (w : World) (h0 : 0 ≤ u) (h1 : u ≤ 18446744073709551615) :
    Calls Try.prog 15 #[.int .u64 u] w fun e w' => e = .returned (.int .i64 (u % 16777216)) ∧ w = w' := by
  go_enter Try.func15, Try.ntmps15
  go_wp2_with (go_at_call 35; refine (power24 _).mono ?_; rintro e w' ⟨rfl, rfl⟩)
  go_ret
  exact ⟨ret_int (by omega), rfl⟩
set_option maxHeartbeats 400000 in
theorem refgen_any (u : Int) (w : World) (h0 : 0 ≤ u) (h1 : u ≤ 18446744073709551615) :
    Calls Try.prog 17 #[.int .u64 u] w fun e w' => e = .returned (.int .u64 (u / 16777216)) ∧ w = w' := by
  go_enter Try.func17, Try.ntmps17
  go_wp2_with (go_at_call 35; refine (power24 _).mono ?_; rintro e w' ⟨rfl, rfl⟩)
  go_ret
  exact ⟨ret_int (by omega), rfl⟩
set_option maxHeartbeats 400000 in
theorem refof_in (i g : Int) (w : World) (h0 : 0 ≤ i) (h1 : i ≤ 16777215) (g0 : 0 ≤ g) (g1 : g ≤ 1099511627775) :
    Calls Try.prog 13 #[.int .i64 i, .int .u64 g] w fun e w' => e = .returned (.tuple #[.int .u64 (g * 16777216 + i), .bool true]) ∧ w = w' := by
  go_enter Try.func13, Try.ntmps13
  go_wp2_with fail
  refine (power24 _).mono ?_
  rintro e w' ⟨rfl, rfl⟩
  go_wp2_with fail
  refine (power40 _).mono ?_
  rintro e w' ⟨rfl, rfl⟩
  go_wp2_with fail
  refine (power24 _).mono ?_
  rintro e w' ⟨rfl, rfl⟩
  go_wp2
  go_ret2
  exact ⟨rfl, rfl⟩
set_option maxHeartbeats 400000 in
theorem refof_out (i g : Int) (w : World) (h0 : -9223372036854775808 ≤ i) (h1 : i ≤ 9223372036854775807) (g0 : 0 ≤ g) (g1 : g ≤ 18446744073709551615) (h : i < 0 ∨ 16777215 < i ∨ 1099511627775 < g) :
    Calls Try.prog 13 #[.int .i64 i, .int .u64 g] w fun e w' => e = .returned (.tuple #[.int .u64 0, .bool false]) ∧ w = w' := by
  by_cases h2 : i < 0
  · clear h
    go_enter Try.func13, Try.ntmps13
    go_wp2
    go_ret2
    exact ⟨rfl, rfl⟩
  · by_cases h3 : 16777215 < i
    · clear h
      go_enter Try.func13, Try.ntmps13
      go_wp2_with (go_at_call 35; refine (power24 _).mono ?_; rintro e w' ⟨rfl, rfl⟩)
      go_ret2
      exact ⟨rfl, rfl⟩
    · have hg : 1099511627775 < g := by omega
      clear h
      go_enter Try.func13, Try.ntmps13
      go_wp2_with fail
      refine (power24 _).mono ?_
      rintro e w' ⟨rfl, rfl⟩
      go_wp2_with fail
      refine (power40 _).mono ?_
      rintro e w' ⟨rfl, rfl⟩
      go_wp2
      go_ret2
      exact ⟨rfl, rfl⟩
theorem next_num (u : Int) (h0 : 0 ≤ u) (h1 : u ≤ 18446744073709551615) : (u / 16777216 + 1) % 1099511627776 * 16777216 + u % 16777216 = (u + 16777216) % 18446744073709551616 := by omega
def SomeWorld (v : Value) (w : World) (e : Ending) (w' : World) : Prop := e = .returned v ∧ Grown w w'
set_option maxHeartbeats 400000 in
theorem refnext_any (u : Int) (w : World) (h0 : 0 ≤ u) (h1 : u ≤ 18446744073709551615) :
    Calls Try.prog 19 #[.int .u64 u] w (SomeWorld (.int .u64 ((u + 16777216) % 18446744073709551616)) w) := by
  have H := Lib.hid (next_num u h0 h1)
  go_enter Try.func19, Try.ntmps19
  go_wp2_with fail
  go_quiet ((first
    | (go_at_call 17; exact still (refgen_any _ _ h0 h1))
    | (go_at_call 35; first | (with_reducible exact still (power24 _)) | (with_reducible exact still (power40 _)))))
  go_wp2
  go_ret
  exact ⟨ret_int H.out, grown_drewN _ _⟩
end Go.Proofs.Ytoinjaihfocjfaa
