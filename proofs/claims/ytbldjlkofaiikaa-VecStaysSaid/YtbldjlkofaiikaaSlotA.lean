/-
  What the calls of package pack, and the document's own ones, come to, as far as layer 3 (slots) needs them.
-/
import Derived.Test.YtbldjlkofaiikaaRows
import Derived.WalkKit
import Derived.ProofKit
import Derived.OpenShut
import Derived.IntWalk
import Derived.Lib.Hide
import Derived.Lib.BitFns
import Derived.Lib.ItoaNum
import Derived.Lib.EndianBits
import Derived.Lib.Zigzag
import Derived.Laws.BitsAllLaws
import Derived.Deep.QuietTactic
import Derived.BigQuiet
namespace Go.Proofs.Ytbldjlkofaiikaa
open Go.ChangeShapes Go.WideShapes Go.ChangeAt Go.RowKit
set_option linter.unusedVariables false

theorem own : ownKnob Try.prog.godebug = none := by kernel_rfl
theorem ret_int {k : IntKind} {a b : Int} (h : a = b) : Ending.returned (.int k a) = .returned (.int k b) := by rw [h]
theorem ret_bool {a b : Bool} (h : a = b) : Ending.returned (.bool a) = .returned (.bool b) := by rw [h]
theorem ret_pair {k : IntKind} {a b : Int} {c : Bool} (h : a = b) : Ending.returned (.tuple #[.int k a, .bool c]) = .returned (.tuple #[.int k b, .bool c]) := by rw [h]
theorem ret_str {a b : ByteArray} (h : a = b) : Ending.returned (.string a) = .returned (.string b) := by rw [h]

/-! ### plain numbers -/
theorem and24 (x : Int) (h0 : 0 ≤ x) (h1 : x ≤ 18446744073709551615) : bits .and .u64 x 16777215 = x % 16777216 := by
  have h := bits_mask .u64 64 (by decide) wraps_u64 24 (by decide) x h0 (by omega)
  simpa using h
theorem or24 (g i : Int) (h0 : 0 ≤ i) (h1 : i ≤ 16777215) (g0 : 0 ≤ g) (g1 : g ≤ 1099511627775) : bits .or .u64 (g * 16777216) i = g * 16777216 + i :=
  bits_join .u64 64 (by decide) wraps_u64 24 _ _ (by omega) (by omega) (by omega) h0 (by omega) (by omega)
/-! ### Of, Index, Gen, Next -/
set_option maxHeartbeats 400000 in
theorem index_any (u : Int) (w : World) (h0 : 0 ≤ u) (h1 : u ≤ 18446744073709551615) :
    Calls Try.prog 51 #[.int .u64 u] w fun e w' => e = .returned (.int .i64 (u % 16777216)) ∧ w = w' := by
  have Hb := Lib.hid (and24 u h0 h1)
  go_enter Try.func51, Try.ntmps51
  go_wp2
  go_ret
  exact ⟨ret_int (by rw [Hb.out, IntWalk.wrap64_in _ (by omega)]), rfl⟩
set_option maxHeartbeats 400000 in
theorem gen_any (u : Int) (w : World) (h0 : 0 ≤ u) (h1 : u ≤ 18446744073709551615) :
    Calls Try.prog 79 #[.int .u64 u] w fun e w' => e = .returned (.int .u64 (u / 16777216)) ∧ w = w' := by
  go_enter Try.func79, Try.ntmps79
  go_wp2
  go_ret
  exact ⟨rfl, rfl⟩
set_option maxHeartbeats 400000 in
theorem next_any (u : Int) (w : World) (h0 : 0 ≤ u) (h1 : u ≤ 18446744073709551615) :
    Calls Try.prog 80 #[.int .u64 u] w fun e w' => e = .returned (.int .u64 ((u + 16777216) % 18446744073709551616)) ∧ w = w' := by
  go_enter Try.func80, Try.ntmps80
  go_wp2
  go_ret
  exact ⟨ret_int (by rw [IntKind.wrap_u64]), rfl⟩
set_option maxHeartbeats 400000 in
theorem of_in (i g : Int) (w : World) (h0 : 0 ≤ i) (h1 : i ≤ 16777215) (g0 : 0 ≤ g) (g1 : g ≤ 1099511627775) :
    Calls Try.prog 94 #[.int .i64 i, .int .u64 g] w fun e w' => e = .returned (.tuple #[.int .u64 (g * 16777216 + i), .bool true]) ∧ w = w' := by
  have hB : (g / 1099511627776 != 0) = false := by rw [show g / 1099511627776 = 0 by omega]; rfl
  have Hb := Lib.hid (or24 g i h0 h1 g0 g1)
  go_enter Try.func94, Try.ntmps94
  go_wp2
  go_ret2
  exact ⟨ret_pair Hb.out, rfl⟩
theorem i64_wf {n : Int} (h : (Lit.int .i64 n).wf = true) : -9223372036854775808 ≤ n ∧ n ≤ 9223372036854775807 := by
  simpa [Lit.wf, IntKind.min, IntKind.max, IntKind.signed, IntKind.bits] using h
theorem u64_wf {n : Int} (h : (Lit.int .u64 n).wf = true) : 0 ≤ n ∧ n ≤ 18446744073709551615 := by
  simpa [Lit.wf, IntKind.min, IntKind.max, IntKind.signed, IntKind.bits] using h
theorem u32_wf {n : Int} (h : (Lit.int .u32 n).wf = true) : 0 ≤ n ∧ n ≤ 4294967295 := by
  simpa [Lit.wf, IntKind.min, IntKind.max, IntKind.signed, IntKind.bits] using h
theorem u8_wf {n : Int} (h : (Lit.int .u8 n).wf = true) : 0 ≤ n ∧ n ≤ 255 := by
  simpa [Lit.wf, IntKind.min, IntKind.max, IntKind.signed, IntKind.bits] using h

theorem pow_step (k n : Nat) (h : k < n) (hn : n ≤ 63) : ((2 ^ k : Nat) : Int) * 2 = ((2 ^ (k + 1) : Nat) : Int) ∧ ((2 ^ k : Nat) : Int) ≤ 4611686018427387904 := by
  have h2 : 2 ^ k ≤ 2 ^ 62 := Nat.pow_le_pow_right (by decide) (by omega)
  have h3 : (2 : Nat) ^ 62 = 4611686018427387904 := by decide
  refine ⟨?_, by omega⟩
  rw [Nat.pow_succ]; omega

set_option maxHeartbeats 400000 in
theorem power_any (n : Nat) (w : World) (hn : n ≤ 63) :
    Calls Try.prog 75 #[.int .i64 n] w fun e w' => e = .returned (.int .u64 ((2 ^ n : Nat) : Int)) ∧ w = w' := by
  go_enter Try.func75, Try.ntmps75
  go_wp2
  go_loop [3, 4] (fun x i => ∃ k : Nat, k ≤ n ∧ i = .int .i64 k ∧ x = .int .u64 ((2 ^ k : Nat) : Int)) (fun _ i => n - (intOf i).toNat)
  case atStart => exact ⟨0, Nat.zero_le _, rfl, rfl⟩
  case round =>
    obtain ⟨k, hk, rfl, rfl⟩ := hrel
    by_cases hlt : k < n
    · obtain ⟨hs, hb⟩ := pow_step k n hlt hn
      have Hs := Lib.hid hs
      clear hs
      have hp : (0 : Int) ≤ ((2 ^ k : Nat) : Int) := Int.natCast_nonneg _
      generalize ((2 ^ k : Nat) : Int) = p at *
      go_wp2
      go_round
      case rel => exact ⟨k + 1, by omega, by go_num, by rw [← Hs.out]⟩
      case measure => simp [intOf]; omega
    · obtain rfl : k = n := by omega
      go_wp2
      go_ret
      exact ⟨rfl, rfl⟩
theorem power24 (w : World) : Calls Try.prog 75 #[.int .i64 24] w fun e w' => e = .returned (.int .u64 16777216) ∧ w = w' := power_any 24 w (by decide)
theorem power40 (w : World) : Calls Try.prog 75 #[.int .i64 40] w fun e w' => e = .returned (.int .u64 1099511627776) ∧ w = w' := power_any 40 w (by decide)
theorem still {P : Program} {f : FuncId} {args : Array Value} {w : World} {n : Nat} {v : Value} (h : Calls P f args (w.drewN n) fun e w' => e = .returned v ∧ w.drewN n = w') :
    Calls P f args (w.drewN n) fun e w' => e = .returned v ∧ ∃ m, w' = w.drewN m := by
  refine h.mono ?_
  rintro e w' ⟨he, hw⟩
  exact ⟨he, n, hw.symm⟩

set_option maxHeartbeats 400000 in
theorem refindex_any (u : Int) (w : World) (h0 : 0 ≤ u) (h1 : u ≤ 18446744073709551615) :
    Calls Try.prog 49 #[.int .u64 u] w fun e w' => e = .returned (.int .i64 (u % 16777216)) ∧ w = w' := by
  go_enter Try.func49, Try.ntmps49
  go_wp2_with (go_at_call 75; refine (power24 _).mono ?_; rintro e w' ⟨rfl, rfl⟩)
  go_ret
  exact ⟨ret_int (by omega), rfl⟩
set_option maxHeartbeats 400000 in
theorem refgen_any (u : Int) (w : World) (h0 : 0 ≤ u) (h1 : u ≤ 18446744073709551615) :
    Calls Try.prog 81 #[.int .u64 u] w fun e w' => e = .returned (.int .u64 (u / 16777216)) ∧ w = w' := by
  go_enter Try.func81, Try.ntmps81
  go_wp2_with (go_at_call 75; refine (power24 _).mono ?_; rintro e w' ⟨rfl, rfl⟩)
  go_ret
  exact ⟨ret_int (by omega), rfl⟩
set_option maxHeartbeats 400000 in
theorem refof_in (i g : Int) (w : World) (h0 : 0 ≤ i) (h1 : i ≤ 16777215) (g0 : 0 ≤ g) (g1 : g ≤ 1099511627775) :
    Calls Try.prog 74 #[.int .i64 i, .int .u64 g] w fun e w' => e = .returned (.tuple #[.int .u64 (g * 16777216 + i), .bool true]) ∧ w = w' := by
  go_enter Try.func74, Try.ntmps74
  go_wp2_with fail
  refine (power24 _).mono ?_
  rintro e w' ⟨rfl, rfl⟩
  go_wp2_with fail
  refine (power40 _).mono ?_
  rintro e w' ⟨rfl, rfl⟩
  go_wp2_with fail
  refine (power24 _).mono ?_
  rintro e w' ⟨rfl, rfl⟩
  go_wp2
  go_ret2
  exact ⟨rfl, rfl⟩
theorem next_num (u : Int) (h0 : 0 ≤ u) (h1 : u ≤ 18446744073709551615) : (u / 16777216 + 1) % 1099511627776 * 16777216 + u % 16777216 = (u + 16777216) % 18446744073709551616 := by omega
def Quiet (v : Value) (w : World) (e : Ending) (w' : World) : Prop := e = .returned v ∧ ∃ n, w' = w.drewN n
set_option maxHeartbeats 400000 in
theorem refnext_any (u : Int) (w : World) (h0 : 0 ≤ u) (h1 : u ≤ 18446744073709551615) :
    Calls Try.prog 82 #[.int .u64 u] w (Quiet (.int .u64 ((u + 16777216) % 18446744073709551616)) w) := by
  have H := Lib.hid (next_num u h0 h1)
  go_enter Try.func82, Try.ntmps82
  go_wp2_with fail
  go_quiet ((first
    | (go_at_call 81; exact still (refgen_any _ _ h0 h1))
    | (go_at_call 75; first | (with_reducible exact still (power24 _)) | (with_reducible exact still (power40 _)))))
  go_wp2
  go_ret
  exact ⟨ret_int H.out, _, rfl⟩
end Go.Proofs.Ytbldjlkofaiikaa
