/-
  What the calls of package pack come to: the contracts that the laws of layer 1 are proved out of.
-/
import Derived.Test.YtdjhnjokmmbafaaDoorRows
import Derived.WalkKit
import Derived.ProofKit
import Derived.OpenShut
import Derived.IntWalk
import Derived.Lib.Hide
import Derived.Lib.BitFns
import Derived.Lib.ItoaNum
import Derived.Lib.EndianBits
import Derived.Lib.Zigzag
import Derived.Laws.BitsAllLaws
namespace Go.Proofs.YtdjhnjokmmbafaaDoor
open Go.ChangeShapes Go.WideShapes Go.ChangeAt Go.RowKit
set_option linter.unusedVariables false

theorem own : ownKnob Tryd.prog.godebug = none := by kernel_rfl
theorem ret_int {k : IntKind} {a b : Int} (h : a = b) : Ending.returned (.int k a) = .returned (.int k b) := by rw [h]
theorem ret_bool {a b : Bool} (h : a = b) : Ending.returned (.bool a) = .returned (.bool b) := by rw [h]
theorem ret_pair {k : IntKind} {a b : Int} {c : Bool} (h : a = b) : Ending.returned (.tuple #[.int k a, .bool c]) = .returned (.tuple #[.int k b, .bool c]) := by rw [h]
theorem ret_str {a b : ByteArray} (h : a = b) : Ending.returned (.string a) = .returned (.string b) := by rw [h]

/-! ### plain numbers -/
theorem and24 (x : Int) (h0 : 0 ≤ x) (h1 : x ≤ 18446744073709551615) : bits .and .u64 x 16777215 = x % 16777216 := by
  have h := bits_mask .u64 64 (by decide) wraps_u64 24 (by decide) x h0 (by omega)
  simpa using h
theorem or24 (g i : Int) (h0 : 0 ≤ i) (h1 : i ≤ 16777215) (g0 : 0 ≤ g) (g1 : g ≤ 1099511627775) : bits .or .u64 (g * 16777216) i = g * 16777216 + i :=
  bits_join .u64 64 (by decide) wraps_u64 24 _ _ (by omega) (by omega) (by omega) h0 (by omega) (by omega)
theorem not64 (x : Int) (h0 : 0 ≤ x) (h1 : x ≤ 9223372036854775807) : bits .xor .i64 (-1) x = -x - 1 := by
  obtain ⟨a, rfl⟩ := Int.eq_ofNat_of_zero_le h0
  exact Lib.i64_not a (by omega)

/-! ### Zig, Zag -/
set_option maxHeartbeats 400000 in
theorem zig_pos (n : Int) (w : World) (h0 : 0 ≤ n) (h1 : n ≤ 9223372036854775807) :
    Calls Tryd.prog 36 #[.int .i64 n] w fun e w' => e = .returned (.int .u64 (2 * n)) ∧ w = w' := by
  go_enter Tryd.func36, Tryd.ntmps36
  go_wp2
  go_ret
  exact ⟨ret_int (by omega), rfl⟩
set_option maxHeartbeats 400000 in
theorem zig_neg (n : Int) (w : World) (h0 : n < 0) (h1 : -9223372036854775808 ≤ n) :
    Calls Tryd.prog 36 #[.int .i64 n] w fun e w' => e = .returned (.int .u64 (-2 * n - 1)) ∧ w = w' := by
  go_enter Tryd.func36, Tryd.ntmps36
  go_wp2
  go_ret
  exact ⟨ret_int (by rw [Lib.zigzag_neg h1 h0]; unfold Lib.zigzag; rw [if_neg (by omega)]; omega), rfl⟩
def zig (n : Int) : Int := if n < 0 then -2 * n - 1 else 2 * n
def zag (u : Int) : Int := if u % 2 = 0 then u / 2 else -(u / 2) - 1
theorem zig_any (n : Int) (w : World) (h0 : -9223372036854775808 ≤ n) (h1 : n ≤ 9223372036854775807) :
    Calls Tryd.prog 36 #[.int .i64 n] w fun e w' => e = .returned (.int .u64 (zig n)) ∧ w = w' := by
  unfold zig
  by_cases h : n < 0
  · rw [if_pos h]; exact zig_neg n w h h0
  · rw [if_neg h]; exact zig_pos n w (by omega) h1
set_option maxHeartbeats 400000 in
theorem zag_any (u : Int) (w : World) (h0 : 0 ≤ u) (h1 : u ≤ 18446744073709551615) :
    Calls Tryd.prog 52 #[.int .u64 u] w fun e w' => e = .returned (.int .i64 (zag u)) ∧ w = w' := by
  unfold zag
  have hb := Lib.u64_and1 u h0 (by omega)
  have hn := not64 (u / 2) (by omega) (by omega)
  by_cases h : u % 2 = 0
  · have hB : (bits BinOp.and IntKind.u64 u 1 != 0) = false := by rw [hb, h]; rfl
    rw [if_pos h]
    clear hb hn h
    go_enter Tryd.func52, Tryd.ntmps52
    go_wp2
    go_ret
    exact ⟨rfl, rfl⟩
  · have hB : (bits BinOp.and IntKind.u64 u 1 != 0) = true := by rw [hb, bne_iff_ne]; exact h
    rw [if_neg h]
    have Hn := Lib.hid hn
    clear hb hn h
    go_enter Tryd.func52, Tryd.ntmps52
    go_wp2
    go_ret
    exact ⟨ret_int Hn.out, rfl⟩

/-! ### Of, Index, Gen, Next -/
end Go.Proofs.YtdjhnjokmmbafaaDoor
