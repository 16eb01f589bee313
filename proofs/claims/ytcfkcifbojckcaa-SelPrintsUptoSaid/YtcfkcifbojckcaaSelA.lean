/-
  What the small calls of package sel come to: which numbers are blanks, letters, bytes of a name, of a string; what kind of test one begins.
-/
import Derived.Test.YtcfkcifbojckcaaRows
import Derived.WalkKit
import Derived.ProofKit
import Derived.OpenShut
import Derived.IntWalk
import Derived.Lib.Hide
import Derived.Test.YtcfkcifbojckcaaSelM
namespace Go.Proofs.Ytcfkcifbojckcaa
open Go.ChangeShapes Go.WideShapes Go.ChangeAt Go.RowKit
set_option linter.unusedVariables false
set_option linter.unusedSimpArgs false

theorem ret_bool {a b : Bool} (h : a = b) : Ending.returned (.bool a) = .returned (.bool b) := by rw [h]
theorem ret_i64 {a b : Int} (h : a = b) : Ending.returned (.int .i64 a) = .returned (.int .i64 b) := by rw [h]
def bB (c : Int) : Bool := decide (c = 9 ∨ c = 10 ∨ c = 12 ∨ c = 13 ∨ c = 32)
def bL (c : Int) : Bool := decide ((65 ≤ c ∧ c ≤ 90) ∨ (97 ≤ c ∧ c ≤ 122))
def bN (c : Int) : Bool := decide ((65 ≤ c ∧ c ≤ 90) ∨ (97 ≤ c ∧ c ≤ 122) ∨ (48 ≤ c ∧ c ≤ 57) ∨ c = 45 ∨ c = 95)
def bS (c : Int) : Bool := decide (c ≠ 34 ∧ c ≠ -1)
def kd (c : Int) : Int := if c = 35 then 2 else if c = 46 then 3 else if c = 91 then 4 else if bL c = true then 1 else 0
theorem sel_isBlank (c : Int) (w : World) : Calls Try.prog 47 #[.int .i64 c] w fun e w' => e = .returned (.bool (bB c)) ∧ w = w' := by
  go_enter Try.func47, Try.ntmps47
  go_wp2
  all_goals
    go_ret
    exact ⟨ret_bool (by simp [bB]; simp_all), rfl⟩
theorem sel_isLetter (c : Int) (w : World) : Calls Try.prog 55 #[.int .i64 c] w fun e w' => e = .returned (.bool (bL c)) ∧ w = w' := by
  go_enter Try.func55, Try.ntmps55
  go_wp2
  all_goals
    go_ret
    exact ⟨ret_bool (by rw [Bool.eq_iff_iff]; simp [bL] <;> omega), rfl⟩
theorem sel_isNameByte (c : Int) (w : World) : Calls Try.prog 58 #[.int .i64 c] w fun e w' => e = .returned (.bool (bN c)) ∧ w = w' := by
  rcases Bool.eq_false_or_eq_true (bL c) with hc | hc
  all_goals
    have hd := hc
    simp [bL] at hd
    go_enter Try.func58, Try.ntmps58
    go_wp2_with (go_at_call 55; refine (sel_isLetter c _).mono ?_; rintro e w' ⟨rfl, rfl⟩)
    all_goals
      go_ret
      exact ⟨ret_bool (by rw [Bool.eq_iff_iff]; simp [bN] <;> omega), rfl⟩
theorem sel_isStringByte (c : Int) (w : World) : Calls Try.prog 59 #[.int .i64 c] w fun e w' => e = .returned (.bool (bS c)) ∧ w = w' := by
  go_enter Try.func59, Try.ntmps59
  go_wp2
  all_goals
    go_ret
    exact ⟨ret_bool (by rw [Bool.eq_iff_iff]; simp [bS] <;> simp_all), rfl⟩
theorem sel_kindOf (c : Int) (w : World) : Calls Try.prog 52 #[.int .i64 c] w fun e w' => e = .returned (.int .i64 (kd c)) ∧ w = w' := by
  rcases Bool.eq_false_or_eq_true (bL c) with hc | hc
  all_goals
    go_enter Try.func52, Try.ntmps52
    go_wp2_with (go_at_call 55; refine (sel_isLetter c _).mono ?_; rintro e w' ⟨rfl, rfl⟩)
    all_goals
      go_ret
      exact ⟨ret_i64 (by simp [kd]; simp_all), rfl⟩
def mkB (c : Int) : Bool := decide (c = 35 ∨ c = 46 ∨ c = 91)
theorem sel_isMark (c : Int) (w : World) : Calls Try.prog 49 #[.int .i64 c] w fun e w' => e = .returned (.bool (mkB c)) ∧ w = w' := by
  have hk : mkB c = (kd c != 1 && kd c != 0) := by
    unfold mkB kd
    by_cases h1 : c = 35
    · simp [h1]
    by_cases h2 : c = 46
    · simp [h1, h2]
    by_cases h3 : c = 91
    · simp [h1, h2, h3]
    by_cases h4 : bL c = true <;> simp [h1, h2, h3, h4]
  rw [hk]
  generalize hkk : kd c = k
  go_enter Try.func49, Try.ntmps49
  go_wp2_with (go_at_call 52; refine (sel_kindOf c _).mono ?_; rintro e w' ⟨rfl, rfl⟩; rw [hkk])
  all_goals
    go_ret
    exact ⟨ret_bool (by simp_all), rfl⟩
end Go.Proofs.Ytcfkcifbojckcaa
