/-
  The reference's small calls: has, in.
-/
import Derived.Test.YtdjhnjokmmbafaaDoorOpU
namespace Go.Proofs.YtdjhnjokmmbafaaDoor
open Go.ChangeShapes Go.WideShapes Go.ChangeAt Go.RowKit
set_option linter.unusedVariables false
set_option linter.unusedSimpArgs false

def hasS (k : Int) : ByteArray := if k = 1 then ⟨#[110]⟩ else if k = 2 then ⟨#[120]⟩ else if k = 3 then ⟨#[120]⟩ else if k = 4 then ⟨#[105, 116, 97]⟩ else if k = 5 then ⟨#[105]⟩ else if k = 6 then ⟨#[105, 110, 120]⟩ else if k = 7 then ⟨#[105, 110]⟩ else if k = 8 then ⟨#[105, 120]⟩ else ⟨#[]⟩
set_option maxHeartbeats 1000000 in
theorem has_any (k : Int) (w : World) : Calls Tryd.prog 25 #[.int .i64 k] w fun e w' => e = .returned (.string (hasS k)) ∧ w' = w := by
  by_cases h1 : k = 1
  · subst h1
    go_enter Tryd.func25, Tryd.ntmps25
    go_wp2
    go_ret
    exact ⟨rfl, rfl⟩
  by_cases h2 : k = 2
  · subst h2
    go_enter Tryd.func25, Tryd.ntmps25
    go_wp2
    go_ret
    exact ⟨rfl, rfl⟩
  by_cases h3 : k = 3
  · subst h3
    go_enter Tryd.func25, Tryd.ntmps25
    go_wp2
    go_ret
    exact ⟨rfl, rfl⟩
  by_cases h4 : k = 4
  · subst h4
    go_enter Tryd.func25, Tryd.ntmps25
    go_wp2
    go_ret
    exact ⟨rfl, rfl⟩
  by_cases h5 : k = 5
  · subst h5
    go_enter Tryd.func25, Tryd.ntmps25
    go_wp2
    go_ret
    exact ⟨rfl, rfl⟩
  by_cases h6 : k = 6
  · subst h6
    go_enter Tryd.func25, Tryd.ntmps25
    go_wp2
    go_ret
    exact ⟨rfl, rfl⟩
  by_cases h7 : k = 7
  · subst h7
    go_enter Tryd.func25, Tryd.ntmps25
    go_wp2
    go_ret
    exact ⟨rfl, rfl⟩
  by_cases h8 : k = 8
  · subst h8
    go_enter Tryd.func25, Tryd.ntmps25
    go_wp2
    go_ret
    exact ⟨rfl, rfl⟩
  have e : hasS k = ⟨#[]⟩ := by simp [hasS, h1, h2, h3, h4, h5, h6, h7, h8]
  rw [e]
  have q1 : (k == 1) = false := by simpa using h1
  have q2 : (k == 2) = false := by simpa using h2
  have q3 : (k == 3) = false := by simpa using h3
  have q4 : (k == 4) = false := by simpa using h4
  have q5 : (k == 5) = false := by simpa using h5
  have q6 : (k == 6) = false := by simpa using h6
  have q7 : (k == 7) = false := by simpa using h7
  have q8 : (k == 8) = false := by simpa using h8
  clear e
  go_enter Tryd.func25, Tryd.ntmps25
  go_wp2
  go_ret
  exact ⟨rfl, rfl⟩
def inB (s : ByteArray) (b : Int) : Bool := (List.range s.size).any fun i => PlainAid.bt s i == b
set_option maxHeartbeats 1000000 in
theorem in_any (s : ByteArray) (b : Int) (w : World) (hs : s.size ≤ 100) : Calls Tryd.prog 26 #[.string s, .int .u8 b] w fun e w' => e = .returned (.bool (inB s b)) ∧ w' = w := by
  have HI : Hid (inB s b = (List.range s.size).any fun i => PlainAid.bt s i == b) := Lib.hid rfl
  generalize inB s b = R at *
  have hg := PlainAid.get_bt s
  obtain ⟨n, hn⟩ : ∃ n, s.size = n := ⟨_, rfl⟩
  go_enter Tryd.func26, Tryd.ntmps26
  go_wp2_with fail
  go_loopw [5] (fun q wv => ∃ j : Nat, j ≤ s.size ∧ q = .int .i64 j ∧ Hid (∀ i, i < j → (PlainAid.bt s i == b) = false) ∧ w = wv) (fun q _ => s.size - (intOf q).toNat)
  case atStart => exact ⟨0, Nat.zero_le _, rfl, Lib.hid (fun i h => absurd h (by omega)), rfl⟩
  case round =>
    obtain ⟨j, hj, rfl, HN, rfl⟩ := hrel
    by_cases hlt : j < s.size
    · have k0 : (0 : Int) ≤ (j : Int) := by omega
      have k1 : (j : Int) < (s.size : Int) := by omega
      rcases Bool.eq_false_or_eq_true (PlainAid.bt s j == b) with hb | hb
      · have HR : Hid (R = true) := Lib.hid (by rw [HI.out]; exact List.any_eq_true.2 ⟨j, List.mem_range.2 hlt, hb⟩)
        go_wp2
        go_ret
        exact ⟨ret_bool HR.out.symm, rfl⟩
      · have HN2 : Hid (∀ i, i < j + 1 → (PlainAid.bt s i == b) = false) := Lib.hid (fun i h => by
          rcases Nat.lt_or_ge i j with h' | h'
          · exact HN.out i h'
          · obtain rfl : i = j := by omega
            exact hb)
        go_wp2
        go_roundw
        case rel => exact ⟨j + 1, by omega, by go_num, HN2, by first | trivial | rfl⟩
        case measure => simp [intOf] <;> omega
    · have HR : Hid (R = false) := Lib.hid (by
        rw [HI.out]
        refine List.any_eq_false.2 (fun i hi => ?_)
        rw [HN.out i (by have := List.mem_range.1 hi; omega)]
        simp)
      go_wp2
      go_ret
      exact ⟨ret_bool HR.out.symm, rfl⟩
end Go.Proofs.YtdjhnjokmmbafaaDoor
