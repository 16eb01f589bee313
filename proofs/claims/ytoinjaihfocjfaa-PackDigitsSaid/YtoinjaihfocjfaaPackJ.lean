/-
  The law PackDigits, walked: it returns true, and the memory grows only.
-/
import Derived.Test.YtoinjaihfocjfaaPackE
namespace Go.Proofs.Ytoinjaihfocjfaa
open Go.ChangeShapes Go.WideShapes Go.ChangeAt Go.RowKit
set_option linter.unusedVariables false

/-! ### plain numbers -/
def p4 (k : Nat) : Int := ((4 ^ k : Nat) : Int)
theorem p4_pos (k : Nat) : 1 ≤ p4 k := by
  have : 0 < 4 ^ k := Nat.pow_pos (by decide)
  unfold p4; omega
theorem p4_succ (k : Nat) : p4 (k + 1) = p4 k * 4 := by unfold p4; rw [Nat.pow_succ]; omega
theorem p4_mono {k m : Nat} (h : k ≤ m) : p4 k ≤ p4 m := by
  have : 4 ^ k ≤ 4 ^ m := Nat.pow_le_pow_right (by decide) h
  unfold p4; omega
theorem p4_two (k : Nat) : p4 k = ((2 ^ (2 * k) : Nat) : Int) := by unfold p4; rw [Nat.pow_mul]
def dig (i : Int) (k : Nat) : Int := i / p4 k % 4
theorem dig_bounds (i : Int) (k : Nat) : 0 ≤ dig i k ∧ dig i k ≤ 3 := by unfold dig; omega
theorem div_succ (i : Int) (k : Nat) : i / p4 (k + 1) = i / p4 k / 4 := by
  rw [p4_succ, Int.ediv_ediv_of_nonneg (by have := p4_pos k; omega)]
theorem div_le (i : Int) (k : Nat) (h0 : 0 ≤ i) : 0 ≤ i / p4 k ∧ i / p4 k ≤ i := IntWalk.tdiv_le i (p4 k) h0 (p4_pos k)
theorem div_back (i : Int) (k : Nat) : i / p4 (k + 1) * 4 + dig i k = i / p4 k := by
  rw [div_succ]; unfold dig; omega

set_option maxHeartbeats 400000 in
theorem digit_in (i : Int) (k : Nat) (w : World) (h0 : 0 ≤ i) (h1 : i ≤ 4294967295) (hk : k ≤ 15) :
    Calls Try.prog 27 #[.int .u32 i, .int .i64 k] w fun e w' => e = .returned (.int .i64 (dig i k)) ∧ w = w' := by
  have hp : (2 : Int) ^ (2 * k) = p4 k := by rw [p4_two]; simp
  obtain ⟨hx0, hx1⟩ := div_le i k h0
  have hm : bits .and .u32 (i / (2 : Int) ^ (2 * k)) 3 = dig i k := by
    unfold dig
    rw [hp]
    have h := bits_mask .u32 32 (by decide) wraps_u32 2 (by decide) (i / p4 k) hx0 (by omega)
    simpa using h
  obtain ⟨hd0, hd1⟩ := dig_bounds i k
  have Hm := Lib.hid hm
  clear hm hp hx0 hx1
  go_enter Try.func27, Try.ntmps27
  go_wp2
  go_ret
  exact ⟨ret_int (by rw [Hm.out, IntWalk.wrap64_in _ (by omega)]), rfl⟩
set_option maxHeartbeats 400000 in
theorem digit_out (i l : Int) (w : World) (h : l < 0 ∨ 15 < l) :
    Calls Try.prog 27 #[.int .u32 i, .int .i64 l] w fun e w' => e = .returned (.int .i64 0) ∧ w = w' := by
  rcases h with h | h
  · go_enter Try.func27, Try.ntmps27
    go_wp2
    go_ret
    exact ⟨rfl, rfl⟩
  · have h' : ¬ l < 0 := by omega
    go_enter Try.func27, Try.ntmps27
    go_wp2
    go_ret
    exact ⟨rfl, rfl⟩
set_option maxHeartbeats 400000 in
theorem refdigit_out (i l : Int) (w : World) (h : l < 0 ∨ 15 < l) :
    Calls Try.prog 28 #[.int .u32 i, .int .i64 l] w fun e w' => e = .returned (.int .i64 0) ∧ w = w' := by
  rcases h with h | h
  · go_enter Try.func28, Try.ntmps28
    go_wp2
    go_ret
    exact ⟨rfl, rfl⟩
  · have h' : ¬ l < 0 := by omega
    go_enter Try.func28, Try.ntmps28
    go_wp2
    go_ret
    exact ⟨rfl, rfl⟩
set_option maxHeartbeats 400000 in
theorem refdigit_in (i : Int) (n : Nat) (w : World) (h0 : 0 ≤ i) (h1 : i ≤ 4294967295) (hn : n ≤ 15) :
    Calls Try.prog 28 #[.int .u32 i, .int .i64 n] w fun e w' => e = .returned (.int .i64 (dig i n)) ∧ w = w' := by
  have hn' : ¬ ((n : Int) < 0) := by omega
  have hn2 : ¬ (15 < (n : Int)) := by omega
  go_enter Try.func28, Try.ntmps28
  go_wp2
  go_loop [0, 5] (fun x j => ∃ k : Nat, k ≤ n ∧ j = .int .i64 k ∧ x = .int .u32 (i / p4 k)) (fun _ j => n - (intOf j).toNat)
  case atStart => exact ⟨0, Nat.zero_le _, rfl, by unfold p4; simp⟩
  case round =>
    obtain ⟨k, hk, rfl, rfl⟩ := hrel
    obtain ⟨hx0, hx1⟩ := div_le i k h0
    by_cases hlt : k < n
    · have Hs := Lib.hid (div_succ i k)
      generalize i / p4 k = x at *
      go_wp2
      go_round
      case rel => exact ⟨k + 1, by omega, by go_num, by rw [Hs.out]⟩
      case measure => simp [intOf]; omega
    · obtain rfl : k = n := by omega
      have hd : dig i k = i / p4 k % 4 := rfl
      have Hd := Lib.hid hd
      clear hd
      generalize i / p4 k = x at *
      go_wp2
      go_ret
      exact ⟨ret_int (by rw [Hd.out]), rfl⟩

/-! ### Levels -/
def lev (n : Int) : Nat := if n < 2 then 0 else (Lib.bitLen (n - 1).toNat + 1) / 2
theorem lev_facts (n : Int) (h : 2 ≤ n) (h1 : n ≤ 9223372036854775807) : lev n ≤ 32 ∧ (∀ k, k < lev n → p4 k < n) ∧ n ≤ p4 (lev n) := by
  unfold lev
  rw [if_neg (by omega)]
  have hb := Lib.bitLen_le (n - 1).toNat 63 (by decide) (by omega)
  obtain ⟨b1, b2, b3⟩ := Lib.bitLenAux_bounds 64 (n - 1).toNat (by omega) (by omega)
  change 1 ≤ Lib.bitLen (n - 1).toNat at b1
  change 2 ^ (Lib.bitLen (n - 1).toNat - 1) ≤ (n - 1).toNat at b2
  change (n - 1).toNat < 2 ^ Lib.bitLen (n - 1).toNat at b3
  generalize Lib.bitLen (n - 1).toNat = b at *
  refine ⟨by omega, fun k hk => ?_, ?_⟩
  · have h2 : 2 ^ (2 * k) ≤ 2 ^ (b - 1) := Nat.pow_le_pow_right (by decide) (by omega)
    rw [p4_two]; omega
  · have h2 : 2 ^ b ≤ 2 ^ (2 * ((b + 1) / 2)) := Nat.pow_le_pow_right (by decide) (by omega)
    rw [p4_two]; omega
theorem lev_lt (n : Int) (h1 : n ≤ 9223372036854775807) (k : Nat) (hk : k < lev n) : k < 32 ∧ 0 < n ∧ p4 k < n := by
  by_cases h : n < 2
  · unfold lev at hk; rw [if_pos h] at hk; omega
  · obtain ⟨a, b, c⟩ := lev_facts n (by omega) h1
    exact ⟨by omega, by omega, b k hk⟩
theorem lev_end (n : Int) (h1 : n ≤ 9223372036854775807) : lev n ≤ 32 ∧ (0 < n → n ≤ p4 (lev n)) := by
  by_cases h : n < 2
  · have e : lev n = 0 := by unfold lev; rw [if_pos h]
    rw [e]; unfold p4; simp; omega
  · obtain ⟨a, b, c⟩ := lev_facts n (by omega) h1
    exact ⟨a, fun _ => c⟩
theorem levels_any (n : Int) (w : World) (h1 : n ≤ 9223372036854775807) :
    Calls Try.prog 29 #[.int .i64 n] w fun e w' => e = .returned (.int .i64 (lev n)) ∧ w = w' := by
  unfold lev
  by_cases h : n < 2
  · rw [if_pos h]; exact levels_small n w h
  · rw [if_neg h]; exact levels_big n w (by omega) h1
def LevX (k : Nat) (X : Int) : Prop := k < 32 → X = p4 k
theorem levx_next {k : Nat} {X : Int} (hk : k < 32) (t : LevX k X) : LevX (k + 1) (IntKind.u64.wrap (X * 4)) := by
  intro h
  have hx := t hk
  have := p4_mono (show k + 1 ≤ 31 by omega)
  have e : p4 31 = 4611686018427387904 := by decide
  have := p4_pos k
  rw [hx, ← p4_succ, IntWalk.u64_in _ (by have := p4_pos (k + 1); omega)]
set_option maxHeartbeats 400000 in
theorem reflevels_any (n : Int) (w : World) (h0 : -9223372036854775808 ≤ n) (h1 : n ≤ 9223372036854775807) :
    Calls Try.prog 30 #[.int .i64 n] w fun e w' => e = .returned (.int .i64 (lev n)) ∧ w = w' := by
  go_enter Try.func30, Try.ntmps30
  go_wp2
  go_loop [3, 4] (fun c x => ∃ (k : Nat) (X : Int), k ≤ lev n ∧ c = .int .i64 k ∧ x = .int .u64 X ∧ 0 ≤ X ∧ X ≤ 18446744073709551615 ∧ LevX k X) (fun c _ => lev n - (intOf c).toNat)
  case atStart => exact ⟨0, 1, Nat.zero_le _, rfl, rfl, by decide, by decide, fun _ => rfl⟩
  case round =>
    obtain ⟨k, X, hk, rfl, rfl, hX0, hX1, hL⟩ := hrel
    by_cases hlt : k < lev n
    · obtain ⟨k32, hn, hp⟩ := lev_lt n h1 k hlt
      have hX := hL k32
      have hlt' : X < n := by rw [hX]; exact hp
      have hN := levx_next k32 hL
      have hY : 0 ≤ IntKind.u64.wrap (X * 4) ∧ IntKind.u64.wrap (X * 4) ≤ 18446744073709551615 := by rw [IntKind.wrap_u64]; omega
      clear hX hL hp
      have HN := Lib.hid hN
      have HY := Lib.hid hY
      clear hN hY
      go_wp2
      go_round
      case rel => exact ⟨k + 1, IntKind.u64.wrap (X * 4), by omega, by go_num, by first | rfl | (simp [go_sem]), HY.out.1, HY.out.2, HN.out⟩
      case measure => simp [intOf]; omega
    · obtain rfl : k = lev n := by omega
      obtain ⟨e1, e2⟩ := lev_end n h1
      by_cases hn : 0 < n
      · by_cases h32 : lev n < 32
        · have hX := hL h32
          have hge : ¬ X < n := by have := e2 hn; omega
          clear hX e2 hL hlt hk
          go_wp2
          go_ret
          exact ⟨rfl, rfl⟩
        · have hle : ¬ ((lev n : Int) < 32) := by omega
          clear e2 hL hlt hk h32
          by_cases hx : X < n
          · go_wp2
            go_ret
            exact ⟨rfl, rfl⟩
          · go_wp2
            go_ret
            exact ⟨rfl, rfl⟩
      · clear e2 hL hlt hk
        go_wp2
        go_ret
        exact ⟨rfl, rfl⟩

theorem start16 (i : Int) (h0 : 0 ≤ i) (h1 : i ≤ 4294967295) : i / p4 16 = 0 := by
  have e : p4 16 = 4294967296 := by decide
  rw [e]; omega
set_option maxHeartbeats 400000 in
theorem packDigits_of (i l n d : Int) (w : World) (h0 : 0 ≤ i) (h1 : i ≤ 4294967295) (n0 : -9223372036854775808 ≤ n) (n1 : n ≤ 9223372036854775807)
    (hd : ∀ w : World, Calls Try.prog 27 #[.int .u32 i, .int .i64 l] w fun e w' => e = .returned (.int .i64 d) ∧ w = w')
    (hr : ∀ w : World, Calls Try.prog 28 #[.int .u32 i, .int .i64 l] w fun e w' => e = .returned (.int .i64 d) ∧ w = w') :
    Calls Try.prog 6 #[.int .u32 i, .int .i64 l, .int .i64 n] w fun e w' => e = .returned (.bool true) ∧ Grown w w' := by
  have Hd := Lib.hid hd
  have Hr := Lib.hid hr
  clear hd hr
  go_enter Try.func6, Try.ntmps6
  go_wp2_with fail
  go_loop [7, 8] (fun u k => ∃ j : Nat, j ≤ 16 ∧ k = .int .i64 ((j : Int) - 1) ∧ u = .int .u64 (i / p4 j)) (fun _ k => (intOf k + 1).toNat)
  case atStart => exact ⟨16, by decide, rfl, by rw [start16 i h0 h1]⟩
  case round =>
    obtain ⟨j, hj, rfl, rfl⟩ := hrel
    rcases j with _ | m
    · have e : i / p4 0 = i := by unfold p4; simp
      rw [e, show ((0 : Nat) : Int) - 1 = -1 by decide]
      clear e
      go_wp2_with fail
      refine (Hd.out _).mono ?_
      rintro e w' ⟨rfl, rfl⟩
      go_wp2_with fail
      refine (Hr.out _).mono ?_
      rintro e w' ⟨rfl, rfl⟩
      go_wp2_with fail
      refine (levels_any _ _ n1).mono ?_
      rintro e w' ⟨rfl, rfl⟩
      go_wp2_with fail
      refine (reflevels_any _ _ n0 n1).mono ?_
      rintro e w' ⟨rfl, rfl⟩
      go_wp2_with fail
      refine (shown_any _).mono ?_
      rintro e w' ⟨rfl, hg⟩
      go_wp2
      go_ret
      exact ⟨rfl, hg⟩
    · rw [show (((m + 1 : Nat) : Int) - 1) = (m : Int) by omega]
      obtain ⟨hx0, hx1⟩ := div_le i (m + 1) h0
      obtain ⟨hd0, hd1⟩ := dig_bounds i m
      have Hb := Lib.hid (div_back i m)
      have HD := Lib.hid (fun w => digit_in i m w h0 h1 (by omega))
      have hx2 : i / p4 (m + 1) * 4 ≤ 18446744073709551612 := by omega
      generalize i / p4 (m + 1) = x at *
      generalize dig i m = y at *
      go_wp2_with fail
      refine (HD.out _).mono ?_
      rintro e w' ⟨rfl, rfl⟩
      go_wp2_with fail
      go_round
      case rel => exact ⟨m, by omega, rfl, by rw [← Hb.out]⟩
      case measure => simp [intOf]
theorem packDigits_walk (a0 a1 a2 : Int) (w0 : (Lit.int .u32 a0).wf = true) (w1 : (Lit.int .i64 a1).wf = true) (w2 : (Lit.int .i64 a2).wf = true) (w : World) :
    Calls Try.prog 6 #[.int .u32 a0, .int .i64 a1, .int .i64 a2] w fun e w' => e = .returned (.bool true) ∧ Grown w w' := by
  obtain ⟨l0, u0⟩ := u32_wf w0
  obtain ⟨l2, u2⟩ := i64_wf w2
  by_cases h : a1 < 0 ∨ 15 < a1
  · exact packDigits_of a0 a1 a2 0 w l0 u0 l2 u2 (fun w => digit_out a0 a1 w h) (fun w => refdigit_out a0 a1 w h)
  · obtain ⟨k, rfl⟩ := Int.eq_ofNat_of_zero_le (show 0 ≤ a1 by omega)
    exact packDigits_of a0 k a2 (dig a0 k) w l0 u0 l2 u2 (fun w => digit_in a0 k w l0 u0 (by omega)) (fun w => refdigit_in a0 k w l0 u0 (by omega))
end Go.Proofs.Ytoinjaihfocjfaa
