/-
  The laws PackNarrows and PackBits, walked: each returns true, and the memory grows only.
-/
import Derived.Test.YtoinjaihfocjfaaPackE
namespace Go.Proofs.Ytoinjaihfocjfaa
open Go.ChangeShapes Go.WideShapes Go.ChangeAt Go.RowKit
set_option linter.unusedVariables false

/-- n in fewer bits: the number of -m to m - 1 that differs from n by a multiple of 2 m. -/
def nar (n m : Int) : Int := (n + m) % (2 * m) - m
theorem tmod_parts (n m : Int) (hm : 0 < m) : n.tmod m = if 0 ≤ n then n % m else -((-n) % m) := by
  split
  · exact Int.tmod_eq_emod_of_nonneg (by assumption)
  · have h : (-n).tmod m = (-n) % m := Int.tmod_eq_emod_of_nonneg (by omega)
    rw [Int.neg_tmod] at h
    omega
theorem nar_bounds (n m : Int) (hm : 0 < m) : -m ≤ nar n m ∧ nar n m ≤ m - 1 := by
  unfold nar
  have h1 := Int.emod_nonneg (n + m) (show (2 * m) ≠ 0 by omega)
  have h2 := Int.emod_lt_of_pos (n + m) (show 0 < 2 * m by omega)
  omega
theorem nar_in (n m : Int) (hm : 0 < m) (h0 : -m ≤ n) (h1 : n ≤ m - 1) : nar n m = n := by
  unfold nar
  rw [Int.emod_eq_of_lt (by omega) (by omega)]
  omega

theorem wrapped8 (n : Int) : IntKind.i8.wrap n = nar n 128 := by
  unfold nar
  simp only [IntKind.wrap, IntKind.bits, IntKind.signed]
  simp
  split <;> omega
theorem power8 (w : World) : Calls Try.prog 35 #[.int .i64 8] w fun e w' => e = .returned (.int .u64 256) ∧ w = w' := power_any 8 w (by decide)
set_option maxHeartbeats 400000 in
theorem narrow8 (n : Int) (w : World) :
    Calls Try.prog 25 #[.int .i64 n, .int .i64 8] w fun e w' => e = .returned (.int .i64 (nar n 128)) ∧ w = w' := by
  have H := Lib.hid (wrapped8 n)
  obtain ⟨h1, h2⟩ := nar_bounds n 128 (by decide)
  go_enter Try.func25, Try.ntmps25
  go_wp2
  go_ret
  exact ⟨ret_int (by rw [H.out, IntWalk.wrap64_in _ (by omega)]), rfl⟩
theorem back8 (n r : Int) (ht : r = if 0 ≤ n then n % 256 else -((-n) % 256)) :
    (if r < 0 then (if 128 ≤ r + 256 then r + 256 - 256 else r + 256) else (if 128 ≤ r then r - 256 else r)) = nar n 128 := by
  unfold nar
  split at ht <;> split <;> split <;> omega
set_option maxHeartbeats 400000 in
theorem refnarrow8 (n : Int) (w : World) (h0 : -9223372036854775808 ≤ n) (h1 : n ≤ 9223372036854775807) :
    Calls Try.prog 26 #[.int .i64 n, .int .i64 8] w fun e w' => e = .returned (.int .i64 (nar n 128)) ∧ w = w' := by
  have ht := tmod_parts n 256 (by decide)
  have hr0 : -256 < n.tmod 256 := by rw [ht]; split <;> omega
  have hr1 : n.tmod 256 < 256 := by rw [ht]; split <;> omega
  have hb := back8 n _ ht
  have Hb := Lib.hid hb
  clear hb ht
  go_enter Try.func26, Try.ntmps26
  go_wp2_with (go_at_call 35; refine (power8 _).mono ?_; rintro e w' ⟨rfl, rfl⟩)
  all_goals go_ret
  all_goals refine ⟨ret_int ?_, rfl⟩
  all_goals rw [← Hb.out]
  all_goals split <;> first | omega | (split <;> omega)

theorem wrapped16 (n : Int) : IntKind.i16.wrap n = nar n 32768 := by
  unfold nar
  simp only [IntKind.wrap, IntKind.bits, IntKind.signed]
  simp
  split <;> omega
theorem power16 (w : World) : Calls Try.prog 35 #[.int .i64 16] w fun e w' => e = .returned (.int .u64 65536) ∧ w = w' := power_any 16 w (by decide)
set_option maxHeartbeats 400000 in
theorem narrow16 (n : Int) (w : World) :
    Calls Try.prog 25 #[.int .i64 n, .int .i64 16] w fun e w' => e = .returned (.int .i64 (nar n 32768)) ∧ w = w' := by
  have H := Lib.hid (wrapped16 n)
  obtain ⟨h1, h2⟩ := nar_bounds n 32768 (by decide)
  go_enter Try.func25, Try.ntmps25
  go_wp2
  go_ret
  exact ⟨ret_int (by rw [H.out, IntWalk.wrap64_in _ (by omega)]), rfl⟩
theorem back16 (n r : Int) (ht : r = if 0 ≤ n then n % 65536 else -((-n) % 65536)) :
    (if r < 0 then (if 32768 ≤ r + 65536 then r + 65536 - 65536 else r + 65536) else (if 32768 ≤ r then r - 65536 else r)) = nar n 32768 := by
  unfold nar
  split at ht <;> split <;> split <;> omega
set_option maxHeartbeats 400000 in
theorem refnarrow16 (n : Int) (w : World) (h0 : -9223372036854775808 ≤ n) (h1 : n ≤ 9223372036854775807) :
    Calls Try.prog 26 #[.int .i64 n, .int .i64 16] w fun e w' => e = .returned (.int .i64 (nar n 32768)) ∧ w = w' := by
  have ht := tmod_parts n 65536 (by decide)
  have hr0 : -65536 < n.tmod 65536 := by rw [ht]; split <;> omega
  have hr1 : n.tmod 65536 < 65536 := by rw [ht]; split <;> omega
  have hb := back16 n _ ht
  have Hb := Lib.hid hb
  clear hb ht
  go_enter Try.func26, Try.ntmps26
  go_wp2_with (go_at_call 35; refine (power16 _).mono ?_; rintro e w' ⟨rfl, rfl⟩)
  all_goals go_ret
  all_goals refine ⟨ret_int ?_, rfl⟩
  all_goals rw [← Hb.out]
  all_goals split <;> first | omega | (split <;> omega)

theorem wrapped32 (n : Int) : IntKind.i32.wrap n = nar n 2147483648 := by
  unfold nar
  simp only [IntKind.wrap, IntKind.bits, IntKind.signed]
  simp
  split <;> omega
theorem power32 (w : World) : Calls Try.prog 35 #[.int .i64 32] w fun e w' => e = .returned (.int .u64 4294967296) ∧ w = w' := power_any 32 w (by decide)
set_option maxHeartbeats 400000 in
theorem narrow32 (n : Int) (w : World) :
    Calls Try.prog 25 #[.int .i64 n, .int .i64 32] w fun e w' => e = .returned (.int .i64 (nar n 2147483648)) ∧ w = w' := by
  have H := Lib.hid (wrapped32 n)
  obtain ⟨h1, h2⟩ := nar_bounds n 2147483648 (by decide)
  go_enter Try.func25, Try.ntmps25
  go_wp2
  go_ret
  exact ⟨ret_int (by rw [← IntWalk.i32_left, H.out, IntWalk.wrap64_in _ (by omega)]), rfl⟩
theorem back32 (n r : Int) (ht : r = if 0 ≤ n then n % 4294967296 else -((-n) % 4294967296)) :
    (if r < 0 then (if 2147483648 ≤ r + 4294967296 then r + 4294967296 - 4294967296 else r + 4294967296) else (if 2147483648 ≤ r then r - 4294967296 else r)) = nar n 2147483648 := by
  unfold nar
  split at ht <;> split <;> split <;> omega
set_option maxHeartbeats 400000 in
theorem refnarrow32 (n : Int) (w : World) (h0 : -9223372036854775808 ≤ n) (h1 : n ≤ 9223372036854775807) :
    Calls Try.prog 26 #[.int .i64 n, .int .i64 32] w fun e w' => e = .returned (.int .i64 (nar n 2147483648)) ∧ w = w' := by
  have ht := tmod_parts n 4294967296 (by decide)
  have hr0 : -4294967296 < n.tmod 4294967296 := by rw [ht]; split <;> omega
  have hr1 : n.tmod 4294967296 < 4294967296 := by rw [ht]; split <;> omega
  have hb := back32 n _ ht
  have Hb := Lib.hid hb
  clear hb ht
  go_enter Try.func26, Try.ntmps26
  go_wp2_with (go_at_call 35; refine (power32 _).mono ?_; rintro e w' ⟨rfl, rfl⟩)
  all_goals go_ret
  all_goals refine ⟨ret_int ?_, rfl⟩
  all_goals rw [← Hb.out]
  all_goals split <;> first | omega | (split <;> omega)

set_option maxHeartbeats 400000 in
theorem narrow_no (n b : Int) (w : World) (h8 : b ≠ 8) (h16 : b ≠ 16) (h32 : b ≠ 32) :
    Calls Try.prog 25 #[.int .i64 n, .int .i64 b] w fun e w' => e = .returned (.int .i64 n) ∧ w = w' := by
  have b8 : (b == 8) = false := by simpa using h8
  have b16 : (b == 16) = false := by simpa using h16
  have b32 : (b == 32) = false := by simpa using h32
  clear h8 h16 h32
  go_enter Try.func25, Try.ntmps25
  go_wp2
  go_ret
  exact ⟨rfl, rfl⟩
set_option maxHeartbeats 400000 in
theorem refnarrow_no (n b : Int) (w : World) (h8 : b ≠ 8) (h16 : b ≠ 16) (h32 : b ≠ 32) :
    Calls Try.prog 26 #[.int .i64 n, .int .i64 b] w fun e w' => e = .returned (.int .i64 n) ∧ w = w' := by
  have b8 : (b != 8) = true := by simpa using h8
  have b16 : (b != 16) = true := by simpa using h16
  have b32 : (b != 32) = true := by simpa using h32
  clear h8 h16 h32
  go_enter Try.func26, Try.ntmps26
  go_wp2
  go_ret
  exact ⟨rfl, rfl⟩

/-- The law, out of what Narrow comes to at these bits: x, and x again. -/
def NarrowsTo (b n x : Int) : Prop := ∀ w : World, Calls Try.prog 25 #[.int .i64 n, .int .i64 b] w fun e w' => e = .returned (.int .i64 x) ∧ w = w'
def RefNarrowsTo (b n x : Int) : Prop := ∀ w : World, Calls Try.prog 26 #[.int .i64 n, .int .i64 b] w fun e w' => e = .returned (.int .i64 x) ∧ w = w'
set_option maxHeartbeats 400000 in
theorem packNarrows_of (n b x : Int) (w : World) (h1 : NarrowsTo b n x) (h2 : RefNarrowsTo b n x) (h3 : NarrowsTo b x x) :
    Calls Try.prog 5 #[.int .i64 n, .int .i64 b] w fun e w' => e = .returned (.bool true) ∧ Grown w w' := by
  have H1 := Lib.hid h1
  have H2 := Lib.hid h2
  have H3 := Lib.hid h3
  clear h1 h2 h3
  go_enter Try.func5, Try.ntmps5
  go_wp2_with fail
  refine (H1.out _).mono ?_
  rintro e w' ⟨rfl, rfl⟩
  go_wp2_with fail
  refine (H2.out _).mono ?_
  rintro e w' ⟨rfl, rfl⟩
  go_wp2_with fail
  refine (H3.out _).mono ?_
  rintro e w' ⟨rfl, rfl⟩
  go_wp2_with fail
  refine (shown_any _).mono ?_
  rintro e w' ⟨rfl, hg⟩
  go_wp2
  go_ret
  exact ⟨rfl, hg⟩
theorem packNarrows_walk (a0 a1 : Int) (w0 : (Lit.int .i64 a0).wf = true) (w1 : (Lit.int .i64 a1).wf = true) (w : World) :
    Calls Try.prog 5 #[.int .i64 a0, .int .i64 a1] w fun e w' => e = .returned (.bool true) ∧ Grown w w' := by
  obtain ⟨l0, u0⟩ := i64_wf w0
  by_cases h8 : a1 = 8
  · subst h8
    obtain ⟨b0, b1⟩ := nar_bounds a0 128 (by decide)
    exact packNarrows_of a0 8 _ w (narrow8 a0) (fun w => refnarrow8 a0 w l0 u0) (fun w => by have h := narrow8 (nar a0 128) w; rwa [nar_in _ _ (by decide) b0 b1] at h)
  by_cases h16 : a1 = 16
  · subst h16
    obtain ⟨b0, b1⟩ := nar_bounds a0 32768 (by decide)
    exact packNarrows_of a0 16 _ w (narrow16 a0) (fun w => refnarrow16 a0 w l0 u0) (fun w => by have h := narrow16 (nar a0 32768) w; rwa [nar_in _ _ (by decide) b0 b1] at h)
  by_cases h32 : a1 = 32
  · subst h32
    obtain ⟨b0, b1⟩ := nar_bounds a0 2147483648 (by decide)
    exact packNarrows_of a0 32 _ w (narrow32 a0) (fun w => refnarrow32 a0 w l0 u0) (fun w => by have h := narrow32 (nar a0 2147483648) w; rwa [nar_in _ _ (by decide) b0 b1] at h)
  exact packNarrows_of a0 a1 _ w (fun w => narrow_no a0 a1 w h8 h16 h32) (fun w => refnarrow_no a0 a1 w h8 h16 h32) (fun w => narrow_no a0 a1 w h8 h16 h32)

theorem nar_same8 (n : Int) (h0 : -128 ≤ n) (h1 : n < 128) : (nar n 128 == n) = true := by
  rw [beq_iff_eq]; exact nar_in n _ (by decide) h0 (by omega)
theorem nar_not8 (n : Int) (h : n < -128 ∨ 128 ≤ n) : (nar n 128 == n) = false := by
  have := nar_bounds n 128 (by decide)
  rw [beq_eq_false_iff_ne]; omega
set_option maxHeartbeats 400000 in
theorem packBits8 (n a : Int) (w : World) (h : a % 3 = 0) (ha0 : 0 ≤ a) (ha1 : a ≤ 255) :
    Calls Try.prog 10 #[.int .i64 n, .int .u8 a] w fun e w' => e = .returned (.bool true) ∧ Grown w w' := by
  obtain ⟨b0, b1⟩ := nar_bounds n 128 (by decide)
  by_cases h0 : n < -128
  · have hb := nar_not8 n (Or.inl h0)
    go_enter Try.func10, Try.ntmps10
    go_wp2_with fail
    refine (narrow8 _ _).mono ?_
    rintro e w' ⟨rfl, rfl⟩
    go_wp2_with fail
    refine (narrow_no _ _ _ (by decide) (by decide) (by decide)).mono ?_
    rintro e w' ⟨rfl, rfl⟩
    go_wp2_with fail
    refine (shown_any _).mono ?_
    rintro e w' ⟨rfl, hg⟩
    have Hg := Lib.hid hg
    clear hg
    go_wp2
    go_ret
    exact ⟨rfl, gtrans ((Grown.refl _).alloc _ _) Hg.out⟩
  · by_cases h1 : n < 128
    · have hb := nar_same8 n (by omega) h1
      go_enter Try.func10, Try.ntmps10
      go_wp2_with fail
      refine (narrow8 _ _).mono ?_
      rintro e w' ⟨rfl, rfl⟩
      go_wp2_with fail
      refine (narrow_no _ _ _ (by decide) (by decide) (by decide)).mono ?_
      rintro e w' ⟨rfl, rfl⟩
      go_wp2_with fail
      refine (shown_any _).mono ?_
      rintro e w' ⟨rfl, hg⟩
      have Hg := Lib.hid hg
      clear hg
      go_wp2
      go_ret
      exact ⟨rfl, gtrans ((Grown.refl _).alloc _ _) Hg.out⟩
    · have hb := nar_not8 n (Or.inr (by omega))
      go_enter Try.func10, Try.ntmps10
      go_wp2_with fail
      refine (narrow8 _ _).mono ?_
      rintro e w' ⟨rfl, rfl⟩
      go_wp2_with fail
      refine (narrow_no _ _ _ (by decide) (by decide) (by decide)).mono ?_
      rintro e w' ⟨rfl, rfl⟩
      go_wp2_with fail
      refine (shown_any _).mono ?_
      rintro e w' ⟨rfl, hg⟩
      have Hg := Lib.hid hg
      clear hg
      go_wp2
      go_ret
      exact ⟨ret_bool (by simp; omega), gtrans ((Grown.refl _).alloc _ _) Hg.out⟩

theorem nar_same16 (n : Int) (h0 : -32768 ≤ n) (h1 : n < 32768) : (nar n 32768 == n) = true := by
  rw [beq_iff_eq]; exact nar_in n _ (by decide) h0 (by omega)
theorem nar_not16 (n : Int) (h : n < -32768 ∨ 32768 ≤ n) : (nar n 32768 == n) = false := by
  have := nar_bounds n 32768 (by decide)
  rw [beq_eq_false_iff_ne]; omega
set_option maxHeartbeats 400000 in
theorem packBits16 (n a : Int) (w : World) (h : a % 3 = 1) (ha0 : 0 ≤ a) (ha1 : a ≤ 255) :
    Calls Try.prog 10 #[.int .i64 n, .int .u8 a] w fun e w' => e = .returned (.bool true) ∧ Grown w w' := by
  obtain ⟨b0, b1⟩ := nar_bounds n 32768 (by decide)
  by_cases h0 : n < -32768
  · have hb := nar_not16 n (Or.inl h0)
    go_enter Try.func10, Try.ntmps10
    go_wp2_with fail
    refine (narrow16 _ _).mono ?_
    rintro e w' ⟨rfl, rfl⟩
    go_wp2_with fail
    refine (narrow_no _ _ _ (by decide) (by decide) (by decide)).mono ?_
    rintro e w' ⟨rfl, rfl⟩
    go_wp2_with fail
    refine (shown_any _).mono ?_
    rintro e w' ⟨rfl, hg⟩
    have Hg := Lib.hid hg
    clear hg
    go_wp2
    go_ret
    exact ⟨rfl, gtrans ((Grown.refl _).alloc _ _) Hg.out⟩
  · by_cases h1 : n < 32768
    · have hb := nar_same16 n (by omega) h1
      go_enter Try.func10, Try.ntmps10
      go_wp2_with fail
      refine (narrow16 _ _).mono ?_
      rintro e w' ⟨rfl, rfl⟩
      go_wp2_with fail
      refine (narrow_no _ _ _ (by decide) (by decide) (by decide)).mono ?_
      rintro e w' ⟨rfl, rfl⟩
      go_wp2_with fail
      refine (shown_any _).mono ?_
      rintro e w' ⟨rfl, hg⟩
      have Hg := Lib.hid hg
      clear hg
      go_wp2
      go_ret
      exact ⟨rfl, gtrans ((Grown.refl _).alloc _ _) Hg.out⟩
    · have hb := nar_not16 n (Or.inr (by omega))
      go_enter Try.func10, Try.ntmps10
      go_wp2_with fail
      refine (narrow16 _ _).mono ?_
      rintro e w' ⟨rfl, rfl⟩
      go_wp2_with fail
      refine (narrow_no _ _ _ (by decide) (by decide) (by decide)).mono ?_
      rintro e w' ⟨rfl, rfl⟩
      go_wp2_with fail
      refine (shown_any _).mono ?_
      rintro e w' ⟨rfl, hg⟩
      have Hg := Lib.hid hg
      clear hg
      go_wp2
      go_ret
      exact ⟨ret_bool (by simp; omega), gtrans ((Grown.refl _).alloc _ _) Hg.out⟩

theorem nar_same32 (n : Int) (h0 : -2147483648 ≤ n) (h1 : n < 2147483648) : (nar n 2147483648 == n) = true := by
  rw [beq_iff_eq]; exact nar_in n _ (by decide) h0 (by omega)
theorem nar_not32 (n : Int) (h : n < -2147483648 ∨ 2147483648 ≤ n) : (nar n 2147483648 == n) = false := by
  have := nar_bounds n 2147483648 (by decide)
  rw [beq_eq_false_iff_ne]; omega
set_option maxHeartbeats 400000 in
theorem packBits32 (n a : Int) (w : World) (h : a % 3 = 2) (ha0 : 0 ≤ a) (ha1 : a ≤ 255) :
    Calls Try.prog 10 #[.int .i64 n, .int .u8 a] w fun e w' => e = .returned (.bool true) ∧ Grown w w' := by
  obtain ⟨b0, b1⟩ := nar_bounds n 2147483648 (by decide)
  by_cases h0 : n < -2147483648
  · have hb := nar_not32 n (Or.inl h0)
    go_enter Try.func10, Try.ntmps10
    go_wp2_with fail
    refine (narrow32 _ _).mono ?_
    rintro e w' ⟨rfl, rfl⟩
    go_wp2_with fail
    refine (narrow_no _ _ _ (by decide) (by decide) (by decide)).mono ?_
    rintro e w' ⟨rfl, rfl⟩
    go_wp2_with fail
    refine (shown_any _).mono ?_
    rintro e w' ⟨rfl, hg⟩
    have Hg := Lib.hid hg
    clear hg
    go_wp2
    go_ret
    exact ⟨rfl, gtrans ((Grown.refl _).alloc _ _) Hg.out⟩
  · by_cases h1 : n < 2147483648
    · have hb := nar_same32 n (by omega) h1
      go_enter Try.func10, Try.ntmps10
      go_wp2_with fail
      refine (narrow32 _ _).mono ?_
      rintro e w' ⟨rfl, rfl⟩
      go_wp2_with fail
      refine (narrow_no _ _ _ (by decide) (by decide) (by decide)).mono ?_
      rintro e w' ⟨rfl, rfl⟩
      go_wp2_with fail
      refine (shown_any _).mono ?_
      rintro e w' ⟨rfl, hg⟩
      have Hg := Lib.hid hg
      clear hg
      go_wp2
      go_ret
      exact ⟨rfl, gtrans ((Grown.refl _).alloc _ _) Hg.out⟩
    · have hb := nar_not32 n (Or.inr (by omega))
      go_enter Try.func10, Try.ntmps10
      go_wp2_with fail
      refine (narrow32 _ _).mono ?_
      rintro e w' ⟨rfl, rfl⟩
      go_wp2_with fail
      refine (narrow_no _ _ _ (by decide) (by decide) (by decide)).mono ?_
      rintro e w' ⟨rfl, rfl⟩
      go_wp2_with fail
      refine (shown_any _).mono ?_
      rintro e w' ⟨rfl, hg⟩
      have Hg := Lib.hid hg
      clear hg
      go_wp2
      go_ret
      exact ⟨ret_bool (by simp; omega), gtrans ((Grown.refl _).alloc _ _) Hg.out⟩

theorem packBits_walk (a0 a1 : Int) (w0 : (Lit.int .i64 a0).wf = true) (w1 : (Lit.int .u8 a1).wf = true) (w : World) :
    Calls Try.prog 10 #[.int .i64 a0, .int .u8 a1] w fun e w' => e = .returned (.bool true) ∧ Grown w w' := by
  obtain ⟨l1, u1⟩ := u8_wf w1
  have h : a1 % 3 = 0 ∨ a1 % 3 = 1 ∨ a1 % 3 = 2 := by omega
  rcases h with h | h | h
  · exact packBits8 a0 a1 w h l1 u1
  · exact packBits16 a0 a1 w h l1 u1
  · exact packBits32 a0 a1 w h l1 u1
end Go.Proofs.Ytoinjaihfocjfaa
