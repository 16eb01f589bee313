/-
  The reference's May, kind by kind.
-/
import Derived.Test.YtdjhnjokmmbafaaDoorOpRa
namespace Go.Proofs.YtdjhnjokmmbafaaDoor
open Go.ChangeShapes Go.WideShapes Go.ChangeAt Go.RowKit
set_option linter.unusedVariables false
set_option linter.unusedSimpArgs false

set_option maxRecDepth 100000 in
set_option maxHeartbeats 8000000 in
theorem rmay2 (i t a : Int) (n x : ByteArray) (w : World) :
    Calls Tryd.prog 12 #[.agg #[.int .i64 2, .int .i64 i, .int .i64 t, .int .i64 a, .string n, .string x]] w (GivesV (.bool (mayO ⟨2, i, t, a, n, x⟩)) w) := by
  have hI2 : hasI 2 = false := by decide
  have hT2 : hasT 2 = false := by decide
  have hN2 : hasN 2 = false := by decide
  have hX2 : hasX 2 = true := by decide
  have hK2 : isK 2 = true := by decide
  have z0 : decide ((⟨#[]⟩ : ByteArray).size = 0) = true := rfl
  have z1 : decide ((⟨#[]⟩ : ByteArray).size ≤ 255) = true := rfl
  have HH : Hid (∀ V, Calls Tryd.prog 25 #[.int .i64 2] V fun e w' => e = .returned (.string ⟨#[120]⟩) ∧ w' = V) := Lib.hid (fun V => has_any 2 V)
  have H105 : Hid (∀ V, Calls Tryd.prog 26 #[.string ⟨#[120]⟩, .int .u8 105] V fun e w' => e = .returned (.bool false) ∧ w' = V) := Lib.hid (fun V => in_any ⟨#[120]⟩ 105 V (by decide))
  have H116 : Hid (∀ V, Calls Tryd.prog 26 #[.string ⟨#[120]⟩, .int .u8 116] V fun e w' => e = .returned (.bool false) ∧ w' = V) := Lib.hid (fun V => in_any ⟨#[120]⟩ 116 V (by decide))
  have H97 : Hid (∀ V, Calls Tryd.prog 26 #[.string ⟨#[120]⟩, .int .u8 97] V fun e w' => e = .returned (.bool false) ∧ w' = V) := Lib.hid (fun V => in_any ⟨#[120]⟩ 97 V (by decide))
  have H110 : Hid (∀ V, Calls Tryd.prog 26 #[.string ⟨#[120]⟩, .int .u8 110] V fun e w' => e = .returned (.bool false) ∧ w' = V) := Lib.hid (fun V => in_any ⟨#[120]⟩ 110 V (by decide))
  have H120 : Hid (∀ V, Calls Tryd.prog 26 #[.string ⟨#[120]⟩, .int .u8 120] V fun e w' => e = .returned (.bool true) ∧ w' = V) := Lib.hid (fun V => in_any ⟨#[120]⟩ 120 V (by decide))
  go_enter Tryd.func12, Tryd.ntmps12
  by_cases gi : ¬ i = 0
  · have fi := decide_eq_false gi
    have qi : (i == 0) = false := by simpa using gi
    have HR : Hid (mayO ⟨2, i, t, a, n, x⟩ = false) := Lib.hid (by simp only [mayO, hI2, hT2, hN2, hX2, hK2, z0, z1, fi]; simp)
    go_wp2_with fail
    refine (HH.out _).mono ?_
    rintro e w' ⟨rfl, hw⟩
    subst hw
    go_wp2_with fail
    refine (H105.out _).mono ?_
    rintro e w' ⟨rfl, hw⟩
    subst hw
    go_wp2
    go_ret
    rw [HR.out]
    first | exact ⟨rfl, (Below.refl _ _).alloc (Nat.le_refl _) _⟩ | exact ⟨ret_bool (decide_eq_false (by omega)), (Below.refl _ _).alloc (Nat.le_refl _) _⟩ | exact ⟨ret_bool (decide_eq_true (by omega)), (Below.refl _ _).alloc (Nat.le_refl _) _⟩
  obtain rfl : i = 0 := Decidable.not_not.1 gi
  clear gi
  by_cases gt : ¬ t = 0
  · have ft := decide_eq_false gt
    have qt : (t == 0) = false := by simpa using gt
    have HR : Hid (mayO ⟨2, 0, t, a, n, x⟩ = false) := Lib.hid (by simp only [mayO, hI2, hT2, hN2, hX2, hK2, z0, z1, ft]; simp)
    go_wp2_with fail
    refine (HH.out _).mono ?_
    rintro e w' ⟨rfl, hw⟩
    subst hw
    go_wp2_with fail
    refine (H105.out _).mono ?_
    rintro e w' ⟨rfl, hw⟩
    subst hw
    go_wp2_with fail
    refine (H116.out _).mono ?_
    rintro e w' ⟨rfl, hw⟩
    subst hw
    go_wp2
    go_ret
    rw [HR.out]
    first | exact ⟨rfl, (Below.refl _ _).alloc (Nat.le_refl _) _⟩ | exact ⟨ret_bool (decide_eq_false (by omega)), (Below.refl _ _).alloc (Nat.le_refl _) _⟩ | exact ⟨ret_bool (decide_eq_true (by omega)), (Below.refl _ _).alloc (Nat.le_refl _) _⟩
  obtain rfl : t = 0 := Decidable.not_not.1 gt
  clear gt
  by_cases ga : ¬ a = 0
  · have fa := decide_eq_false ga
    have qa : (a == 0) = false := by simpa using ga
    have HR : Hid (mayO ⟨2, 0, 0, a, n, x⟩ = false) := Lib.hid (by simp only [mayO, hI2, hT2, hN2, hX2, hK2, z0, z1, fa]; simp)
    go_wp2_with fail
    refine (HH.out _).mono ?_
    rintro e w' ⟨rfl, hw⟩
    subst hw
    go_wp2_with fail
    refine (H105.out _).mono ?_
    rintro e w' ⟨rfl, hw⟩
    subst hw
    go_wp2_with fail
    refine (H116.out _).mono ?_
    rintro e w' ⟨rfl, hw⟩
    subst hw
    go_wp2_with fail
    refine (H97.out _).mono ?_
    rintro e w' ⟨rfl, hw⟩
    subst hw
    go_wp2
    go_ret
    rw [HR.out]
    first | exact ⟨rfl, (Below.refl _ _).alloc (Nat.le_refl _) _⟩ | exact ⟨ret_bool (decide_eq_false (by omega)), (Below.refl _ _).alloc (Nat.le_refl _) _⟩ | exact ⟨ret_bool (decide_eq_true (by omega)), (Below.refl _ _).alloc (Nat.le_refl _) _⟩
  obtain rfl : a = 0 := Decidable.not_not.1 ga
  clear ga
  by_cases gn : ¬ n.size = 0
  · have fn := decide_eq_false gn
    have qn := not_nil n (by omega)
    have rn := not_empty n (by omega)
    have HR : Hid (mayO ⟨2, 0, 0, 0, n, x⟩ = false) := Lib.hid (by simp only [mayO, hI2, hT2, hN2, hX2, hK2, z0, z1, fn]; simp)
    go_wp2_with fail
    refine (HH.out _).mono ?_
    rintro e w' ⟨rfl, hw⟩
    subst hw
    go_wp2_with fail
    refine (H105.out _).mono ?_
    rintro e w' ⟨rfl, hw⟩
    subst hw
    go_wp2_with fail
    refine (H116.out _).mono ?_
    rintro e w' ⟨rfl, hw⟩
    subst hw
    go_wp2_with fail
    refine (H97.out _).mono ?_
    rintro e w' ⟨rfl, hw⟩
    subst hw
    go_wp2_with fail
    refine (H110.out _).mono ?_
    rintro e w' ⟨rfl, hw⟩
    subst hw
    go_wp2
    go_ret
    rw [HR.out]
    first | exact ⟨rfl, (Below.refl _ _).alloc (Nat.le_refl _) _⟩ | exact ⟨ret_bool (decide_eq_false (by omega)), (Below.refl _ _).alloc (Nat.le_refl _) _⟩ | exact ⟨ret_bool (decide_eq_true (by omega)), (Below.refl _ _).alloc (Nat.le_refl _) _⟩
  obtain rfl : n = ⟨#[]⟩ := empty_of (Decidable.not_not.1 gn)
  clear gn
  by_cases yx : ¬ x.size ≤ 255
  · have sx := decide_eq_false yx
    have zx : ¬ ((x.size : Int) ≤ 255) := by omega
    have HR : Hid (mayO ⟨2, 0, 0, 0, ⟨#[]⟩, x⟩ = false) := Lib.hid (by simp only [mayO, hI2, hT2, hN2, hX2, hK2, z0, z1, sx]; simp)
    go_wp2_with fail
    refine (HH.out _).mono ?_
    rintro e w' ⟨rfl, hw⟩
    subst hw
    go_wp2_with fail
    refine (H105.out _).mono ?_
    rintro e w' ⟨rfl, hw⟩
    subst hw
    go_wp2_with fail
    refine (H116.out _).mono ?_
    rintro e w' ⟨rfl, hw⟩
    subst hw
    go_wp2_with fail
    refine (H97.out _).mono ?_
    rintro e w' ⟨rfl, hw⟩
    subst hw
    go_wp2_with fail
    refine (H110.out _).mono ?_
    rintro e w' ⟨rfl, hw⟩
    subst hw
    go_wp2_with fail
    refine (H120.out _).mono ?_
    rintro e w' ⟨rfl, hw⟩
    subst hw
    go_wp2
    go_ret
    rw [HR.out]
    first | exact ⟨rfl, (Below.refl _ _).alloc (Nat.le_refl _) _⟩ | exact ⟨ret_bool (decide_eq_false (by omega)), (Below.refl _ _).alloc (Nat.le_refl _) _⟩ | exact ⟨ret_bool (decide_eq_true (by omega)), (Below.refl _ _).alloc (Nat.le_refl _) _⟩
  have yx' : x.size ≤ 255 := Decidable.not_not.1 yx
  have sx := decide_eq_true yx'
  clear yx
  have zx : ((x.size : Int) ≤ 255) := by omega
  have HR : Hid (mayO ⟨2, 0, 0, 0, ⟨#[]⟩, x⟩ = true) := Lib.hid (by simp only [mayO, hI2, hT2, hN2, hX2, hK2, z0, z1, sx]; simp)
  go_wp2_with fail
  refine (HH.out _).mono ?_
  rintro e w' ⟨rfl, hw⟩
  subst hw
  go_wp2_with fail
  refine (H105.out _).mono ?_
  rintro e w' ⟨rfl, hw⟩
  subst hw
  go_wp2_with fail
  refine (H116.out _).mono ?_
  rintro e w' ⟨rfl, hw⟩
  subst hw
  go_wp2_with fail
  refine (H97.out _).mono ?_
  rintro e w' ⟨rfl, hw⟩
  subst hw
  go_wp2_with fail
  refine (H110.out _).mono ?_
  rintro e w' ⟨rfl, hw⟩
  subst hw
  go_wp2_with fail
  refine (H120.out _).mono ?_
  rintro e w' ⟨rfl, hw⟩
  subst hw
  go_wp2
  go_ret
  rw [HR.out]
  first | exact ⟨rfl, (Below.refl _ _).alloc (Nat.le_refl _) _⟩ | exact ⟨ret_bool (decide_eq_false (by omega)), (Below.refl _ _).alloc (Nat.le_refl _) _⟩ | exact ⟨ret_bool (decide_eq_true (by omega)), (Below.refl _ _).alloc (Nat.le_refl _) _⟩

set_option maxRecDepth 100000 in
set_option maxHeartbeats 8000000 in
theorem rmay3 (i t a : Int) (n x : ByteArray) (w : World) :
    Calls Tryd.prog 12 #[.agg #[.int .i64 3, .int .i64 i, .int .i64 t, .int .i64 a, .string n, .string x]] w (GivesV (.bool (mayO ⟨3, i, t, a, n, x⟩)) w) := by
  have hI3 : hasI 3 = false := by decide
  have hT3 : hasT 3 = false := by decide
  have hN3 : hasN 3 = false := by decide
  have hX3 : hasX 3 = true := by decide
  have hK3 : isK 3 = true := by decide
  have z0 : decide ((⟨#[]⟩ : ByteArray).size = 0) = true := rfl
  have z1 : decide ((⟨#[]⟩ : ByteArray).size ≤ 255) = true := rfl
  have HH : Hid (∀ V, Calls Tryd.prog 25 #[.int .i64 3] V fun e w' => e = .returned (.string ⟨#[120]⟩) ∧ w' = V) := Lib.hid (fun V => has_any 3 V)
  have H105 : Hid (∀ V, Calls Tryd.prog 26 #[.string ⟨#[120]⟩, .int .u8 105] V fun e w' => e = .returned (.bool false) ∧ w' = V) := Lib.hid (fun V => in_any ⟨#[120]⟩ 105 V (by decide))
  have H116 : Hid (∀ V, Calls Tryd.prog 26 #[.string ⟨#[120]⟩, .int .u8 116] V fun e w' => e = .returned (.bool false) ∧ w' = V) := Lib.hid (fun V => in_any ⟨#[120]⟩ 116 V (by decide))
  have H97 : Hid (∀ V, Calls Tryd.prog 26 #[.string ⟨#[120]⟩, .int .u8 97] V fun e w' => e = .returned (.bool false) ∧ w' = V) := Lib.hid (fun V => in_any ⟨#[120]⟩ 97 V (by decide))
  have H110 : Hid (∀ V, Calls Tryd.prog 26 #[.string ⟨#[120]⟩, .int .u8 110] V fun e w' => e = .returned (.bool false) ∧ w' = V) := Lib.hid (fun V => in_any ⟨#[120]⟩ 110 V (by decide))
  have H120 : Hid (∀ V, Calls Tryd.prog 26 #[.string ⟨#[120]⟩, .int .u8 120] V fun e w' => e = .returned (.bool true) ∧ w' = V) := Lib.hid (fun V => in_any ⟨#[120]⟩ 120 V (by decide))
  go_enter Tryd.func12, Tryd.ntmps12
  by_cases gi : ¬ i = 0
  · have fi := decide_eq_false gi
    have qi : (i == 0) = false := by simpa using gi
    have HR : Hid (mayO ⟨3, i, t, a, n, x⟩ = false) := Lib.hid (by simp only [mayO, hI3, hT3, hN3, hX3, hK3, z0, z1, fi]; simp)
    go_wp2_with fail
    refine (HH.out _).mono ?_
    rintro e w' ⟨rfl, hw⟩
    subst hw
    go_wp2_with fail
    refine (H105.out _).mono ?_
    rintro e w' ⟨rfl, hw⟩
    subst hw
    go_wp2
    go_ret
    rw [HR.out]
    first | exact ⟨rfl, (Below.refl _ _).alloc (Nat.le_refl _) _⟩ | exact ⟨ret_bool (decide_eq_false (by omega)), (Below.refl _ _).alloc (Nat.le_refl _) _⟩ | exact ⟨ret_bool (decide_eq_true (by omega)), (Below.refl _ _).alloc (Nat.le_refl _) _⟩
  obtain rfl : i = 0 := Decidable.not_not.1 gi
  clear gi
  by_cases gt : ¬ t = 0
  · have ft := decide_eq_false gt
    have qt : (t == 0) = false := by simpa using gt
    have HR : Hid (mayO ⟨3, 0, t, a, n, x⟩ = false) := Lib.hid (by simp only [mayO, hI3, hT3, hN3, hX3, hK3, z0, z1, ft]; simp)
    go_wp2_with fail
    refine (HH.out _).mono ?_
    rintro e w' ⟨rfl, hw⟩
    subst hw
    go_wp2_with fail
    refine (H105.out _).mono ?_
    rintro e w' ⟨rfl, hw⟩
    subst hw
    go_wp2_with fail
    refine (H116.out _).mono ?_
    rintro e w' ⟨rfl, hw⟩
    subst hw
    go_wp2
    go_ret
    rw [HR.out]
    first | exact ⟨rfl, (Below.refl _ _).alloc (Nat.le_refl _) _⟩ | exact ⟨ret_bool (decide_eq_false (by omega)), (Below.refl _ _).alloc (Nat.le_refl _) _⟩ | exact ⟨ret_bool (decide_eq_true (by omega)), (Below.refl _ _).alloc (Nat.le_refl _) _⟩
  obtain rfl : t = 0 := Decidable.not_not.1 gt
  clear gt
  by_cases ga : ¬ a = 0
  · have fa := decide_eq_false ga
    have qa : (a == 0) = false := by simpa using ga
    have HR : Hid (mayO ⟨3, 0, 0, a, n, x⟩ = false) := Lib.hid (by simp only [mayO, hI3, hT3, hN3, hX3, hK3, z0, z1, fa]; simp)
    go_wp2_with fail
    refine (HH.out _).mono ?_
    rintro e w' ⟨rfl, hw⟩
    subst hw
    go_wp2_with fail
    refine (H105.out _).mono ?_
    rintro e w' ⟨rfl, hw⟩
    subst hw
    go_wp2_with fail
    refine (H116.out _).mono ?_
    rintro e w' ⟨rfl, hw⟩
    subst hw
    go_wp2_with fail
    refine (H97.out _).mono ?_
    rintro e w' ⟨rfl, hw⟩
    subst hw
    go_wp2
    go_ret
    rw [HR.out]
    first | exact ⟨rfl, (Below.refl _ _).alloc (Nat.le_refl _) _⟩ | exact ⟨ret_bool (decide_eq_false (by omega)), (Below.refl _ _).alloc (Nat.le_refl _) _⟩ | exact ⟨ret_bool (decide_eq_true (by omega)), (Below.refl _ _).alloc (Nat.le_refl _) _⟩
  obtain rfl : a = 0 := Decidable.not_not.1 ga
  clear ga
  by_cases gn : ¬ n.size = 0
  · have fn := decide_eq_false gn
    have qn := not_nil n (by omega)
    have rn := not_empty n (by omega)
    have HR : Hid (mayO ⟨3, 0, 0, 0, n, x⟩ = false) := Lib.hid (by simp only [mayO, hI3, hT3, hN3, hX3, hK3, z0, z1, fn]; simp)
    go_wp2_with fail
    refine (HH.out _).mono ?_
    rintro e w' ⟨rfl, hw⟩
    subst hw
    go_wp2_with fail
    refine (H105.out _).mono ?_
    rintro e w' ⟨rfl, hw⟩
    subst hw
    go_wp2_with fail
    refine (H116.out _).mono ?_
    rintro e w' ⟨rfl, hw⟩
    subst hw
    go_wp2_with fail
    refine (H97.out _).mono ?_
    rintro e w' ⟨rfl, hw⟩
    subst hw
    go_wp2_with fail
    refine (H110.out _).mono ?_
    rintro e w' ⟨rfl, hw⟩
    subst hw
    go_wp2
    go_ret
    rw [HR.out]
    first | exact ⟨rfl, (Below.refl _ _).alloc (Nat.le_refl _) _⟩ | exact ⟨ret_bool (decide_eq_false (by omega)), (Below.refl _ _).alloc (Nat.le_refl _) _⟩ | exact ⟨ret_bool (decide_eq_true (by omega)), (Below.refl _ _).alloc (Nat.le_refl _) _⟩
  obtain rfl : n = ⟨#[]⟩ := empty_of (Decidable.not_not.1 gn)
  clear gn
  by_cases yx : ¬ x.size ≤ 255
  · have sx := decide_eq_false yx
    have zx : ¬ ((x.size : Int) ≤ 255) := by omega
    have HR : Hid (mayO ⟨3, 0, 0, 0, ⟨#[]⟩, x⟩ = false) := Lib.hid (by simp only [mayO, hI3, hT3, hN3, hX3, hK3, z0, z1, sx]; simp)
    go_wp2_with fail
    refine (HH.out _).mono ?_
    rintro e w' ⟨rfl, hw⟩
    subst hw
    go_wp2_with fail
    refine (H105.out _).mono ?_
    rintro e w' ⟨rfl, hw⟩
    subst hw
    go_wp2_with fail
    refine (H116.out _).mono ?_
    rintro e w' ⟨rfl, hw⟩
    subst hw
    go_wp2_with fail
    refine (H97.out _).mono ?_
    rintro e w' ⟨rfl, hw⟩
    subst hw
    go_wp2_with fail
    refine (H110.out _).mono ?_
    rintro e w' ⟨rfl, hw⟩
    subst hw
    go_wp2_with fail
    refine (H120.out _).mono ?_
    rintro e w' ⟨rfl, hw⟩
    subst hw
    go_wp2
    go_ret
    rw [HR.out]
    first | exact ⟨rfl, (Below.refl _ _).alloc (Nat.le_refl _) _⟩ | exact ⟨ret_bool (decide_eq_false (by omega)), (Below.refl _ _).alloc (Nat.le_refl _) _⟩ | exact ⟨ret_bool (decide_eq_true (by omega)), (Below.refl _ _).alloc (Nat.le_refl _) _⟩
  have yx' : x.size ≤ 255 := Decidable.not_not.1 yx
  have sx := decide_eq_true yx'
  clear yx
  have zx : ((x.size : Int) ≤ 255) := by omega
  have HR : Hid (mayO ⟨3, 0, 0, 0, ⟨#[]⟩, x⟩ = true) := Lib.hid (by simp only [mayO, hI3, hT3, hN3, hX3, hK3, z0, z1, sx]; simp)
  go_wp2_with fail
  refine (HH.out _).mono ?_
  rintro e w' ⟨rfl, hw⟩
  subst hw
  go_wp2_with fail
  refine (H105.out _).mono ?_
  rintro e w' ⟨rfl, hw⟩
  subst hw
  go_wp2_with fail
  refine (H116.out _).mono ?_
  rintro e w' ⟨rfl, hw⟩
  subst hw
  go_wp2_with fail
  refine (H97.out _).mono ?_
  rintro e w' ⟨rfl, hw⟩
  subst hw
  go_wp2_with fail
  refine (H110.out _).mono ?_
  rintro e w' ⟨rfl, hw⟩
  subst hw
  go_wp2_with fail
  refine (H120.out _).mono ?_
  rintro e w' ⟨rfl, hw⟩
  subst hw
  go_wp2
  go_ret
  rw [HR.out]
  first | exact ⟨rfl, (Below.refl _ _).alloc (Nat.le_refl _) _⟩ | exact ⟨ret_bool (decide_eq_false (by omega)), (Below.refl _ _).alloc (Nat.le_refl _) _⟩ | exact ⟨ret_bool (decide_eq_true (by omega)), (Below.refl _ _).alloc (Nat.le_refl _) _⟩

end Go.Proofs.YtdjhnjokmmbafaaDoor
