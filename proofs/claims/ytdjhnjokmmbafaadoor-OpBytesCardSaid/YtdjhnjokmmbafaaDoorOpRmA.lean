/-
  The reference's May, kind by kind.
-/
import Derived.Test.YtdjhnjokmmbafaaDoorOpRa
namespace Go.Proofs.YtdjhnjokmmbafaaDoor
open Go.ChangeShapes Go.WideShapes Go.ChangeAt Go.RowKit
set_option linter.unusedVariables false
set_option linter.unusedSimpArgs false

set_option maxRecDepth 100000 in
set_option maxHeartbeats 8000000 in
theorem rmay1 (i t a : Int) (n x : ByteArray) (w : World) :
    Calls Tryd.prog 12 #[.agg #[.int .i64 1, .int .i64 i, .int .i64 t, .int .i64 a, .string n, .string x]] w (GivesV (.bool (mayO ⟨1, i, t, a, n, x⟩)) w) := by
  have hI1 : hasI 1 = false := by decide
  have hT1 : hasT 1 = false := by decide
  have hN1 : hasN 1 = true := by decide
  have hX1 : hasX 1 = false := by decide
  have hK1 : isK 1 = true := by decide
  have z0 : decide ((⟨#[]⟩ : ByteArray).size = 0) = true := rfl
  have z1 : decide ((⟨#[]⟩ : ByteArray).size ≤ 255) = true := rfl
  have HH : Hid (∀ V, Calls Tryd.prog 25 #[.int .i64 1] V fun e w' => e = .returned (.string ⟨#[110]⟩) ∧ w' = V) := Lib.hid (fun V => has_any 1 V)
  have H105 : Hid (∀ V, Calls Tryd.prog 26 #[.string ⟨#[110]⟩, .int .u8 105] V fun e w' => e = .returned (.bool false) ∧ w' = V) := Lib.hid (fun V => in_any ⟨#[110]⟩ 105 V (by decide))
  have H116 : Hid (∀ V, Calls Tryd.prog 26 #[.string ⟨#[110]⟩, .int .u8 116] V fun e w' => e = .returned (.bool false) ∧ w' = V) := Lib.hid (fun V => in_any ⟨#[110]⟩ 116 V (by decide))
  have H97 : Hid (∀ V, Calls Tryd.prog 26 #[.string ⟨#[110]⟩, .int .u8 97] V fun e w' => e = .returned (.bool false) ∧ w' = V) := Lib.hid (fun V => in_any ⟨#[110]⟩ 97 V (by decide))
  have H110 : Hid (∀ V, Calls Tryd.prog 26 #[.string ⟨#[110]⟩, .int .u8 110] V fun e w' => e = .returned (.bool true) ∧ w' = V) := Lib.hid (fun V => in_any ⟨#[110]⟩ 110 V (by decide))
  have H120 : Hid (∀ V, Calls Tryd.prog 26 #[.string ⟨#[110]⟩, .int .u8 120] V fun e w' => e = .returned (.bool false) ∧ w' = V) := Lib.hid (fun V => in_any ⟨#[110]⟩ 120 V (by decide))
  go_enter Tryd.func12, Tryd.ntmps12
  by_cases gi : ¬ i = 0
  · have fi := decide_eq_false gi
    have qi : (i == 0) = false := by simpa using gi
    have HR : Hid (mayO ⟨1, i, t, a, n, x⟩ = false) := Lib.hid (by simp only [mayO, hI1, hT1, hN1, hX1, hK1, z0, z1, fi]; simp)
    go_wp2_with fail
    refine (HH.out _).mono ?_
    rintro e w' ⟨rfl, hw⟩
    subst hw
    go_wp2_with fail
    refine (H105.out _).mono ?_
    rintro e w' ⟨rfl, hw⟩
    subst hw
    go_wp2
    go_ret
    rw [HR.out]
    first | exact ⟨rfl, (Below.refl _ _).alloc (Nat.le_refl _) _⟩ | exact ⟨ret_bool (decide_eq_false (by omega)), (Below.refl _ _).alloc (Nat.le_refl _) _⟩ | exact ⟨ret_bool (decide_eq_true (by omega)), (Below.refl _ _).alloc (Nat.le_refl _) _⟩
  obtain rfl : i = 0 := Decidable.not_not.1 gi
  clear gi
  by_cases gt : ¬ t = 0
  · have ft := decide_eq_false gt
    have qt : (t == 0) = false := by simpa using gt
    have HR : Hid (mayO ⟨1, 0, t, a, n, x⟩ = false) := Lib.hid (by simp only [mayO, hI1, hT1, hN1, hX1, hK1, z0, z1, ft]; simp)
    go_wp2_with fail
    refine (HH.out _).mono ?_
    rintro e w' ⟨rfl, hw⟩
    subst hw
    go_wp2_with fail
    refine (H105.out _).mono ?_
    rintro e w' ⟨rfl, hw⟩
    subst hw
    go_wp2_with fail
    refine (H116.out _).mono ?_
    rintro e w' ⟨rfl, hw⟩
    subst hw
    go_wp2
    go_ret
    rw [HR.out]
    first | exact ⟨rfl, (Below.refl _ _).alloc (Nat.le_refl _) _⟩ | exact ⟨ret_bool (decide_eq_false (by omega)), (Below.refl _ _).alloc (Nat.le_refl _) _⟩ | exact ⟨ret_bool (decide_eq_true (by omega)), (Below.refl _ _).alloc (Nat.le_refl _) _⟩
  obtain rfl : t = 0 := Decidable.not_not.1 gt
  clear gt
  by_cases ga : ¬ a = 0
  · have fa := decide_eq_false ga
    have qa : (a == 0) = false := by simpa using ga
    have HR : Hid (mayO ⟨1, 0, 0, a, n, x⟩ = false) := Lib.hid (by simp only [mayO, hI1, hT1, hN1, hX1, hK1, z0, z1, fa]; simp)
    go_wp2_with fail
    refine (HH.out _).mono ?_
    rintro e w' ⟨rfl, hw⟩
    subst hw
    go_wp2_with fail
    refine (H105.out _).mono ?_
    rintro e w' ⟨rfl, hw⟩
    subst hw
    go_wp2_with fail
    refine (H116.out _).mono ?_
    rintro e w' ⟨rfl, hw⟩
    subst hw
    go_wp2_with fail
    refine (H97.out _).mono ?_
    rintro e w' ⟨rfl, hw⟩
    subst hw
    go_wp2
    go_ret
    rw [HR.out]
    first | exact ⟨rfl, (Below.refl _ _).alloc (Nat.le_refl _) _⟩ | exact ⟨ret_bool (decide_eq_false (by omega)), (Below.refl _ _).alloc (Nat.le_refl _) _⟩ | exact ⟨ret_bool (decide_eq_true (by omega)), (Below.refl _ _).alloc (Nat.le_refl _) _⟩
  obtain rfl : a = 0 := Decidable.not_not.1 ga
  clear ga
  by_cases gx : ¬ x.size = 0
  · have fx := decide_eq_false gx
    have qx := not_nil x (by omega)
    have rx := not_empty x (by omega)
    have HR : Hid (mayO ⟨1, 0, 0, 0, n, x⟩ = false) := Lib.hid (by simp only [mayO, hI1, hT1, hN1, hX1, hK1, z0, z1, fx]; simp)
    go_wp2_with fail
    refine (HH.out _).mono ?_
    rintro e w' ⟨rfl, hw⟩
    subst hw
    go_wp2_with fail
    refine (H105.out _).mono ?_
    rintro e w' ⟨rfl, hw⟩
    subst hw
    go_wp2_with fail
    refine (H116.out _).mono ?_
    rintro e w' ⟨rfl, hw⟩
    subst hw
    go_wp2_with fail
    refine (H97.out _).mono ?_
    rintro e w' ⟨rfl, hw⟩
    subst hw
    go_wp2_with fail
    refine (H110.out _).mono ?_
    rintro e w' ⟨rfl, hw⟩
    subst hw
    go_wp2_with fail
    refine (H120.out _).mono ?_
    rintro e w' ⟨rfl, hw⟩
    subst hw
    go_wp2
    go_ret
    rw [HR.out]
    first | exact ⟨rfl, (Below.refl _ _).alloc (Nat.le_refl _) _⟩ | exact ⟨ret_bool (decide_eq_false (by omega)), (Below.refl _ _).alloc (Nat.le_refl _) _⟩ | exact ⟨ret_bool (decide_eq_true (by omega)), (Below.refl _ _).alloc (Nat.le_refl _) _⟩
  obtain rfl : x = ⟨#[]⟩ := empty_of (Decidable.not_not.1 gx)
  clear gx
  by_cases yn : ¬ n.size ≤ 255
  · have sn := decide_eq_false yn
    have zn : ¬ ((n.size : Int) ≤ 255) := by omega
    have HR : Hid (mayO ⟨1, 0, 0, 0, n, ⟨#[]⟩⟩ = false) := Lib.hid (by simp only [mayO, hI1, hT1, hN1, hX1, hK1, z0, z1, sn]; simp)
    go_wp2_with fail
    refine (HH.out _).mono ?_
    rintro e w' ⟨rfl, hw⟩
    subst hw
    go_wp2_with fail
    refine (H105.out _).mono ?_
    rintro e w' ⟨rfl, hw⟩
    subst hw
    go_wp2_with fail
    refine (H116.out _).mono ?_
    rintro e w' ⟨rfl, hw⟩
    subst hw
    go_wp2_with fail
    refine (H97.out _).mono ?_
    rintro e w' ⟨rfl, hw⟩
    subst hw
    go_wp2_with fail
    refine (H110.out _).mono ?_
    rintro e w' ⟨rfl, hw⟩
    subst hw
    go_wp2_with fail
    refine (H120.out _).mono ?_
    rintro e w' ⟨rfl, hw⟩
    subst hw
    go_wp2
    go_ret
    rw [HR.out]
    first | exact ⟨rfl, (Below.refl _ _).alloc (Nat.le_refl _) _⟩ | exact ⟨ret_bool (decide_eq_false (by omega)), (Below.refl _ _).alloc (Nat.le_refl _) _⟩ | exact ⟨ret_bool (decide_eq_true (by omega)), (Below.refl _ _).alloc (Nat.le_refl _) _⟩
  have yn' : n.size ≤ 255 := Decidable.not_not.1 yn
  have sn := decide_eq_true yn'
  clear yn
  have zn : ((n.size : Int) ≤ 255) := by omega
  have HR : Hid (mayO ⟨1, 0, 0, 0, n, ⟨#[]⟩⟩ = true) := Lib.hid (by simp only [mayO, hI1, hT1, hN1, hX1, hK1, z0, z1, sn]; simp)
  go_wp2_with fail
  refine (HH.out _).mono ?_
  rintro e w' ⟨rfl, hw⟩
  subst hw
  go_wp2_with fail
  refine (H105.out _).mono ?_
  rintro e w' ⟨rfl, hw⟩
  subst hw
  go_wp2_with fail
  refine (H116.out _).mono ?_
  rintro e w' ⟨rfl, hw⟩
  subst hw
  go_wp2_with fail
  refine (H97.out _).mono ?_
  rintro e w' ⟨rfl, hw⟩
  subst hw
  go_wp2_with fail
  refine (H110.out _).mono ?_
  rintro e w' ⟨rfl, hw⟩
  subst hw
  go_wp2_with fail
  refine (H120.out _).mono ?_
  rintro e w' ⟨rfl, hw⟩
  subst hw
  go_wp2
  go_ret
  rw [HR.out]
  first | exact ⟨rfl, (Below.refl _ _).alloc (Nat.le_refl _) _⟩ | exact ⟨ret_bool (decide_eq_false (by omega)), (Below.refl _ _).alloc (Nat.le_refl _) _⟩ | exact ⟨ret_bool (decide_eq_true (by omega)), (Below.refl _ _).alloc (Nat.le_refl _) _⟩

set_option maxRecDepth 100000 in
set_option maxHeartbeats 8000000 in
theorem rmay5 (i t a : Int) (n x : ByteArray) (w : World) :
    Calls Tryd.prog 12 #[.agg #[.int .i64 5, .int .i64 i, .int .i64 t, .int .i64 a, .string n, .string x]] w (GivesV (.bool (mayO ⟨5, i, t, a, n, x⟩)) w) := by
  have hI5 : hasI 5 = true := by decide
  have hT5 : hasT 5 = false := by decide
  have hN5 : hasN 5 = false := by decide
  have hX5 : hasX 5 = false := by decide
  have hK5 : isK 5 = true := by decide
  have z0 : decide ((⟨#[]⟩ : ByteArray).size = 0) = true := rfl
  have z1 : decide ((⟨#[]⟩ : ByteArray).size ≤ 255) = true := rfl
  have HH : Hid (∀ V, Calls Tryd.prog 25 #[.int .i64 5] V fun e w' => e = .returned (.string ⟨#[105]⟩) ∧ w' = V) := Lib.hid (fun V => has_any 5 V)
  have H105 : Hid (∀ V, Calls Tryd.prog 26 #[.string ⟨#[105]⟩, .int .u8 105] V fun e w' => e = .returned (.bool true) ∧ w' = V) := Lib.hid (fun V => in_any ⟨#[105]⟩ 105 V (by decide))
  have H116 : Hid (∀ V, Calls Tryd.prog 26 #[.string ⟨#[105]⟩, .int .u8 116] V fun e w' => e = .returned (.bool false) ∧ w' = V) := Lib.hid (fun V => in_any ⟨#[105]⟩ 116 V (by decide))
  have H97 : Hid (∀ V, Calls Tryd.prog 26 #[.string ⟨#[105]⟩, .int .u8 97] V fun e w' => e = .returned (.bool false) ∧ w' = V) := Lib.hid (fun V => in_any ⟨#[105]⟩ 97 V (by decide))
  have H110 : Hid (∀ V, Calls Tryd.prog 26 #[.string ⟨#[105]⟩, .int .u8 110] V fun e w' => e = .returned (.bool false) ∧ w' = V) := Lib.hid (fun V => in_any ⟨#[105]⟩ 110 V (by decide))
  have H120 : Hid (∀ V, Calls Tryd.prog 26 #[.string ⟨#[105]⟩, .int .u8 120] V fun e w' => e = .returned (.bool false) ∧ w' = V) := Lib.hid (fun V => in_any ⟨#[105]⟩ 120 V (by decide))
  go_enter Tryd.func12, Tryd.ntmps12
  by_cases gt : ¬ t = 0
  · have ft := decide_eq_false gt
    have qt : (t == 0) = false := by simpa using gt
    have HR : Hid (mayO ⟨5, i, t, a, n, x⟩ = false) := Lib.hid (by simp only [mayO, hI5, hT5, hN5, hX5, hK5, z0, z1, ft]; simp)
    go_wp2_with fail
    refine (HH.out _).mono ?_
    rintro e w' ⟨rfl, hw⟩
    subst hw
    go_wp2_with fail
    refine (H105.out _).mono ?_
    rintro e w' ⟨rfl, hw⟩
    subst hw
    go_wp2_with fail
    refine (H116.out _).mono ?_
    rintro e w' ⟨rfl, hw⟩
    subst hw
    go_wp2
    go_ret
    rw [HR.out]
    first | exact ⟨rfl, (Below.refl _ _).alloc (Nat.le_refl _) _⟩ | exact ⟨ret_bool (decide_eq_false (by omega)), (Below.refl _ _).alloc (Nat.le_refl _) _⟩ | exact ⟨ret_bool (decide_eq_true (by omega)), (Below.refl _ _).alloc (Nat.le_refl _) _⟩
  obtain rfl : t = 0 := Decidable.not_not.1 gt
  clear gt
  by_cases ga : ¬ a = 0
  · have fa := decide_eq_false ga
    have qa : (a == 0) = false := by simpa using ga
    have HR : Hid (mayO ⟨5, i, 0, a, n, x⟩ = false) := Lib.hid (by simp only [mayO, hI5, hT5, hN5, hX5, hK5, z0, z1, fa]; simp)
    go_wp2_with fail
    refine (HH.out _).mono ?_
    rintro e w' ⟨rfl, hw⟩
    subst hw
    go_wp2_with fail
    refine (H105.out _).mono ?_
    rintro e w' ⟨rfl, hw⟩
    subst hw
    go_wp2_with fail
    refine (H116.out _).mono ?_
    rintro e w' ⟨rfl, hw⟩
    subst hw
    go_wp2_with fail
    refine (H97.out _).mono ?_
    rintro e w' ⟨rfl, hw⟩
    subst hw
    go_wp2
    go_ret
    rw [HR.out]
    first | exact ⟨rfl, (Below.refl _ _).alloc (Nat.le_refl _) _⟩ | exact ⟨ret_bool (decide_eq_false (by omega)), (Below.refl _ _).alloc (Nat.le_refl _) _⟩ | exact ⟨ret_bool (decide_eq_true (by omega)), (Below.refl _ _).alloc (Nat.le_refl _) _⟩
  obtain rfl : a = 0 := Decidable.not_not.1 ga
  clear ga
  by_cases gn : ¬ n.size = 0
  · have fn := decide_eq_false gn
    have qn := not_nil n (by omega)
    have rn := not_empty n (by omega)
    have HR : Hid (mayO ⟨5, i, 0, 0, n, x⟩ = false) := Lib.hid (by simp only [mayO, hI5, hT5, hN5, hX5, hK5, z0, z1, fn]; simp)
    go_wp2_with fail
    refine (HH.out _).mono ?_
    rintro e w' ⟨rfl, hw⟩
    subst hw
    go_wp2_with fail
    refine (H105.out _).mono ?_
    rintro e w' ⟨rfl, hw⟩
    subst hw
    go_wp2_with fail
    refine (H116.out _).mono ?_
    rintro e w' ⟨rfl, hw⟩
    subst hw
    go_wp2_with fail
    refine (H97.out _).mono ?_
    rintro e w' ⟨rfl, hw⟩
    subst hw
    go_wp2_with fail
    refine (H110.out _).mono ?_
    rintro e w' ⟨rfl, hw⟩
    subst hw
    go_wp2
    go_ret
    rw [HR.out]
    first | exact ⟨rfl, (Below.refl _ _).alloc (Nat.le_refl _) _⟩ | exact ⟨ret_bool (decide_eq_false (by omega)), (Below.refl _ _).alloc (Nat.le_refl _) _⟩ | exact ⟨ret_bool (decide_eq_true (by omega)), (Below.refl _ _).alloc (Nat.le_refl _) _⟩
  obtain rfl : n = ⟨#[]⟩ := empty_of (Decidable.not_not.1 gn)
  clear gn
  by_cases gx : ¬ x.size = 0
  · have fx := decide_eq_false gx
    have qx := not_nil x (by omega)
    have rx := not_empty x (by omega)
    have HR : Hid (mayO ⟨5, i, 0, 0, ⟨#[]⟩, x⟩ = false) := Lib.hid (by simp only [mayO, hI5, hT5, hN5, hX5, hK5, z0, z1, fx]; simp)
    go_wp2_with fail
    refine (HH.out _).mono ?_
    rintro e w' ⟨rfl, hw⟩
    subst hw
    go_wp2_with fail
    refine (H105.out _).mono ?_
    rintro e w' ⟨rfl, hw⟩
    subst hw
    go_wp2_with fail
    refine (H116.out _).mono ?_
    rintro e w' ⟨rfl, hw⟩
    subst hw
    go_wp2_with fail
    refine (H97.out _).mono ?_
    rintro e w' ⟨rfl, hw⟩
    subst hw
    go_wp2_with fail
    refine (H110.out _).mono ?_
    rintro e w' ⟨rfl, hw⟩
    subst hw
    go_wp2_with fail
    refine (H120.out _).mono ?_
    rintro e w' ⟨rfl, hw⟩
    subst hw
    go_wp2
    go_ret
    rw [HR.out]
    first | exact ⟨rfl, (Below.refl _ _).alloc (Nat.le_refl _) _⟩ | exact ⟨ret_bool (decide_eq_false (by omega)), (Below.refl _ _).alloc (Nat.le_refl _) _⟩ | exact ⟨ret_bool (decide_eq_true (by omega)), (Below.refl _ _).alloc (Nat.le_refl _) _⟩
  obtain rfl : x = ⟨#[]⟩ := empty_of (Decidable.not_not.1 gx)
  clear gx
  have HR : Hid (mayO ⟨5, i, 0, 0, ⟨#[]⟩, ⟨#[]⟩⟩ = true) := Lib.hid (by simp only [mayO, hI5, hT5, hN5, hX5, hK5, z0, z1]; simp)
  go_wp2_with fail
  refine (HH.out _).mono ?_
  rintro e w' ⟨rfl, hw⟩
  subst hw
  go_wp2_with fail
  refine (H105.out _).mono ?_
  rintro e w' ⟨rfl, hw⟩
  subst hw
  go_wp2_with fail
  refine (H116.out _).mono ?_
  rintro e w' ⟨rfl, hw⟩
  subst hw
  go_wp2_with fail
  refine (H97.out _).mono ?_
  rintro e w' ⟨rfl, hw⟩
  subst hw
  go_wp2_with fail
  refine (H110.out _).mono ?_
  rintro e w' ⟨rfl, hw⟩
  subst hw
  go_wp2_with fail
  refine (H120.out _).mono ?_
  rintro e w' ⟨rfl, hw⟩
  subst hw
  go_wp2
  go_ret
  rw [HR.out]
  first | exact ⟨rfl, (Below.refl _ _).alloc (Nat.le_refl _) _⟩ | exact ⟨ret_bool (decide_eq_false (by omega)), (Below.refl _ _).alloc (Nat.le_refl _) _⟩ | exact ⟨ret_bool (decide_eq_true (by omega)), (Below.refl _ _).alloc (Nat.le_refl _) _⟩

end Go.Proofs.YtdjhnjokmmbafaaDoor
