/-
  What Back comes to: the number, if these are the bytes of one; else 0, and false.
-/
import Derived.Test.YtdjhnjokmmbafaaDoorPackO
import Derived.PlainAid
namespace Go.Proofs.YtdjhnjokmmbafaaDoor
open Go.ChangeShapes Go.WideShapes Go.ChangeAt Go.RowKit
open Go.PlainAid (bt)
set_option linter.unusedVariables false

theorem nums_bt (s : ByteArray) : nums s = (List.range s.size).map (fun i => bt s i) := by
  apply List.ext_getElem
  · rw [nums_length]; simp
  · intro i h1 h2
    rw [nums_length] at h1
    rw [nums_get s i h1, PlainAid.get_bt s i h1]
    simp
theorem not_empty (s : ByteArray) (h : 1 ≤ s.size) : s.toList.isEmpty = false := by
  rw [ByteArray.toList_eq]
  have := Lib.size_eq s
  cases hl : s.data.toList with
  | nil => rw [hl] at this; have e : s.size = 0 := this; omega
  | cons => rfl
theorem not_nil (s : ByteArray) (h : 1 ≤ s.size) : s.toList ≠ [] := by
  intro e
  have := not_empty s h
  rw [e] at this
  simp at this
theorem or_zero (y : Int) (h0 : 0 ≤ y) (h1 : y < 18446744073709551616) : bits .or .u64 0 y = y := by
  have h := bits_join .u64 64 (by decide) wraps_u64 64 0 y (by decide) (by decide) (by decide) h0 (by omega) (by omega)
  omega
theorem or_join (i m : Nat) (hm : 2 ^ i = m) (x y : Int) (hx0 : 0 ≤ x) (hx : x % (m : Int) = 0) (hx1 : x < 18446744073709551616) (hy0 : 0 ≤ y) (hy : y < (m : Int)) (hi : m ≤ 18446744073709551616) : bits .or .u64 x y = x + y := by
  have e : ((2 : Int) ^ i) = (m : Int) := by rw [← hm]; simp
  exact bits_join .u64 64 (by decide) wraps_u64 i x y hx0 (by rw [e]; exact hx) (by omega) hy0 (by rw [e]; exact hy) (by omega)

theorem drop0 (s : ByteArray) (hs : s.size = 1) : (nums s).drop 1 = [] := by rw [nums_bt, hs]; rfl
set_option maxHeartbeats 400000 in
theorem isnum0 (s : ByteArray) (w : World) (hs : s.size = 1) (h0 : bt s 0 = 0) :
    Calls Tryd.prog 58 #[.string s] w fun e w' => e = .returned (.bool true) ∧ w = w' := by
  have hg := PlainAid.get_bt s
  have hE := not_empty s (by omega)
  have hF := not_nil s (by omega)
  go_enter Tryd.func58, Tryd.ntmps58
  go_wp2_with fail
  go_ret
  exact ⟨rfl, rfl⟩
set_option maxHeartbeats 1000000 in
theorem back0 (s : ByteArray) (w : World) (hs : s.size = 1) (h0 : bt s 0 = 0) :
    Calls Tryd.prog 51 #[.string s] w fun e w' => e = .returned (.tuple #[.int .u64 (numOf ((nums s).drop 1)), .bool true]) ∧ w = w' := by
  have H := Lib.hid (fun w => isnum0 s w hs h0)
  have HD := Lib.hid (drop0 s hs)
  have hg := PlainAid.get_bt s
  go_enter Tryd.func51, Tryd.ntmps51
  go_wp2_with fail
  refine (H.out _).mono ?_
  rintro e w' ⟨rfl, rfl⟩
  go_wp2_with fail
  go_ret2
  refine ⟨ret_pair ?_, rfl⟩
  rw [HD.out]
  simp only [numOf]

theorem drop1 (s : ByteArray) (hs : s.size = 2) : (nums s).drop 1 = [bt s 1] := by rw [nums_bt, hs]; rfl
set_option maxHeartbeats 400000 in
theorem isnum1 (s : ByteArray) (w : World) (hs : s.size = 2) (h0 : bt s 0 = 1) (hl : bt s 1 ≠ 0) :
    Calls Tryd.prog 58 #[.string s] w fun e w' => e = .returned (.bool true) ∧ w = w' := by
  have hg := PlainAid.get_bt s
  have hE := not_empty s (by omega)
  have hF := not_nil s (by omega)
  have hB : (bt s 1 != 0) = true := by rw [bne_iff_ne]; exact hl
  clear hl
  go_enter Tryd.func58, Tryd.ntmps58
  go_wp2_with fail
  go_ret
  exact ⟨rfl, rfl⟩
set_option maxHeartbeats 1000000 in
theorem back1 (s : ByteArray) (w : World) (hs : s.size = 2) (h0 : bt s 0 = 1) (hl : bt s 1 ≠ 0) :
    Calls Tryd.prog 51 #[.string s] w fun e w' => e = .returned (.tuple #[.int .u64 (numOf ((nums s).drop 1)), .bool true]) ∧ w = w' := by
  have H := Lib.hid (fun w => isnum1 s w hs h0 hl)
  have HD := Lib.hid (drop1 s hs)
  have hg := PlainAid.get_bt s
  have b1 := PlainAid.bt_nonneg s 1
  have c1 := PlainAid.bt_le s 1
  clear hl
  go_enter Tryd.func51, Tryd.ntmps51
  go_wp2_with fail
  refine (H.out _).mono ?_
  rintro e w' ⟨rfl, rfl⟩
  go_wp2_with fail
  go_ret2
  refine ⟨ret_pair ?_, rfl⟩
  rw [HD.out]
  simp only [numOf]
  rw [or_zero (bt s 1) (by omega) (by omega)]
  omega

theorem drop2 (s : ByteArray) (hs : s.size = 3) : (nums s).drop 1 = [bt s 1, bt s 2] := by rw [nums_bt, hs]; rfl
set_option maxHeartbeats 400000 in
theorem isnum2 (s : ByteArray) (w : World) (hs : s.size = 3) (h0 : bt s 0 = 2) (hl : bt s 2 ≠ 0) :
    Calls Tryd.prog 58 #[.string s] w fun e w' => e = .returned (.bool true) ∧ w = w' := by
  have hg := PlainAid.get_bt s
  have hE := not_empty s (by omega)
  have hF := not_nil s (by omega)
  have hB : (bt s 2 != 0) = true := by rw [bne_iff_ne]; exact hl
  clear hl
  go_enter Tryd.func58, Tryd.ntmps58
  go_wp2_with fail
  go_ret
  exact ⟨rfl, rfl⟩
set_option maxHeartbeats 1000000 in
theorem back2 (s : ByteArray) (w : World) (hs : s.size = 3) (h0 : bt s 0 = 2) (hl : bt s 2 ≠ 0) :
    Calls Tryd.prog 51 #[.string s] w fun e w' => e = .returned (.tuple #[.int .u64 (numOf ((nums s).drop 1)), .bool true]) ∧ w = w' := by
  have H := Lib.hid (fun w => isnum2 s w hs h0 hl)
  have HD := Lib.hid (drop2 s hs)
  have hg := PlainAid.get_bt s
  have b1 := PlainAid.bt_nonneg s 1
  have c1 := PlainAid.bt_le s 1
  have b2 := PlainAid.bt_nonneg s 2
  have c2 := PlainAid.bt_le s 2
  clear hl
  go_enter Tryd.func51, Tryd.ntmps51
  go_wp2_with fail
  refine (H.out _).mono ?_
  rintro e w' ⟨rfl, rfl⟩
  go_wp2_with fail
  go_ret2
  refine ⟨ret_pair ?_, rfl⟩
  rw [HD.out]
  simp only [numOf]
  rw [or_zero (bt s 2 * 256) (by omega) (by omega), or_join 8 256 (by decide) (bt s 2 * 256) (bt s 1) (by omega) (by omega) (by omega) (by omega) (by omega) (by decide)]
  omega

theorem drop3 (s : ByteArray) (hs : s.size = 4) : (nums s).drop 1 = [bt s 1, bt s 2, bt s 3] := by rw [nums_bt, hs]; rfl
set_option maxHeartbeats 400000 in
theorem isnum3 (s : ByteArray) (w : World) (hs : s.size = 4) (h0 : bt s 0 = 3) (hl : bt s 3 ≠ 0) :
    Calls Tryd.prog 58 #[.string s] w fun e w' => e = .returned (.bool true) ∧ w = w' := by
  have hg := PlainAid.get_bt s
  have hE := not_empty s (by omega)
  have hF := not_nil s (by omega)
  have hB : (bt s 3 != 0) = true := by rw [bne_iff_ne]; exact hl
  clear hl
  go_enter Tryd.func58, Tryd.ntmps58
  go_wp2_with fail
  go_ret
  exact ⟨rfl, rfl⟩
set_option maxHeartbeats 1000000 in
theorem back3 (s : ByteArray) (w : World) (hs : s.size = 4) (h0 : bt s 0 = 3) (hl : bt s 3 ≠ 0) :
    Calls Tryd.prog 51 #[.string s] w fun e w' => e = .returned (.tuple #[.int .u64 (numOf ((nums s).drop 1)), .bool true]) ∧ w = w' := by
  have H := Lib.hid (fun w => isnum3 s w hs h0 hl)
  have HD := Lib.hid (drop3 s hs)
  have hg := PlainAid.get_bt s
  have b1 := PlainAid.bt_nonneg s 1
  have c1 := PlainAid.bt_le s 1
  have b2 := PlainAid.bt_nonneg s 2
  have c2 := PlainAid.bt_le s 2
  have b3 := PlainAid.bt_nonneg s 3
  have c3 := PlainAid.bt_le s 3
  clear hl
  go_enter Tryd.func51, Tryd.ntmps51
  go_wp2_with fail
  refine (H.out _).mono ?_
  rintro e w' ⟨rfl, rfl⟩
  go_wp2_with fail
  go_ret2
  refine ⟨ret_pair ?_, rfl⟩
  rw [HD.out]
  simp only [numOf]
  rw [or_zero (bt s 3 * 65536) (by omega) (by omega), or_join 16 65536 (by decide) (bt s 3 * 65536) (bt s 2 * 256) (by omega) (by omega) (by omega) (by omega) (by omega) (by decide), or_join 8 256 (by decide) (bt s 3 * 65536 + bt s 2 * 256) (bt s 1) (by omega) (by omega) (by omega) (by omega) (by omega) (by decide)]
  omega

theorem drop4 (s : ByteArray) (hs : s.size = 5) : (nums s).drop 1 = [bt s 1, bt s 2, bt s 3, bt s 4] := by rw [nums_bt, hs]; rfl
set_option maxHeartbeats 400000 in
theorem isnum4 (s : ByteArray) (w : World) (hs : s.size = 5) (h0 : bt s 0 = 4) (hl : bt s 4 ≠ 0) :
    Calls Tryd.prog 58 #[.string s] w fun e w' => e = .returned (.bool true) ∧ w = w' := by
  have hg := PlainAid.get_bt s
  have hE := not_empty s (by omega)
  have hF := not_nil s (by omega)
  have hB : (bt s 4 != 0) = true := by rw [bne_iff_ne]; exact hl
  clear hl
  go_enter Tryd.func58, Tryd.ntmps58
  go_wp2_with fail
  go_ret
  exact ⟨rfl, rfl⟩
set_option maxHeartbeats 1000000 in
theorem back4 (s : ByteArray) (w : World) (hs : s.size = 5) (h0 : bt s 0 = 4) (hl : bt s 4 ≠ 0) :
    Calls Tryd.prog 51 #[.string s] w fun e w' => e = .returned (.tuple #[.int .u64 (numOf ((nums s).drop 1)), .bool true]) ∧ w = w' := by
  have H := Lib.hid (fun w => isnum4 s w hs h0 hl)
  have HD := Lib.hid (drop4 s hs)
  have hg := PlainAid.get_bt s
  have b1 := PlainAid.bt_nonneg s 1
  have c1 := PlainAid.bt_le s 1
  have b2 := PlainAid.bt_nonneg s 2
  have c2 := PlainAid.bt_le s 2
  have b3 := PlainAid.bt_nonneg s 3
  have c3 := PlainAid.bt_le s 3
  have b4 := PlainAid.bt_nonneg s 4
  have c4 := PlainAid.bt_le s 4
  clear hl
  go_enter Tryd.func51, Tryd.ntmps51
  go_wp2_with fail
  refine (H.out _).mono ?_
  rintro e w' ⟨rfl, rfl⟩
  go_wp2_with fail
  go_ret2
  refine ⟨ret_pair ?_, rfl⟩
  rw [HD.out]
  simp only [numOf]
  rw [or_zero (bt s 4 * 16777216) (by omega) (by omega), or_join 24 16777216 (by decide) (bt s 4 * 16777216) (bt s 3 * 65536) (by omega) (by omega) (by omega) (by omega) (by omega) (by decide), or_join 16 65536 (by decide) (bt s 4 * 16777216 + bt s 3 * 65536) (bt s 2 * 256) (by omega) (by omega) (by omega) (by omega) (by omega) (by decide), or_join 8 256 (by decide) (bt s 4 * 16777216 + bt s 3 * 65536 + bt s 2 * 256) (bt s 1) (by omega) (by omega) (by omega) (by omega) (by omega) (by decide)]
  omega

theorem drop5 (s : ByteArray) (hs : s.size = 6) : (nums s).drop 1 = [bt s 1, bt s 2, bt s 3, bt s 4, bt s 5] := by rw [nums_bt, hs]; rfl
set_option maxHeartbeats 400000 in
theorem isnum5 (s : ByteArray) (w : World) (hs : s.size = 6) (h0 : bt s 0 = 5) (hl : bt s 5 ≠ 0) :
    Calls Tryd.prog 58 #[.string s] w fun e w' => e = .returned (.bool true) ∧ w = w' := by
  have hg := PlainAid.get_bt s
  have hE := not_empty s (by omega)
  have hF := not_nil s (by omega)
  have hB : (bt s 5 != 0) = true := by rw [bne_iff_ne]; exact hl
  clear hl
  go_enter Tryd.func58, Tryd.ntmps58
  go_wp2_with fail
  go_ret
  exact ⟨rfl, rfl⟩
set_option maxHeartbeats 1000000 in
theorem back5 (s : ByteArray) (w : World) (hs : s.size = 6) (h0 : bt s 0 = 5) (hl : bt s 5 ≠ 0) :
    Calls Tryd.prog 51 #[.string s] w fun e w' => e = .returned (.tuple #[.int .u64 (numOf ((nums s).drop 1)), .bool true]) ∧ w = w' := by
  have H := Lib.hid (fun w => isnum5 s w hs h0 hl)
  have HD := Lib.hid (drop5 s hs)
  have hg := PlainAid.get_bt s
  have b1 := PlainAid.bt_nonneg s 1
  have c1 := PlainAid.bt_le s 1
  have b2 := PlainAid.bt_nonneg s 2
  have c2 := PlainAid.bt_le s 2
  have b3 := PlainAid.bt_nonneg s 3
  have c3 := PlainAid.bt_le s 3
  have b4 := PlainAid.bt_nonneg s 4
  have c4 := PlainAid.bt_le s 4
  have b5 := PlainAid.bt_nonneg s 5
  have c5 := PlainAid.bt_le s 5
  clear hl
  go_enter Tryd.func51, Tryd.ntmps51
  go_wp2_with fail
  refine (H.out _).mono ?_
  rintro e w' ⟨rfl, rfl⟩
  go_wp2_with fail
  go_ret2
  refine ⟨ret_pair ?_, rfl⟩
  rw [HD.out]
  simp only [numOf]
  rw [or_zero (bt s 5 * 4294967296) (by omega) (by omega), or_join 32 4294967296 (by decide) (bt s 5 * 4294967296) (bt s 4 * 16777216) (by omega) (by omega) (by omega) (by omega) (by omega) (by decide), or_join 24 16777216 (by decide) (bt s 5 * 4294967296 + bt s 4 * 16777216) (bt s 3 * 65536) (by omega) (by omega) (by omega) (by omega) (by omega) (by decide), or_join 16 65536 (by decide) (bt s 5 * 4294967296 + bt s 4 * 16777216 + bt s 3 * 65536) (bt s 2 * 256) (by omega) (by omega) (by omega) (by omega) (by omega) (by decide), or_join 8 256 (by decide) (bt s 5 * 4294967296 + bt s 4 * 16777216 + bt s 3 * 65536 + bt s 2 * 256) (bt s 1) (by omega) (by omega) (by omega) (by omega) (by omega) (by decide)]
  omega

theorem drop6 (s : ByteArray) (hs : s.size = 7) : (nums s).drop 1 = [bt s 1, bt s 2, bt s 3, bt s 4, bt s 5, bt s 6] := by rw [nums_bt, hs]; rfl
set_option maxHeartbeats 400000 in
theorem isnum6 (s : ByteArray) (w : World) (hs : s.size = 7) (h0 : bt s 0 = 6) (hl : bt s 6 ≠ 0) :
    Calls Tryd.prog 58 #[.string s] w fun e w' => e = .returned (.bool true) ∧ w = w' := by
  have hg := PlainAid.get_bt s
  have hE := not_empty s (by omega)
  have hF := not_nil s (by omega)
  have hB : (bt s 6 != 0) = true := by rw [bne_iff_ne]; exact hl
  clear hl
  go_enter Tryd.func58, Tryd.ntmps58
  go_wp2_with fail
  go_ret
  exact ⟨rfl, rfl⟩
set_option maxHeartbeats 1000000 in
theorem back6 (s : ByteArray) (w : World) (hs : s.size = 7) (h0 : bt s 0 = 6) (hl : bt s 6 ≠ 0) :
    Calls Tryd.prog 51 #[.string s] w fun e w' => e = .returned (.tuple #[.int .u64 (numOf ((nums s).drop 1)), .bool true]) ∧ w = w' := by
  have H := Lib.hid (fun w => isnum6 s w hs h0 hl)
  have HD := Lib.hid (drop6 s hs)
  have hg := PlainAid.get_bt s
  have b1 := PlainAid.bt_nonneg s 1
  have c1 := PlainAid.bt_le s 1
  have b2 := PlainAid.bt_nonneg s 2
  have c2 := PlainAid.bt_le s 2
  have b3 := PlainAid.bt_nonneg s 3
  have c3 := PlainAid.bt_le s 3
  have b4 := PlainAid.bt_nonneg s 4
  have c4 := PlainAid.bt_le s 4
  have b5 := PlainAid.bt_nonneg s 5
  have c5 := PlainAid.bt_le s 5
  have b6 := PlainAid.bt_nonneg s 6
  have c6 := PlainAid.bt_le s 6
  clear hl
  go_enter Tryd.func51, Tryd.ntmps51
  go_wp2_with fail
  refine (H.out _).mono ?_
  rintro e w' ⟨rfl, rfl⟩
  go_wp2_with fail
  go_ret2
  refine ⟨ret_pair ?_, rfl⟩
  rw [HD.out]
  simp only [numOf]
  rw [or_zero (bt s 6 * 1099511627776) (by omega) (by omega), or_join 40 1099511627776 (by decide) (bt s 6 * 1099511627776) (bt s 5 * 4294967296) (by omega) (by omega) (by omega) (by omega) (by omega) (by decide), or_join 32 4294967296 (by decide) (bt s 6 * 1099511627776 + bt s 5 * 4294967296) (bt s 4 * 16777216) (by omega) (by omega) (by omega) (by omega) (by omega) (by decide), or_join 24 16777216 (by decide) (bt s 6 * 1099511627776 + bt s 5 * 4294967296 + bt s 4 * 16777216) (bt s 3 * 65536) (by omega) (by omega) (by omega) (by omega) (by omega) (by decide), or_join 16 65536 (by decide) (bt s 6 * 1099511627776 + bt s 5 * 4294967296 + bt s 4 * 16777216 + bt s 3 * 65536) (bt s 2 * 256) (by omega) (by omega) (by omega) (by omega) (by omega) (by decide), or_join 8 256 (by decide) (bt s 6 * 1099511627776 + bt s 5 * 4294967296 + bt s 4 * 16777216 + bt s 3 * 65536 + bt s 2 * 256) (bt s 1) (by omega) (by omega) (by omega) (by omega) (by omega) (by decide)]
  omega

theorem drop7 (s : ByteArray) (hs : s.size = 8) : (nums s).drop 1 = [bt s 1, bt s 2, bt s 3, bt s 4, bt s 5, bt s 6, bt s 7] := by rw [nums_bt, hs]; rfl
set_option maxHeartbeats 400000 in
theorem isnum7 (s : ByteArray) (w : World) (hs : s.size = 8) (h0 : bt s 0 = 7) (hl : bt s 7 ≠ 0) :
    Calls Tryd.prog 58 #[.string s] w fun e w' => e = .returned (.bool true) ∧ w = w' := by
  have hg := PlainAid.get_bt s
  have hE := not_empty s (by omega)
  have hF := not_nil s (by omega)
  have hB : (bt s 7 != 0) = true := by rw [bne_iff_ne]; exact hl
  clear hl
  go_enter Tryd.func58, Tryd.ntmps58
  go_wp2_with fail
  go_ret
  exact ⟨rfl, rfl⟩
set_option maxHeartbeats 1000000 in
theorem back7 (s : ByteArray) (w : World) (hs : s.size = 8) (h0 : bt s 0 = 7) (hl : bt s 7 ≠ 0) :
    Calls Tryd.prog 51 #[.string s] w fun e w' => e = .returned (.tuple #[.int .u64 (numOf ((nums s).drop 1)), .bool true]) ∧ w = w' := by
  have H := Lib.hid (fun w => isnum7 s w hs h0 hl)
  have HD := Lib.hid (drop7 s hs)
  have hg := PlainAid.get_bt s
  have b1 := PlainAid.bt_nonneg s 1
  have c1 := PlainAid.bt_le s 1
  have b2 := PlainAid.bt_nonneg s 2
  have c2 := PlainAid.bt_le s 2
  have b3 := PlainAid.bt_nonneg s 3
  have c3 := PlainAid.bt_le s 3
  have b4 := PlainAid.bt_nonneg s 4
  have c4 := PlainAid.bt_le s 4
  have b5 := PlainAid.bt_nonneg s 5
  have c5 := PlainAid.bt_le s 5
  have b6 := PlainAid.bt_nonneg s 6
  have c6 := PlainAid.bt_le s 6
  have b7 := PlainAid.bt_nonneg s 7
  have c7 := PlainAid.bt_le s 7
  clear hl
  go_enter Tryd.func51, Tryd.ntmps51
  go_wp2_with fail
  refine (H.out _).mono ?_
  rintro e w' ⟨rfl, rfl⟩
  go_wp2_with fail
  go_ret2
  refine ⟨ret_pair ?_, rfl⟩
  rw [HD.out]
  simp only [numOf]
  rw [or_zero (bt s 7 * 281474976710656) (by omega) (by omega), or_join 48 281474976710656 (by decide) (bt s 7 * 281474976710656) (bt s 6 * 1099511627776) (by omega) (by omega) (by omega) (by omega) (by omega) (by decide), or_join 40 1099511627776 (by decide) (bt s 7 * 281474976710656 + bt s 6 * 1099511627776) (bt s 5 * 4294967296) (by omega) (by omega) (by omega) (by omega) (by omega) (by decide), or_join 32 4294967296 (by decide) (bt s 7 * 281474976710656 + bt s 6 * 1099511627776 + bt s 5 * 4294967296) (bt s 4 * 16777216) (by omega) (by omega) (by omega) (by omega) (by omega) (by decide), or_join 24 16777216 (by decide) (bt s 7 * 281474976710656 + bt s 6 * 1099511627776 + bt s 5 * 4294967296 + bt s 4 * 16777216) (bt s 3 * 65536) (by omega) (by omega) (by omega) (by omega) (by omega) (by decide), or_join 16 65536 (by decide) (bt s 7 * 281474976710656 + bt s 6 * 1099511627776 + bt s 5 * 4294967296 + bt s 4 * 16777216 + bt s 3 * 65536) (bt s 2 * 256) (by omega) (by omega) (by omega) (by omega) (by omega) (by decide), or_join 8 256 (by decide) (bt s 7 * 281474976710656 + bt s 6 * 1099511627776 + bt s 5 * 4294967296 + bt s 4 * 16777216 + bt s 3 * 65536 + bt s 2 * 256) (bt s 1) (by omega) (by omega) (by omega) (by omega) (by omega) (by decide)]
  omega

theorem drop8 (s : ByteArray) (hs : s.size = 9) : (nums s).drop 1 = [bt s 1, bt s 2, bt s 3, bt s 4, bt s 5, bt s 6, bt s 7, bt s 8] := by rw [nums_bt, hs]; rfl
set_option maxHeartbeats 400000 in
theorem isnum8 (s : ByteArray) (w : World) (hs : s.size = 9) (h0 : bt s 0 = 8) (hl : bt s 8 ≠ 0) :
    Calls Tryd.prog 58 #[.string s] w fun e w' => e = .returned (.bool true) ∧ w = w' := by
  have hg := PlainAid.get_bt s
  have hE := not_empty s (by omega)
  have hF := not_nil s (by omega)
  have hB : (bt s 8 != 0) = true := by rw [bne_iff_ne]; exact hl
  clear hl
  go_enter Tryd.func58, Tryd.ntmps58
  go_wp2_with fail
  go_ret
  exact ⟨rfl, rfl⟩
set_option maxHeartbeats 1000000 in
theorem back8 (s : ByteArray) (w : World) (hs : s.size = 9) (h0 : bt s 0 = 8) (hl : bt s 8 ≠ 0) :
    Calls Tryd.prog 51 #[.string s] w fun e w' => e = .returned (.tuple #[.int .u64 (numOf ((nums s).drop 1)), .bool true]) ∧ w = w' := by
  have H := Lib.hid (fun w => isnum8 s w hs h0 hl)
  have HD := Lib.hid (drop8 s hs)
  have hg := PlainAid.get_bt s
  have b1 := PlainAid.bt_nonneg s 1
  have c1 := PlainAid.bt_le s 1
  have b2 := PlainAid.bt_nonneg s 2
  have c2 := PlainAid.bt_le s 2
  have b3 := PlainAid.bt_nonneg s 3
  have c3 := PlainAid.bt_le s 3
  have b4 := PlainAid.bt_nonneg s 4
  have c4 := PlainAid.bt_le s 4
  have b5 := PlainAid.bt_nonneg s 5
  have c5 := PlainAid.bt_le s 5
  have b6 := PlainAid.bt_nonneg s 6
  have c6 := PlainAid.bt_le s 6
  have b7 := PlainAid.bt_nonneg s 7
  have c7 := PlainAid.bt_le s 7
  have b8 := PlainAid.bt_nonneg s 8
  have c8 := PlainAid.bt_le s 8
  clear hl
  go_enter Tryd.func51, Tryd.ntmps51
  go_wp2_with fail
  refine (H.out _).mono ?_
  rintro e w' ⟨rfl, rfl⟩
  go_wp2_with fail
  go_ret2
  refine ⟨ret_pair ?_, rfl⟩
  rw [HD.out]
  simp only [numOf]
  rw [or_zero (bt s 8 * 72057594037927936) (by omega) (by omega), or_join 56 72057594037927936 (by decide) (bt s 8 * 72057594037927936) (bt s 7 * 281474976710656) (by omega) (by omega) (by omega) (by omega) (by omega) (by decide), or_join 48 281474976710656 (by decide) (bt s 8 * 72057594037927936 + bt s 7 * 281474976710656) (bt s 6 * 1099511627776) (by omega) (by omega) (by omega) (by omega) (by omega) (by decide), or_join 40 1099511627776 (by decide) (bt s 8 * 72057594037927936 + bt s 7 * 281474976710656 + bt s 6 * 1099511627776) (bt s 5 * 4294967296) (by omega) (by omega) (by omega) (by omega) (by omega) (by decide), or_join 32 4294967296 (by decide) (bt s 8 * 72057594037927936 + bt s 7 * 281474976710656 + bt s 6 * 1099511627776 + bt s 5 * 4294967296) (bt s 4 * 16777216) (by omega) (by omega) (by omega) (by omega) (by omega) (by decide), or_join 24 16777216 (by decide) (bt s 8 * 72057594037927936 + bt s 7 * 281474976710656 + bt s 6 * 1099511627776 + bt s 5 * 4294967296 + bt s 4 * 16777216) (bt s 3 * 65536) (by omega) (by omega) (by omega) (by omega) (by omega) (by decide), or_join 16 65536 (by decide) (bt s 8 * 72057594037927936 + bt s 7 * 281474976710656 + bt s 6 * 1099511627776 + bt s 5 * 4294967296 + bt s 4 * 16777216 + bt s 3 * 65536) (bt s 2 * 256) (by omega) (by omega) (by omega) (by omega) (by omega) (by decide), or_join 8 256 (by decide) (bt s 8 * 72057594037927936 + bt s 7 * 281474976710656 + bt s 6 * 1099511627776 + bt s 5 * 4294967296 + bt s 4 * 16777216 + bt s 3 * 65536 + bt s 2 * 256) (bt s 1) (by omega) (by omega) (by omega) (by omega) (by omega) (by decide)]
  omega
end Go.Proofs.YtdjhnjokmmbafaaDoor
