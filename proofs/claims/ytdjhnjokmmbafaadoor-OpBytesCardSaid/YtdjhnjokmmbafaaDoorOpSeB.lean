/-
  The reference's encode, kind by kind.
-/
import Derived.Test.YtdjhnjokmmbafaaDoorOpSa
namespace Go.Proofs.YtdjhnjokmmbafaaDoor
open Go.ChangeShapes Go.WideShapes Go.ChangeAt Go.RowKit
set_option linter.unusedVariables false
set_option linter.unusedSimpArgs false

set_option maxRecDepth 100000 in
set_option maxHeartbeats 4000000 in
theorem ren3 (i t a : Int) (n x : ByteArray) (w : World) (hi : I64 i) (ht : I64 t) (ha : I64 a) (hns : n.size ≤ 255) (hxs : x.size ≤ 255) :
    Calls Tryd.prog 38 #[.agg #[.int .i64 3, .int .i64 i, .int .i64 t, .int .i64 a, .string n, .string x]] w (GivesV (.string (ba (enc ⟨3, i, t, a, n, x⟩))) w) := by
  have HH : Hid (∀ V, Calls Tryd.prog 25 #[.int .i64 3] V fun e w' => e = .returned (.string ⟨#[120]⟩) ∧ w' = V) := Lib.hid (fun V => has_any 3 V)
  have H105 : Hid (∀ V, Calls Tryd.prog 26 #[.string ⟨#[120]⟩, .int .u8 105] V fun e w' => e = .returned (.bool false) ∧ w' = V) := Lib.hid (fun V => in_any ⟨#[120]⟩ 105 V (by decide))
  have H116 : Hid (∀ V, Calls Tryd.prog 26 #[.string ⟨#[120]⟩, .int .u8 116] V fun e w' => e = .returned (.bool false) ∧ w' = V) := Lib.hid (fun V => in_any ⟨#[120]⟩ 116 V (by decide))
  have H97 : Hid (∀ V, Calls Tryd.prog 26 #[.string ⟨#[120]⟩, .int .u8 97] V fun e w' => e = .returned (.bool false) ∧ w' = V) := Lib.hid (fun V => in_any ⟨#[120]⟩ 97 V (by decide))
  have H110 : Hid (∀ V, Calls Tryd.prog 26 #[.string ⟨#[120]⟩, .int .u8 110] V fun e w' => e = .returned (.bool false) ∧ w' = V) := Lib.hid (fun V => in_any ⟨#[120]⟩ 110 V (by decide))
  have H120 : Hid (∀ V, Calls Tryd.prog 26 #[.string ⟨#[120]⟩, .int .u8 120] V fun e w' => e = .returned (.bool true) ∧ w' = V) := Lib.hid (fun V => in_any ⟨#[120]⟩ 120 V (by decide))
  obtain ⟨S0, hS0⟩ : ∃ T : ByteArray, T = strOfNums [3] := ⟨_, rfl⟩
  have zS0 : S0.size = 1 := by rw [hS0]; rfl
  obtain ⟨Dx, hDx⟩ : ∃ D, D = ba (tx x) := ⟨_, rfl⟩
  have HDx := Lib.hid (fun V => text_any x V hxs)
  rw [← hDx] at HDx
  have zDx : Dx.size ≤ 256 := by rw [hDx, ba_size, tx_length]; omega
  obtain ⟨S1, hS1⟩ : ∃ T : ByteArray, T = S0 ++ Dx := ⟨_, rfl⟩
  have zS1 : S1.size ≤ 257 := by rw [hS1, ByteArray.size_append]; omega
  have p0 : ∀ W, (Op.stringOp .add S0 Dx).run Tryd.prog W = .ok (.string S1) W := fun W => by rw [hS1]; exact run_string_add_sum W _ _ (by omega)
  have HE : Hid (ba (enc ⟨3, i, t, a, n, x⟩) = S1) := Lib.hid (by
    rw [hS1, hS0, hDx]
    apply ByteArray.ext
    simp [ba, ByteArray.data_append, enc, opt, hasI, hasT, hasN, hasX, strOfNums])
  rw [HE.out]
  obtain ⟨W, hW⟩ : ∃ W, W = w.alloc (.cells #[.int .i64 3, .int .i64 i, .int .i64 t, .int .i64 a, .string n, .string x] 29) := ⟨_, rfl⟩
  have HWb : Hid (Below w.heap.size w W) := Lib.hid (by rw [hW]; exact (Below.refl _ _).alloc (Nat.le_refl _) _)
  have HWk : Hid (W.heap[w.heap.size]? = some (.cells #[.int .i64 3, .int .i64 i, .int .i64 t, .int .i64 a, .string n, .string x] 29 (0, 0))) := Lib.hid (by rw [hW]; exact heap_alloc_new _ _)
  have hcv := conv1 3 W
  rw [← hS0] at hcv
  obtain ⟨V0, hV⟩ : ∃ V, V = W.alloc (.cells #[.int .u8 3] 5) := ⟨_, rfl⟩
  have HVb : Hid (Below W.heap.size W V0) := Lib.hid (by rw [hV]; exact (Below.refl _ _).alloc (Nat.le_refl _) _)
  have HB_0 : Hid (Below w.heap.size w V0) := Lib.hid (HWb.out.trans (HVb.out.mono HWb.out.size))
  have HK_0 : Hid (V0.heap[w.heap.size]? = some (.cells #[.int .i64 3, .int .i64 i, .int .i64 t, .int .i64 a, .string n, .string x] 29 (0, 0))) := Lib.hid ((HVb.out.block _ (lt_of_block HWk.out)).trans HWk.out)
  clear HE hS0 hS1 hDx
  obtain ⟨x0, x1, x2, x3, x4, x5⟩ := block6 HWk.out
  obtain ⟨y0, y1, y2, y3, y4, y5⟩ := block6 HK_0.out
  rw [hV] at y0 y1 y2 y3 y4 y5
  have HVV := Lib.hid hV
  have HWW := Lib.hid hW
  clear hV hW
  go_enter Tryd.func38, Tryd.ntmps38
  go_wp2_with (rw [← HWW.out])
  rw [← HVV.out]
  clear HVV HWW hcv x0 x1 x2 x3 x4 x5 y0 y1 y2 y3 y4 y5
  refine (HH.out V0).mono ?_
  rintro e w' ⟨rfl, hw⟩
  obtain rfl := hw.symm
  go_wp2_with fail
  refine (H105.out V0).mono ?_
  rintro e w' ⟨rfl, hw⟩
  obtain rfl := hw.symm
  go_wp2_with fail
  refine (H116.out V0).mono ?_
  rintro e w' ⟨rfl, hw⟩
  obtain rfl := hw.symm
  go_wp2_with fail
  refine (H97.out V0).mono ?_
  rintro e w' ⟨rfl, hw⟩
  obtain rfl := hw.symm
  go_wp2_with fail
  refine (H110.out V0).mono ?_
  rintro e w' ⟨rfl, hw⟩
  obtain rfl := hw.symm
  go_wp2_with fail
  refine (H120.out V0).mono ?_
  rintro e w' ⟨rfl, hw⟩
  obtain rfl := hw.symm
  obtain ⟨x0, x1, x2, x3, x4, x5⟩ := block6 HK_0.out
  go_wp2_with fail
  refine (HDx.out V0).mono ?_
  rintro e V1 ⟨rfl, hb⟩
  have HB_1 : Hid (Below w.heap.size w V1) := Lib.hid (HB_0.out.trans (hb.mono HB_0.out.size))
  have HK_1 : Hid (V1.heap[w.heap.size]? = some (.cells #[.int .i64 3, .int .i64 i, .int .i64 t, .int .i64 a, .string n, .string x] 29 (0, 0))) := Lib.hid ((hb.block _ (lt_of_block HK_0.out)).trans HK_0.out)
  clear hb x0 x1 x2 x3 x4 x5
  go_wp2
  go_ret
  exact ⟨rfl, HB_1.out⟩

set_option maxRecDepth 100000 in
set_option maxHeartbeats 4000000 in
theorem ren4 (i t a : Int) (n x : ByteArray) (w : World) (hi : I64 i) (ht : I64 t) (ha : I64 a) (hns : n.size ≤ 255) (hxs : x.size ≤ 255) :
    Calls Tryd.prog 38 #[.agg #[.int .i64 4, .int .i64 i, .int .i64 t, .int .i64 a, .string n, .string x]] w (GivesV (.string (ba (enc ⟨4, i, t, a, n, x⟩))) w) := by
  have HH : Hid (∀ V, Calls Tryd.prog 25 #[.int .i64 4] V fun e w' => e = .returned (.string ⟨#[105, 116, 97]⟩) ∧ w' = V) := Lib.hid (fun V => has_any 4 V)
  have H105 : Hid (∀ V, Calls Tryd.prog 26 #[.string ⟨#[105, 116, 97]⟩, .int .u8 105] V fun e w' => e = .returned (.bool true) ∧ w' = V) := Lib.hid (fun V => in_any ⟨#[105, 116, 97]⟩ 105 V (by decide))
  have H116 : Hid (∀ V, Calls Tryd.prog 26 #[.string ⟨#[105, 116, 97]⟩, .int .u8 116] V fun e w' => e = .returned (.bool true) ∧ w' = V) := Lib.hid (fun V => in_any ⟨#[105, 116, 97]⟩ 116 V (by decide))
  have H97 : Hid (∀ V, Calls Tryd.prog 26 #[.string ⟨#[105, 116, 97]⟩, .int .u8 97] V fun e w' => e = .returned (.bool true) ∧ w' = V) := Lib.hid (fun V => in_any ⟨#[105, 116, 97]⟩ 97 V (by decide))
  have H110 : Hid (∀ V, Calls Tryd.prog 26 #[.string ⟨#[105, 116, 97]⟩, .int .u8 110] V fun e w' => e = .returned (.bool false) ∧ w' = V) := Lib.hid (fun V => in_any ⟨#[105, 116, 97]⟩ 110 V (by decide))
  have H120 : Hid (∀ V, Calls Tryd.prog 26 #[.string ⟨#[105, 116, 97]⟩, .int .u8 120] V fun e w' => e = .returned (.bool false) ∧ w' = V) := Lib.hid (fun V => in_any ⟨#[105, 116, 97]⟩ 120 V (by decide))
  obtain ⟨S0, hS0⟩ : ∃ T : ByteArray, T = strOfNums [4] := ⟨_, rfl⟩
  have zS0 : S0.size = 1 := by rw [hS0]; rfl
  obtain ⟨Di, hDi⟩ : ∃ D, D = ba (nb i) := ⟨_, rfl⟩
  have HDi := Lib.hid (fun V => number_any i V hi)
  rw [← hDi] at HDi
  have zDi : Di.size ≤ 9 := by rw [hDi, ba_size]; exact nb_length hi
  obtain ⟨S1, hS1⟩ : ∃ T : ByteArray, T = S0 ++ Di := ⟨_, rfl⟩
  have zS1 : S1.size ≤ 10 := by rw [hS1, ByteArray.size_append]; omega
  have p0 : ∀ W, (Op.stringOp .add S0 Di).run Tryd.prog W = .ok (.string S1) W := fun W => by rw [hS1]; exact run_string_add_sum W _ _ (by omega)
  obtain ⟨Dt, hDt⟩ : ∃ D, D = ba (nb t) := ⟨_, rfl⟩
  have HDt := Lib.hid (fun V => number_any t V ht)
  rw [← hDt] at HDt
  have zDt : Dt.size ≤ 9 := by rw [hDt, ba_size]; exact nb_length ht
  obtain ⟨S2, hS2⟩ : ∃ T : ByteArray, T = S1 ++ Dt := ⟨_, rfl⟩
  have zS2 : S2.size ≤ 19 := by rw [hS2, ByteArray.size_append]; omega
  have p1 : ∀ W, (Op.stringOp .add S1 Dt).run Tryd.prog W = .ok (.string S2) W := fun W => by rw [hS2]; exact run_string_add_sum W _ _ (by omega)
  obtain ⟨Da, hDa⟩ : ∃ D, D = ba (nb a) := ⟨_, rfl⟩
  have HDa := Lib.hid (fun V => number_any a V ha)
  rw [← hDa] at HDa
  have zDa : Da.size ≤ 9 := by rw [hDa, ba_size]; exact nb_length ha
  obtain ⟨S3, hS3⟩ : ∃ T : ByteArray, T = S2 ++ Da := ⟨_, rfl⟩
  have zS3 : S3.size ≤ 28 := by rw [hS3, ByteArray.size_append]; omega
  have p2 : ∀ W, (Op.stringOp .add S2 Da).run Tryd.prog W = .ok (.string S3) W := fun W => by rw [hS3]; exact run_string_add_sum W _ _ (by omega)
  have HE : Hid (ba (enc ⟨4, i, t, a, n, x⟩) = S3) := Lib.hid (by
    rw [hS3, hS2, hS1, hS0, hDi, hDt, hDa]
    apply ByteArray.ext
    simp [ba, ByteArray.data_append, enc, opt, hasI, hasT, hasN, hasX, strOfNums])
  rw [HE.out]
  obtain ⟨W, hW⟩ : ∃ W, W = w.alloc (.cells #[.int .i64 4, .int .i64 i, .int .i64 t, .int .i64 a, .string n, .string x] 29) := ⟨_, rfl⟩
  have HWb : Hid (Below w.heap.size w W) := Lib.hid (by rw [hW]; exact (Below.refl _ _).alloc (Nat.le_refl _) _)
  have HWk : Hid (W.heap[w.heap.size]? = some (.cells #[.int .i64 4, .int .i64 i, .int .i64 t, .int .i64 a, .string n, .string x] 29 (0, 0))) := Lib.hid (by rw [hW]; exact heap_alloc_new _ _)
  have hcv := conv1 4 W
  rw [← hS0] at hcv
  obtain ⟨V0, hV⟩ : ∃ V, V = W.alloc (.cells #[.int .u8 4] 5) := ⟨_, rfl⟩
  have HVb : Hid (Below W.heap.size W V0) := Lib.hid (by rw [hV]; exact (Below.refl _ _).alloc (Nat.le_refl _) _)
  have HB_0 : Hid (Below w.heap.size w V0) := Lib.hid (HWb.out.trans (HVb.out.mono HWb.out.size))
  have HK_0 : Hid (V0.heap[w.heap.size]? = some (.cells #[.int .i64 4, .int .i64 i, .int .i64 t, .int .i64 a, .string n, .string x] 29 (0, 0))) := Lib.hid ((HVb.out.block _ (lt_of_block HWk.out)).trans HWk.out)
  clear HE hS0 hS1 hS2 hS3 hDi hDt hDa
  obtain ⟨x0, x1, x2, x3, x4, x5⟩ := block6 HWk.out
  obtain ⟨y0, y1, y2, y3, y4, y5⟩ := block6 HK_0.out
  rw [hV] at y0 y1 y2 y3 y4 y5
  have HVV := Lib.hid hV
  have HWW := Lib.hid hW
  clear hV hW
  go_enter Tryd.func38, Tryd.ntmps38
  go_wp2_with (rw [← HWW.out])
  rw [← HVV.out]
  clear HVV HWW hcv x0 x1 x2 x3 x4 x5 y0 y1 y2 y3 y4 y5
  refine (HH.out V0).mono ?_
  rintro e w' ⟨rfl, hw⟩
  obtain rfl := hw.symm
  go_wp2_with fail
  refine (H105.out V0).mono ?_
  rintro e w' ⟨rfl, hw⟩
  obtain rfl := hw.symm
  obtain ⟨x0, x1, x2, x3, x4, x5⟩ := block6 HK_0.out
  go_wp2_with fail
  refine (HDi.out V0).mono ?_
  rintro e V1 ⟨rfl, hb⟩
  have HB_1 : Hid (Below w.heap.size w V1) := Lib.hid (HB_0.out.trans (hb.mono HB_0.out.size))
  have HK_1 : Hid (V1.heap[w.heap.size]? = some (.cells #[.int .i64 4, .int .i64 i, .int .i64 t, .int .i64 a, .string n, .string x] 29 (0, 0))) := Lib.hid ((hb.block _ (lt_of_block HK_0.out)).trans HK_0.out)
  clear hb x0 x1 x2 x3 x4 x5
  go_wp2_with fail
  refine (H116.out V1).mono ?_
  rintro e w' ⟨rfl, hw⟩
  obtain rfl := hw.symm
  obtain ⟨x0, x1, x2, x3, x4, x5⟩ := block6 HK_1.out
  go_wp2_with fail
  refine (HDt.out V1).mono ?_
  rintro e V2 ⟨rfl, hb⟩
  have HB_2 : Hid (Below w.heap.size w V2) := Lib.hid (HB_1.out.trans (hb.mono HB_1.out.size))
  have HK_2 : Hid (V2.heap[w.heap.size]? = some (.cells #[.int .i64 4, .int .i64 i, .int .i64 t, .int .i64 a, .string n, .string x] 29 (0, 0))) := Lib.hid ((hb.block _ (lt_of_block HK_1.out)).trans HK_1.out)
  clear hb x0 x1 x2 x3 x4 x5
  go_wp2_with fail
  refine (H97.out V2).mono ?_
  rintro e w' ⟨rfl, hw⟩
  obtain rfl := hw.symm
  obtain ⟨x0, x1, x2, x3, x4, x5⟩ := block6 HK_2.out
  go_wp2_with fail
  refine (HDa.out V2).mono ?_
  rintro e V3 ⟨rfl, hb⟩
  have HB_3 : Hid (Below w.heap.size w V3) := Lib.hid (HB_2.out.trans (hb.mono HB_2.out.size))
  have HK_3 : Hid (V3.heap[w.heap.size]? = some (.cells #[.int .i64 4, .int .i64 i, .int .i64 t, .int .i64 a, .string n, .string x] 29 (0, 0))) := Lib.hid ((hb.block _ (lt_of_block HK_2.out)).trans HK_2.out)
  clear hb x0 x1 x2 x3 x4 x5
  go_wp2_with fail
  refine (H110.out V3).mono ?_
  rintro e w' ⟨rfl, hw⟩
  obtain rfl := hw.symm
  go_wp2_with fail
  refine (H120.out V3).mono ?_
  rintro e w' ⟨rfl, hw⟩
  obtain rfl := hw.symm
  go_wp2
  go_ret
  exact ⟨rfl, HB_3.out⟩

set_option maxRecDepth 100000 in
set_option maxHeartbeats 4000000 in
theorem ren7 (i t a : Int) (n x : ByteArray) (w : World) (hi : I64 i) (ht : I64 t) (ha : I64 a) (hns : n.size ≤ 255) (hxs : x.size ≤ 255) :
    Calls Tryd.prog 38 #[.agg #[.int .i64 7, .int .i64 i, .int .i64 t, .int .i64 a, .string n, .string x]] w (GivesV (.string (ba (enc ⟨7, i, t, a, n, x⟩))) w) := by
  have HH : Hid (∀ V, Calls Tryd.prog 25 #[.int .i64 7] V fun e w' => e = .returned (.string ⟨#[105, 110]⟩) ∧ w' = V) := Lib.hid (fun V => has_any 7 V)
  have H105 : Hid (∀ V, Calls Tryd.prog 26 #[.string ⟨#[105, 110]⟩, .int .u8 105] V fun e w' => e = .returned (.bool true) ∧ w' = V) := Lib.hid (fun V => in_any ⟨#[105, 110]⟩ 105 V (by decide))
  have H116 : Hid (∀ V, Calls Tryd.prog 26 #[.string ⟨#[105, 110]⟩, .int .u8 116] V fun e w' => e = .returned (.bool false) ∧ w' = V) := Lib.hid (fun V => in_any ⟨#[105, 110]⟩ 116 V (by decide))
  have H97 : Hid (∀ V, Calls Tryd.prog 26 #[.string ⟨#[105, 110]⟩, .int .u8 97] V fun e w' => e = .returned (.bool false) ∧ w' = V) := Lib.hid (fun V => in_any ⟨#[105, 110]⟩ 97 V (by decide))
  have H110 : Hid (∀ V, Calls Tryd.prog 26 #[.string ⟨#[105, 110]⟩, .int .u8 110] V fun e w' => e = .returned (.bool true) ∧ w' = V) := Lib.hid (fun V => in_any ⟨#[105, 110]⟩ 110 V (by decide))
  have H120 : Hid (∀ V, Calls Tryd.prog 26 #[.string ⟨#[105, 110]⟩, .int .u8 120] V fun e w' => e = .returned (.bool false) ∧ w' = V) := Lib.hid (fun V => in_any ⟨#[105, 110]⟩ 120 V (by decide))
  obtain ⟨S0, hS0⟩ : ∃ T : ByteArray, T = strOfNums [7] := ⟨_, rfl⟩
  have zS0 : S0.size = 1 := by rw [hS0]; rfl
  obtain ⟨Di, hDi⟩ : ∃ D, D = ba (nb i) := ⟨_, rfl⟩
  have HDi := Lib.hid (fun V => number_any i V hi)
  rw [← hDi] at HDi
  have zDi : Di.size ≤ 9 := by rw [hDi, ba_size]; exact nb_length hi
  obtain ⟨S1, hS1⟩ : ∃ T : ByteArray, T = S0 ++ Di := ⟨_, rfl⟩
  have zS1 : S1.size ≤ 10 := by rw [hS1, ByteArray.size_append]; omega
  have p0 : ∀ W, (Op.stringOp .add S0 Di).run Tryd.prog W = .ok (.string S1) W := fun W => by rw [hS1]; exact run_string_add_sum W _ _ (by omega)
  obtain ⟨Dn, hDn⟩ : ∃ D, D = ba (tx n) := ⟨_, rfl⟩
  have HDn := Lib.hid (fun V => text_any n V hns)
  rw [← hDn] at HDn
  have zDn : Dn.size ≤ 256 := by rw [hDn, ba_size, tx_length]; omega
  obtain ⟨S2, hS2⟩ : ∃ T : ByteArray, T = S1 ++ Dn := ⟨_, rfl⟩
  have zS2 : S2.size ≤ 266 := by rw [hS2, ByteArray.size_append]; omega
  have p1 : ∀ W, (Op.stringOp .add S1 Dn).run Tryd.prog W = .ok (.string S2) W := fun W => by rw [hS2]; exact run_string_add_sum W _ _ (by omega)
  have HE : Hid (ba (enc ⟨7, i, t, a, n, x⟩) = S2) := Lib.hid (by
    rw [hS2, hS1, hS0, hDi, hDn]
    apply ByteArray.ext
    simp [ba, ByteArray.data_append, enc, opt, hasI, hasT, hasN, hasX, strOfNums])
  rw [HE.out]
  obtain ⟨W, hW⟩ : ∃ W, W = w.alloc (.cells #[.int .i64 7, .int .i64 i, .int .i64 t, .int .i64 a, .string n, .string x] 29) := ⟨_, rfl⟩
  have HWb : Hid (Below w.heap.size w W) := Lib.hid (by rw [hW]; exact (Below.refl _ _).alloc (Nat.le_refl _) _)
  have HWk : Hid (W.heap[w.heap.size]? = some (.cells #[.int .i64 7, .int .i64 i, .int .i64 t, .int .i64 a, .string n, .string x] 29 (0, 0))) := Lib.hid (by rw [hW]; exact heap_alloc_new _ _)
  have hcv := conv1 7 W
  rw [← hS0] at hcv
  obtain ⟨V0, hV⟩ : ∃ V, V = W.alloc (.cells #[.int .u8 7] 5) := ⟨_, rfl⟩
  have HVb : Hid (Below W.heap.size W V0) := Lib.hid (by rw [hV]; exact (Below.refl _ _).alloc (Nat.le_refl _) _)
  have HB_0 : Hid (Below w.heap.size w V0) := Lib.hid (HWb.out.trans (HVb.out.mono HWb.out.size))
  have HK_0 : Hid (V0.heap[w.heap.size]? = some (.cells #[.int .i64 7, .int .i64 i, .int .i64 t, .int .i64 a, .string n, .string x] 29 (0, 0))) := Lib.hid ((HVb.out.block _ (lt_of_block HWk.out)).trans HWk.out)
  clear HE hS0 hS1 hS2 hDi hDn
  obtain ⟨x0, x1, x2, x3, x4, x5⟩ := block6 HWk.out
  obtain ⟨y0, y1, y2, y3, y4, y5⟩ := block6 HK_0.out
  rw [hV] at y0 y1 y2 y3 y4 y5
  have HVV := Lib.hid hV
  have HWW := Lib.hid hW
  clear hV hW
  go_enter Tryd.func38, Tryd.ntmps38
  go_wp2_with (rw [← HWW.out])
  rw [← HVV.out]
  clear HVV HWW hcv x0 x1 x2 x3 x4 x5 y0 y1 y2 y3 y4 y5
  refine (HH.out V0).mono ?_
  rintro e w' ⟨rfl, hw⟩
  obtain rfl := hw.symm
  go_wp2_with fail
  refine (H105.out V0).mono ?_
  rintro e w' ⟨rfl, hw⟩
  obtain rfl := hw.symm
  obtain ⟨x0, x1, x2, x3, x4, x5⟩ := block6 HK_0.out
  go_wp2_with fail
  refine (HDi.out V0).mono ?_
  rintro e V1 ⟨rfl, hb⟩
  have HB_1 : Hid (Below w.heap.size w V1) := Lib.hid (HB_0.out.trans (hb.mono HB_0.out.size))
  have HK_1 : Hid (V1.heap[w.heap.size]? = some (.cells #[.int .i64 7, .int .i64 i, .int .i64 t, .int .i64 a, .string n, .string x] 29 (0, 0))) := Lib.hid ((hb.block _ (lt_of_block HK_0.out)).trans HK_0.out)
  clear hb x0 x1 x2 x3 x4 x5
  go_wp2_with fail
  refine (H116.out V1).mono ?_
  rintro e w' ⟨rfl, hw⟩
  obtain rfl := hw.symm
  go_wp2_with fail
  refine (H97.out V1).mono ?_
  rintro e w' ⟨rfl, hw⟩
  obtain rfl := hw.symm
  go_wp2_with fail
  refine (H110.out V1).mono ?_
  rintro e w' ⟨rfl, hw⟩
  obtain rfl := hw.symm
  obtain ⟨x0, x1, x2, x3, x4, x5⟩ := block6 HK_1.out
  go_wp2_with fail
  refine (HDn.out V1).mono ?_
  rintro e V2 ⟨rfl, hb⟩
  have HB_2 : Hid (Below w.heap.size w V2) := Lib.hid (HB_1.out.trans (hb.mono HB_1.out.size))
  have HK_2 : Hid (V2.heap[w.heap.size]? = some (.cells #[.int .i64 7, .int .i64 i, .int .i64 t, .int .i64 a, .string n, .string x] 29 (0, 0))) := Lib.hid ((hb.block _ (lt_of_block HK_1.out)).trans HK_1.out)
  clear hb x0 x1 x2 x3 x4 x5
  go_wp2_with fail
  refine (H120.out V2).mono ?_
  rintro e w' ⟨rfl, hw⟩
  obtain rfl := hw.symm
  go_wp2
  go_ret
  exact ⟨rfl, HB_2.out⟩

end Go.Proofs.YtdjhnjokmmbafaaDoor
