/-
  The reference's encode, kind by kind.
-/
import Derived.Test.YtdjhnjokmmbafaaDoorOpSa
namespace Go.Proofs.YtdjhnjokmmbafaaDoor
open Go.ChangeShapes Go.WideShapes Go.ChangeAt Go.RowKit
set_option linter.unusedVariables false
set_option linter.unusedSimpArgs false

set_option maxRecDepth 100000 in
set_option maxHeartbeats 4000000 in
theorem ren1 (i t a : Int) (n x : ByteArray) (w : World) (hi : I64 i) (ht : I64 t) (ha : I64 a) (hns : n.size ≤ 255) (hxs : x.size ≤ 255) :
    Calls Tryd.prog 38 #[.agg #[.int .i64 1, .int .i64 i, .int .i64 t, .int .i64 a, .string n, .string x]] w (GivesV (.string (ba (enc ⟨1, i, t, a, n, x⟩))) w) := by
  have HH : Hid (∀ V, Calls Tryd.prog 25 #[.int .i64 1] V fun e w' => e = .returned (.string ⟨#[110]⟩) ∧ w' = V) := Lib.hid (fun V => has_any 1 V)
  have H105 : Hid (∀ V, Calls Tryd.prog 26 #[.string ⟨#[110]⟩, .int .u8 105] V fun e w' => e = .returned (.bool false) ∧ w' = V) := Lib.hid (fun V => in_any ⟨#[110]⟩ 105 V (by decide))
  have H116 : Hid (∀ V, Calls Tryd.prog 26 #[.string ⟨#[110]⟩, .int .u8 116] V fun e w' => e = .returned (.bool false) ∧ w' = V) := Lib.hid (fun V => in_any ⟨#[110]⟩ 116 V (by decide))
  have H97 : Hid (∀ V, Calls Tryd.prog 26 #[.string ⟨#[110]⟩, .int .u8 97] V fun e w' => e = .returned (.bool false) ∧ w' = V) := Lib.hid (fun V => in_any ⟨#[110]⟩ 97 V (by decide))
  have H110 : Hid (∀ V, Calls Tryd.prog 26 #[.string ⟨#[110]⟩, .int .u8 110] V fun e w' => e = .returned (.bool true) ∧ w' = V) := Lib.hid (fun V => in_any ⟨#[110]⟩ 110 V (by decide))
  have H120 : Hid (∀ V, Calls Tryd.prog 26 #[.string ⟨#[110]⟩, .int .u8 120] V fun e w' => e = .returned (.bool false) ∧ w' = V) := Lib.hid (fun V => in_any ⟨#[110]⟩ 120 V (by decide))
  obtain ⟨S0, hS0⟩ : ∃ T : ByteArray, T = strOfNums [1] := ⟨_, rfl⟩
  have zS0 : S0.size = 1 := by rw [hS0]; rfl
  obtain ⟨Dn, hDn⟩ : ∃ D, D = ba (tx n) := ⟨_, rfl⟩
  have HDn := Lib.hid (fun V => text_any n V hns)
  rw [← hDn] at HDn
  have zDn : Dn.size ≤ 256 := by rw [hDn, ba_size, tx_length]; omega
  obtain ⟨S1, hS1⟩ : ∃ T : ByteArray, T = S0 ++ Dn := ⟨_, rfl⟩
  have zS1 : S1.size ≤ 257 := by rw [hS1, ByteArray.size_append]; omega
  have p0 : ∀ W, (Op.stringOp .add S0 Dn).run Tryd.prog W = .ok (.string S1) W := fun W => by rw [hS1]; exact run_string_add_sum W _ _ (by omega)
  have HE : Hid (ba (enc ⟨1, i, t, a, n, x⟩) = S1) := Lib.hid (by
    rw [hS1, hS0, hDn]
    apply ByteArray.ext
    simp [ba, ByteArray.data_append, enc, opt, hasI, hasT, hasN, hasX, strOfNums])
  rw [HE.out]
  obtain ⟨W, hW⟩ : ∃ W, W = w.alloc (.cells #[.int .i64 1, .int .i64 i, .int .i64 t, .int .i64 a, .string n, .string x] 29) := ⟨_, rfl⟩
  have HWb : Hid (Below w.heap.size w W) := Lib.hid (by rw [hW]; exact (Below.refl _ _).alloc (Nat.le_refl _) _)
  have HWk : Hid (W.heap[w.heap.size]? = some (.cells #[.int .i64 1, .int .i64 i, .int .i64 t, .int .i64 a, .string n, .string x] 29 (0, 0))) := Lib.hid (by rw [hW]; exact heap_alloc_new _ _)
  have hcv := conv1 1 W
  rw [← hS0] at hcv
  obtain ⟨V0, hV⟩ : ∃ V, V = W.alloc (.cells #[.int .u8 1] 5) := ⟨_, rfl⟩
  have HVb : Hid (Below W.heap.size W V0) := Lib.hid (by rw [hV]; exact (Below.refl _ _).alloc (Nat.le_refl _) _)
  have HB_0 : Hid (Below w.heap.size w V0) := Lib.hid (HWb.out.trans (HVb.out.mono HWb.out.size))
  have HK_0 : Hid (V0.heap[w.heap.size]? = some (.cells #[.int .i64 1, .int .i64 i, .int .i64 t, .int .i64 a, .string n, .string x] 29 (0, 0))) := Lib.hid ((HVb.out.block _ (lt_of_block HWk.out)).trans HWk.out)
  clear HE hS0 hS1 hDn
  obtain ⟨x0, x1, x2, x3, x4, x5⟩ := block6 HWk.out
  obtain ⟨y0, y1, y2, y3, y4, y5⟩ := block6 HK_0.out
  rw [hV] at y0 y1 y2 y3 y4 y5
  have HVV := Lib.hid hV
  have HWW := Lib.hid hW
  clear hV hW
  go_enter Tryd.func38, Tryd.ntmps38
  go_wp2_with (rw [← HWW.out])
  rw [← HVV.out]
  clear HVV HWW hcv x0 x1 x2 x3 x4 x5 y0 y1 y2 y3 y4 y5
  refine (HH.out V0).mono ?_
  rintro e w' ⟨rfl, hw⟩
  obtain rfl := hw.symm
  go_wp2_with fail
  refine (H105.out V0).mono ?_
  rintro e w' ⟨rfl, hw⟩
  obtain rfl := hw.symm
  go_wp2_with fail
  refine (H116.out V0).mono ?_
  rintro e w' ⟨rfl, hw⟩
  obtain rfl := hw.symm
  go_wp2_with fail
  refine (H97.out V0).mono ?_
  rintro e w' ⟨rfl, hw⟩
  obtain rfl := hw.symm
  go_wp2_with fail
  refine (H110.out V0).mono ?_
  rintro e w' ⟨rfl, hw⟩
  obtain rfl := hw.symm
  obtain ⟨x0, x1, x2, x3, x4, x5⟩ := block6 HK_0.out
  go_wp2_with fail
  refine (HDn.out V0).mono ?_
  rintro e V1 ⟨rfl, hb⟩
  have HB_1 : Hid (Below w.heap.size w V1) := Lib.hid (HB_0.out.trans (hb.mono HB_0.out.size))
  have HK_1 : Hid (V1.heap[w.heap.size]? = some (.cells #[.int .i64 1, .int .i64 i, .int .i64 t, .int .i64 a, .string n, .string x] 29 (0, 0))) := Lib.hid ((hb.block _ (lt_of_block HK_0.out)).trans HK_0.out)
  clear hb x0 x1 x2 x3 x4 x5
  go_wp2_with fail
  refine (H120.out V1).mono ?_
  rintro e w' ⟨rfl, hw⟩
  obtain rfl := hw.symm
  go_wp2
  go_ret
  exact ⟨rfl, HB_1.out⟩

set_option maxRecDepth 100000 in
set_option maxHeartbeats 4000000 in
theorem ren2 (i t a : Int) (n x : ByteArray) (w : World) (hi : I64 i) (ht : I64 t) (ha : I64 a) (hns : n.size ≤ 255) (hxs : x.size ≤ 255) :
    Calls Tryd.prog 38 #[.agg #[.int .i64 2, .int .i64 i, .int .i64 t, .int .i64 a, .string n, .string x]] w (GivesV (.string (ba (enc ⟨2, i, t, a, n, x⟩))) w) := by
  have HH : Hid (∀ V, Calls Tryd.prog 25 #[.int .i64 2] V fun e w' => e = .returned (.string ⟨#[120]⟩) ∧ w' = V) := Lib.hid (fun V => has_any 2 V)
  have H105 : Hid (∀ V, Calls Tryd.prog 26 #[.string ⟨#[120]⟩, .int .u8 105] V fun e w' => e = .returned (.bool false) ∧ w' = V) := Lib.hid (fun V => in_any ⟨#[120]⟩ 105 V (by decide))
  have H116 : Hid (∀ V, Calls Tryd.prog 26 #[.string ⟨#[120]⟩, .int .u8 116] V fun e w' => e = .returned (.bool false) ∧ w' = V) := Lib.hid (fun V => in_any ⟨#[120]⟩ 116 V (by decide))
  have H97 : Hid (∀ V, Calls Tryd.prog 26 #[.string ⟨#[120]⟩, .int .u8 97] V fun e w' => e = .returned (.bool false) ∧ w' = V) := Lib.hid (fun V => in_any ⟨#[120]⟩ 97 V (by decide))
  have H110 : Hid (∀ V, Calls Tryd.prog 26 #[.string ⟨#[120]⟩, .int .u8 110] V fun e w' => e = .returned (.bool false) ∧ w' = V) := Lib.hid (fun V => in_any ⟨#[120]⟩ 110 V (by decide))
  have H120 : Hid (∀ V, Calls Tryd.prog 26 #[.string ⟨#[120]⟩, .int .u8 120] V fun e w' => e = .returned (.bool true) ∧ w' = V) := Lib.hid (fun V => in_any ⟨#[120]⟩ 120 V (by decide))
  obtain ⟨S0, hS0⟩ : ∃ T : ByteArray, T = strOfNums [2] := ⟨_, rfl⟩
  have zS0 : S0.size = 1 := by rw [hS0]; rfl
  obtain ⟨Dx, hDx⟩ : ∃ D, D = ba (tx x) := ⟨_, rfl⟩
  have HDx := Lib.hid (fun V => text_any x V hxs)
  rw [← hDx] at HDx
  have zDx : Dx.size ≤ 256 := by rw [hDx, ba_size, tx_length]; omega
  obtain ⟨S1, hS1⟩ : ∃ T : ByteArray, T = S0 ++ Dx := ⟨_, rfl⟩
  have zS1 : S1.size ≤ 257 := by rw [hS1, ByteArray.size_append]; omega
  have p0 : ∀ W, (Op.stringOp .add S0 Dx).run Tryd.prog W = .ok (.string S1) W := fun W => by rw [hS1]; exact run_string_add_sum W _ _ (by omega)
  have HE : Hid (ba (enc ⟨2, i, t, a, n, x⟩) = S1) := Lib.hid (by
    rw [hS1, hS0, hDx]
    apply ByteArray.ext
    simp [ba, ByteArray.data_append, enc, opt, hasI, hasT, hasN, hasX, strOfNums])
  rw [HE.out]
  obtain ⟨W, hW⟩ : ∃ W, W = w.alloc (.cells #[.int .i64 2, .int .i64 i, .int .i64 t, .int .i64 a, .string n, .string x] 29) := ⟨_, rfl⟩
  have HWb : Hid (Below w.heap.size w W) := Lib.hid (by rw [hW]; exact (Below.refl _ _).alloc (Nat.le_refl _) _)
  have HWk : Hid (W.heap[w.heap.size]? = some (.cells #[.int .i64 2, .int .i64 i, .int .i64 t, .int .i64 a, .string n, .string x] 29 (0, 0))) := Lib.hid (by rw [hW]; exact heap_alloc_new _ _)
  have hcv := conv1 2 W
  rw [← hS0] at hcv
  obtain ⟨V0, hV⟩ : ∃ V, V = W.alloc (.cells #[.int .u8 2] 5) := ⟨_, rfl⟩
  have HVb : Hid (Below W.heap.size W V0) := Lib.hid (by rw [hV]; exact (Below.refl _ _).alloc (Nat.le_refl _) _)
  have HB_0 : Hid (Below w.heap.size w V0) := Lib.hid (HWb.out.trans (HVb.out.mono HWb.out.size))
  have HK_0 : Hid (V0.heap[w.heap.size]? = some (.cells #[.int .i64 2, .int .i64 i, .int .i64 t, .int .i64 a, .string n, .string x] 29 (0, 0))) := Lib.hid ((HVb.out.block _ (lt_of_block HWk.out)).trans HWk.out)
  clear HE hS0 hS1 hDx
  obtain ⟨x0, x1, x2, x3, x4, x5⟩ := block6 HWk.out
  obtain ⟨y0, y1, y2, y3, y4, y5⟩ := block6 HK_0.out
  rw [hV] at y0 y1 y2 y3 y4 y5
  have HVV := Lib.hid hV
  have HWW := Lib.hid hW
  clear hV hW
  go_enter Tryd.func38, Tryd.ntmps38
  go_wp2_with (rw [← HWW.out])
  rw [← HVV.out]
  clear HVV HWW hcv x0 x1 x2 x3 x4 x5 y0 y1 y2 y3 y4 y5
  refine (HH.out V0).mono ?_
  rintro e w' ⟨rfl, hw⟩
  obtain rfl := hw.symm
  go_wp2_with fail
  refine (H105.out V0).mono ?_
  rintro e w' ⟨rfl, hw⟩
  obtain rfl := hw.symm
  go_wp2_with fail
  refine (H116.out V0).mono ?_
  rintro e w' ⟨rfl, hw⟩
  obtain rfl := hw.symm
  go_wp2_with fail
  refine (H97.out V0).mono ?_
  rintro e w' ⟨rfl, hw⟩
  obtain rfl := hw.symm
  go_wp2_with fail
  refine (H110.out V0).mono ?_
  rintro e w' ⟨rfl, hw⟩
  obtain rfl := hw.symm
  go_wp2_with fail
  refine (H120.out V0).mono ?_
  rintro e w' ⟨rfl, hw⟩
  obtain rfl := hw.symm
  obtain ⟨x0, x1, x2, x3, x4, x5⟩ := block6 HK_0.out
  go_wp2_with fail
  refine (HDx.out V0).mono ?_
  rintro e V1 ⟨rfl, hb⟩
  have HB_1 : Hid (Below w.heap.size w V1) := Lib.hid (HB_0.out.trans (hb.mono HB_0.out.size))
  have HK_1 : Hid (V1.heap[w.heap.size]? = some (.cells #[.int .i64 2, .int .i64 i, .int .i64 t, .int .i64 a, .string n, .string x] 29 (0, 0))) := Lib.hid ((hb.block _ (lt_of_block HK_0.out)).trans HK_0.out)
  clear hb x0 x1 x2 x3 x4 x5
  go_wp2
  go_ret
  exact ⟨rfl, HB_1.out⟩

set_option maxRecDepth 100000 in
set_option maxHeartbeats 4000000 in
theorem ren5 (i t a : Int) (n x : ByteArray) (w : World) (hi : I64 i) (ht : I64 t) (ha : I64 a) (hns : n.size ≤ 255) (hxs : x.size ≤ 255) :
    Calls Tryd.prog 38 #[.agg #[.int .i64 5, .int .i64 i, .int .i64 t, .int .i64 a, .string n, .string x]] w (GivesV (.string (ba (enc ⟨5, i, t, a, n, x⟩))) w) := by
  have HH : Hid (∀ V, Calls Tryd.prog 25 #[.int .i64 5] V fun e w' => e = .returned (.string ⟨#[105]⟩) ∧ w' = V) := Lib.hid (fun V => has_any 5 V)
  have H105 : Hid (∀ V, Calls Tryd.prog 26 #[.string ⟨#[105]⟩, .int .u8 105] V fun e w' => e = .returned (.bool true) ∧ w' = V) := Lib.hid (fun V => in_any ⟨#[105]⟩ 105 V (by decide))
  have H116 : Hid (∀ V, Calls Tryd.prog 26 #[.string ⟨#[105]⟩, .int .u8 116] V fun e w' => e = .returned (.bool false) ∧ w' = V) := Lib.hid (fun V => in_any ⟨#[105]⟩ 116 V (by decide))
  have H97 : Hid (∀ V, Calls Tryd.prog 26 #[.string ⟨#[105]⟩, .int .u8 97] V fun e w' => e = .returned (.bool false) ∧ w' = V) := Lib.hid (fun V => in_any ⟨#[105]⟩ 97 V (by decide))
  have H110 : Hid (∀ V, Calls Tryd.prog 26 #[.string ⟨#[105]⟩, .int .u8 110] V fun e w' => e = .returned (.bool false) ∧ w' = V) := Lib.hid (fun V => in_any ⟨#[105]⟩ 110 V (by decide))
  have H120 : Hid (∀ V, Calls Tryd.prog 26 #[.string ⟨#[105]⟩, .int .u8 120] V fun e w' => e = .returned (.bool false) ∧ w' = V) := Lib.hid (fun V => in_any ⟨#[105]⟩ 120 V (by decide))
  obtain ⟨S0, hS0⟩ : ∃ T : ByteArray, T = strOfNums [5] := ⟨_, rfl⟩
  have zS0 : S0.size = 1 := by rw [hS0]; rfl
  obtain ⟨Di, hDi⟩ : ∃ D, D = ba (nb i) := ⟨_, rfl⟩
  have HDi := Lib.hid (fun V => number_any i V hi)
  rw [← hDi] at HDi
  have zDi : Di.size ≤ 9 := by rw [hDi, ba_size]; exact nb_length hi
  obtain ⟨S1, hS1⟩ : ∃ T : ByteArray, T = S0 ++ Di := ⟨_, rfl⟩
  have zS1 : S1.size ≤ 10 := by rw [hS1, ByteArray.size_append]; omega
  have p0 : ∀ W, (Op.stringOp .add S0 Di).run Tryd.prog W = .ok (.string S1) W := fun W => by rw [hS1]; exact run_string_add_sum W _ _ (by omega)
  have HE : Hid (ba (enc ⟨5, i, t, a, n, x⟩) = S1) := Lib.hid (by
    rw [hS1, hS0, hDi]
    apply ByteArray.ext
    simp [ba, ByteArray.data_append, enc, opt, hasI, hasT, hasN, hasX, strOfNums])
  rw [HE.out]
  obtain ⟨W, hW⟩ : ∃ W, W = w.alloc (.cells #[.int .i64 5, .int .i64 i, .int .i64 t, .int .i64 a, .string n, .string x] 29) := ⟨_, rfl⟩
  have HWb : Hid (Below w.heap.size w W) := Lib.hid (by rw [hW]; exact (Below.refl _ _).alloc (Nat.le_refl _) _)
  have HWk : Hid (W.heap[w.heap.size]? = some (.cells #[.int .i64 5, .int .i64 i, .int .i64 t, .int .i64 a, .string n, .string x] 29 (0, 0))) := Lib.hid (by rw [hW]; exact heap_alloc_new _ _)
  have hcv := conv1 5 W
  rw [← hS0] at hcv
  obtain ⟨V0, hV⟩ : ∃ V, V = W.alloc (.cells #[.int .u8 5] 5) := ⟨_, rfl⟩
  have HVb : Hid (Below W.heap.size W V0) := Lib.hid (by rw [hV]; exact (Below.refl _ _).alloc (Nat.le_refl _) _)
  have HB_0 : Hid (Below w.heap.size w V0) := Lib.hid (HWb.out.trans (HVb.out.mono HWb.out.size))
  have HK_0 : Hid (V0.heap[w.heap.size]? = some (.cells #[.int .i64 5, .int .i64 i, .int .i64 t, .int .i64 a, .string n, .string x] 29 (0, 0))) := Lib.hid ((HVb.out.block _ (lt_of_block HWk.out)).trans HWk.out)
  clear HE hS0 hS1 hDi
  obtain ⟨x0, x1, x2, x3, x4, x5⟩ := block6 HWk.out
  obtain ⟨y0, y1, y2, y3, y4, y5⟩ := block6 HK_0.out
  rw [hV] at y0 y1 y2 y3 y4 y5
  have HVV := Lib.hid hV
  have HWW := Lib.hid hW
  clear hV hW
  go_enter Tryd.func38, Tryd.ntmps38
  go_wp2_with (rw [← HWW.out])
  rw [← HVV.out]
  clear HVV HWW hcv x0 x1 x2 x3 x4 x5 y0 y1 y2 y3 y4 y5
  refine (HH.out V0).mono ?_
  rintro e w' ⟨rfl, hw⟩
  obtain rfl := hw.symm
  go_wp2_with fail
  refine (H105.out V0).mono ?_
  rintro e w' ⟨rfl, hw⟩
  obtain rfl := hw.symm
  obtain ⟨x0, x1, x2, x3, x4, x5⟩ := block6 HK_0.out
  go_wp2_with fail
  refine (HDi.out V0).mono ?_
  rintro e V1 ⟨rfl, hb⟩
  have HB_1 : Hid (Below w.heap.size w V1) := Lib.hid (HB_0.out.trans (hb.mono HB_0.out.size))
  have HK_1 : Hid (V1.heap[w.heap.size]? = some (.cells #[.int .i64 5, .int .i64 i, .int .i64 t, .int .i64 a, .string n, .string x] 29 (0, 0))) := Lib.hid ((hb.block _ (lt_of_block HK_0.out)).trans HK_0.out)
  clear hb x0 x1 x2 x3 x4 x5
  go_wp2_with fail
  refine (H116.out V1).mono ?_
  rintro e w' ⟨rfl, hw⟩
  obtain rfl := hw.symm
  go_wp2_with fail
  refine (H97.out V1).mono ?_
  rintro e w' ⟨rfl, hw⟩
  obtain rfl := hw.symm
  go_wp2_with fail
  refine (H110.out V1).mono ?_
  rintro e w' ⟨rfl, hw⟩
  obtain rfl := hw.symm
  go_wp2_with fail
  refine (H120.out V1).mono ?_
  rintro e w' ⟨rfl, hw⟩
  obtain rfl := hw.symm
  go_wp2
  go_ret
  exact ⟨rfl, HB_1.out⟩

end Go.Proofs.YtdjhnjokmmbafaaDoor
