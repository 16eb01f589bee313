/-
  The reference's Print, kind by kind.
-/
import Derived.Test.YtdjhnjokmmbafaaDoorOpRc
namespace Go.Proofs.YtdjhnjokmmbafaaDoor
open Go.ChangeShapes Go.WideShapes Go.ChangeAt Go.RowKit
set_option linter.unusedVariables false
set_option linter.unusedSimpArgs false

set_option maxRecDepth 100000 in
set_option maxHeartbeats 4000000 in
theorem rpr4 (i t a : Int) (n x : ByteArray) (w : World) (hi : I64 i) (ht : I64 t) (ha : I64 a) (hm : mayO ⟨4, i, t, a, n, x⟩ = true) :
    Calls Tryd.prog 14 #[.agg #[.int .i64 4, .int .i64 i, .int .i64 t, .int .i64 a, .string n, .string x]] w (GivesV (.string (ba (prn ⟨4, i, t, a, n, x⟩))) w) := by
  obtain ⟨-, -, -, -, -, -, hns, hxs⟩ := mayO_parts hm
  have hns : n.size ≤ 255 := hns
  have hxs : x.size ≤ 255 := hxs
  have HM := Lib.hid (fun V => rmay_any ⟨4, i, t, a, n, x⟩ V)
  rw [hm] at HM
  unfold opv at HM
  have HH : Hid (∀ V, Calls Tryd.prog 25 #[.int .i64 4] V fun e w' => e = .returned (.string ⟨#[105, 116, 97]⟩) ∧ w' = V) := Lib.hid (fun V => has_any 4 V)
  have HR : Hid (prn ⟨4, i, t, a, n, x⟩ = (kword 4).data.toList ++ prT ⟨4, i, t, a, n, x⟩) := Lib.hid (by rw [prn, if_pos hm])
  clear hm
  obtain ⟨Di, hDi⟩ : ∃ D, D = ba (Lib.itoa i) := ⟨_, rfl⟩
  have HDi := Lib.hid (fun V => digits_any i V hi)
  rw [← hDi] at HDi
  have zDi : Di.size ≤ 21 := by rw [hDi, ba_size]; exact Lib.itoa_length_le i hi.1 hi.2
  obtain ⟨S1, hS1⟩ : ∃ T : ByteArray, T = ⟨#[105, 110, 115, 101, 114, 116]⟩ ++ ⟨#[32]⟩ ++ Di := ⟨_, rfl⟩
  have zS1 : S1.size ≤ 32 := by rw [hS1, ByteArray.size_append, ByteArray.size_append]; have e1 : (⟨#[32]⟩ : ByteArray).size = 1 := rfl; have e0 : (⟨#[105, 110, 115, 101, 114, 116]⟩ : ByteArray).size = 6 := rfl; omega
  have p0 : ∀ W, (Op.stringOp .add ⟨#[105, 110, 115, 101, 114, 116]⟩ ⟨#[32]⟩).run Tryd.prog W = .ok (.string (⟨#[105, 110, 115, 101, 114, 116]⟩ ++ ⟨#[32]⟩)) W := fun W => run_string_add_sum W _ _ (by have e1 : (⟨#[32]⟩ : ByteArray).size = 1 := rfl; have e0 : (⟨#[105, 110, 115, 101, 114, 116]⟩ : ByteArray).size = 6 := rfl; omega)
  have q0 : ∀ W, (Op.stringOp .add (⟨#[105, 110, 115, 101, 114, 116]⟩ ++ ⟨#[32]⟩) Di).run Tryd.prog W = .ok (.string S1) W := fun W => by rw [hS1]; exact run_string_add_sum W _ _ (by rw [ByteArray.size_append]; have e1 : (⟨#[32]⟩ : ByteArray).size = 1 := rfl; have e0 : (⟨#[105, 110, 115, 101, 114, 116]⟩ : ByteArray).size = 6 := rfl; omega)
  obtain ⟨Dt, hDt⟩ : ∃ D, D = ba (Lib.itoa t) := ⟨_, rfl⟩
  have HDt := Lib.hid (fun V => digits_any t V ht)
  rw [← hDt] at HDt
  have zDt : Dt.size ≤ 21 := by rw [hDt, ba_size]; exact Lib.itoa_length_le t ht.1 ht.2
  obtain ⟨S2, hS2⟩ : ∃ T : ByteArray, T = S1 ++ ⟨#[32]⟩ ++ Dt := ⟨_, rfl⟩
  have zS2 : S2.size ≤ 54 := by rw [hS2, ByteArray.size_append, ByteArray.size_append]; have e1 : (⟨#[32]⟩ : ByteArray).size = 1 := rfl; omega
  have p1 : ∀ W, (Op.stringOp .add S1 ⟨#[32]⟩).run Tryd.prog W = .ok (.string (S1 ++ ⟨#[32]⟩)) W := fun W => run_string_add_sum W _ _ (by have e1 : (⟨#[32]⟩ : ByteArray).size = 1 := rfl; omega)
  have q1 : ∀ W, (Op.stringOp .add (S1 ++ ⟨#[32]⟩) Dt).run Tryd.prog W = .ok (.string S2) W := fun W => by rw [hS2]; exact run_string_add_sum W _ _ (by rw [ByteArray.size_append]; have e1 : (⟨#[32]⟩ : ByteArray).size = 1 := rfl; omega)
  obtain ⟨Da, hDa⟩ : ∃ D, D = ba (Lib.itoa a) := ⟨_, rfl⟩
  have HDa := Lib.hid (fun V => digits_any a V ha)
  rw [← hDa] at HDa
  have zDa : Da.size ≤ 21 := by rw [hDa, ba_size]; exact Lib.itoa_length_le a ha.1 ha.2
  obtain ⟨S3, hS3⟩ : ∃ T : ByteArray, T = S2 ++ ⟨#[32]⟩ ++ Da := ⟨_, rfl⟩
  have zS3 : S3.size ≤ 76 := by rw [hS3, ByteArray.size_append, ByteArray.size_append]; have e1 : (⟨#[32]⟩ : ByteArray).size = 1 := rfl; omega
  have p2 : ∀ W, (Op.stringOp .add S2 ⟨#[32]⟩).run Tryd.prog W = .ok (.string (S2 ++ ⟨#[32]⟩)) W := fun W => run_string_add_sum W _ _ (by have e1 : (⟨#[32]⟩ : ByteArray).size = 1 := rfl; omega)
  have q2 : ∀ W, (Op.stringOp .add (S2 ++ ⟨#[32]⟩) Da).run Tryd.prog W = .ok (.string S3) W := fun W => by rw [hS3]; exact run_string_add_sum W _ _ (by rw [ByteArray.size_append]; have e1 : (⟨#[32]⟩ : ByteArray).size = 1 := rfl; omega)
  have HE : Hid (ba (prn ⟨4, i, t, a, n, x⟩) = S3) := Lib.hid (by
    rw [HR.out, hS3, hS2, hS1, hDi, hDt, hDa]
    apply ByteArray.ext
    simp [ba, ByteArray.data_append, prT, opt, kword, pn, pt, hasI, hasT, hasN, hasX])
  rw [HE.out]
  clear HE HR hS1 hS2 hS3 hDi hDt hDa
  obtain ⟨W, hW⟩ : ∃ W, W = w.alloc (.cells #[.int .i64 4, .int .i64 i, .int .i64 t, .int .i64 a, .string n, .string x] 29) := ⟨_, rfl⟩
  have HWb : Hid (Below w.heap.size w W) := Lib.hid (by rw [hW]; exact (Below.refl _ _).alloc (Nat.le_refl _) _)
  have HWk : Hid (W.heap[w.heap.size]? = some (.cells #[.int .i64 4, .int .i64 i, .int .i64 t, .int .i64 a, .string n, .string x] 29 (0, 0))) := Lib.hid (by rw [hW]; exact heap_alloc_new _ _)
  go_enter Tryd.func14, Tryd.ntmps14
  go_wp2_with fail
  rw [← hW]
  clear hW
  refine (HM.out W).mono ?_
  rintro e w1 ⟨rfl, hb⟩
  have HB1 : Hid (Below w.heap.size w w1) := Lib.hid (HWb.out.trans (hb.mono HWb.out.size))
  have HK1 : Hid (w1.heap[w.heap.size]? = some (.cells #[.int .i64 4, .int .i64 i, .int .i64 t, .int .i64 a, .string n, .string x] 29 (0, 0))) := Lib.hid ((hb.block _ (lt_of_block HWk.out)).trans HWk.out)
  clear hb
  obtain ⟨x0, x1, x2, x3, x4, x5⟩ := block6 HK1.out
  obtain ⟨V0, hV⟩ : ∃ V, V = w1.alloc (.cells #[.string ⟨#[101, 108, 101, 109, 101, 110, 116]⟩, .string ⟨#[116, 101, 120, 116]⟩, .string ⟨#[99, 111, 109, 109, 101, 110, 116]⟩, .string ⟨#[105, 110, 115, 101, 114, 116]⟩, .string ⟨#[114, 101, 109, 111, 118, 101]⟩, .string ⟨#[115, 101, 116]⟩, .string ⟨#[117, 110, 115, 101, 116]⟩, .string ⟨#[99, 104, 97, 110, 103, 101]⟩] 9) := ⟨_, rfl⟩
  have HVb : Hid (Below w1.heap.size w1 V0) := Lib.hid (by rw [hV]; exact (Below.refl _ _).alloc (Nat.le_refl _) _)
  have HB_0 : Hid (Below w.heap.size w V0) := Lib.hid (HB1.out.trans (HVb.out.mono HB1.out.size))
  have HK_0 : Hid (V0.heap[w.heap.size]? = some (.cells #[.int .i64 4, .int .i64 i, .int .i64 t, .int .i64 a, .string n, .string x] 29 (0, 0))) := Lib.hid ((HVb.out.block _ (lt_of_block HK1.out)).trans HK1.out)
  have hlt : w.heap.size < w1.heap.size := lt_of_block HK1.out
  obtain ⟨y0, y1, y2, y3, y4, y5⟩ := block6 HK_0.out
  rw [hV] at y0 y1 y2 y3 y4 y5
  have HVV := Lib.hid hV
  clear hV
  go_wp2_with fail
  rw [← HVV.out]
  clear HVV x0 x1 x2 x3 x4 x5 y0 y1 y2 y3 y4 y5
  refine (HH.out V0).mono ?_
  rintro e w' ⟨rfl, hw⟩
  obtain rfl := hw.symm
  go_wp2_with fail
  refine wp_loop_rounds 4 ?_
  rw [rounds_succ]
  obtain ⟨x0, x1, x2, x3, x4, x5⟩ := block6 HK_0.out
  go_wp2_with fail
  refine (HDi.out V0).mono ?_
  rintro e V1 ⟨rfl, hb⟩
  have HB_1 : Hid (Below w.heap.size w V1) := Lib.hid (HB_0.out.trans (hb.mono HB_0.out.size))
  have HK_1 : Hid (V1.heap[w.heap.size]? = some (.cells #[.int .i64 4, .int .i64 i, .int .i64 t, .int .i64 a, .string n, .string x] 29 (0, 0))) := Lib.hid ((hb.block _ (lt_of_block HK_0.out)).trans HK_0.out)
  clear hb x0 x1 x2 x3 x4 x5
  go_wp2_with fail
  rw [rounds_succ]
  obtain ⟨x0, x1, x2, x3, x4, x5⟩ := block6 HK_1.out
  go_wp2_with fail
  refine (HDt.out V1).mono ?_
  rintro e V2 ⟨rfl, hb⟩
  have HB_2 : Hid (Below w.heap.size w V2) := Lib.hid (HB_1.out.trans (hb.mono HB_1.out.size))
  have HK_2 : Hid (V2.heap[w.heap.size]? = some (.cells #[.int .i64 4, .int .i64 i, .int .i64 t, .int .i64 a, .string n, .string x] 29 (0, 0))) := Lib.hid ((hb.block _ (lt_of_block HK_1.out)).trans HK_1.out)
  clear hb x0 x1 x2 x3 x4 x5
  go_wp2_with fail
  rw [rounds_succ]
  obtain ⟨x0, x1, x2, x3, x4, x5⟩ := block6 HK_2.out
  go_wp2_with fail
  refine (HDa.out V2).mono ?_
  rintro e V3 ⟨rfl, hb⟩
  have HB_3 : Hid (Below w.heap.size w V3) := Lib.hid (HB_2.out.trans (hb.mono HB_2.out.size))
  have HK_3 : Hid (V3.heap[w.heap.size]? = some (.cells #[.int .i64 4, .int .i64 i, .int .i64 t, .int .i64 a, .string n, .string x] 29 (0, 0))) := Lib.hid ((hb.block _ (lt_of_block HK_2.out)).trans HK_2.out)
  clear hb x0 x1 x2 x3 x4 x5
  go_wp2_with fail
  rw [rounds_succ]
  go_wp2
  go_ret
  exact ⟨rfl, HB_3.out⟩

set_option maxRecDepth 100000 in
set_option maxHeartbeats 4000000 in
theorem rpr7 (i t a : Int) (n x : ByteArray) (w : World) (hi : I64 i) (ht : I64 t) (ha : I64 a) (hm : mayO ⟨7, i, t, a, n, x⟩ = true) :
    Calls Tryd.prog 14 #[.agg #[.int .i64 7, .int .i64 i, .int .i64 t, .int .i64 a, .string n, .string x]] w (GivesV (.string (ba (prn ⟨7, i, t, a, n, x⟩))) w) := by
  obtain ⟨-, -, -, -, -, -, hns, hxs⟩ := mayO_parts hm
  have hns : n.size ≤ 255 := hns
  have hxs : x.size ≤ 255 := hxs
  have HM := Lib.hid (fun V => rmay_any ⟨7, i, t, a, n, x⟩ V)
  rw [hm] at HM
  unfold opv at HM
  have HH : Hid (∀ V, Calls Tryd.prog 25 #[.int .i64 7] V fun e w' => e = .returned (.string ⟨#[105, 110]⟩) ∧ w' = V) := Lib.hid (fun V => has_any 7 V)
  have HR : Hid (prn ⟨7, i, t, a, n, x⟩ = (kword 7).data.toList ++ prT ⟨7, i, t, a, n, x⟩) := Lib.hid (by rw [prn, if_pos hm])
  clear hm
  obtain ⟨Di, hDi⟩ : ∃ D, D = ba (Lib.itoa i) := ⟨_, rfl⟩
  have HDi := Lib.hid (fun V => digits_any i V hi)
  rw [← hDi] at HDi
  have zDi : Di.size ≤ 21 := by rw [hDi, ba_size]; exact Lib.itoa_length_le i hi.1 hi.2
  obtain ⟨S1, hS1⟩ : ∃ T : ByteArray, T = ⟨#[117, 110, 115, 101, 116]⟩ ++ ⟨#[32]⟩ ++ Di := ⟨_, rfl⟩
  have zS1 : S1.size ≤ 32 := by rw [hS1, ByteArray.size_append, ByteArray.size_append]; have e1 : (⟨#[32]⟩ : ByteArray).size = 1 := rfl; have e0 : (⟨#[117, 110, 115, 101, 116]⟩ : ByteArray).size = 5 := rfl; omega
  have p0 : ∀ W, (Op.stringOp .add ⟨#[117, 110, 115, 101, 116]⟩ ⟨#[32]⟩).run Tryd.prog W = .ok (.string (⟨#[117, 110, 115, 101, 116]⟩ ++ ⟨#[32]⟩)) W := fun W => run_string_add_sum W _ _ (by have e1 : (⟨#[32]⟩ : ByteArray).size = 1 := rfl; have e0 : (⟨#[117, 110, 115, 101, 116]⟩ : ByteArray).size = 5 := rfl; omega)
  have q0 : ∀ W, (Op.stringOp .add (⟨#[117, 110, 115, 101, 116]⟩ ++ ⟨#[32]⟩) Di).run Tryd.prog W = .ok (.string S1) W := fun W => by rw [hS1]; exact run_string_add_sum W _ _ (by rw [ByteArray.size_append]; have e1 : (⟨#[32]⟩ : ByteArray).size = 1 := rfl; have e0 : (⟨#[117, 110, 115, 101, 116]⟩ : ByteArray).size = 5 := rfl; omega)
  obtain ⟨S2, hS2⟩ : ∃ T : ByteArray, T = S1 ++ ⟨#[32, 91]⟩ ++ n ++ ⟨#[93]⟩ := ⟨_, rfl⟩
  have zS2 : S2.size ≤ 332 := by rw [hS2, ByteArray.size_append, ByteArray.size_append, ByteArray.size_append]; have e1 : (⟨#[32, 91]⟩ : ByteArray).size = 2 := rfl; have e2 : (⟨#[93]⟩ : ByteArray).size = 1 := rfl; omega
  have p1 : ∀ W, (Op.stringOp .add S1 ⟨#[32, 91]⟩).run Tryd.prog W = .ok (.string (S1 ++ ⟨#[32, 91]⟩)) W := fun W => run_string_add_sum W _ _ (by have e1 : (⟨#[32, 91]⟩ : ByteArray).size = 2 := rfl; have e2 : (⟨#[93]⟩ : ByteArray).size = 1 := rfl; omega)
  have q1 : ∀ W, (Op.stringOp .add (S1 ++ ⟨#[32, 91]⟩) n).run Tryd.prog W = .ok (.string (S1 ++ ⟨#[32, 91]⟩ ++ n)) W := fun W => run_string_add_sum W _ _ (by rw [ByteArray.size_append]; have e1 : (⟨#[32, 91]⟩ : ByteArray).size = 2 := rfl; have e2 : (⟨#[93]⟩ : ByteArray).size = 1 := rfl; omega)
  have r1 : ∀ W, (Op.stringOp .add (S1 ++ ⟨#[32, 91]⟩ ++ n) ⟨#[93]⟩).run Tryd.prog W = .ok (.string S2) W := fun W => by rw [hS2]; exact run_string_add_sum W _ _ (by rw [ByteArray.size_append, ByteArray.size_append]; have e1 : (⟨#[32, 91]⟩ : ByteArray).size = 2 := rfl; have e2 : (⟨#[93]⟩ : ByteArray).size = 1 := rfl; omega)
  have HE : Hid (ba (prn ⟨7, i, t, a, n, x⟩) = S2) := Lib.hid (by
    rw [HR.out, hS2, hS1, hDi]
    apply ByteArray.ext
    simp [ba, ByteArray.data_append, prT, opt, kword, pn, pt, hasI, hasT, hasN, hasX])
  rw [HE.out]
  clear HE HR hS1 hS2 hDi
  obtain ⟨W, hW⟩ : ∃ W, W = w.alloc (.cells #[.int .i64 7, .int .i64 i, .int .i64 t, .int .i64 a, .string n, .string x] 29) := ⟨_, rfl⟩
  have HWb : Hid (Below w.heap.size w W) := Lib.hid (by rw [hW]; exact (Below.refl _ _).alloc (Nat.le_refl _) _)
  have HWk : Hid (W.heap[w.heap.size]? = some (.cells #[.int .i64 7, .int .i64 i, .int .i64 t, .int .i64 a, .string n, .string x] 29 (0, 0))) := Lib.hid (by rw [hW]; exact heap_alloc_new _ _)
  go_enter Tryd.func14, Tryd.ntmps14
  go_wp2_with fail
  rw [← hW]
  clear hW
  refine (HM.out W).mono ?_
  rintro e w1 ⟨rfl, hb⟩
  have HB1 : Hid (Below w.heap.size w w1) := Lib.hid (HWb.out.trans (hb.mono HWb.out.size))
  have HK1 : Hid (w1.heap[w.heap.size]? = some (.cells #[.int .i64 7, .int .i64 i, .int .i64 t, .int .i64 a, .string n, .string x] 29 (0, 0))) := Lib.hid ((hb.block _ (lt_of_block HWk.out)).trans HWk.out)
  clear hb
  obtain ⟨x0, x1, x2, x3, x4, x5⟩ := block6 HK1.out
  obtain ⟨V0, hV⟩ : ∃ V, V = w1.alloc (.cells #[.string ⟨#[101, 108, 101, 109, 101, 110, 116]⟩, .string ⟨#[116, 101, 120, 116]⟩, .string ⟨#[99, 111, 109, 109, 101, 110, 116]⟩, .string ⟨#[105, 110, 115, 101, 114, 116]⟩, .string ⟨#[114, 101, 109, 111, 118, 101]⟩, .string ⟨#[115, 101, 116]⟩, .string ⟨#[117, 110, 115, 101, 116]⟩, .string ⟨#[99, 104, 97, 110, 103, 101]⟩] 9) := ⟨_, rfl⟩
  have HVb : Hid (Below w1.heap.size w1 V0) := Lib.hid (by rw [hV]; exact (Below.refl _ _).alloc (Nat.le_refl _) _)
  have HB_0 : Hid (Below w.heap.size w V0) := Lib.hid (HB1.out.trans (HVb.out.mono HB1.out.size))
  have HK_0 : Hid (V0.heap[w.heap.size]? = some (.cells #[.int .i64 7, .int .i64 i, .int .i64 t, .int .i64 a, .string n, .string x] 29 (0, 0))) := Lib.hid ((HVb.out.block _ (lt_of_block HK1.out)).trans HK1.out)
  have hlt : w.heap.size < w1.heap.size := lt_of_block HK1.out
  obtain ⟨y0, y1, y2, y3, y4, y5⟩ := block6 HK_0.out
  rw [hV] at y0 y1 y2 y3 y4 y5
  have HVV := Lib.hid hV
  clear hV
  go_wp2_with fail
  rw [← HVV.out]
  clear HVV x0 x1 x2 x3 x4 x5 y0 y1 y2 y3 y4 y5
  refine (HH.out V0).mono ?_
  rintro e w' ⟨rfl, hw⟩
  obtain rfl := hw.symm
  go_wp2_with fail
  refine wp_loop_rounds 3 ?_
  rw [rounds_succ]
  obtain ⟨x0, x1, x2, x3, x4, x5⟩ := block6 HK_0.out
  go_wp2_with fail
  refine (HDi.out V0).mono ?_
  rintro e V1 ⟨rfl, hb⟩
  have HB_1 : Hid (Below w.heap.size w V1) := Lib.hid (HB_0.out.trans (hb.mono HB_0.out.size))
  have HK_1 : Hid (V1.heap[w.heap.size]? = some (.cells #[.int .i64 7, .int .i64 i, .int .i64 t, .int .i64 a, .string n, .string x] 29 (0, 0))) := Lib.hid ((hb.block _ (lt_of_block HK_0.out)).trans HK_0.out)
  clear hb x0 x1 x2 x3 x4 x5
  go_wp2_with fail
  rw [rounds_succ]
  obtain ⟨x0, x1, x2, x3, x4, x5⟩ := block6 HK_1.out
  go_wp2_with fail
  clear x0 x1 x2 x3 x4 x5
  rw [rounds_succ]
  go_wp2
  go_ret
  exact ⟨rfl, HB_1.out⟩

end Go.Proofs.YtdjhnjokmmbafaaDoor
