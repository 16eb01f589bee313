/-
  The reference's Print, kind by kind.
-/
import Derived.Test.YtdjhnjokmmbafaaDoorOpRc
namespace Go.Proofs.YtdjhnjokmmbafaaDoor
open Go.ChangeShapes Go.WideShapes Go.ChangeAt Go.RowKit
set_option linter.unusedVariables false
set_option linter.unusedSimpArgs false

set_option maxRecDepth 100000 in
set_option maxHeartbeats 4000000 in
theorem rpr1 (i t a : Int) (n x : ByteArray) (w : World) (hi : I64 i) (ht : I64 t) (ha : I64 a) (hm : mayO ⟨1, i, t, a, n, x⟩ = true) :
    Calls Tryd.prog 14 #[.agg #[.int .i64 1, .int .i64 i, .int .i64 t, .int .i64 a, .string n, .string x]] w (GivesV (.string (ba (prn ⟨1, i, t, a, n, x⟩))) w) := by
  obtain ⟨-, -, -, -, -, -, hns, hxs⟩ := mayO_parts hm
  have hns : n.size ≤ 255 := hns
  have hxs : x.size ≤ 255 := hxs
  have HM := Lib.hid (fun V => rmay_any ⟨1, i, t, a, n, x⟩ V)
  rw [hm] at HM
  unfold opv at HM
  have HH : Hid (∀ V, Calls Tryd.prog 25 #[.int .i64 1] V fun e w' => e = .returned (.string ⟨#[110]⟩) ∧ w' = V) := Lib.hid (fun V => has_any 1 V)
  have HR : Hid (prn ⟨1, i, t, a, n, x⟩ = (kword 1).data.toList ++ prT ⟨1, i, t, a, n, x⟩) := Lib.hid (by rw [prn, if_pos hm])
  clear hm
  obtain ⟨S1, hS1⟩ : ∃ T : ByteArray, T = ⟨#[101, 108, 101, 109, 101, 110, 116]⟩ ++ ⟨#[32, 91]⟩ ++ n ++ ⟨#[93]⟩ := ⟨_, rfl⟩
  have zS1 : S1.size ≤ 310 := by rw [hS1, ByteArray.size_append, ByteArray.size_append, ByteArray.size_append]; have e1 : (⟨#[32, 91]⟩ : ByteArray).size = 2 := rfl; have e2 : (⟨#[93]⟩ : ByteArray).size = 1 := rfl; have e0 : (⟨#[101, 108, 101, 109, 101, 110, 116]⟩ : ByteArray).size = 7 := rfl; omega
  have p0 : ∀ W, (Op.stringOp .add ⟨#[101, 108, 101, 109, 101, 110, 116]⟩ ⟨#[32, 91]⟩).run Tryd.prog W = .ok (.string (⟨#[101, 108, 101, 109, 101, 110, 116]⟩ ++ ⟨#[32, 91]⟩)) W := fun W => run_string_add_sum W _ _ (by have e1 : (⟨#[32, 91]⟩ : ByteArray).size = 2 := rfl; have e2 : (⟨#[93]⟩ : ByteArray).size = 1 := rfl; have e0 : (⟨#[101, 108, 101, 109, 101, 110, 116]⟩ : ByteArray).size = 7 := rfl; omega)
  have q0 : ∀ W, (Op.stringOp .add (⟨#[101, 108, 101, 109, 101, 110, 116]⟩ ++ ⟨#[32, 91]⟩) n).run Tryd.prog W = .ok (.string (⟨#[101, 108, 101, 109, 101, 110, 116]⟩ ++ ⟨#[32, 91]⟩ ++ n)) W := fun W => run_string_add_sum W _ _ (by rw [ByteArray.size_append]; have e1 : (⟨#[32, 91]⟩ : ByteArray).size = 2 := rfl; have e2 : (⟨#[93]⟩ : ByteArray).size = 1 := rfl; have e0 : (⟨#[101, 108, 101, 109, 101, 110, 116]⟩ : ByteArray).size = 7 := rfl; omega)
  have r0 : ∀ W, (Op.stringOp .add (⟨#[101, 108, 101, 109, 101, 110, 116]⟩ ++ ⟨#[32, 91]⟩ ++ n) ⟨#[93]⟩).run Tryd.prog W = .ok (.string S1) W := fun W => by rw [hS1]; exact run_string_add_sum W _ _ (by rw [ByteArray.size_append, ByteArray.size_append]; have e1 : (⟨#[32, 91]⟩ : ByteArray).size = 2 := rfl; have e2 : (⟨#[93]⟩ : ByteArray).size = 1 := rfl; have e0 : (⟨#[101, 108, 101, 109, 101, 110, 116]⟩ : ByteArray).size = 7 := rfl; omega)
  have HE : Hid (ba (prn ⟨1, i, t, a, n, x⟩) = S1) := Lib.hid (by
    rw [HR.out, hS1]
    apply ByteArray.ext
    simp [ba, ByteArray.data_append, prT, opt, kword, pn, pt, hasI, hasT, hasN, hasX])
  rw [HE.out]
  clear HE HR hS1 
  obtain ⟨W, hW⟩ : ∃ W, W = w.alloc (.cells #[.int .i64 1, .int .i64 i, .int .i64 t, .int .i64 a, .string n, .string x] 29) := ⟨_, rfl⟩
  have HWb : Hid (Below w.heap.size w W) := Lib.hid (by rw [hW]; exact (Below.refl _ _).alloc (Nat.le_refl _) _)
  have HWk : Hid (W.heap[w.heap.size]? = some (.cells #[.int .i64 1, .int .i64 i, .int .i64 t, .int .i64 a, .string n, .string x] 29 (0, 0))) := Lib.hid (by rw [hW]; exact heap_alloc_new _ _)
  go_enter Tryd.func14, Tryd.ntmps14
  go_wp2_with fail
  rw [← hW]
  clear hW
  refine (HM.out W).mono ?_
  rintro e w1 ⟨rfl, hb⟩
  have HB1 : Hid (Below w.heap.size w w1) := Lib.hid (HWb.out.trans (hb.mono HWb.out.size))
  have HK1 : Hid (w1.heap[w.heap.size]? = some (.cells #[.int .i64 1, .int .i64 i, .int .i64 t, .int .i64 a, .string n, .string x] 29 (0, 0))) := Lib.hid ((hb.block _ (lt_of_block HWk.out)).trans HWk.out)
  clear hb
  obtain ⟨x0, x1, x2, x3, x4, x5⟩ := block6 HK1.out
  obtain ⟨V0, hV⟩ : ∃ V, V = w1.alloc (.cells #[.string ⟨#[101, 108, 101, 109, 101, 110, 116]⟩, .string ⟨#[116, 101, 120, 116]⟩, .string ⟨#[99, 111, 109, 109, 101, 110, 116]⟩, .string ⟨#[105, 110, 115, 101, 114, 116]⟩, .string ⟨#[114, 101, 109, 111, 118, 101]⟩, .string ⟨#[115, 101, 116]⟩, .string ⟨#[117, 110, 115, 101, 116]⟩, .string ⟨#[99, 104, 97, 110, 103, 101]⟩] 9) := ⟨_, rfl⟩
  have HVb : Hid (Below w1.heap.size w1 V0) := Lib.hid (by rw [hV]; exact (Below.refl _ _).alloc (Nat.le_refl _) _)
  have HB_0 : Hid (Below w.heap.size w V0) := Lib.hid (HB1.out.trans (HVb.out.mono HB1.out.size))
  have HK_0 : Hid (V0.heap[w.heap.size]? = some (.cells #[.int .i64 1, .int .i64 i, .int .i64 t, .int .i64 a, .string n, .string x] 29 (0, 0))) := Lib.hid ((HVb.out.block _ (lt_of_block HK1.out)).trans HK1.out)
  have hlt : w.heap.size < w1.heap.size := lt_of_block HK1.out
  obtain ⟨y0, y1, y2, y3, y4, y5⟩ := block6 HK_0.out
  rw [hV] at y0 y1 y2 y3 y4 y5
  have HVV := Lib.hid hV
  clear hV
  go_wp2_with fail
  rw [← HVV.out]
  clear HVV x0 x1 x2 x3 x4 x5 y0 y1 y2 y3 y4 y5
  refine (HH.out V0).mono ?_
  rintro e w' ⟨rfl, hw⟩
  obtain rfl := hw.symm
  go_wp2_with fail
  refine wp_loop_rounds 2 ?_
  rw [rounds_succ]
  obtain ⟨x0, x1, x2, x3, x4, x5⟩ := block6 HK_0.out
  go_wp2_with fail
  clear x0 x1 x2 x3 x4 x5
  rw [rounds_succ]
  go_wp2
  go_ret
  exact ⟨rfl, HB_0.out⟩

set_option maxRecDepth 100000 in
set_option maxHeartbeats 4000000 in
theorem rpr5 (i t a : Int) (n x : ByteArray) (w : World) (hi : I64 i) (ht : I64 t) (ha : I64 a) (hm : mayO ⟨5, i, t, a, n, x⟩ = true) :
    Calls Tryd.prog 14 #[.agg #[.int .i64 5, .int .i64 i, .int .i64 t, .int .i64 a, .string n, .string x]] w (GivesV (.string (ba (prn ⟨5, i, t, a, n, x⟩))) w) := by
  obtain ⟨-, -, -, -, -, -, hns, hxs⟩ := mayO_parts hm
  have hns : n.size ≤ 255 := hns
  have hxs : x.size ≤ 255 := hxs
  have HM := Lib.hid (fun V => rmay_any ⟨5, i, t, a, n, x⟩ V)
  rw [hm] at HM
  unfold opv at HM
  have HH : Hid (∀ V, Calls Tryd.prog 25 #[.int .i64 5] V fun e w' => e = .returned (.string ⟨#[105]⟩) ∧ w' = V) := Lib.hid (fun V => has_any 5 V)
  have HR : Hid (prn ⟨5, i, t, a, n, x⟩ = (kword 5).data.toList ++ prT ⟨5, i, t, a, n, x⟩) := Lib.hid (by rw [prn, if_pos hm])
  clear hm
  obtain ⟨Di, hDi⟩ : ∃ D, D = ba (Lib.itoa i) := ⟨_, rfl⟩
  have HDi := Lib.hid (fun V => digits_any i V hi)
  rw [← hDi] at HDi
  have zDi : Di.size ≤ 21 := by rw [hDi, ba_size]; exact Lib.itoa_length_le i hi.1 hi.2
  obtain ⟨S1, hS1⟩ : ∃ T : ByteArray, T = ⟨#[114, 101, 109, 111, 118, 101]⟩ ++ ⟨#[32]⟩ ++ Di := ⟨_, rfl⟩
  have zS1 : S1.size ≤ 32 := by rw [hS1, ByteArray.size_append, ByteArray.size_append]; have e1 : (⟨#[32]⟩ : ByteArray).size = 1 := rfl; have e0 : (⟨#[114, 101, 109, 111, 118, 101]⟩ : ByteArray).size = 6 := rfl; omega
  have p0 : ∀ W, (Op.stringOp .add ⟨#[114, 101, 109, 111, 118, 101]⟩ ⟨#[32]⟩).run Tryd.prog W = .ok (.string (⟨#[114, 101, 109, 111, 118, 101]⟩ ++ ⟨#[32]⟩)) W := fun W => run_string_add_sum W _ _ (by have e1 : (⟨#[32]⟩ : ByteArray).size = 1 := rfl; have e0 : (⟨#[114, 101, 109, 111, 118, 101]⟩ : ByteArray).size = 6 := rfl; omega)
  have q0 : ∀ W, (Op.stringOp .add (⟨#[114, 101, 109, 111, 118, 101]⟩ ++ ⟨#[32]⟩) Di).run Tryd.prog W = .ok (.string S1) W := fun W => by rw [hS1]; exact run_string_add_sum W _ _ (by rw [ByteArray.size_append]; have e1 : (⟨#[32]⟩ : ByteArray).size = 1 := rfl; have e0 : (⟨#[114, 101, 109, 111, 118, 101]⟩ : ByteArray).size = 6 := rfl; omega)
  have HE : Hid (ba (prn ⟨5, i, t, a, n, x⟩) = S1) := Lib.hid (by
    rw [HR.out, hS1, hDi]
    apply ByteArray.ext
    simp [ba, ByteArray.data_append, prT, opt, kword, pn, pt, hasI, hasT, hasN, hasX])
  rw [HE.out]
  clear HE HR hS1 hDi
  obtain ⟨W, hW⟩ : ∃ W, W = w.alloc (.cells #[.int .i64 5, .int .i64 i, .int .i64 t, .int .i64 a, .string n, .string x] 29) := ⟨_, rfl⟩
  have HWb : Hid (Below w.heap.size w W) := Lib.hid (by rw [hW]; exact (Below.refl _ _).alloc (Nat.le_refl _) _)
  have HWk : Hid (W.heap[w.heap.size]? = some (.cells #[.int .i64 5, .int .i64 i, .int .i64 t, .int .i64 a, .string n, .string x] 29 (0, 0))) := Lib.hid (by rw [hW]; exact heap_alloc_new _ _)
  go_enter Tryd.func14, Tryd.ntmps14
  go_wp2_with fail
  rw [← hW]
  clear hW
  refine (HM.out W).mono ?_
  rintro e w1 ⟨rfl, hb⟩
  have HB1 : Hid (Below w.heap.size w w1) := Lib.hid (HWb.out.trans (hb.mono HWb.out.size))
  have HK1 : Hid (w1.heap[w.heap.size]? = some (.cells #[.int .i64 5, .int .i64 i, .int .i64 t, .int .i64 a, .string n, .string x] 29 (0, 0))) := Lib.hid ((hb.block _ (lt_of_block HWk.out)).trans HWk.out)
  clear hb
  obtain ⟨x0, x1, x2, x3, x4, x5⟩ := block6 HK1.out
  obtain ⟨V0, hV⟩ : ∃ V, V = w1.alloc (.cells #[.string ⟨#[101, 108, 101, 109, 101, 110, 116]⟩, .string ⟨#[116, 101, 120, 116]⟩, .string ⟨#[99, 111, 109, 109, 101, 110, 116]⟩, .string ⟨#[105, 110, 115, 101, 114, 116]⟩, .string ⟨#[114, 101, 109, 111, 118, 101]⟩, .string ⟨#[115, 101, 116]⟩, .string ⟨#[117, 110, 115, 101, 116]⟩, .string ⟨#[99, 104, 97, 110, 103, 101]⟩] 9) := ⟨_, rfl⟩
  have HVb : Hid (Below w1.heap.size w1 V0) := Lib.hid (by rw [hV]; exact (Below.refl _ _).alloc (Nat.le_refl _) _)
  have HB_0 : Hid (Below w.heap.size w V0) := Lib.hid (HB1.out.trans (HVb.out.mono HB1.out.size))
  have HK_0 : Hid (V0.heap[w.heap.size]? = some (.cells #[.int .i64 5, .int .i64 i, .int .i64 t, .int .i64 a, .string n, .string x] 29 (0, 0))) := Lib.hid ((HVb.out.block _ (lt_of_block HK1.out)).trans HK1.out)
  have hlt : w.heap.size < w1.heap.size := lt_of_block HK1.out
  obtain ⟨y0, y1, y2, y3, y4, y5⟩ := block6 HK_0.out
  rw [hV] at y0 y1 y2 y3 y4 y5
  have HVV := Lib.hid hV
  clear hV
  go_wp2_with fail
  rw [← HVV.out]
  clear HVV x0 x1 x2 x3 x4 x5 y0 y1 y2 y3 y4 y5
  refine (HH.out V0).mono ?_
  rintro e w' ⟨rfl, hw⟩
  obtain rfl := hw.symm
  go_wp2_with fail
  refine wp_loop_rounds 2 ?_
  rw [rounds_succ]
  obtain ⟨x0, x1, x2, x3, x4, x5⟩ := block6 HK_0.out
  go_wp2_with fail
  refine (HDi.out V0).mono ?_
  rintro e V1 ⟨rfl, hb⟩
  have HB_1 : Hid (Below w.heap.size w V1) := Lib.hid (HB_0.out.trans (hb.mono HB_0.out.size))
  have HK_1 : Hid (V1.heap[w.heap.size]? = some (.cells #[.int .i64 5, .int .i64 i, .int .i64 t, .int .i64 a, .string n, .string x] 29 (0, 0))) := Lib.hid ((hb.block _ (lt_of_block HK_0.out)).trans HK_0.out)
  clear hb x0 x1 x2 x3 x4 x5
  go_wp2_with fail
  rw [rounds_succ]
  go_wp2
  go_ret
  exact ⟨rfl, HB_1.out⟩

end Go.Proofs.YtdjhnjokmmbafaaDoor
