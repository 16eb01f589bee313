/-
  Whether two operations are the same, as Go compares structs.
-/
import Derived.Test.YtdjhnjokmmbafaaDoorOpM
import Derived.Laws.StructEq
import Derived.ChangeKeysEq
namespace Go.Proofs.YtdjhnjokmmbafaaDoor
open Go.ChangeShapes Go.WideShapes Go.ChangeAt Go.RowKit
set_option linter.unusedVariables false
set_option linter.unusedSimpArgs false

theorem under_op : Tryd.prog.underlying 23 = some (.struct (Tryd.prog.fieldsOf 23)) := by kernel_rfl
theorem fields_op : (Tryd.prog.fieldsOf 23).toList.map (fun f => (f.type, f.offset, decide (f.name ≠ "_"))) = [(3, 0, true), (3, 1, true), (3, 2, true), (3, 3, true), (9, 4, true), (9, 5, true)] := by kernel_rfl
set_option maxHeartbeats 1000000 in
theorem eq_op (a0 a1 a2 a3 b0 b1 b2 b3 : Int) (a4 a5 b4 b5 : ByteArray) (W : World) : (Op.equalIn 10000 23 (.agg #[.int .i64 a0, .int .i64 a1, .int .i64 a2, .int .i64 a3, .string a4, .string a5]) (.agg #[.int .i64 b0, .int .i64 b1, .int .i64 b2, .int .i64 b3, .string b4, .string b5])).run Tryd.prog W = .ok ((a0 == b0) && ((a1 == b1) && ((a2 == b2) && ((a3 == b3) && ((a4.toList == b4.toList) && (a5.toList == b5.toList)))))) W := by
  rw [show (10000 : Nat) = 9999 + 1 from rfl, run_equalIn_struct W 9999 _ _ _ under_op (by kernel_rfl)]
  have hf := fields_op
  generalize (Tryd.prog.fieldsOf 23).toList = fs at *
  have hl := congrArg List.length hf
  simp only [List.length_map, List.length_cons, List.length_nil] at hl
  match fs, hl, hf with
  | [f0, f1, f2, f3, f4, f5], _, hf =>
    simp only [List.map_cons, List.map_nil, List.cons.injEq, Prod.mk.injEq, decide_eq_true_eq, and_true] at hf
    obtain ⟨⟨t0, o0, n0⟩, ⟨t1, o1, n1⟩, ⟨t2, o2, n2⟩, ⟨t3, o3, n3⟩, ⟨t4, o4, n4⟩, t5, o5, n5⟩ := hf
    have hG : Tryd.prog.plainKey 9 = true := by kernel_rfl
    have hH : Tryd.prog.plainKey 3 = true := by kernel_rfl
    simp only [Op.eqFields, n0, n1, n2, n3, n4, n5, t0, t1, t2, t3, t4, t5, o0, o1, o2, o3, o4, o5, ne_eq, not_true, not_false_eq_true, if_true, Sem.run_bind]
    rw [run_part_plain W hH (v := .int .i64 a0) rfl]
    simp only [Result.andThen_ok]
    rw [run_part_plain W hH (v := .int .i64 b0) rfl]
    simp only [Result.andThen_ok]
    rw [run_equalIn_int W 9998 _ .i64 .i64 a0 b0 (by kernel_rfl)]
    simp only [Result.andThen_ok]
    cases h0 : (a0 == b0)
    · rfl
    simp only [Bool.not_true, Bool.false_eq_true, if_false, Sem.run_bind, Bool.true_and]
    rw [run_part_plain W hH (v := .int .i64 a1) rfl]
    simp only [Result.andThen_ok]
    rw [run_part_plain W hH (v := .int .i64 b1) rfl]
    simp only [Result.andThen_ok]
    rw [run_equalIn_int W 9998 _ .i64 .i64 a1 b1 (by kernel_rfl)]
    simp only [Result.andThen_ok]
    cases h1 : (a1 == b1)
    · rfl
    simp only [Bool.not_true, Bool.false_eq_true, if_false, Sem.run_bind, Bool.true_and]
    rw [run_part_plain W hH (v := .int .i64 a2) rfl]
    simp only [Result.andThen_ok]
    rw [run_part_plain W hH (v := .int .i64 b2) rfl]
    simp only [Result.andThen_ok]
    rw [run_equalIn_int W 9998 _ .i64 .i64 a2 b2 (by kernel_rfl)]
    simp only [Result.andThen_ok]
    cases h2 : (a2 == b2)
    · rfl
    simp only [Bool.not_true, Bool.false_eq_true, if_false, Sem.run_bind, Bool.true_and]
    rw [run_part_plain W hH (v := .int .i64 a3) rfl]
    simp only [Result.andThen_ok]
    rw [run_part_plain W hH (v := .int .i64 b3) rfl]
    simp only [Result.andThen_ok]
    rw [run_equalIn_int W 9998 _ .i64 .i64 a3 b3 (by kernel_rfl)]
    simp only [Result.andThen_ok]
    cases h3 : (a3 == b3)
    · rfl
    simp only [Bool.not_true, Bool.false_eq_true, if_false, Sem.run_bind, Bool.true_and]
    rw [run_part_plain W hG (v := .string a4) rfl]
    simp only [Result.andThen_ok]
    rw [run_part_plain W hG (v := .string b4) rfl]
    simp only [Result.andThen_ok]
    rw [run_equalIn_string W 9998 _ a4 b4 (by kernel_rfl)]
    simp only [Result.andThen_ok]
    cases h4 : (a4.toList == b4.toList)
    · rfl
    simp only [Bool.not_true, Bool.false_eq_true, if_false, Sem.run_bind, Bool.true_and]
    rw [run_part_plain W hG (v := .string a5) rfl]
    simp only [Result.andThen_ok]
    rw [run_part_plain W hG (v := .string b5) rfl]
    simp only [Result.andThen_ok]
    rw [run_equalIn_string W 9998 _ a5 b5 (by kernel_rfl)]
    simp only [Result.andThen_ok, Bool.true_and]
    cases h5 : (a5.toList == b5.toList)
    · rfl
    · rfl
theorem under_ro : Tryd.prog.underlying 29 = some (.struct (Tryd.prog.fieldsOf 29)) := by kernel_rfl
theorem fields_ro : (Tryd.prog.fieldsOf 29).toList.map (fun f => (f.type, f.offset, decide (f.name ≠ "_"))) = [(3, 0, true), (3, 1, true), (3, 2, true), (3, 3, true), (9, 4, true), (9, 5, true)] := by kernel_rfl
set_option maxHeartbeats 1000000 in
theorem eq_ro (a0 a1 a2 a3 b0 b1 b2 b3 : Int) (a4 a5 b4 b5 : ByteArray) (W : World) : (Op.equalIn 10000 29 (.agg #[.int .i64 a0, .int .i64 a1, .int .i64 a2, .int .i64 a3, .string a4, .string a5]) (.agg #[.int .i64 b0, .int .i64 b1, .int .i64 b2, .int .i64 b3, .string b4, .string b5])).run Tryd.prog W = .ok ((a0 == b0) && ((a1 == b1) && ((a2 == b2) && ((a3 == b3) && ((a4.toList == b4.toList) && (a5.toList == b5.toList)))))) W := by
  rw [show (10000 : Nat) = 9999 + 1 from rfl, run_equalIn_struct W 9999 _ _ _ under_ro (by kernel_rfl)]
  have hf := fields_ro
  generalize (Tryd.prog.fieldsOf 29).toList = fs at *
  have hl := congrArg List.length hf
  simp only [List.length_map, List.length_cons, List.length_nil] at hl
  match fs, hl, hf with
  | [f0, f1, f2, f3, f4, f5], _, hf =>
    simp only [List.map_cons, List.map_nil, List.cons.injEq, Prod.mk.injEq, decide_eq_true_eq, and_true] at hf
    obtain ⟨⟨t0, o0, n0⟩, ⟨t1, o1, n1⟩, ⟨t2, o2, n2⟩, ⟨t3, o3, n3⟩, ⟨t4, o4, n4⟩, t5, o5, n5⟩ := hf
    have hG : Tryd.prog.plainKey 9 = true := by kernel_rfl
    have hH : Tryd.prog.plainKey 3 = true := by kernel_rfl
    simp only [Op.eqFields, n0, n1, n2, n3, n4, n5, t0, t1, t2, t3, t4, t5, o0, o1, o2, o3, o4, o5, ne_eq, not_true, not_false_eq_true, if_true, Sem.run_bind]
    rw [run_part_plain W hH (v := .int .i64 a0) rfl]
    simp only [Result.andThen_ok]
    rw [run_part_plain W hH (v := .int .i64 b0) rfl]
    simp only [Result.andThen_ok]
    rw [run_equalIn_int W 9998 _ .i64 .i64 a0 b0 (by kernel_rfl)]
    simp only [Result.andThen_ok]
    cases h0 : (a0 == b0)
    · rfl
    simp only [Bool.not_true, Bool.false_eq_true, if_false, Sem.run_bind, Bool.true_and]
    rw [run_part_plain W hH (v := .int .i64 a1) rfl]
    simp only [Result.andThen_ok]
    rw [run_part_plain W hH (v := .int .i64 b1) rfl]
    simp only [Result.andThen_ok]
    rw [run_equalIn_int W 9998 _ .i64 .i64 a1 b1 (by kernel_rfl)]
    simp only [Result.andThen_ok]
    cases h1 : (a1 == b1)
    · rfl
    simp only [Bool.not_true, Bool.false_eq_true, if_false, Sem.run_bind, Bool.true_and]
    rw [run_part_plain W hH (v := .int .i64 a2) rfl]
    simp only [Result.andThen_ok]
    rw [run_part_plain W hH (v := .int .i64 b2) rfl]
    simp only [Result.andThen_ok]
    rw [run_equalIn_int W 9998 _ .i64 .i64 a2 b2 (by kernel_rfl)]
    simp only [Result.andThen_ok]
    cases h2 : (a2 == b2)
    · rfl
    simp only [Bool.not_true, Bool.false_eq_true, if_false, Sem.run_bind, Bool.true_and]
    rw [run_part_plain W hH (v := .int .i64 a3) rfl]
    simp only [Result.andThen_ok]
    rw [run_part_plain W hH (v := .int .i64 b3) rfl]
    simp only [Result.andThen_ok]
    rw [run_equalIn_int W 9998 _ .i64 .i64 a3 b3 (by kernel_rfl)]
    simp only [Result.andThen_ok]
    cases h3 : (a3 == b3)
    · rfl
    simp only [Bool.not_true, Bool.false_eq_true, if_false, Sem.run_bind, Bool.true_and]
    rw [run_part_plain W hG (v := .string a4) rfl]
    simp only [Result.andThen_ok]
    rw [run_part_plain W hG (v := .string b4) rfl]
    simp only [Result.andThen_ok]
    rw [run_equalIn_string W 9998 _ a4 b4 (by kernel_rfl)]
    simp only [Result.andThen_ok]
    cases h4 : (a4.toList == b4.toList)
    · rfl
    simp only [Bool.not_true, Bool.false_eq_true, if_false, Sem.run_bind, Bool.true_and]
    rw [run_part_plain W hG (v := .string a5) rfl]
    simp only [Result.andThen_ok]
    rw [run_part_plain W hG (v := .string b5) rfl]
    simp only [Result.andThen_ok]
    rw [run_equalIn_string W 9998 _ a5 b5 (by kernel_rfl)]
    simp only [Result.andThen_ok, Bool.true_and]
    cases h5 : (a5.toList == b5.toList)
    · rfl
    · rfl
end Go.Proofs.YtdjhnjokmmbafaaDoor
