/-
  The law VecPath.
-/
import Derived.Test.YtbldjlkofaiikaaVecBk
import Derived.Test.YtbldjlkofaiikaaVecPa
import Derived.Test.YtbldjlkofaiikaaVecPm
namespace Go.Proofs.Ytbldjlkofaiikaa
open Go.ChangeShapes Go.WideShapes Go.ChangeAt Go.RowKit
set_option linter.unusedVariables false
set_option linter.unusedSimpArgs false

theorem under_Q : Try.prog.underlying 38 = some (.struct (Try.prog.fieldsOf 38)) := by kernel_rfl
theorem field_Q : ((Try.prog.fieldsOf 38)[0]?).map (fun f => (f.type, f.offset)) = some (35, 0) := by kernel_rfl
theorem under_S3 : Try.prog.underlying 35 = some (.struct (Try.prog.fieldsOf 35)) := by kernel_rfl
theorem info_S3 : (Try.prog.info? 35).map (fun i => (i.zero, i.size, i.bytes)) = some (some (.agg #[.slice none 0 0, .slice none 0 0, .slice none 0 0]), 3, 72) := by kernel_rfl
theorem sizeOf_S3 (W : World) : (sizeOf 35).run Try.prog W = .ok 3 W := by
  obtain ⟨i, hi, -⟩ := info_parts info_S3
  rw [run_sizeOf W hi]
  exact congrArg (fun n => Result.ok n W) (show Try.prog.cellsOf 35 = 3 by kernel_rfl)
theorem run_fieldS (a b c d : Value) (W : World) : (Instr.field 38 (.agg #[a, b, c, d]) 0).run Try.prog W = .ok (.agg #[a, b, c]) W := by
  obtain ⟨f, hf, he⟩ := Option.map_eq_some_iff.1 field_Q
  have h1 : f.type = 35 := congrArg Prod.fst he
  have h2 : f.offset = 0 := congrArg Prod.snd he
  simp [Instr.field, run_underlying under_Q, hf, h1, h2, part, isAgg, run_underlying under_S3, sizeOf_S3, asAgg]

theorem under_V : Try.prog.underlying 43 = some (.struct (Try.prog.fieldsOf 43)) := by kernel_rfl
theorem fields_V : ((Try.prog.fieldsOf 43).toList.map (fun f => (f.type, f.offset, decide (f.name ≠ "_")))) = [(41, 0, true), (3, 1, true)] := by kernel_rfl
theorem eqV (a : Int) (b : Nat) (c : Int) (d : Nat) (W : World) : (Op.equalIn 10000 43 (.agg #[.int .u64 a, .int .i64 b]) (.agg #[.int .u64 c, .int .i64 d])).run Try.prog W = .ok (a == c && (b : Int) == (d : Int)) W := by
  rw [show (10000 : Nat) = 9999 + 1 from rfl, run_equalIn_struct W 9999 _ _ _ under_V (by kernel_rfl)]
  have hf := fields_V
  generalize (Try.prog.fieldsOf 43).toList = fs at *
  have hl := congrArg List.length hf
  simp only [List.length_map, List.length_cons, List.length_nil] at hl
  match fs, hl, hf with
  | [f0, f1], _, hf =>
    simp only [List.map_cons, List.map_nil, List.cons.injEq, Prod.mk.injEq, decide_eq_true_eq, and_true] at hf
    obtain ⟨⟨t0, o0, n0⟩, t1, o1, n1⟩ := hf
    have hI : Try.prog.plainKey 3 = true := by kernel_rfl
    have hG : Try.prog.plainKey 41 = true := by kernel_rfl
    simp only [Op.eqFields, n0, n1, t0, t1, o0, o1, ne_eq, not_true, not_false_eq_true, if_true, Sem.run_bind]
    rw [run_part_plain W hG (v := .int .u64 a) rfl]
    simp only [Result.andThen_ok]
    rw [run_part_plain W hG (v := .int .u64 c) rfl]
    simp only [Result.andThen_ok]
    rw [run_equalIn_int W 9998 _ .u64 .u64 a c (by kernel_rfl)]
    simp only [Result.andThen_ok]
    cases (a == c)
    · rfl
    simp only [Bool.not_true, Bool.false_eq_true, if_false, Sem.run_bind]
    rw [run_part_plain W hI (v := .int .i64 b) rfl]
    simp only [Result.andThen_ok]
    rw [run_part_plain W hI (v := .int .i64 d) rfl]
    simp only [Result.andThen_ok]
    rw [run_equalIn_int W 9998 _ .i64 .i64 b d (by kernel_rfl)]
    simp only [Result.andThen_ok, Bool.true_and]
    cases ((b : Int) == (d : Int)) <;> rfl

end Go.Proofs.Ytbldjlkofaiikaa
