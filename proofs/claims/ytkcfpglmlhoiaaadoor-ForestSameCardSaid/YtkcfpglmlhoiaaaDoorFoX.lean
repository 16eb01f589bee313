/-
  slices.Equal of attributes.
-/
import Derived.Test.YtkcfpglmlhoiaaaDoorFoW
import Derived.Test.YtkcfpglmlhoiaaaDoorFoP
namespace Go.Proofs.YtkcfpglmlhoiaaaDoor
open Go.ChangeShapes Go.WideShapes Go.ChangeAt Go.RowKit
set_option linter.unusedVariables false
set_option linter.unusedSimpArgs false

theorem fields_At : ((Tryd.prog.fieldsOf 36).toList.map (fun f => (f.type, f.offset, decide (f.name ≠ "_")))) = [(9, 0, true), (9, 1, true)] := by kernel_rfl
theorem toList_inj {a b : ByteArray} : a.toList = b.toList ↔ a = b := by
  constructor
  · intro h
    rw [Lib.toList_data, Lib.toList_data] at h
    exact bytes_inj h
  · rintro rfl; rfl
theorem eqAt (a b c d : ByteArray) (W : World) : (Op.equalIn 10000 36 (.agg #[.string a, .string b]) (.agg #[.string c, .string d])).run Tryd.prog W = .ok (a.toList == c.toList && b.toList == d.toList) W := by
  rw [show (10000 : Nat) = 9999 + 1 from rfl, run_equalIn_struct W 9999 _ _ _ under_At (by kernel_rfl)]
  have hf := fields_At
  generalize (Tryd.prog.fieldsOf 36).toList = fs at *
  have hl := congrArg List.length hf
  simp only [List.length_map, List.length_cons, List.length_nil] at hl
  match fs, hl, hf with
  | [f0, f1], _, hf =>
    simp only [List.map_cons, List.map_nil, List.cons.injEq, Prod.mk.injEq, decide_eq_true_eq, and_true] at hf
    obtain ⟨⟨t0, o0, n0⟩, t1, o1, n1⟩ := hf
    have hG : Tryd.prog.plainKey 9 = true := by kernel_rfl
    simp only [Op.eqFields, n0, n1, t0, t1, o0, o1, ne_eq, not_true, not_false_eq_true, if_true, Sem.run_bind]
    rw [run_part_plain W hG (v := .string a) rfl]
    simp only [Result.andThen_ok]
    rw [run_part_plain W hG (v := .string c) rfl]
    simp only [Result.andThen_ok]
    rw [run_equalIn_string W 9998 _ a c (by kernel_rfl)]
    simp only [Result.andThen_ok]
    cases h : (a.toList == c.toList)
    · rfl
    simp only [Bool.not_true, Bool.false_eq_true, if_false, Sem.run_bind]
    rw [run_part_plain W hG (v := .string b) rfl]
    simp only [Result.andThen_ok]
    rw [run_part_plain W hG (v := .string d) rfl]
    simp only [Result.andThen_ok]
    rw [run_equalIn_string W 9998 _ b d (by kernel_rfl)]
    simp only [Result.andThen_ok, Bool.true_and]
    cases h2 : (b.toList == d.toList)
    · rfl
    · rfl
def eqA (l l' : List (ByteArray × ByteArray)) : Bool := decide (l = l')
set_option maxHeartbeats 1000000 in
theorem equalA_any (A B : Option Addr) (l l' : List (ByteArray × ByteArray)) (c d : Nat) (w : World) (hI : AR w A l) (hJ : AR w B l') (h1 : l.length ≤ 1000) (h2 : l'.length ≤ 1000) :
    Calls Tryd.prog 16 #[.slice A l.length c, .slice B l'.length d] w (GivesV (.bool (eqA l l')) w) := by
  have HI := Lib.hid hI
  have HJ := Lib.hid hJ
  have HE : Hid (eqA l l' = decide (l = l')) := Lib.hid rfl
  generalize eqA l l' = R at *
  obtain ⟨n, hn⟩ : ∃ n, l.length = n := ⟨_, rfl⟩
  obtain ⟨n', hn'⟩ : ∃ n, l'.length = n := ⟨_, rfl⟩
  have HN := Lib.hid hn
  have HN' := Lib.hid hn'
  rw [hn] at h1 ⊢
  rw [hn'] at h2 ⊢
  clear hI hJ hn hn'
  go_enter Tryd.func16, Tryd.ntmps16
  by_cases hnn : n = n'
  · have hb : ((n : Int) != (n' : Int)) = false := by subst hnn; simp
    have HNN := Lib.hid hnn
    clear hnn
    go_wp2_with fail
    go_loopw [13] (fun q wr => ∃ k : Nat, k ≤ n ∧ q = .int .i64 k ∧ Hid (l.take k = l'.take k) ∧ Hid (Below w.heap.size w wr)) (fun q _ => n - (intOf q).toNat)
    case atStart => exact ⟨0, Nat.zero_le _, rfl, Lib.hid rfl, Lib.hid (Below.refl _ _)⟩
    case round =>
      obtain ⟨k, hk, rfl, HK, HB⟩ := hrel
      by_cases hlt : k < n
      · have k0 : (0 : Int) ≤ (k : Int) := by omega
        have k1 : (k : Int) < (n : Int) := by omega
        have k2 : (k : Int) < (n' : Int) := by have := HNN.out; omega
        have hkl : k < l.length := by rw [HN.out]; exact hlt
        have hkl' : k < l'.length := by rw [HN'.out, ← HNN.out]; exact hlt
        obtain ⟨g, off, rfl, hg, hc, hd⟩ := HI.out.below HB.out k hkl
        obtain ⟨g', off', rfl, hg', hc', hd'⟩ := HJ.out.below HB.out k hkl'
        have HT := Lib.hid (eq_upto (l := l) (l' := l') (k := k) default (by rw [HN.out, HN'.out, HNN.out]) hkl HK.out)
        have HX : Hid (l.getD k default ≠ l'.getD k default → l ≠ l') := Lib.hid (ne_of_take default)
        generalize l.getD k default = y at *
        generalize l'.getD k default = y' at *
        clear hkl hkl'
        obtain ⟨a, b⟩ := y
        obtain ⟨a', b'⟩ := y'
        have hq := fun W => eqAt a b a' b' W
        have HQ : Hid ((a.toList == a'.toList && b.toList == b'.toList) = true ↔ (a, b) = (a', b')) := Lib.hid (by
          rw [Bool.and_eq_true, beq_iff_eq, beq_iff_eq, toList_inj, toList_inj, Prod.mk.injEq])
        generalize (a.toList == a'.toList && b.toList == b'.toList) = Q at *
        rcases Bool.eq_false_or_eq_true Q with hy | hy <;> subst hy
        · go_upto_region 6 with fail
          go_quiet (fail)
          go_wp2
          go_roundw
          case rel => exact ⟨k + 1, by omega, by go_num, Lib.hid (HT.out.2 (HQ.out.1 rfl)), Lib.hid (below_drewN HB.out _)⟩
          case measure => simp [intOf] <;> omega
        · go_upto_region 6 with fail
          go_quiet (fail)
          go_wp2
          go_ret
          refine ⟨ret_bool ?_, below_drewN HB.out _⟩
          rw [HE.out]
          exact (decide_eq_false (HX.out (fun e => by have := HQ.out.2 e; cases this))).symm
      · obtain rfl : k = n := by omega
        have e : l = l' := by
          have := HK.out
          rwa [List.take_of_length_le (by rw [HN.out]; exact Nat.le_refl _), List.take_of_length_le (by rw [HN'.out, ← HNN.out]; exact Nat.le_refl _)] at this
        have HEE : Hid (R = true) := Lib.hid (by rw [HE.out, decide_eq_true_eq]; exact e)
        clear e
        go_wp2
        go_ret
        exact ⟨ret_bool HEE.out.symm, HB.out⟩
  · have hb : ((n : Int) != (n' : Int)) = true := by simp; omega
    go_wp2
    go_ret
    refine ⟨ret_bool ?_, Below.refl _ _⟩
    rw [HE.out]
    symm
    rw [decide_eq_false_iff_not]
    intro e
    rw [← HN.out, ← HN'.out, e] at hnn
    exact hnn rfl
end Go.Proofs.YtkcfpglmlhoiaaaDoor
