/-
  Whether two selectors are the same: tests, compounds.
-/
import Derived.Test.YtcfkcifbojckcaaSelR
import Derived.Laws.StructEq
import Derived.ChangeKeysEq
import Derived.Deep.QuietTactic
import Derived.BigQuiet
namespace Go.Proofs.Ytcfkcifbojckcaa
open Go.ChangeShapes Go.WideShapes Go.ChangeAt Go.RowKit
open Go.PlainAid (bt)
set_option linter.unusedVariables false
set_option linter.unusedSimpArgs false

def GivesV (v : Value) (w : World) (en : Ending) (w' : World) : Prop := en = .returned v ∧ Below w.heap.size w w'
theorem below_drewN {B : Nat} {w w' : World} (h : Below B w w') (n : Nat) : Below B w (w'.drewN n) := h.trans ⟨rfl, rfl, rfl, Nat.le_refl _, fun _ _ => rfl⟩
theorem toList_inj {a b : ByteArray} : a.toList = b.toList ↔ a = b := by
  constructor
  · intro h
    rw [Lib.toList_data, Lib.toList_data] at h
    exact ByteArray.ext (Array.toList_inj.1 h)
  · rintro rfl; rfl
theorem eq_upto {α : Type} {l l' : List α} {k : Nat} (hk : k < l.length) (hk' : k < l'.length) (h : l.take k = l'.take k) : l.take (k + 1) = l'.take (k + 1) ↔ l[k] = l'[k] := by
  rw [take_more hk, take_more hk', h, List.append_cancel_left_eq]
  simp only [List.cons.injEq, and_true]
theorem ne_at {α : Type} {l l' : List α} {k : Nat} (hk : k < l.length) (hk' : k < l'.length) (h : l[k] ≠ l'[k]) : l ≠ l' := by
  rintro rfl
  exact h rfl
theorem under_te : Try.prog.underlying 39 = some (.struct (Try.prog.fieldsOf 39)) := by kernel_rfl
theorem fields_te : (Try.prog.fieldsOf 39).toList.map (fun f => (f.type, f.offset, decide (f.name ≠ "_"))) = [(3, 0, true), (9, 1, true), (9, 2, true)] := by kernel_rfl
theorem under_rt : Try.prog.underlying 51 = some (.struct (Try.prog.fieldsOf 51)) := by kernel_rfl
theorem fields_rt : (Try.prog.fieldsOf 51).toList.map (fun f => (f.type, f.offset, decide (f.name ≠ "_"))) = [(3, 0, true), (9, 1, true), (9, 2, true)] := by kernel_rfl
set_option maxHeartbeats 1000000 in
theorem eq_te (a0 b0 : Int) (a4 a5 b4 b5 : ByteArray) (W : World) : (Op.equalIn 10000 39 (.agg #[.int .i64 a0, .string a4, .string a5]) (.agg #[.int .i64 b0, .string b4, .string b5])).run Try.prog W = .ok (decide ((a0, a4, a5) = (b0, b4, b5))) W := by
  have hd : decide ((a0, a4, a5) = (b0, b4, b5)) = ((a0 == b0) && ((a4.toList == b4.toList) && (a5.toList == b5.toList))) := by
    rw [Bool.eq_iff_iff]
    simp only [decide_eq_true_eq, Bool.and_eq_true, beq_iff_eq, toList_inj, Prod.mk.injEq]
  rw [hd, show (10000 : Nat) = 9999 + 1 from rfl, run_equalIn_struct W 9999 _ _ _ under_te (by kernel_rfl)]
  have hf := fields_te
  generalize (Try.prog.fieldsOf 39).toList = fs at *
  have hl := congrArg List.length hf
  simp only [List.length_map, List.length_cons, List.length_nil] at hl
  match fs, hl, hf with
  | [f0, f4, f5], _, hf =>
    simp only [List.map_cons, List.map_nil, List.cons.injEq, Prod.mk.injEq, decide_eq_true_eq, and_true] at hf
    obtain ⟨⟨t0, o0, n0⟩, ⟨t4, o4, n4⟩, t5, o5, n5⟩ := hf
    have hG : Try.prog.plainKey 9 = true := by kernel_rfl
    have hH : Try.prog.plainKey 3 = true := by kernel_rfl
    simp only [Op.eqFields, n0, n4, n5, t0, t4, t5, o0, o4, o5, ne_eq, not_true, not_false_eq_true, if_true, Sem.run_bind]
    rw [run_part_plain W hH (v := .int .i64 a0) rfl]
    simp only [Result.andThen_ok]
    rw [run_part_plain W hH (v := .int .i64 b0) rfl]
    simp only [Result.andThen_ok]
    rw [run_equalIn_int W 9998 _ .i64 .i64 a0 b0 (by kernel_rfl)]
    simp only [Result.andThen_ok]
    cases h0 : (a0 == b0)
    · rfl
    simp only [Bool.not_true, Bool.false_eq_true, if_false, Sem.run_bind, Bool.true_and]
    rw [run_part_plain W hG (v := .string a4) rfl]
    simp only [Result.andThen_ok]
    rw [run_part_plain W hG (v := .string b4) rfl]
    simp only [Result.andThen_ok]
    rw [run_equalIn_string W 9998 _ a4 b4 (by kernel_rfl)]
    simp only [Result.andThen_ok]
    cases h4 : (a4.toList == b4.toList)
    · rfl
    simp only [Bool.not_true, Bool.false_eq_true, if_false, Sem.run_bind, Bool.true_and]
    rw [run_part_plain W hG (v := .string a5) rfl]
    simp only [Result.andThen_ok]
    rw [run_part_plain W hG (v := .string b5) rfl]
    simp only [Result.andThen_ok]
    rw [run_equalIn_string W 9998 _ a5 b5 (by kernel_rfl)]
    simp only [Result.andThen_ok, Bool.true_and]
    cases h5 : (a5.toList == b5.toList)
    · rfl
    · rfl
set_option maxHeartbeats 2000000 in
theorem equalT_any (A B : Option Addr) (T T' : List Tr) (c d : Nat) (w : World) (hI : TR w A T) (hJ : TR w B T') (h1 : T.length ≤ 1000000000000) (h2 : T'.length ≤ 1000000000000) :
    Calls Try.prog 27 #[.slice A T.length c, .slice B T'.length d] w (GivesV (.bool (decide (T = T'))) w) := by
  have HI := Lib.hid hI
  have HJ := Lib.hid hJ
  obtain ⟨R, hR⟩ : ∃ R, decide (T = T') = R := ⟨_, rfl⟩
  have HE := Lib.hid hR
  rw [hR]
  obtain ⟨n, hn⟩ : ∃ n, T.length = n := ⟨_, rfl⟩
  obtain ⟨n', hn'⟩ : ∃ n, T'.length = n := ⟨_, rfl⟩
  have HN := Lib.hid hn
  have HN' := Lib.hid hn'
  rw [hn] at h1 ⊢
  rw [hn'] at h2 ⊢
  clear hI hJ hn hn' hR
  go_enter Try.func27, Try.ntmps27
  by_cases hnn : n = n'
  · subst hnn
    have hb : ((n : Int) != (n : Int)) = false := by simp
    go_wp2_with fail
    go_loopw [13] (fun q wr => ∃ k : Nat, k ≤ n ∧ q = .int .i64 k ∧ Hid (T.take k = T'.take k) ∧ Hid (Below w.heap.size w wr)) (fun q _ => n - (intOf q).toNat)
    case atStart => exact ⟨0, Nat.zero_le _, rfl, Lib.hid rfl, Lib.hid (Below.refl _ _)⟩
    case round =>
      obtain ⟨k, hk, rfl, HK, HB⟩ := hrel
      by_cases hlt : k < n
      · have k0 : (0 : Int) ≤ (k : Int) := by omega
        have k1 : (k : Int) < (n : Int) := by omega
        have hkl : k < T.length := by rw [HN.out]; exact hlt
        have hkl' : k < T'.length := by rw [HN'.out]; exact hlt
        obtain ⟨g, off, rfl, hg, hc, hd, he⟩ := HI.out.below HB.out k T[k] (List.getElem?_eq_getElem hkl)
        obtain ⟨g', off', rfl, hg', hc', hd', he'⟩ := HJ.out.below HB.out k T'[k] (List.getElem?_eq_getElem hkl')
        have HT := Lib.hid (eq_upto hkl hkl' HK.out)
        have HX : Hid (T[k] ≠ T'[k] → T ≠ T') := Lib.hid (ne_at hkl hkl')
        generalize T[k] = y at *
        generalize T'[k] = y' at *
        clear hkl hkl'
        obtain ⟨a, b, z⟩ := y
        obtain ⟨a', b', z'⟩ := y'
        have hq := fun W => eq_te a a' b z b' z' W
        have HQ : Hid (decide ((a, b, z) = (a', b', z')) = true ↔ (a, b, z) = (a', b', z')) := Lib.hid decide_eq_true_iff
        generalize decide ((a, b, z) = (a', b', z')) = Q at *
        rcases Bool.eq_false_or_eq_true Q with hy | hy <;> subst hy
        · go_upto_region 6 with fail
          go_quiet (fail)
          go_wp2
          go_roundw
          case rel => exact ⟨k + 1, by omega, by go_num, Lib.hid (HT.out.2 (HQ.out.1 rfl)), Lib.hid (below_drewN HB.out _)⟩
          case measure => simp [intOf] <;> omega
        · go_upto_region 6 with fail
          go_quiet (fail)
          go_wp2
          go_ret
          refine ⟨ret_bool ?_, below_drewN HB.out _⟩
          rw [← HE.out]
          exact (decide_eq_false (HX.out (fun e => by have := HQ.out.2 e; cases this))).symm
      · obtain rfl : k = n := by omega
        have e : T = T' := by
          have := HK.out
          rwa [List.take_of_length_le (by rw [HN.out]; exact Nat.le_refl _), List.take_of_length_le (by rw [HN'.out]; exact Nat.le_refl _)] at this
        have HEE : Hid (R = true) := Lib.hid (by rw [← HE.out, decide_eq_true_eq]; exact e)
        clear e
        go_wp2
        go_ret
        exact ⟨ret_bool HEE.out.symm, HB.out⟩
  · have hb : ((n : Int) != (n' : Int)) = true := by simp; omega
    go_wp2
    go_ret
    refine ⟨ret_bool ?_, Below.refl _ _⟩
    rw [← HE.out]
    symm
    rw [decide_eq_false_iff_not]
    intro e
    rw [← HN.out, ← HN'.out, e] at hnn
    exact hnn rfl
end Go.Proofs.Ytcfkcifbojckcaa
