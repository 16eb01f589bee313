/-
  What the document's own Back comes to.
-/
import Derived.Test.YtdjhnjokmmbafaaDoorPackN
namespace Go.Proofs.YtdjhnjokmmbafaaDoor
open Go.ChangeShapes Go.WideShapes Go.ChangeAt Go.RowKit
set_option linter.unusedVariables false

def nums (s : ByteArray) : List Int := s.data.toList.map (fun b => (b.toNat : Int))
theorem nums_length (s : ByteArray) : (nums s).length = s.size := by simp [nums]
theorem nums_byt (s : ByteArray) : Byt (nums s) := by
  intro d hd
  obtain ⟨b, _, rfl⟩ := List.mem_map.1 hd
  have := b.toNat_lt
  omega
theorem nums_get (s : ByteArray) (k : Nat) (h : k < s.size) : (nums s)[k]'(by rw [nums_length]; exact h) = (s[k].toNat : Int) := by
  simp [nums]; rfl
/-- The number of what stands behind the first byte; 0, if that is too much. -/
def uOf (s : ByteArray) : Int := if s.size ≤ 9 then numOf ((nums s).drop 1) else 0
theorem uOf_bounds (s : ByteArray) : 0 ≤ uOf s ∧ uOf s ≤ 18446744073709551615 := by
  unfold uOf
  split
  · have hb := numOf_bounds ((nums s).drop 1) (fun d hd => nums_byt s d (List.mem_of_mem_drop hd))
    have hl : ((nums s).drop 1).length ≤ 8 := by rw [List.length_drop, nums_length]; omega
    have := p8_mono hl
    rw [p8_eight] at this
    omega
  · exact ⟨by decide, by decide⟩
theorem drop_step (s : ByteArray) (q : Nat) (h : q < s.size) : numOf ((nums s).drop q) = numOf ((nums s).drop (q + 1)) * 256 + (s[q].toNat : Int) := by
  have hl : q < (nums s).length := by rw [nums_length]; exact h
  rw [List.drop_eq_getElem_cons hl, numOf, nums_get s q h]
  omega
theorem drop_bounds (s : ByteArray) (q : Nat) (h : s.size ≤ 9) (h1 : 1 ≤ q) : 0 ≤ numOf ((nums s).drop (q + 1)) ∧ numOf ((nums s).drop (q + 1)) ≤ 72057594037927935 := by
  have hb := numOf_bounds ((nums s).drop (q + 1)) (fun d hd => nums_byt s d (List.mem_of_mem_drop hd))
  have hl : ((nums s).drop (q + 1)).length ≤ 7 := by rw [List.length_drop, nums_length]; omega
  have := p8_mono hl
  have e : p8 7 = 72057594037927936 := by decide
  omega

theorem str_same {a b : ByteArray} (h : a = b) : (a.toList == b.toList) = true := by rw [h]; simp
theorem str_other {a b : ByteArray} (h : a ≠ b) : (a.toList == b.toList) = false := by
  rw [beq_eq_false_iff_ne]
  intro e
  apply h
  rw [ByteArray.toList_eq, ByteArray.toList_eq] at e
  cases a with
  | mk x => cases b with
    | mk y => simp at e; rw [e]

set_option maxHeartbeats 400000 in
theorem refback_any (s : ByteArray) (K : Nat) (c : Bool) (w : World) (hs : s.size ≤ 300) (hN : Need (uOf s) K) (hc : ((told (uOf s) K).toList == s.toList) = c) :
    Calls Tryd.prog 41 #[.string s] w fun e w' => e = .returned (.tuple #[.int .u64 (if c then uOf s else 0), .bool c]) ∧ Below w.heap.size w w' := by
  obtain ⟨hu0, hu1⟩ := uOf_bounds s
  by_cases h9 : s.size ≤ 9
  · have hU : uOf s = numOf ((nums s).drop 1) := by unfold uOf; rw [if_pos h9]
    have HC := Lib.hid hc
    have HN := Lib.hid hN
    have HU := Lib.hid hU
    clear hc hN hU
    go_enter Tryd.func41, Tryd.ntmps41
    go_wp2_with fail
    go_loop [4, 5] (fun x i => ∃ (j : Nat) (X : Int), j ≤ s.size ∧ (1 ≤ j ∨ s.size = 0) ∧ i = .int .i64 ((j : Int) - 1) ∧ x = .int .u64 X ∧ Hid (X = numOf ((nums s).drop j))) (fun _ i => (intOf i + 1).toNat)
    case atStart => exact ⟨s.size, 0, Nat.le_refl _, by omega, rfl, rfl, by rw [List.drop_of_length_le (by rw [nums_length]; omega)]; rfl⟩
    case round =>
      obtain ⟨j, X, hj, hj1, rfl, rfl, hX⟩ := hrel
      by_cases h2 : 2 ≤ j
      · obtain ⟨q, rfl⟩ : ∃ q : Nat, j = q + 1 := ⟨j - 1, by omega⟩
        have hq : q < s.size := by omega
        have hb := drop_bounds s q h9 (by omega)
        rw [← hX.out] at hb
        have hst := drop_step s q hq
        rw [← hX.out] at hst
        have Hst := Lib.hid hst
        clear hst hX hj1
        have hbt := s[q].toNat_lt
        rw [show (((q + 1 : Nat) : Int) - 1) = (q : Int) by omega]
        go_wp2_with fail
        go_round
        case rel => exact ⟨q, _, by omega, by omega, rfl, rfl, Hst.out.symm⟩
        case measure => simp [intOf]
      · have hd : (nums s).drop j = (nums s).drop 1 := by
          rcases hj1 with h | h
          · rw [show j = 1 by omega]
          · rw [List.drop_of_length_le (by rw [nums_length]; omega), List.drop_of_length_le (by rw [nums_length]; omega)]
        have hXu : X = uOf s := by rw [hX.out, hd, HU.out]
        subst hXu
        clear hd hX
        have hn : ¬ (1 ≤ (j : Int) - 1) := by omega
        go_wp2_with fail
        refine (refbytes_need _ K _ HN.out hu1).mono ?_
        rintro e w' ⟨rfl, hb⟩
        have Hb := Lib.hid hb
        clear hb
        have hc := HC.out
        cases c
        · go_wp2_with fail
          go_ret2
          exact ⟨rfl, Hb.out⟩
        · go_wp2_with fail
          go_ret2
          exact ⟨rfl, Hb.out⟩
  · have hU : uOf s = 0 := by unfold uOf; rw [if_neg h9]
    rw [hU] at hN hc ⊢
    have HN := Lib.hid hN
    clear hN hU hu0 hu1
    have hn : ¬ ((s.size : Int) ≤ 9) := by omega
    have hn2 : (1 : Int) ≤ (s.size : Int) - 1 := by omega
    go_enter Tryd.func41, Tryd.ntmps41
    go_wp2_with fail
    refine wp_loop_rounds 1 ?_
    rw [rounds_succ]
    go_wp2_with fail
    refine (refbytes_need 0 K _ HN.out (by decide)).mono ?_
    rintro e w' ⟨rfl, hb⟩
    have Hb := Lib.hid hb
    clear hb
    cases c
    · go_wp2_with fail
      go_ret2
      exact ⟨rfl, Hb.out⟩
    · go_wp2_with fail
      go_ret2
      exact ⟨rfl, Hb.out⟩
end Go.Proofs.YtdjhnjokmmbafaaDoor
