/-
  The law WordLeaves, at any input.
-/
import Derived.Test.YtaapfgbeompckaaWordJ
namespace Go.Proofs.Ytaapfgbeompckaa
open Go.ChangeShapes Go.WideShapes Go.ChangeAt Go.RowKit
open Go.PlainAid (bt)
set_option linter.unusedVariables false

/-- How many of the first k bytes are blanks. -/
def cnt (s : ByteArray) (k : Nat) : Nat := ((s.data.toList.take k).filter fun c => bl (c.toNat : Int)).length
theorem cnt_le (s : ByteArray) (k : Nat) : cnt s k ≤ k := by
  have h1 := List.length_filter_le (fun c : UInt8 => bl (c.toNat : Int)) (s.data.toList.take k)
  have h2 := List.length_take_le k s.data.toList
  unfold cnt
  omega
theorem cnt_succ (s : ByteArray) {k : Nat} (h : k < s.size) : cnt s (k + 1) = cnt s k + if bl (bt s k) = true then 1 else 0 := by
  have hl : k < s.data.toList.length := by rw [← Lib.size_eq]; exact h
  unfold cnt
  rw [List.take_succ_eq_append_getElem hl, List.filter_append, List.length_append, ← bt_get s k hl]
  congr 1
  rw [List.filter_cons]
  split <;> rfl
theorem cnt_all (s : ByteArray) : cnt s s.size = (s.data.toList.filter fun c => bl (c.toNat : Int)).length := by
  unfold cnt
  rw [List.take_of_length_le (by rw [← Lib.size_eq]; exact Nat.le_refl _)]
theorem ws_all {s : ByteArray} (h : cnt s s.size = s.size) : ws s = [] := by
  rw [cnt_all] at h
  have h' : (s.data.toList.filter fun c => bl (c.toNat : Int)).length = s.data.toList.length := by rw [h, Lib.size_eq]
  have := List.length_filter_eq_length_iff.1 h'
  exact split_blanks (fun c hc => this c hc)
theorem no_blank {s : ByteArray} (h : cnt s s.size = 0) : ∀ c ∈ s.data.toList, bl (c.toNat : Int) = false := by
  rw [cnt_all] at h
  have h' := List.eq_nil_of_length_eq_zero h
  intro c hc
  have := List.filter_eq_nil_iff.1 h' c hc
  simpa using this
theorem ws_none {s : ByteArray} (h : cnt s s.size = 0) (hs : 0 < s.size) : ws s = [s.data.toList] := by
  unfold ws
  rw [split_word (no_blank h), List.nil_append, if_neg]
  intro e
  rw [Lib.size_eq, e] at hs
  simp at hs
theorem ws_some {s : ByteArray} (h : cnt s s.size < s.size) : ws s ≠ [] := by
  rw [cnt_all] at h
  refine split_some (Or.inr ?_)
  refine Classical.byContradiction fun hne => ?_
  have ha : ∀ c ∈ s.data.toList, bl (c.toNat : Int) = true := by
    intro c hc
    rcases Bool.eq_false_or_eq_true (bl (c.toNat : Int)) with hb | hb
    · exact hb
    · exact absurd ⟨c, hc, hb⟩ hne
  rw [List.filter_eq_self.2 ha, ← Lib.size_eq] at h
  omega
theorem ws_few (s : ByteArray) : (ws s).length ≤ cnt s s.size + 1 := by rw [cnt_all]; exact split_length _ _

set_option maxHeartbeats 2000000 in
theorem leaves_law (s : ByteArray) (hs : s.size ≤ maxLen) (w : World) :
    Calls Try.prog 8 #[.string s] w fun e w' => e = .returned (.bool true) ∧ Below w.heap.size w w' := by
  unfold maxLen at hs
  by_cases hl : 300 < s.size
  · go_enter Try.func8, Try.ntmps8
    go_wp2_with fail
    refine (shown_any _).mono ?_
    rintro e w1 ⟨rfl, hb⟩
    have HB := Lib.hid hb
    clear hb
    go_wp2
    go_ret
    exact ⟨rfl, HB.out⟩
  · have hbt := PlainAid.get_bt s
    go_enter Try.func8, Try.ntmps8
    go_wp2_with fail
    refine (shown_any _).mono ?_
    rintro e w1 ⟨rfl, hb⟩
    have HB := Lib.hid hb
    clear hb
    go_wp2
    go_loop [3, 4] (fun n i => ∃ k : Nat, k ≤ s.size ∧ i = .int .i64 k ∧ n = .int .i64 (cnt s k)) (fun _ i => s.size - (intOf i).toNat)
    case atStart => exact ⟨0, Nat.zero_le _, rfl, rfl⟩
    case round =>
      obtain ⟨k, hk, rfl, rfl⟩ := hrel
      have hcl := cnt_le s k
      by_cases hlt : k < s.size
      · rcases Bool.eq_false_or_eq_true (bl (bt s k)) with hb | hb
        · have HC : Hid (cnt s (k + 1) = cnt s k + 1) := Lib.hid (by rw [cnt_succ s hlt, if_pos hb])
          have hd := hb
          simp [bl] at hd
          have HD := Lib.hid hd
          clear hd
          go_wp2
          all_goals first
            | (go_round
               case rel => exact ⟨k + 1, by omega, by go_num, by rw [HC.out]; go_num⟩
               case measure => simp [intOf]; omega)
            | (exfalso
               have hd := HD.out
               simp only [beq_eq_false_iff_ne, ne_eq] at *
               omega)
        · have HC : Hid (cnt s (k + 1) = cnt s k) := Lib.hid (by rw [cnt_succ s hlt, if_neg (by simp [hb])]; rfl)
          have hd := hb
          simp [bl] at hd
          obtain ⟨d1, d2, d3, d4, d5⟩ := hd
          go_wp2
          go_round
          case rel => exact ⟨k + 1, by omega, by go_num, by rw [HC.out]⟩
          case measure => simp [intOf]; omega
      · obtain rfl : k = s.size := by omega
        have hdl := dws_length s (by omega)
        by_cases hA : cnt s s.size = s.size
        · have HW : Hid (dd (ws s) = []) := Lib.hid (by rw [ws_all hA]; rfl)
          have hq : ((cnt s s.size : Int) == (s.size : Int)) = true := by simp; omega
          have HA := Lib.hid hA
          clear hA
          go_wp2_with fail
          refine (tokens_any s _ (by omega)).mono ?_
          rw [HW.out]
          rintro e w2 ⟨p, cp, rfl, h1', h2', h3', h4'⟩
          have HB2 := Lib.hid (HB.out.trans (h4'.mono HB.out.size))
          clear h4' h3' h2' h1'
          go_wp2
          go_ret
          exact ⟨rfl, HB2.out⟩
        · have hq : ((cnt s s.size : Int) == (s.size : Int)) = false := by simp; omega
          by_cases hB : cnt s s.size = 0
          · have HW : Hid (dd (ws s) = [s.data.toList]) := Lib.hid (by rw [ws_none hB (by omega)]; rfl)
            have HW2 : Hid (s.data.toList ∈ ws s) := Lib.hid (by rw [ws_none hB (by omega)]; simp)
            have hq2 : ((cnt s s.size : Int) == 0) = true := by simp; omega
            have HA := Lib.hid hA
            have HB0 := Lib.hid hB
            clear hA hB
            go_wp2_with fail
            refine (tokens_any s _ (by omega)).mono ?_
            rw [HW.out]
            rintro e w2 ⟨p, cp, rfl, h1', h2', h3', h4'⟩
            obtain ⟨g, rfl, hg, hc⟩ := h3'.2 (by simp)
            have hc0 := hc 0 s.data.toList rfl
            unfold sv at hc0
            rw [str_eq] at hc0
            have HB2 := Lib.hid (HB.out.trans (h4'.mono HB.out.size))
            clear h4' h3' h2' h1' hc
            go_wp2_with fail
            refine (has_any s s _ (by omega)).mono ?_
            rw [decide_eq_true HW2.out]
            rintro e w3 ⟨rfl, hb3⟩
            have HB3 := Lib.hid (HB2.out.trans (hb3.mono HB2.out.size))
            clear hb3
            go_wp2
            go_ret
            exact ⟨rfl, HB3.out⟩
          · have hq2 : ((cnt s s.size : Int) == 0) = false := by simp; omega
            have hw1 : 0 < (dd (ws s)).length := List.length_pos_iff.2 (dd_some (ws_some (by omega)))
            have hw2 : (dd (ws s)).length ≤ cnt s s.size + 1 := Nat.le_trans (dd_length _) (ws_few s)
            have HA := Lib.hid hA
            have HB0 := Lib.hid hB
            clear hA hB
            go_wp2_with fail
            refine (tokens_any s _ (by omega)).mono ?_
            rintro e w2 ⟨p, cp, rfl, h1', h2', h3', h4'⟩
            have HB2 := Lib.hid (HB.out.trans (h4'.mono HB.out.size))
            clear h4' h3' h2' h1'
            generalize hm : (dd (ws s)).length = m at *
            clear hm
            go_wp2
            go_ret
            exact ⟨ret_bool (by simp; try omega), HB2.out⟩
end Go.Proofs.Ytaapfgbeompckaa
