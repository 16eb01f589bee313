/-
  Back, at any string: the number whose bytes it is, and true; else 0, and false.
-/
import Derived.Test.YtdjhnjokmmbafaaDoorPackP
namespace Go.Proofs.YtdjhnjokmmbafaaDoor
open Go.ChangeShapes Go.WideShapes Go.ChangeAt Go.RowKit
open Go.PlainAid (bt)
set_option linter.unusedVariables false

/-- s is the bytes of some number, told by its bytes alone. -/
def Good (s : ByteArray) : Prop := ∃ k : Nat, k ≤ 8 ∧ s.size = k + 1 ∧ bt s 0 = k ∧ (k = 0 ∨ bt s k ≠ 0)

theorem strOfNums_nums (s : ByteArray) : strOfNums (nums s) = s := by
  unfold strOfNums nums
  cases s with
  | mk x =>
    simp only [List.map_map]
    rw [List.map_congr_left (g := id), List.map_id]
    intro d hd
    simp
theorem nums_strOfNums (l : List Int) (h : Byt l) : nums (strOfNums l) = l := by
  unfold strOfNums nums
  simp only [List.map_map]
  rw [List.map_congr_left (g := id), List.map_id]
  intro d hd
  have := h d hd
  simp only [Function.comp_apply, id_eq, UInt8.toNat_ofNat']
  omega
theorem nums_parts {s : ByteArray} {k : Nat} (hs : s.size = k + 1) (h0 : bt s 0 = k) : nums s = (k : Int) :: (nums s).drop 1 := by
  have e : nums s = bt s 0 :: (nums s).drop 1 := by
    rw [nums_bt, hs, List.range_succ_eq_map]
    rfl
  rw [h0] at e
  exact e
theorem nums_last {s : ByteArray} {k : Nat} (hs : s.size = k + 1) (hk : k ≠ 0) : ((nums s).drop 1).getLast? = some (bt s k) := by
  have hl : ((nums s).drop 1).length = k := by rw [List.length_drop, nums_length]; omega
  rw [List.getLast?_eq_getElem?, hl, List.getElem?_drop, nums_bt, hs]
  rw [show 1 + (k - 1) = k by omega]
  simp
theorem good_told {s : ByteArray} {K : Nat} (h : Good s) (hN : Need (uOf s) K) : told (uOf s) K = s := by
  obtain ⟨k, hk, hs, h0, hl⟩ := h
  have hu : uOf s = numOf ((nums s).drop 1) := by unfold uOf; rw [if_pos (by omega)]
  have hb : Byt ((nums s).drop 1) := fun d hd => nums_byt s d (List.mem_of_mem_drop hd)
  have hlen : ((nums s).drop 1).length = k := by rw [List.length_drop, nums_length]; omega
  have hn : Need (uOf s) k := by
    rw [hu]
    have := need_numOf _ hb (by
      rcases hl with rfl | hl
      · exact Or.inl (List.eq_nil_of_length_eq_zero hlen)
      · by_cases hk0 : k = 0
        · subst hk0; exact Or.inl (List.eq_nil_of_length_eq_zero hlen)
        · right; rw [nums_last hs hk0]; intro e; exact hl (by simpa using e))
    rwa [hlen] at this
  obtain rfl := need_unique hN hn
  unfold told
  have hlow := low_numOf _ hb
  rw [hlen, ← hu] at hlow
  rw [hlow, ← nums_parts hs h0, strOfNums_nums]
theorem told_good {u : Int} {K : Nat} (h : Need u K) (hu : u ≤ 18446744073709551615) : Good (told u K) ∧ uOf (told u K) = u := by
  have hK := need_le h hu
  have hb : Byt ((K : Int) :: low u K) := by
    intro d hd
    rcases List.mem_cons.1 hd with rfl | hd
    · omega
    · exact low_byt u K d hd
  have hn : nums (told u K) = (K : Int) :: low u K := nums_strOfNums _ hb
  have hs : (told u K).size = K + 1 := by rw [← nums_length, hn]; simp [low_length]
  have hd : (nums (told u K)).drop 1 = low u K := by rw [hn]; rfl
  have h0 : bt (told u K) 0 = K := by
    rw [← PlainAid.get_bt _ 0 (by omega), ← nums_get _ 0 (by omega)]
    simp [hn]
  refine ⟨⟨K, hK, hs, h0, ?_⟩, ?_⟩
  · by_cases hk : K = 0
    · exact Or.inl hk
    · right
      have hl := nums_last hs hk
      rw [hd] at hl
      obtain ⟨m, rfl⟩ : ∃ m, K = m + 1 := ⟨K - 1, by omega⟩
      rw [low, List.getLast?_append] at hl
      simp at hl
      have h1 := need_more h (show m < m + 1 by omega)
      have h2 := need_end h
      rw [div_p8_succ] at h2
      rw [← hl]
      omega
  · unfold uOf
    rw [if_pos (by omega), hd, numOf_need h]

set_option maxHeartbeats 400000 in
theorem isnum_no (s : ByteArray) (w : World) (hs : s.size ≤ 300) (h : ¬ Good s) :
    Calls Tryd.prog 58 #[.string s] w fun e w' => e = .returned (.bool false) ∧ w = w' := by
  have hg := PlainAid.get_bt s
  have b0 := PlainAid.bt_nonneg s 0
  have c0 := PlainAid.bt_le s 0
  by_cases hz : s.size = 0
  · obtain rfl : s = ⟨#[]⟩ := by
      cases s with
      | mk x => have : x.size = 0 := hz; rw [Array.size_eq_zero_iff.1 this]
    clear hg
    go_enter Tryd.func58, Tryd.ntmps58
    go_wp2_with fail
    go_ret
    exact ⟨rfl, rfl⟩
  · have hE := not_empty s (by omega)
    have hF := not_nil s (by omega)
    have hp : 0 < s.size := by omega
    by_cases h8 : 8 < bt s 0
    · clear h
      go_enter Tryd.func58, Tryd.ntmps58
      go_wp2_with fail
      go_ret
      exact ⟨rfl, rfl⟩
    · by_cases hl : (s.size : Int) = 1 + bt s 0
      · obtain ⟨k, hk⟩ := Int.eq_ofNat_of_zero_le b0
        have hk8 : k ≤ 8 := by omega
        have hsz : s.size = k + 1 := by omega
        have hk0 : k ≠ 0 := fun e => h ⟨k, hk8, hsz, hk, Or.inl e⟩
        have hlast : bt s k = 0 := by
          by_cases e : bt s k = 0
          · exact e
          · exact (h ⟨k, hk8, hsz, hk, Or.inr e⟩).elim
        have hB : ((k : Int) == 0) = false := by rw [beq_eq_false_iff_ne]; omega
        have hM : ((k : Int) + 1 != 1 + (k : Int)) = false := by rw [bne_eq_false_iff_eq]; omega
        have hM2 : (((k + 1 : Nat) : Int) != 1 + (k : Int)) = false := by rw [bne_eq_false_iff_eq]; omega
        clear h hl b0 c0 h8 hz hp hs hk0
        go_enter Tryd.func58, Tryd.ntmps58
        go_wp2_with fail
        go_ret
        exact ⟨rfl, rfl⟩
      · have hB : ((s.size : Int) != 1 + bt s 0) = true := by rw [bne_iff_ne]; exact hl
        clear h hl
        go_enter Tryd.func58, Tryd.ntmps58
        go_wp2_with fail
        go_ret
        exact ⟨rfl, rfl⟩

set_option maxHeartbeats 400000 in
theorem back_no (s : ByteArray) (w : World) (hs : s.size ≤ 300) (h : ¬ Good s) :
    Calls Tryd.prog 51 #[.string s] w fun e w' => e = .returned (.tuple #[.int .u64 0, .bool false]) ∧ w = w' := by
  have H := Lib.hid (fun w => isnum_no s w hs h)
  clear h
  go_enter Tryd.func51, Tryd.ntmps51
  go_wp2_with fail
  refine (H.out _).mono ?_
  rintro e w' ⟨rfl, rfl⟩
  go_wp2_with fail
  go_ret2
  exact ⟨rfl, rfl⟩
theorem back_good (s : ByteArray) (w : World) (h : Good s) :
    Calls Tryd.prog 51 #[.string s] w fun e w' => e = .returned (.tuple #[.int .u64 (uOf s), .bool true]) ∧ w = w' := by
  obtain ⟨k, hk, hs, h0, hl⟩ := h
  have hu : uOf s = numOf ((nums s).drop 1) := by unfold uOf; rw [if_pos (by omega)]
  rw [hu]
  have hc : k = 0 ∨ k = 1 ∨ k = 2 ∨ k = 3 ∨ k = 4 ∨ k = 5 ∨ k = 6 ∨ k = 7 ∨ k = 8 := by omega
  rcases hc with rfl | rfl | rfl | rfl | rfl | rfl | rfl | rfl | rfl
  · exact back0 s w hs h0
  · exact back1 s w hs h0 (hl.resolve_left (by decide))
  · exact back2 s w hs h0 (hl.resolve_left (by decide))
  · exact back3 s w hs h0 (hl.resolve_left (by decide))
  · exact back4 s w hs h0 (hl.resolve_left (by decide))
  · exact back5 s w hs h0 (hl.resolve_left (by decide))
  · exact back6 s w hs h0 (hl.resolve_left (by decide))
  · exact back7 s w hs h0 (hl.resolve_left (by decide))
  · exact back8 s w hs h0 (hl.resolve_left (by decide))
theorem back_told (u : Int) (K : Nat) (w : World) (h : Need u K) (hu : u ≤ 18446744073709551615) :
    Calls Tryd.prog 51 #[.string (told u K)] w fun e w' => e = .returned (.tuple #[.int .u64 u, .bool true]) ∧ w = w' := by
  obtain ⟨hg, he⟩ := told_good h hu
  have := back_good (told u K) w hg
  rwa [he] at this
theorem back_any (s : ByteArray) (K : Nat) (c : Bool) (w : World) (hs : s.size ≤ 300) (hN : Need (uOf s) K) (hc : ((told (uOf s) K).toList == s.toList) = c) :
    Calls Tryd.prog 51 #[.string s] w fun e w' => e = .returned (.tuple #[.int .u64 (if c then uOf s else 0), .bool c]) ∧ w = w' := by
  by_cases h : Good s
  · obtain rfl : c = true := by rw [← hc]; exact str_same (good_told h hN)
    exact back_good s w h
  · have hne : told (uOf s) K ≠ s := by
      intro e
      have := (told_good hN (uOf_bounds s).2).1
      rw [e] at this
      exact h this
    obtain rfl : c = false := by rw [← hc]; exact str_other hne
    exact back_no s w hs h
theorem below_trans {a b c : World} (h1 : Below a.heap.size a b) (h2 : Below b.heap.size b c) : Below a.heap.size a c := h1.trans (h2.mono h1.size)

end Go.Proofs.YtdjhnjokmmbafaaDoor
