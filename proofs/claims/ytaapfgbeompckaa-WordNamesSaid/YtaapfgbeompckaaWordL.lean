/-
  The law WordNames, at any input.
-/
import Derived.Test.YtaapfgbeompckaaWordJ
import Derived.Deep.CutRange
import Derived.Laws.BytesArg
namespace Go.Proofs.Ytaapfgbeompckaa
open Go.ChangeShapes Go.WideShapes Go.ChangeAt Go.RowKit
open Go.PlainAid (bt)
set_option linter.unusedVariables false

theorem bt_opt (s : ByteArray) (k : Nat) : bt s k = ((s.data.toList[k]?).map (fun c => (c.toNat : Int))).getD 0 := by
  rcases Nat.lt_or_ge k s.size with h | h
  · have hl : k < s.data.toList.length := by rw [← Lib.size_eq]; exact h
    rw [List.getElem?_eq_getElem hl, ← bt_get s k hl]; rfl
  · rw [List.getElem?_eq_none (by rw [← Lib.size_eq]; exact h), PlainAid.bt_end s h]; rfl
theorem app_data (s t : ByteArray) : (s ++ t).data.toList = s.data.toList ++ t.data.toList := by rw [ByteArray.data_append, Array.toList_append]
/-- One byte as a text. -/
def one (b : Int) : ByteArray := strOfNums [b]
theorem one_data (b : Int) : (one b).data.toList = [UInt8.ofNat b.toNat] := rfl
theorem one_size (b : Int) : (one b).size = 1 := rfl
theorem bt_one {b : Int} (h0 : 0 ≤ b) (h1 : b ≤ 255) (s : ByteArray) : bt (s ++ one b) s.size = b := by
  rw [bt_opt, app_data, List.getElem?_append_right (by rw [← Lib.size_eq]; exact Nat.le_refl _), ← Lib.size_eq, Nat.sub_self, one_data]
  simp
  omega
theorem bt_left (s t : ByteArray) {k : Nat} (h : k < s.size) : bt (s ++ t) k = bt s k := by
  rw [bt_opt, app_data, List.getElem?_append_left (by rw [← Lib.size_eq]; exact h), ← bt_opt]
theorem nm_one {s : ByteArray} (h : Nm s) {b : Int} (h0 : 0 ≤ b) (h1 : b ≤ 255) : nm (s ++ one b) = (nb b && decide (s.size < 20)) := by
  have hz : (s ++ one b).size = s.size + 1 := by rw [ByteArray.size_append, one_size]
  unfold nm
  rw [Bool.eq_iff_iff]
  simp only [decide_eq_true_eq, Bool.and_eq_true]
  obtain ⟨a1, a2, a3, a4⟩ := h
  constructor
  · rintro ⟨c1, c2, c3, c4⟩
    refine ⟨?_, by omega⟩
    have := c4 s.size (by omega)
    rwa [bt_one h0 h1] at this
  · rintro ⟨c1, c2⟩
    refine ⟨by omega, by omega, by rw [bt_left s _ (by omega)]; exact a3, fun k hk => ?_⟩
    rcases Nat.lt_or_ge k s.size with hk' | hk'
    · rw [bt_left s _ hk']; exact a4 k hk'
    · obtain rfl : k = s.size := by omega
      rw [bt_one h0 h1]; exact c1
theorem conv_one (w : World) (b : Int) : Sem.run Try.prog (convert 29 9 (.slice (some ⟨w.heap.size, 0, none⟩) 1 1)) (w.alloc (.cells #[.int .u8 b] 5)) = .ok (.string (one b)) (w.alloc (.cells #[.int .u8 b] 5)) := by
  refine run_convert_bytes_arg _ 29 5 Try.underlying29 Try.underlying5 _ _ _ _ [b] rfl ?_ _ Try.underlying9
  intro i hi
  obtain rfl : i = 0 := by simp at hi; omega
  rw [World.cell?_alloc_mark]
  rfl

set_option maxHeartbeats 2000000 in
theorem names_law (s : ByteArray) (b : Int) (hs : s.size ≤ maxLen) (hb : (Lit.int .u8 b).wf = true) (w : World) :
    Calls Try.prog 7 #[.string s, .int .u8 b] w fun e w' => e = .returned (.bool true) ∧ Below w.heap.size w w' := by
  unfold maxLen at hs
  have hb0 : 0 ≤ b ∧ b ≤ 255 := by
    have h : IntKind.u8.min ≤ b ∧ b ≤ IntKind.u8.max := by simpa [Lit.wf] using hb
    exact h
  clear hb
  obtain ⟨h0, h1⟩ := hb0
  by_cases hl : 100 < s.size
  · go_enter Try.func7, Try.ntmps7
    go_wp2_with fail
    refine (shown_any _).mono ?_
    rintro e w1 ⟨rfl, hb⟩
    have HB := Lib.hid hb
    clear hb
    go_wp2
    go_ret
    exact ⟨rfl, HB.out⟩
  · by_cases hn : Nm s
    · have hw := nm_words hn
      have hnt := nm_yes hn
      have hone := nm_one hn h0 h1
      have hlen := hn.1
      have hlen2 := hn.2.1
      have HN := Lib.hid hn
      have HO := Lib.hid hone
      have HW := Lib.hid hw
      clear hn hone hw
      go_enter Try.func7, Try.ntmps7
      go_wp2_with fail
      refine (name_any s _ (by omega)).mono ?_
      rintro e w1 ⟨rfl, rfl⟩
      go_wp2_with fail
      refine (shown_any _).mono ?_
      rintro e w1 ⟨rfl, hb⟩
      have HB := Lib.hid hb
      clear hb
      go_upto_region 3 with fail
      go_cut [5] from 20 to 49 (fun m wx => m = .bool (nb b) ∧ wx = w1)
      case first =>
        rcases Bool.eq_false_or_eq_true (b == 45) with e1 | e1 <;> rcases Bool.eq_false_or_eq_true (b == 95) with e2 | e2
        all_goals
          go_wp2
          all_goals
            go_meet
            simp only [beq_iff_eq, beq_eq_false_iff_ne, ne_eq] at e1 e2
            exact ⟨congrArg Value.bool (by rw [Bool.eq_iff_iff]; simp [nb] <;> omega), rfl⟩
      case rest =>
        obtain ⟨rfl, rfl⟩ := hcut
        go_wp2_with fail
        refine (tokens_any s _ (by omega)).mono ?_
        rw [HW.out, dd_one]
        rintro e w2 ⟨p, cp, rfl, h1', h2', h3', h4'⟩
        obtain ⟨g, rfl, hg, hc⟩ := h3'.2 (by simp)
        have hc0 := hc 0 s.data.toList rfl
        unfold sv at hc0
        rw [str_eq] at hc0
        have HB2 := Lib.hid (HB.out.trans (h4'.mono HB.out.size))
        have hcv := conv_one w2 b
        have hoz : (s ++ one b).size ≤ 21 := by rw [ByteArray.size_append, one_size]; omega
        have hno : ¬ 9223372036854775807 < s.size + (one b).size := by rw [one_size]; omega
        clear h4' h3' hc
        rcases Bool.eq_false_or_eq_true (nb b) with e1 | e1 <;> rcases Nat.lt_or_ge s.size 20 with e2 | e2
        all_goals
          go_wp2_with fail
          refine (name_any (s ++ one b) _ (by omega)).mono ?_
          rw [HO.out, e1]
          rintro e w3 ⟨rfl, rfl⟩
          go_wp2_with fail
          refine (text_any s _ (by omega)).mono ?_
          rintro e w4 ⟨rfl, rfl⟩
          go_wp2
          go_ret
          exact ⟨ret_bool (by simp; try omega), HB2.out.alloc HB2.out.size _⟩
    · have hnt := nm_no hn
      go_enter Try.func7, Try.ntmps7
      go_wp2_with fail
      refine (name_any s _ (by omega)).mono ?_
      rintro e w1 ⟨rfl, rfl⟩
      go_wp2_with fail
      refine (shown_any _).mono ?_
      rintro e w1 ⟨rfl, hb⟩
      have HB := Lib.hid hb
      clear hb
      go_wp2
      go_ret
      exact ⟨rfl, HB.out⟩
end Go.Proofs.Ytaapfgbeompckaa
