/-
  Name, and the document's own Name, at any text.
-/
import Derived.Test.YtkcfpglmlhoiaaaDoorWordA
namespace Go.Proofs.YtkcfpglmlhoiaaaDoor
open Go.ChangeShapes Go.WideShapes Go.ChangeAt Go.RowKit
open Go.PlainAid (bt)
set_option linter.unusedVariables false
set_option linter.unusedSimpArgs false

theorem nm_no {s : ByteArray} (h : ¬ Nm s) : nm s = false := by unfold nm; simpa using h
theorem nm_yes {s : ByteArray} (h : Nm s) : nm s = true := by unfold nm; simpa using h
theorem empty_of {s : ByteArray} (h : s.size = 0) : s.toList = [] := by
  rw [Lib.toList_data]; rw [Lib.size_eq] at h; exact List.eq_nil_of_length_eq_zero h
theorem some_of {s : ByteArray} (h : 0 < s.size) : ¬ s.toList = [] := by
  rw [Lib.toList_data]; rw [Lib.size_eq] at h; intro e; rw [e] at h; simp at h

set_option maxHeartbeats 400000 in
theorem name_any (s : ByteArray) (w : World) (hs : s.size ≤ 100000) :
    Calls Tryd.prog 38 #[.string s] w fun e w' => e = .returned (.bool (nm s)) ∧ w = w' := by
  have hbt := PlainAid.get_bt s
  have h1 := PlainAid.bt_nonneg s 0
  have h2 := PlainAid.bt_le s 0
  by_cases h0 : s.size = 0
  · have hE := empty_of h0
    have hE' : s.toList.isEmpty = true := by rw [hE]; rfl
    have H0 := Lib.hid h0
    clear h0
    go_enter Tryd.func38, Tryd.ntmps38
    go_wp2
    go_ret
    exact ⟨ret_bool (nm_no (fun h => by have := h.1; have := H0.out; omega)).symm, rfl⟩
  · have hpos : 0 < s.size := by omega
    have hE := some_of hpos
    have hE' : s.toList.isEmpty = false := by simpa using hE
    by_cases h20 : 20 < s.size
    · go_enter Tryd.func38, Tryd.ntmps38
      go_wp2
      go_ret
      exact ⟨ret_bool (nm_no (fun h => by have := h.2.1; omega)).symm, rfl⟩
    · rcases Bool.eq_false_or_eq_true (let_ (bt s 0)) with hl | hl
      · go_enter Tryd.func38, Tryd.ntmps38
        go_wp2_with fail
        refine (isLetter_any _ _ h1 h2).mono ?_
        rintro e w' ⟨rfl, rfl⟩
        go_wp2
        go_loop [19] (fun i => ∃ k : Nat, k ≤ s.size ∧ i = .int .i64 k ∧ Hid (∀ j, j < k → nb (bt s j) = true)) (fun i => s.size - (intOf i).toNat)
        case atStart => exact ⟨0, Nat.zero_le _, rfl, Lib.hid (fun j h => by omega)⟩
        case round =>
          obtain ⟨k, hk, rfl, hne⟩ := hrel
          have g1 := PlainAid.bt_nonneg s k
          have g2 := PlainAid.bt_le s k
          by_cases hlt : k < s.size
          · rcases Bool.eq_false_or_eq_true (nb (bt s k)) with hb | hb
            · go_wp2_with fail
              refine (isNameByte_any _ _ g1 g2).mono ?_
              rintro e w' ⟨rfl, rfl⟩
              go_wp2
              go_round
              case rel =>
                refine ⟨k + 1, by omega, by go_num, Lib.hid (fun j h => ?_)⟩
                rcases Nat.lt_or_ge j k with hj | hj
                · exact hne.out j hj
                · obtain rfl : j = k := by omega
                  exact hb
              case measure => simp [intOf]; omega
            · go_wp2_with fail
              refine (isNameByte_any _ _ g1 g2).mono ?_
              rintro e w' ⟨rfl, rfl⟩
              go_wp2
              go_ret
              exact ⟨ret_bool (nm_no (fun h => by have := h.2.2.2 k hlt; rw [hb] at this; cases this)).symm, rfl⟩
          · go_wp2
            go_ret
            exact ⟨ret_bool (nm_yes ⟨by omega, by omega, hl, fun j hj => hne.out j (by omega)⟩).symm, rfl⟩
      · go_enter Tryd.func38, Tryd.ntmps38
        go_wp2_with fail
        refine (isLetter_any _ _ h1 h2).mono ?_
        rintro e w' ⟨rfl, rfl⟩
        go_wp2
        go_ret
        exact ⟨ret_bool (nm_no (fun h => by have := h.2.2.1; rw [hl] at this; cases this)).symm, rfl⟩
end Go.Proofs.YtkcfpglmlhoiaaaDoor
