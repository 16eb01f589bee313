/-
  Name, and the document's own Name, at any text.
-/
import Derived.Test.YtaapfgbeompckaaWordA
namespace Go.Proofs.Ytaapfgbeompckaa
open Go.ChangeShapes Go.WideShapes Go.ChangeAt Go.RowKit
open Go.PlainAid (bt)
set_option linter.unusedVariables false
set_option linter.unusedSimpArgs false

theorem nm_no {s : ByteArray} (h : ¬ Nm s) : nm s = false := by unfold nm; simpa using h
theorem nm_yes {s : ByteArray} (h : Nm s) : nm s = true := by unfold nm; simpa using h
theorem empty_of {s : ByteArray} (h : s.size = 0) : s.toList = [] := by
  rw [Lib.toList_data]; rw [Lib.size_eq] at h; exact List.eq_nil_of_length_eq_zero h
theorem some_of {s : ByteArray} (h : 0 < s.size) : ¬ s.toList = [] := by
  rw [Lib.toList_data]; rw [Lib.size_eq] at h; intro e; rw [e] at h; simp at h

set_option maxHeartbeats 400000 in
theorem name_any (s : ByteArray) (w : World) (hs : s.size ≤ 100000) :
    Calls Try.prog 10 #[.string s] w fun e w' => e = .returned (.bool (nm s)) ∧ w = w' := by
  have hbt := PlainAid.get_bt s
  have h1 := PlainAid.bt_nonneg s 0
  have h2 := PlainAid.bt_le s 0
  by_cases h0 : s.size = 0
  · have hE := empty_of h0
    have hE' : s.toList.isEmpty = true := by rw [hE]; rfl
    have H0 := Lib.hid h0
    clear h0
    go_enter Try.func10, Try.ntmps10
    go_wp2
    go_ret
    exact ⟨ret_bool (nm_no (fun h => by have := h.1; have := H0.out; omega)).symm, rfl⟩
  · have hpos : 0 < s.size := by omega
    have hE := some_of hpos
    have hE' : s.toList.isEmpty = false := by simpa using hE
    by_cases h20 : 20 < s.size
    · go_enter Try.func10, Try.ntmps10
      go_wp2
      go_ret
      exact ⟨ret_bool (nm_no (fun h => by have := h.2.1; omega)).symm, rfl⟩
    · rcases Bool.eq_false_or_eq_true (let_ (bt s 0)) with hl | hl
      · go_enter Try.func10, Try.ntmps10
        go_wp2_with fail
        refine (isLetter_any _ _ h1 h2).mono ?_
        rintro e w' ⟨rfl, rfl⟩
        go_wp2
        go_loop [19] (fun i => ∃ k : Nat, k ≤ s.size ∧ i = .int .i64 k ∧ Hid (∀ j, j < k → nb (bt s j) = true)) (fun i => s.size - (intOf i).toNat)
        case atStart => exact ⟨0, Nat.zero_le _, rfl, Lib.hid (fun j h => by omega)⟩
        case round =>
          obtain ⟨k, hk, rfl, hne⟩ := hrel
          have g1 := PlainAid.bt_nonneg s k
          have g2 := PlainAid.bt_le s k
          by_cases hlt : k < s.size
          · rcases Bool.eq_false_or_eq_true (nb (bt s k)) with hb | hb
            · go_wp2_with fail
              refine (isNameByte_any _ _ g1 g2).mono ?_
              rintro e w' ⟨rfl, rfl⟩
              go_wp2
              go_round
              case rel =>
                refine ⟨k + 1, by omega, by go_num, Lib.hid (fun j h => ?_)⟩
                rcases Nat.lt_or_ge j k with hj | hj
                · exact hne.out j hj
                · obtain rfl : j = k := by omega
                  exact hb
              case measure => simp [intOf]; omega
            · go_wp2_with fail
              refine (isNameByte_any _ _ g1 g2).mono ?_
              rintro e w' ⟨rfl, rfl⟩
              go_wp2
              go_ret
              exact ⟨ret_bool (nm_no (fun h => by have := h.2.2.2 k hlt; rw [hb] at this; cases this)).symm, rfl⟩
          · go_wp2
            go_ret
            exact ⟨ret_bool (nm_yes ⟨by omega, by omega, hl, fun j hj => hne.out j (by omega)⟩).symm, rfl⟩
      · go_enter Try.func10, Try.ntmps10
        go_wp2_with fail
        refine (isLetter_any _ _ h1 h2).mono ?_
        rintro e w' ⟨rfl, rfl⟩
        go_wp2
        go_ret
        exact ⟨ret_bool (nm_no (fun h => by have := h.2.2.1; rw [hl] at this; cases this)).symm, rfl⟩

theorem nb_let {c : Int} (h : let_ c = true) : nb c = true := by
  simp [let_] at h
  simp [nb]
  omega
set_option maxHeartbeats 1000000 in
theorem rname_any (s : ByteArray) (w : World) (hs : s.size ≤ 9223372036854775807) :
    Calls Try.prog 11 #[.string s] w fun e w' => e = .returned (.bool (nm s)) ∧ w = w' := by
  have hbt := PlainAid.get_bt s
  go_enter Try.func11, Try.ntmps11
  go_wp2
  go_loop [3] (fun i => ∃ k : Nat, k ≤ s.size ∧ i = .int .i64 k ∧ Hid ((0 < k → let_ (bt s 0) = true) ∧ ∀ j, j < k → nb (bt s j) = true)) (fun i => s.size - (intOf i).toNat)
  case atStart => exact ⟨0, Nat.zero_le _, rfl, Lib.hid ⟨fun h => by omega, fun j h => by omega⟩⟩
  case round =>
    obtain ⟨k, hk, rfl, hne⟩ := hrel
    have g1 := PlainAid.bt_nonneg s k
    have g2 := PlainAid.bt_le s k
    by_cases hlt : k < s.size
    · rcases Bool.eq_false_or_eq_true (let_ (bt s k)) with hb | hb
      · go_wp2_with fail
        refine (letter_any _ _ g1 g2).mono ?_
        rintro e w' ⟨rfl, rfl⟩
        go_wp2
        go_round
        case rel =>
          refine ⟨k + 1, by omega, by go_num, Lib.hid ⟨fun _ => ?_, fun j h => ?_⟩⟩
          · rcases Nat.eq_zero_or_pos k with h | h
            · subst h; exact hb
            · exact hne.out.1 h
          · rcases Nat.lt_or_ge j k with hj | hj
            · exact hne.out.2 j hj
            · obtain rfl : j = k := by omega
              exact nb_let hb
        case measure => simp [intOf]; omega
      · have hd := hb
        simp [let_] at hd
        by_cases hk0 : k = 0
        · subst hk0
          go_wp2_with fail
          refine (letter_any _ _ g1 g2).mono ?_
          rintro e w' ⟨rfl, rfl⟩
          go_wp2
          go_ret
          exact ⟨ret_bool (nm_no (fun h => by have := h.2.2.1; rw [hb] at this; cases this)).symm, rfl⟩
        · have hk1 : ((k : Int) == 0) = false := by simp; omega
          have hk2 : 0 < k := by omega
          clear hk0
          have HD := Lib.hid hd
          clear hd
          go_wp2_with fail
          refine (letter_any _ _ g1 g2).mono ?_
          rintro e w' ⟨rfl, rfl⟩
          go_wp2
          all_goals first
            | (have hh : nb (bt s k) = false := by
                have hd := HD.out
                (try simp only [bne_iff_ne, ne_eq, bne_eq_false_iff_eq] at *)
                simp [nb]
                omega
               go_ret
               exact ⟨ret_bool (nm_no (fun h => by have := h.2.2.2 k hlt; rw [hh] at this; cases this)).symm, rfl⟩)
            | (have hh : nb (bt s k) = true := by
                have hd := HD.out
                (try simp only [bne_iff_ne, ne_eq, bne_eq_false_iff_eq] at *)
                simp [nb]
                omega
               go_round
               case rel =>
                 refine ⟨k + 1, by omega, by go_num, Lib.hid ⟨fun _ => hne.out.1 hk2, fun j h => ?_⟩⟩
                 rcases Nat.lt_or_ge j k with hj | hj
                 · exact hne.out.2 j hj
                 · obtain rfl : j = k := by omega
                   exact hh
               case measure => simp [intOf]; omega)
    · obtain rfl : k = s.size := by omega
      have hn : nm s = decide (1 ≤ s.size ∧ s.size ≤ 20) := by
        unfold nm
        refine decide_eq_decide.2 ?_
        exact ⟨fun h => ⟨h.1, h.2.1⟩, fun h => ⟨h.1, h.2, hne.out.1 (by omega), fun j hj => hne.out.2 j hj⟩⟩
      have HN := Lib.hid hn
      clear hn
      go_wp2
      all_goals
        go_ret
        refine ⟨ret_bool ?_, rfl⟩
        rw [HN.out, Bool.eq_iff_iff]
        simp
        omega
end Go.Proofs.Ytaapfgbeompckaa
