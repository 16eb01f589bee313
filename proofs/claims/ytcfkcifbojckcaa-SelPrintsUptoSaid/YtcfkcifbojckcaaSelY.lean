/-
  The document's own Name, at any text.
-/
import Derived.Test.YtcfkcifbojckcaaSelX
namespace Go.Proofs.Ytcfkcifbojckcaa
open Go.ChangeShapes Go.WideShapes Go.ChangeAt Go.RowKit
open Go.PlainAid (bt)
set_option linter.unusedVariables false
set_option linter.unusedSimpArgs false

def Nm (s : ByteArray) : Prop := 1 ≤ s.size ∧ s.size ≤ 20 ∧ bL (bt s 0) = true ∧ ∀ k, k < s.size → bN (bt s k) = true
instance (s : ByteArray) : Decidable (Nm s) := by unfold Nm; infer_instance
def nm (s : ByteArray) : Bool := decide (Nm s)
theorem nm_no {s : ByteArray} (h : ¬ Nm s) : nm s = false := by unfold nm; simpa using h
theorem nm_yes {s : ByteArray} (h : Nm s) : nm s = true := by unfold nm; simpa using h
set_option maxHeartbeats 400000 in
theorem letter_any (c : Int) (w : World) (h0 : 0 ≤ c) (h1 : c ≤ 255) :
    Calls Try.prog 50 #[.int .u8 c] w fun e w' => e = .returned (.bool (bL c)) ∧ w = w' := by
  go_enter Try.func50, Try.ntmps50
  go_wp2
  all_goals
    go_ret
    exact ⟨ret_bool (by rw [Bool.eq_iff_iff]; simp [bL] <;> omega), rfl⟩
theorem bN_let {c : Int} (h : bL c = true) : bN c = true := by
  simp [bL] at h
  simp [bN]
  omega
set_option maxHeartbeats 1000000 in
theorem rname_any (s : ByteArray) (w : World) (hs : s.size ≤ 9223372036854775807) :
    Calls Try.prog 44 #[.string s] w fun e w' => e = .returned (.bool (nm s)) ∧ w = w' := by
  have hbt := PlainAid.get_bt s
  go_enter Try.func44, Try.ntmps44
  go_wp2
  go_loop [3] (fun i => ∃ k : Nat, k ≤ s.size ∧ i = .int .i64 k ∧ Hid ((0 < k → bL (bt s 0) = true) ∧ ∀ j, j < k → bN (bt s j) = true)) (fun i => s.size - (intOf i).toNat)
  case atStart => exact ⟨0, Nat.zero_le _, rfl, Lib.hid ⟨fun h => by omega, fun j h => by omega⟩⟩
  case round =>
    obtain ⟨k, hk, rfl, hne⟩ := hrel
    have g1 := PlainAid.bt_nonneg s k
    have g2 := PlainAid.bt_le s k
    by_cases hlt : k < s.size
    · rcases Bool.eq_false_or_eq_true (bL (bt s k)) with hb | hb
      · go_wp2_with fail
        refine (letter_any _ _ g1 g2).mono ?_
        rintro e w' ⟨rfl, rfl⟩
        go_wp2
        go_round
        case rel =>
          refine ⟨k + 1, by omega, by go_num, Lib.hid ⟨fun _ => ?_, fun j h => ?_⟩⟩
          · rcases Nat.eq_zero_or_pos k with h | h
            · subst h; exact hb
            · exact hne.out.1 h
          · rcases Nat.lt_or_ge j k with hj | hj
            · exact hne.out.2 j hj
            · obtain rfl : j = k := by omega
              exact bN_let hb
        case measure => simp [intOf]; omega
      · have hd := hb
        simp [bL] at hd
        by_cases hk0 : k = 0
        · subst hk0
          go_wp2_with fail
          refine (letter_any _ _ g1 g2).mono ?_
          rintro e w' ⟨rfl, rfl⟩
          go_wp2
          go_ret
          exact ⟨ret_bool (nm_no (fun h => by have := h.2.2.1; rw [hb] at this; cases this)).symm, rfl⟩
        · have hk1 : ((k : Int) == 0) = false := by simp; omega
          have hk2 : 0 < k := by omega
          clear hk0
          have HD := Lib.hid hd
          clear hd
          go_wp2_with fail
          refine (letter_any _ _ g1 g2).mono ?_
          rintro e w' ⟨rfl, rfl⟩
          go_wp2
          all_goals first
            | (have hh : bN (bt s k) = false := by
                have hd := HD.out
                (try simp only [bne_iff_ne, ne_eq, bne_eq_false_iff_eq] at *)
                simp [bN]
                omega
               go_ret
               exact ⟨ret_bool (nm_no (fun h => by have := h.2.2.2 k hlt; rw [hh] at this; cases this)).symm, rfl⟩)
            | (have hh : bN (bt s k) = true := by
                have hd := HD.out
                (try simp only [bne_iff_ne, ne_eq, bne_eq_false_iff_eq] at *)
                simp [bN]
                omega
               go_round
               case rel =>
                 refine ⟨k + 1, by omega, by go_num, Lib.hid ⟨fun _ => hne.out.1 hk2, fun j h => ?_⟩⟩
                 rcases Nat.lt_or_ge j k with hj | hj
                 · exact hne.out.2 j hj
                 · obtain rfl : j = k := by omega
                   exact hh
               case measure => simp [intOf]; omega)
    · obtain rfl : k = s.size := by omega
      have hn : nm s = decide (1 ≤ s.size ∧ s.size ≤ 20) := by
        unfold nm
        refine decide_eq_decide.2 ?_
        exact ⟨fun h => ⟨h.1, h.2.1⟩, fun h => ⟨h.1, h.2, hne.out.1 (by omega), fun j hj => hne.out.2 j hj⟩⟩
      have HN := Lib.hid hn
      clear hn
      go_wp2
      all_goals
        go_ret
        refine ⟨ret_bool ?_, rfl⟩
        rw [HN.out, Bool.eq_iff_iff]
        simp
        omega
theorem lk_bt {s : ByteArray} {i : Nat} (h : i < s.size) : ∃ c, (ls s)[i]? = some c ∧ bt s i = (c.toNat : Int) := by
  obtain ⟨c, h1, h2⟩ := lk_get h
  exact ⟨c, h1, by rw [← h2, lk_in h]⟩
/-- The document's names are ours. -/
theorem nm_ok (s : ByteArray) : nm s = Sl.nameOk (ls s) := by
  rw [Bool.eq_iff_iff, nm, decide_eq_true_eq]
  cases hs : ls s with
  | nil =>
    constructor
    · rintro ⟨h1, -⟩
      have := ls_len s
      rw [hs] at this
      simp at this
      omega
    · intro h; cases h
  | cons a l =>
    have hl := ls_len s
    rw [hs, List.length_cons] at hl
    have h0 : bt s 0 = (a.toNat : Int) := by
      obtain ⟨c, h1, h2⟩ := lk_bt (s := s) (i := 0) (by omega)
      rw [hs] at h1
      simp at h1
      rw [h2, h1]
    simp only [Sl.nameOk, Bool.and_eq_true, decide_eq_true_eq, List.all_eq_true]
    constructor
    · rintro ⟨h1, h2, h3, h4⟩
      rw [h0, ← isL_bL] at h3
      refine ⟨⟨h3, fun x hx => ?_⟩, by omega⟩
      obtain ⟨k, hk, rfl⟩ := List.getElem_of_mem hx
      obtain ⟨c, g1, g2⟩ := lk_bt (s := s) (i := k + 1) (by omega)
      have := h4 (k + 1) (by omega)
      rw [hs, List.getElem?_cons_succ, List.getElem?_eq_getElem hk] at g1
      rw [g2, ← isN_bN, ← Option.some.inj g1] at this
      exact this
    · rintro ⟨⟨h1, h2⟩, h3⟩
      refine ⟨by omega, by omega, by rw [h0, ← isL_bL]; exact h1, fun k hk => ?_⟩
      cases k with
      | zero => rw [h0, ← isN_bN]; exact Sl.isL_N h1
      | succ k =>
        obtain ⟨c, g1, g2⟩ := lk_bt (s := s) (i := k + 1) hk
        rw [hs, List.getElem?_cons_succ] at g1
        rw [g2, ← isN_bN]
        exact h2 c (List.mem_of_getElem? g1)
end Go.Proofs.Ytcfkcifbojckcaa
