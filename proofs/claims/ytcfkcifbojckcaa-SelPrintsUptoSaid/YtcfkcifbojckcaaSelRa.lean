/-
  The document's own reader: blanks, a name, a value.
-/
import Derived.Test.YtcfkcifbojckcaaSelY
import Derived.Test.YtcfkcifbojckcaaSelH
import Derived.OwnWalk
namespace Go.Proofs.Ytcfkcifbojckcaa
open Go.ChangeShapes Go.WideShapes Go.ChangeAt Go.RowKit
open Go.PlainAid (bt)
set_option linter.unusedVariables false
set_option linter.unusedSimpArgs false

theorem rblank_any (c : Int) (w : World) : Calls Try.prog 42 #[.int .u8 c] w fun e w' => e = .returned (.bool (bB c)) ∧ w = w' := by
  go_enter Try.func42, Try.ntmps42
  go_wp2
  all_goals
    go_ret
    exact ⟨ret_bool (by rw [Bool.eq_iff_iff]; simp [bB] <;> omega), rfl⟩
theorem rblanks_any (s : ByteArray) (i : Nat) (w : World) (hi : i ≤ s.size) (hs : s.size ≤ 4000000) : Calls Try.prog 35 #[.string s, .int .i64 i] w (fun e w' => e = .returned (.int .i64 (sp s i)) ∧ w = w') := by
  have HBL := Lib.hid rblank_any
  have hbt := PlainAid.get_bt s
  go_enter Try.func35, Try.ntmps35
  go_wp2_with fail
  go_loop [1] (fun q => ∃ k : Nat, i ≤ k ∧ k ≤ s.size ∧ q = .int .i64 k ∧ Hid (sp s k = sp s i)) (fun q => s.size - (intOf q).toNat)
  case atStart => exact ⟨i, Nat.le_refl _, hi, rfl, Lib.hid rfl⟩
  case round =>
    obtain ⟨k, hik, hk, rfl, HS⟩ := hrel
    by_cases hlt : k < s.size
    · have HE : Hid (lk s k = bt s k) := Lib.hid (lk_in hlt)
      rcases Bool.eq_false_or_eq_true (bB (bt s k)) with hb | hb
      · go_wp2_with fail
        refine (HBL.out _ _).mono ?_
        rintro e w' ⟨rfl, rfl⟩
        rw [hb]
        have h1 := (sp_yes (s := s) (i := k) (by rw [HE.out]; exact hb)).2
        go_wp2
        go_round
        case rel => exact ⟨k + 1, by omega, by omega, by go_num, Lib.hid (by rw [← h1]; exact HS.out)⟩
        case measure => simp [intOf]; omega
      · go_wp2_with fail
        refine (HBL.out _ _).mono ?_
        rintro e w' ⟨rfl, rfl⟩
        rw [hb]
        have h1 := sp_no (s := s) (i := k) (by rw [HE.out]; exact hb)
        go_wp2
        go_ret
        exact ⟨by rw [← HS.out, h1]; rfl, rfl⟩
    · obtain rfl : k = s.size := by omega
      have h1 := sp_no (s := s) (i := s.size) (by rw [lk_end (by omega)]; decide)
      go_wp2
      go_ret
      exact ⟨by rw [← HS.out, h1]; rfl, rfl⟩
theorem ris_any (s : ByteArray) (i : Nat) (b : Int) (w : World) (hi : i ≤ s.size) (hs : s.size ≤ 4000000) (hb : 0 ≤ b) : Calls Try.prog 43 #[.string s, .int .i64 i, .int .u8 b] w (fun e w' => e = .returned (.bool (decide (lk s i = b))) ∧ w = w') := by
  have hbt := PlainAid.get_bt s
  by_cases hlt : i < s.size
  · have HE : Hid (lk s i = bt s i) := Lib.hid (lk_in hlt)
    go_enter Try.func43, Try.ntmps43
    go_wp2
    go_ret
    exact ⟨ret_bool (by rw [HE.out, Bool.eq_iff_iff]; simp), rfl⟩
  · have h1 : lk s i ≠ b := by rw [lk_end hlt]; omega
    go_enter Try.func43, Try.ntmps43
    go_wp2
    go_ret
    exact ⟨ret_bool (by simp [h1]), rfl⟩
/-! ### a name -/
theorem me_is {p : Int → Bool} {s : ByteArray} : ∀ (m i k : Nat), i ≤ k → k ≤ i + m → (∀ j, i ≤ j → j < k → p (lk s j) = true) → (k = i + m ∨ p (lk s k) = false) → me p s m i = k
  | 0, i, k, h1, h2, _, _ => by rw [me]; omega
  | m + 1, i, k, h1, h2, h3, h4 => by
    rw [me]
    by_cases hk : k = i
    · subst hk
      rcases h4 with h4 | h4
      · omega
      · rw [if_neg (by rw [h4]; simp)]
    · rw [if_pos (h3 i (Nat.le_refl _) (by omega))]
      exact me_is m (i + 1) k (by omega) (by omega) (fun j a b => h3 j (by omega) b) (h4.imp (by omega) id)
theorem size_ext {s : ByteArray} {i k : Nat} (hk : k ≤ s.size) : (s.extract i k).size = k - i := by
  rw [ByteArray.size_extract]
  omega
theorem bt_ext {s : ByteArray} {i k j : Nat} (hk : k ≤ s.size) (hj : i + j < k) : bt (s.extract i k) j = bt s (i + j) := by
  unfold bt
  rw [dif_pos (by rw [size_ext hk]; omega), dif_pos (by omega)]
  simp [ByteArray.getElem_extract]
theorem nm_ext {s : ByteArray} {i k : Nat} (hk : k ≤ s.size) : nm (s.extract i k) = true ↔ (i < k ∧ k ≤ i + 20 ∧ bL (bt s i) = true ∧ ∀ j, i ≤ j → j < k → bN (bt s j) = true) := by
  unfold nm
  rw [decide_eq_true_eq]
  unfold Nm
  rw [size_ext hk]
  constructor
  · rintro ⟨h1, h2, h3, h4⟩
    rw [bt_ext hk (by omega)] at h3
    refine ⟨by omega, by omega, h3, fun j a b => ?_⟩
    have := h4 (j - i) (by omega)
    rwa [bt_ext hk (by omega), show i + (j - i) = j by omega] at this
  · rintro ⟨h1, h2, h3, h4⟩
    refine ⟨by omega, by omega, by rw [bt_ext hk (by omega)]; exact h3, fun j hj => ?_⟩
    rw [bt_ext hk (by omega)]
    exact h4 _ (by omega) (by omega)
theorem nm_a {s : ByteArray} {k : Nat} (hk : k < s.size) : nm (⟨#[97]⟩ ++ s.extract k (k + 1)) = bN (bt s k) := by
  obtain ⟨c, h1, h2, h3⟩ := bt_list s k hk
  rw [nm_ok, show ls (⟨#[97]⟩ ++ s.extract k (k + 1)) = 97 :: ls (s.extract k (k + 1)) by simp [ls, ByteArray.data_append], ext_ls, show (ls s).drop k = c :: s.data.toList.drop (k + 1) from h3, Nat.add_sub_cancel_left, h2, ← isN_bN]
  simp [Sl.nameOk, show Sl.isL 97 = true by decide]
/-- What a function of the document's own reader comes to: what it read, and where it ends; or the place of what can not stand there. -/
def Rn {α : Type} (r : Except Nat (α × Nat)) (val : α → Value) (e : Ending) : Prop := match r with
  | .ok (x, j) => e = .returned (.tuple #[val x, .int .i64 j, .bool true])
  | .error k => ∃ x, e = .returned (.tuple #[val x, .int .i64 k, .bool false])
def rnP (s : ByteArray) (i : Nat) : Except Nat (ByteArray × Nat) := if bL (lk s i) = true then (if me bN s 20 i = i + 20 ∧ bN (lk s (i + 20)) = true then .error (i + 20) else .ok (s.extract i (me bN s 20 i), me bN s 20 i)) else .error i
theorem name_end {s : ByteArray} {i k : Nat} (hik : i ≤ k) (hk : k ≤ s.size) (h : k = i ∨ nm (s.extract i k) = true) (hstop : k = s.size ∨ k < s.size ∧ nm (s.extract i (k + 1)) = false) :
    (k = i ∧ rnP s i = .error i) ∨ (i < k ∧ k = i + 20 ∧ k < s.size ∧ bN (bt s k) = true ∧ rnP s i = .error k) ∨ (i < k ∧ (k = i + 20 → k < s.size → bN (bt s k) = false) ∧ rnP s i = .ok (s.extract i k, k)) := by
  by_cases hki : k = i
  · subst hki
    refine .inl ⟨rfl, ?_⟩
    unfold rnP
    rw [if_neg]
    intro hL
    have hlt : k < s.size := lk_lt (fun e => by rw [e] at hL; revert hL; decide)
    rw [lk_in hlt] at hL
    rcases hstop with e | ⟨-, e⟩
    · omega
    · have : nm (s.extract k (k + 1)) = true := (nm_ext (by omega)).2 ⟨by omega, by omega, hL, fun j a b => by
        obtain rfl : j = k := (by omega)
        exact bN_let hL⟩
      rw [e] at this
      cases this
  · have h := h.resolve_left hki
    obtain ⟨h1, h2, h3, h4⟩ := (nm_ext hk).1 h
    have hnext : k = i + 20 ∨ bN (lk s k) = false := by
      rcases hstop with e | ⟨e1, e⟩
      · exact .inr (by rw [lk_end (by omega)]; decide)
      · by_cases h20 : k = i + 20
        · exact .inl h20
        · refine .inr (Bool.eq_false_iff.2 fun hb => ?_)
          rw [lk_in e1] at hb
          have : nm (s.extract i (k + 1)) = true := (nm_ext (by omega)).2 ⟨by omega, by omega, h3, fun j a b => by
            by_cases hj : j = k
            · subst hj; exact hb
            · exact h4 j a (by omega)⟩
          rw [e] at this
          cases this
    have hme : me bN s 20 i = k := me_is 20 i k hik h2 (fun j a b => by rw [lk_in (by omega)]; exact h4 j a b) hnext
    have hL : bL (lk s i) = true := by rw [lk_in (by omega)]; exact h3
    by_cases hc : k = i + 20 ∧ bN (lk s (i + 20)) = true
    · obtain ⟨hc1, hc2⟩ := hc
      have hlt : k < s.size := by rw [hc1]; exact lk_lt (fun e => by rw [e] at hc2; revert hc2; decide)
      refine .inr (.inl ⟨h1, hc1, hlt, ?_, ?_⟩)
      · rw [← hc1, lk_in hlt] at hc2; exact hc2
      · unfold rnP
        rw [if_pos hL, hme, if_pos ⟨hc1, hc2⟩, hc1]
    · refine .inr (.inr ⟨h1, fun a b => Bool.eq_false_iff.2 fun hb => hc ⟨a, ?_⟩, ?_⟩)
      · rw [← a, lk_in b]; exact hb
      · unfold rnP
        rw [if_pos hL, hme, if_neg hc]
set_option maxRecDepth 100000 in
set_option maxHeartbeats 4000000 in
theorem rname9_any (s : ByteArray) (i : Nat) (w : World) (hi : i ≤ s.size) (hs : s.size ≤ 4000000) : Calls Try.prog 45 #[.string s, .int .i64 i] w (fun e w' => Rn (rnP s i) Value.string e ∧ w = w') := by
  have HNM := Lib.hid (fun (t : ByteArray) (V : World) (ht : t.size ≤ 4000001) => rname_any t V (by omega))
  go_enter Try.func45, Try.ntmps45
  go_wp2_with fail
  go_loop [7] (fun q => ∃ k : Nat, i ≤ k ∧ k ≤ s.size ∧ q = .int .i64 k ∧ Hid (k = i ∨ nm (s.extract i k) = true)) (fun q => s.size - (intOf q).toNat)
  case atStart => exact ⟨i, Nat.le_refl _, hi, rfl, Lib.hid (.inl rfl)⟩
  case round =>
    obtain ⟨k, hik, hk, rfl, HK⟩ := hrel
    by_cases hlt : k < s.size
    · have hcut : ∀ W, Sem.run Try.prog (Instr.slice 9 (.string s) (some (.int .i64 (i : Int))) (some (.int .i64 ((k : Int) + 1))) none) W = .ok (.string (s.extract i (k + 1))) W := fun W => cut_str s i (k + 1) (by omega) (by omega) _ _ rfl (by omega) W
      have hz : (s.extract i (k + 1)).size ≤ 4000001 := by rw [size_ext (by omega)]; omega
      obtain ⟨T, hT⟩ : ∃ T, T = s.extract i (k + 1) := ⟨_, rfl⟩
      have HT := Lib.hid hT
      rw [← hT] at hcut hz
      clear hT
      rcases Bool.eq_false_or_eq_true (nm T) with hb | hb
      · go_wp2_with fail
        refine (HNM.out T _ hz).mono ?_
        rintro e w' ⟨rfl, rfl⟩
        rw [hb]
        go_wp2
        go_round
        case rel => exact ⟨k + 1, by omega, by omega, by go_num, Lib.hid (.inr (by rw [← HT.out]; exact hb))⟩
        case measure => simp [intOf]; omega
      · go_wp2_with fail
        refine (HNM.out T _ hz).mono ?_
        rintro e w' ⟨rfl, rfl⟩
        rw [hb]
        have HEND := Lib.hid (name_end hik hk HK.out (.inr ⟨hlt, by rw [← HT.out]; exact hb⟩))
        have hcut2 : ∀ W, Sem.run Try.prog (Instr.slice 9 (.string s) (some (.int .i64 (k : Int))) (some (.int .i64 ((k : Int) + 1))) none) W = .ok (.string (s.extract k (k + 1))) W := fun W => cut_str s k (k + 1) (by omega) (by omega) _ _ rfl (by omega) W
        have hcut3 : ∀ W, Sem.run Try.prog (Instr.slice 9 (.string s) (some (.int .i64 (i : Int))) (some (.int .i64 (k : Int))) none) W = .ok (.string (s.extract i k)) W := fun W => cut_str s i k hik hk _ _ rfl rfl W
        have hz2 : (s.extract k (k + 1)).size = 1 := by rw [size_ext (by omega)]; omega
        have HN1 := Lib.hid (HNM.out (⟨#[97]⟩ ++ s.extract k (k + 1)) w (by rw [ByteArray.size_append, hz2]; show 1 + 1 ≤ _; omega))
        rw [nm_a hlt] at HN1
        have HNA : Hid (bN (bt s k) = true → _) := Lib.hid (fun h => by have := HN1.out; rw [h] at this; exact this)
        have HNB : Hid (bN (bt s k) = false → _) := Lib.hid (fun h => by have := HN1.out; rw [h] at this; exact this)
        clear HN1 HK
        generalize s.extract k (k + 1) = T2 at *
        rcases HEND.out with ⟨hki, hr⟩ | ⟨h1, h20, h2, hb2, hr⟩ | ⟨h1, h2, hr⟩
        · subst hki
          have HR := Lib.hid hr
          clear hr
          go_wp2
          go_ret3
          exact ⟨by rw [HR.out]; exact ⟨⟨#[]⟩, rfl⟩, rfl⟩
        · have HR := Lib.hid hr
          have hx : ((k : Int) == (i : Int) + 20) = true := by simp; omega
          have hne : ((k : Int) == (i : Int)) = false := by simp; omega
          have hbk := HNA.out hb2
          clear hr h20
          go_wp2_with fail
          refine hbk.mono ?_
          rintro e w' ⟨rfl, rfl⟩
          go_wp2
          go_ret3
          exact ⟨by rw [HR.out]; exact ⟨⟨#[]⟩, rfl⟩, rfl⟩
        · have HR := Lib.hid hr
          have hne : ((k : Int) == (i : Int)) = false := by simp; omega
          clear hr
          by_cases h20 : k = i + 20
          · have hx : ((k : Int) == (i : Int) + 20) = true := by simp; omega
            have hbk := HNB.out (h2 h20 hlt)
            clear h20 h2
            go_wp2_with fail
            refine hbk.mono ?_
            rintro e w' ⟨rfl, rfl⟩
            go_wp2
            go_ret3
            exact ⟨by rw [HR.out]; rfl, rfl⟩
          · have hx : ((k : Int) == (i : Int) + 20) = false := by simp; omega
            clear h20 h2
            go_wp2
            go_ret3
            exact ⟨by rw [HR.out]; rfl, rfl⟩
    · obtain rfl : k = s.size := by omega
      have HEND := Lib.hid (name_end hik hk HK.out (.inl rfl))
      have hcut3 : ∀ W, Sem.run Try.prog (Instr.slice 9 (.string s) (some (.int .i64 (i : Int))) (some (.int .i64 (s.size : Int))) none) W = .ok (.string (s.extract i s.size)) W := fun W => cut_str s i s.size hik hk _ _ rfl rfl W
      clear HK
      rcases HEND.out with ⟨hki, hr⟩ | ⟨h1, h20, h2, hb2, hr⟩ | ⟨h1, h2, hr⟩
      · subst hki
        have HR := Lib.hid hr
        clear hr
        go_wp2
        go_ret3
        exact ⟨by rw [HR.out]; exact ⟨⟨#[]⟩, rfl⟩, rfl⟩
      · omega
      · have HR := Lib.hid hr
        have hne : ((s.size : Int) == (i : Int)) = false := by simp; omega
        clear hr
        by_cases h20 : s.size = i + 20
        · have hx : ((s.size : Int) == (i : Int) + 20) = true := by simp; omega
          clear h20 h2
          go_wp2
          go_ret3
          exact ⟨by rw [HR.out]; rfl, rfl⟩
        · have hx : ((s.size : Int) == (i : Int) + 20) = false := by simp; omega
          clear h20 h2
          go_wp2
          go_ret3
          exact ⟨by rw [HR.out]; rfl, rfl⟩
end Go.Proofs.Ytcfkcifbojckcaa
