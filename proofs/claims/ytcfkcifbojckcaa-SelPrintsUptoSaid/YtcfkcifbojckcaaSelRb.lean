/-
  The document's own reader: a value.
-/
import Derived.Test.YtcfkcifbojckcaaSelRa
namespace Go.Proofs.Ytcfkcifbojckcaa
open Go.ChangeShapes Go.WideShapes Go.ChangeAt Go.RowKit
open Go.PlainAid (bt)
set_option linter.unusedVariables false
set_option linter.unusedSimpArgs false

def rvP (s : ByteArray) (i : Nat) : Except Nat (ByteArray × Nat) :=
  if lk s i = 34 then (if lk s (me bS s 60 (i + 1)) = 34 then .ok (s.extract (i + 1) (me bS s 60 (i + 1)), me bS s 60 (i + 1) + 1) else .error (me bS s 60 (i + 1))) else rnP s i
set_option maxRecDepth 100000 in
set_option maxHeartbeats 4000000 in
theorem rvalue_any (s : ByteArray) (i : Nat) (w : World) (hi : i ≤ s.size) (hs : s.size ≤ 4000000) : Calls Try.prog 51 #[.string s, .int .i64 i] w (fun e w' => Rn (rvP s i) Value.string e ∧ w = w') := by
  have HNM := Lib.hid (rname9_any s i w hi hs)
  have hbt := PlainAid.get_bt s
  by_cases h34 : lk s i = 34
  case neg =>
    unfold rvP
    rw [if_neg h34]
    have hcase : (i < s.size ∧ ¬ bt s i = 34) ∨ i = s.size := by
      by_cases hlt : i < s.size
      · rw [lk_in hlt] at h34
        exact .inl ⟨hlt, h34⟩
      · exact .inr (by omega)
    clear h34
    rcases hcase with ⟨hlt, hb⟩ | he
    · have q3 : (bt s i != 34) = true := by simpa using hb
      have k1 : (i : Int) < (s.size : Int) := by omega
      cases hr : rnP s i with
      | error j =>
        rw [hr] at HNM
        clear hr
        go_enter Try.func51, Try.ntmps51
        go_wp2_with fail
        refine HNM.out.mono ?_
        rintro e w' ⟨⟨x, rfl⟩, rfl⟩
        go_wp2
        go_ret3
        exact ⟨⟨x, rfl⟩, rfl⟩
      | ok q =>
        obtain ⟨n, j⟩ := q
        rw [hr] at HNM
        clear hr
        go_enter Try.func51, Try.ntmps51
        go_wp2_with fail
        refine HNM.out.mono ?_
        rintro e w' ⟨rfl, rfl⟩
        go_wp2
        go_ret3
        exact ⟨rfl, rfl⟩
    · subst he
      cases hr : rnP s s.size with
      | error j =>
        rw [hr] at HNM
        clear hr
        go_enter Try.func51, Try.ntmps51
        go_wp2_with fail
        refine HNM.out.mono ?_
        rintro e w' ⟨⟨x, rfl⟩, rfl⟩
        go_wp2
        go_ret3
        exact ⟨⟨x, rfl⟩, rfl⟩
      | ok q =>
        obtain ⟨n, j⟩ := q
        rw [hr] at HNM
        clear hr
        go_enter Try.func51, Try.ntmps51
        go_wp2_with fail
        refine HNM.out.mono ?_
        rintro e w' ⟨rfl, rfl⟩
        go_wp2
        go_ret3
        exact ⟨rfl, rfl⟩
  have hlt : i < s.size := lk_lt (by rw [h34]; decide)
  have hb34 : bt s i = 34 := by rw [lk_in hlt] at h34; exact h34
  unfold rvP
  rw [if_pos h34]
  clear h34 HNM
  have HME := Lib.hid (fun (k : Nat) (h1 : i + 1 ≤ k) (h2 : k ≤ i + 61) (h3 : ∀ j, i + 1 ≤ j → j < k → bS (lk s j) = true) (h4 : k = i + 61 ∨ bS (lk s k) = false) => me_is (p := bS) (s := s) 60 (i + 1) k h1 (by omega) h3 (h4.imp (by omega) id))
  have k1 : (i : Int) < (s.size : Int) := by omega
  generalize me bS s 60 (i + 1) = J at *
  go_enter Try.func51, Try.ntmps51
  go_wp2_with fail
  go_loop [7] (fun q => ∃ k : Nat, i + 1 ≤ k ∧ k ≤ s.size ∧ k ≤ i + 61 ∧ q = .int .i64 k ∧ Hid (∀ j, i + 1 ≤ j → j < k → bS (lk s j) = true)) (fun q => s.size - (intOf q).toNat)
  case atStart => exact ⟨i + 1, Nat.le_refl _, hlt, by omega, by go_num, Lib.hid (fun j a b => by omega)⟩
  case round =>
    obtain ⟨k, hik, hk, hk61, rfl, HS⟩ := hrel
    by_cases hkz : k < s.size
    · have HE : Hid (lk s k = bt s k) := Lib.hid (lk_in hkz)
      have k2 : (k : Int) < (s.size : Int) := by omega
      have hw : IntKind.i64.wrap ((k : Int) - (i : Int)) = (k : Int) - (i : Int) := by rw [IntKind.wrap_i64]; omega
      by_cases hb : bt s k = 34
      · have hJ : J = k := HME.out k hik hk61 HS.out (.inr (by rw [HE.out, hb]; decide))
        subst hJ
        have hcut : ∀ W, Sem.run Try.prog (Instr.slice 9 (.string s) (some (.int .i64 ((i : Int) + 1))) (some (.int .i64 (J : Int))) none) W = .ok (.string (s.extract (i + 1) J)) W := fun W => cut_str s (i + 1) J hik hk _ _ (by omega) rfl W
        have q1 : ((J : Int) == (s.size : Int)) = false := by simp; omega
        clear HME HS
        have HL : Hid (lk s J = 34) := Lib.hid (by rw [HE.out, hb])
        go_wp2
        go_ret3
        exact ⟨by first | rfl | (rw [if_pos HL.out]; rfl), rfl⟩
      · have q4 : (bt s k != 34) = true := by simpa using hb
        by_cases h61 : k = i + 61
        · have hJ : J = k := HME.out k hik hk61 HS.out (.inl h61)
          subst hJ
          have q2 : decide ((60 : Int) < (J : Int) - (i : Int)) = true := by simp; omega
          have HL : Hid (¬ lk s J = 34) := Lib.hid (by rw [HE.out]; exact hb)
          clear HME HS h61
          go_wp2
          go_ret3
          exact ⟨by first | exact ⟨⟨#[]⟩, rfl⟩ | (rw [if_neg HL.out]; exact ⟨⟨#[]⟩, rfl⟩), rfl⟩
        · have q2 : decide ((60 : Int) < (k : Int) - (i : Int)) = false := by simp; omega
          have hbS : bS (lk s k) = true := by
            rw [HE.out]
            have := PlainAid.bt_nonneg s k
            simp [bS]
            omega
          go_wp2
          go_round
          case rel =>
            refine ⟨k + 1, by omega, by omega, by omega, by go_num, Lib.hid (fun j a b => ?_)⟩
            by_cases hj : j = k
            · subst hj; exact hbS
            · exact HS.out j a (by omega)
          case measure => simp [intOf]; omega
    · obtain rfl : k = s.size := by omega
      have hJ : J = s.size := HME.out s.size hik hk61 HS.out (.inr (by rw [lk_end (by omega)]; decide))
      have HL : Hid (¬ lk s s.size = 34) := Lib.hid (by rw [lk_end (by omega)]; decide)
      subst hJ
      clear HME HS
      go_wp2
      go_ret3
      exact ⟨by first | exact ⟨⟨#[]⟩, rfl⟩ | (rw [if_neg HL.out]; exact ⟨⟨#[]⟩, rfl⟩), rfl⟩
end Go.Proofs.Ytcfkcifbojckcaa
