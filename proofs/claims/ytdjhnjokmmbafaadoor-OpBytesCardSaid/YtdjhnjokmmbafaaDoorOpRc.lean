/-
  The reference's May of any operation, and its digits of any number.
-/
import Derived.Test.YtdjhnjokmmbafaaDoorOpRmA
import Derived.Test.YtdjhnjokmmbafaaDoorOpRmB
import Derived.Test.YtdjhnjokmmbafaaDoorOpRmC
import Derived.Test.YtdjhnjokmmbafaaDoorOpRmD
import Derived.Test.YtdjhnjokmmbafaaDoorOpRb
namespace Go.Proofs.YtdjhnjokmmbafaaDoor
open Go.ChangeShapes Go.WideShapes Go.ChangeAt Go.RowKit
set_option linter.unusedVariables false
set_option linter.unusedSimpArgs false

set_option maxRecDepth 100000 in
set_option maxHeartbeats 2000000 in
theorem rmay_any (o : Po) (w : World) : Calls Tryd.prog 12 #[opv o] w (GivesV (.bool (mayO o)) w) := by
  obtain ⟨k, i, t, a, n, x⟩ := o
  by_cases hk : isK k = true
  · have : k = 1 ∨ k = 2 ∨ k = 3 ∨ k = 4 ∨ k = 5 ∨ k = 6 ∨ k = 7 ∨ k = 8 := by
      have := isK_iff.1 hk
      omega
    rcases this with rfl | rfl | rfl | rfl | rfl | rfl | rfl | rfl
    · exact rmay1 i t a n x w
    · exact rmay2 i t a n x w
    · exact rmay3 i t a n x w
    · exact rmay4 i t a n x w
    · exact rmay5 i t a n x w
    · exact rmay6 i t a n x w
    · exact rmay7 i t a n x w
    · exact rmay8 i t a n x w
  · have hk' : isK k = false := by simpa using hk
    have hm : mayO ⟨k, i, t, a, n, x⟩ = false := by simp [mayO, hk']
    have hS : hasS k = ⟨#[]⟩ := by
      have h1 : ∀ j : Int, 1 ≤ j → j ≤ 8 → k ≠ j := fun j h1 h2 e => hk (isK_iff.2 (by omega))
      simp [hasS, h1 1 (by omega) (by omega), h1 2 (by omega) (by omega), h1 3 (by omega) (by omega), h1 4 (by omega) (by omega), h1 5 (by omega) (by omega), h1 6 (by omega) (by omega), h1 7 (by omega) (by omega), h1 8 (by omega) (by omega)]
    have HH := Lib.hid (fun V => has_any k V)
    rw [hS] at HH
    rw [hm]
    clear hk hk' hm hS
    unfold opv
    go_enter Tryd.func12, Tryd.ntmps12
    go_wp2_with fail
    refine (HH.out _).mono ?_
    rintro e w' ⟨rfl, hw⟩
    subst hw
    go_wp2
    go_ret
    exact ⟨rfl, (Below.refl _ _).alloc (Nat.le_refl _) _⟩
set_option maxRecDepth 100000 in
set_option maxHeartbeats 2000000 in
theorem digits_any (n : Int) (w : World) (hn : I64 n) : Calls Tryd.prog 32 #[.int .i64 n] w (GivesV (.string (ba (Lib.itoa n))) w) := by
  obtain ⟨n0, n1⟩ := hn
  by_cases h : n < 0
  · obtain ⟨u, hu⟩ : ∃ u : Nat, (u : Int) = -n := ⟨(-n).toNat, by omega⟩
    have HN := Lib.hid (fun V => natural_any u V (by omega))
    have hl : (Lib.decDigits u).length ≤ 21 := by
      have := Lib.itoa_length_le n n0 n1
      unfold Lib.itoa at this
      rw [if_pos h, show n.natAbs = u by omega, List.length_cons] at this
      omega
    have HI : Hid (ba (Lib.itoa n) = ⟨#[45]⟩ ++ ba (Lib.decDigits u)) := Lib.hid (by
      unfold Lib.itoa
      rw [if_pos h, show n.natAbs = u by omega]
      exact ByteArray.ext (by simp [ba, ByteArray.data_append]))
    obtain ⟨A, hA⟩ : ∃ A, A = ba (Lib.decDigits u) := ⟨_, rfl⟩
    have hAs : A.size ≤ 21 := by rw [hA, ba_size]; exact hl
    rw [HI.out, ← hA]
    rw [← hA, show (u : Int) = -(n + 1) + 1 by omega] at HN
    have hAd : ∀ W, (Op.stringOp .add ⟨#[45]⟩ A).run Tryd.prog W = .ok (.string (⟨#[45]⟩ ++ A)) W := fun W => run_string_add_sum W _ _ (by show 1 + A.size ≤ _; omega)
    clear HI hA hl hAs hu
    go_enter Tryd.func32, Tryd.ntmps32
    go_wp2_with fail
    refine (HN.out _).mono ?_
    rintro e w' ⟨rfl, m, rfl⟩
    go_wp2
    go_ret
    exact ⟨rfl, below_drewN (Below.refl _ _) _⟩
  · have h' : 0 ≤ n := by omega
    obtain ⟨u, hu⟩ : ∃ u : Nat, (u : Int) = n := ⟨n.toNat, by omega⟩
    have HN := Lib.hid (fun V => natural_any u V (by omega))
    have HI : Hid (ba (Lib.itoa n) = ba (Lib.decDigits u)) := Lib.hid (by
      unfold Lib.itoa
      rw [if_neg h, show n.toNat = u by omega])
    rw [HI.out]
    rw [hu] at HN
    clear HI hu
    generalize ba (Lib.decDigits u) = A at *
    go_enter Tryd.func32, Tryd.ntmps32
    go_wp2_with fail
    refine (HN.out _).mono ?_
    rintro e w' ⟨rfl, m, rfl⟩
    go_wp2
    go_ret
    exact ⟨rfl, below_drewN (Below.refl _ _) _⟩
end Go.Proofs.YtdjhnjokmmbafaaDoor
