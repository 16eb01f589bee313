/-
  The document's print: a test, as a text.
-/
import Derived.Test.YtcfkcifbojckcaaSelR
namespace Go.Proofs.Ytcfkcifbojckcaa
open Go.ChangeShapes Go.WideShapes Go.ChangeAt Go.RowKit
open Go.PlainAid (bt)
set_option linter.unusedVariables false
set_option linter.unusedSimpArgs false

set_option maxRecDepth 100000 in
theorem rprint_any (t : Tr) (w : World) (h1 : t.2.1.size ≤ 4000000) (h2 : t.2.2.size ≤ 4000000) : Calls Try.prog 13 #[tV t] w fun e w' => e = .returned (.string (ba (Sl.pt (te t)))) ∧ Below w.heap.size w w' := by
  obtain ⟨k, n, v⟩ := t
  simp only [] at h1 h2
  by_cases k1 : k = 1
  · subst k1
    unfold tV
    go_enter Try.func13, Try.ntmps13
    go_wp2
    go_ret
    exact ⟨ret_str (ba_eq (by simp [Sl.pt, te, ls])), (Below.refl _ _).alloc (Nat.le_refl _) _⟩
  by_cases k2 : k = 2
  · subst k2
    unfold tV
    go_enter Try.func13, Try.ntmps13
    go_wp2
    go_ret
    exact ⟨ret_str (ba_eq (by simp [Sl.pt, te, ls, ByteArray.data_append])), (Below.refl _ _).alloc (Nat.le_refl _) _⟩
  by_cases k3 : k = 3
  · subst k3
    unfold tV
    go_enter Try.func13, Try.ntmps13
    go_wp2
    go_ret
    exact ⟨ret_str (ba_eq (by simp [Sl.pt, te, ls, ByteArray.data_append])), (Below.refl _ _).alloc (Nat.le_refl _) _⟩
  by_cases k4 : k = 4
  · subst k4
    unfold tV
    go_enter Try.func13, Try.ntmps13
    go_wp2
    go_ret
    exact ⟨ret_str (ba_eq (by simp [Sl.pt, te, ls, ByteArray.data_append])), (Below.refl _ _).alloc (Nat.le_refl _) _⟩
  by_cases k5 : k = 5
  · subst k5
    unfold tV
    go_enter Try.func13, Try.ntmps13
    go_wp2
    go_ret
    exact ⟨ret_str (ba_eq (by simp [Sl.pt, te, ls, ByteArray.data_append])), (Below.refl _ _).alloc (Nat.le_refl _) _⟩
  have HE : Hid (Sl.pt (te (k, n, v)) = []) := Lib.hid (by simp [Sl.pt, te, k1, k2, k3, k4, k5])
  have q1 : (k == 1) = false := by simpa using k1
  have q2 : (k == 2) = false := by simpa using k2
  have q3 : (k == 3) = false := by simpa using k3
  have q4 : (k == 4) = false := by simpa using k4
  have q5 : (k == 5) = false := by simpa using k5
  clear k1 k2 k3 k4 k5
  unfold tV
  go_enter Try.func13, Try.ntmps13
  go_wp2
  go_ret
  exact ⟨ret_str (by rw [HE.out]; rfl), (Below.refl _ _).alloc (Nat.le_refl _) _⟩
end Go.Proofs.Ytcfkcifbojckcaa
