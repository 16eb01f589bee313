/-
  The reference's digits of a number.
-/
import Derived.Test.YtdjhnjokmmbafaaDoorOpU
namespace Go.Proofs.YtdjhnjokmmbafaaDoor
open Go.ChangeShapes Go.WideShapes Go.ChangeAt Go.RowKit
set_option linter.unusedVariables false
set_option linter.unusedSimpArgs false

def DG : ByteArray := ⟨#[48, 49, 50, 51, 52, 53, 54, 55, 56, 57]⟩
theorem dg_at : ∀ i : Nat, i < 10 → DG.extract i (i + 1) = ba [UInt8.ofNat (48 + i)]
  | 0, _ => by decide
  | 1, _ => by decide
  | 2, _ => by decide
  | 3, _ => by decide
  | 4, _ => by decide
  | 5, _ => by decide
  | 6, _ => by decide
  | 7, _ => by decide
  | 8, _ => by decide
  | 9, _ => by decide
  | _ + 10, h => absurd h (by omega)
theorem dec_len (u : Nat) : (Lib.decDigits u).length ≤ u + 1 := by
  induction u using Nat.strongRecOn with
  | _ u ih =>
    rw [Lib.decDigits]
    split
    · simp
    · have := ih (u / 10) (by omega)
      rw [List.length_append, List.length_singleton]
      omega
theorem dg_slice (i : Nat) (h : i < 10) (W : World) : Sem.run Tryd.prog (Instr.slice 9 (.string DG) (some (.int .u64 (i : Int))) (some (.int .u64 ((i : Int) + 1))) none) W = .ok (.string (ba [UInt8.ofNat (48 + i)])) W := by
  have := run_slice_string (P := Tryd.prog) (w := W) 9 DG .u64 .u64 (i : Int) ((i : Int) + 1) Tryd.underlying9 (by omega) (by omega) (by show (i : Int) + 1 ≤ 10; omega)
  rw [show ((i : Int) + 1).toNat = i + 1 by omega, Int.toNat_natCast, dg_at i h] at this
  exact this
set_option maxRecDepth 100000 in
set_option maxHeartbeats 2000000 in
theorem natural_any (u : Nat) : ∀ (w : World), u ≤ 18446744073709551615 → Calls Tryd.prog 45 #[.int .u64 (u : Int)] w fun e w' => e = .returned (.string (ba (Lib.decDigits u))) ∧ ∃ m, w' = w.drewN m := by
  induction u using Nat.strongRecOn with
  | _ u ih =>
    intro w hu
    by_cases h : u < 10
    · have h' : (u : Int) < 10 := by omega
      have hs := dg_slice u h
      unfold DG at hs
      rw [Lib.decDigits_one h]
      generalize ba [UInt8.ofNat (48 + u)] = B at *
      go_enter Tryd.func45, Tryd.ntmps45
      go_wp2
      go_ret
      exact ⟨rfl, 0, rfl⟩
    · have h' : ¬ (u : Int) < 10 := by omega
      have hs := dg_slice (u % 10) (by omega)
      unfold DG at hs
      have HI := Lib.hid (fun W => ih (u / 10) (by omega) W (by omega))
      have hl := dec_len (u / 10)
      have HD : Hid (ba (Lib.decDigits u) = ba (Lib.decDigits (u / 10)) ++ ba [UInt8.ofNat (48 + u % 10)]) := Lib.hid (by
        rw [Lib.decDigits, dif_neg h]
        exact ByteArray.ext (by simp [ba, ByteArray.data_append]))
      obtain ⟨A, hA⟩ : ∃ A, A = ba (Lib.decDigits (u / 10)) := ⟨_, rfl⟩
      obtain ⟨B, hB⟩ : ∃ B, B = ba [UInt8.ofNat (48 + u % 10)] := ⟨_, rfl⟩
      have hAs : A.size ≤ u / 10 + 1 := by rw [hA, ba_size]; exact hl
      have hBs : B.size = 1 := by rw [hB]; rfl
      rw [HD.out, ← hA, ← hB]
      rw [← hA] at HI
      rw [← hB] at hs
      have hAd : ∀ W, (Op.stringOp .add A B).run Tryd.prog W = .ok (.string (A ++ B)) W := fun W => run_string_add_sum W _ _ (by omega)
      have hu' : (u : Int) ≤ 18446744073709551615 := by omega
      have ht : (u : Int).tdiv 10 = ((u / 10 : Nat) : Int) := by rw [Int.tdiv_eq_ediv_of_nonneg (by omega)]; omega
      have hm : (u : Int).tmod 10 = ((u % 10 : Nat) : Int) := by rw [Int.tmod_eq_emod_of_nonneg (by omega)]; omega
      have hq : IntKind.u64.wrap ((u : Int).tdiv 10) = ((u / 10 : Nat) : Int) := by rw [ht, IntKind.wrap_u64]; omega
      have hr : (u : Int).tmod 10 = ((u % 10 : Nat) : Int) := hm
      have hr2 : IntKind.u64.wrap ((u : Int).tmod 10) = ((u % 10 : Nat) : Int) := by rw [hm, IntKind.wrap_u64]; omega
      have hr1 : IntKind.u64.wrap (((u % 10 : Nat) : Int) + 1) = ((u % 10 : Nat) : Int) + 1 := by rw [IntKind.wrap_u64]; omega
      have hQ : (u : Int) / 10 = ((u / 10 : Nat) : Int) := by omega
      have hR : (u : Int) % 10 = ((u % 10 : Nat) : Int) := by omega
      clear ih hA hB HD hl hAs hBs h hu ht hm
      generalize u / 10 = qq at *
      generalize u % 10 = rr at *
      go_enter Tryd.func45, Tryd.ntmps45
      go_wp2_with fail
      go_quiet ((go_at_call 45; exact Calls.quiet_of (HI.out _)))
      go_wp2
      go_ret
      exact ⟨rfl, _, rfl⟩
end Go.Proofs.YtdjhnjokmmbafaaDoor
