/-
  The reference's piece, and the number that a piece is read as.
-/
import Derived.Test.YtdjhnjokmmbafaaDoorOpSb
import Derived.Test.YtdjhnjokmmbafaaDoorOpSm
import Derived.Test.YtdjhnjokmmbafaaDoorOpG
import Derived.OwnWalk
namespace Go.Proofs.YtdjhnjokmmbafaaDoor
open Go.ChangeShapes Go.WideShapes Go.ChangeAt Go.RowKit
set_option linter.unusedVariables false
set_option linter.unusedSimpArgs false

set_option maxRecDepth 100000 in
set_option maxHeartbeats 2000000 in
theorem rpiece_none (s : List UInt8) (V : World) (h : piece s = none) (hl : s.length ≤ 100000) :
    Calls Tryd.prog 40 #[.string (ba s)] V (GivesV (.tuple #[.string ⟨#[]⟩, .string ⟨#[]⟩, .bool false]) V) := by
  cases s with
  | nil =>
    have e1 : ba ([] : List UInt8) = ⟨#[]⟩ := rfl
    rw [e1]
    clear h e1
    go_enter Tryd.func40, Tryd.ntmps40
    go_wp2
    go_ret3
    exact ⟨rfl, Below.refl _ _⟩
  | cons c r =>
    obtain ⟨S, hS⟩ : ∃ S, S = ba (c :: r) := ⟨_, rfl⟩
    have hsz : S.size = r.length + 1 := by rw [hS]; rfl
    have hbt : PlainAid.bt S 0 = (c.toNat : Int) := by rw [hS]; exact bt_head c r
    have hE := not_empty S (by omega)
    have hF := not_nil S (by omega)
    have hp : 0 < S.size := by omega
    have hp' : (0 : Int) < (S.size : Int) := by omega
    have hg := PlainAid.get_bt S
    rw [← hS]
    have hszi : (S.size : Int) = (r.length : Int) + 1 := by omega
    have hcb := c.toNat_lt
    have hcb0 : (0 : Int) ≤ (c.toNat : Int) := by omega
    have hcb1 : (c.toNat : Int) ≤ 255 := by omega
    have hsl : r.length ≤ 100000 := by simpa using Nat.le_of_succ_le hl
    have hle : ¬ c.toNat ≤ r.length := fun h' => by rw [piece, if_pos h'] at h; cases h
    have hd : decide ((S.size : Int) < 1 + (c.toNat : Int)) = true := decide_eq_true (by omega)
    have hd' : (S.size : Int) < 1 + (c.toNat : Int) := by omega
    clear h hS hszi hsz hl
    go_enter Tryd.func40, Tryd.ntmps40
    go_wp2
    go_ret3
    exact ⟨rfl, Below.refl _ _⟩
set_option maxRecDepth 100000 in
set_option maxHeartbeats 2000000 in
theorem rpiece_some (s p r : List UInt8) (V : World) (h : piece s = some (p, r)) (hl : s.length ≤ 100000) :
    Calls Tryd.prog 40 #[.string (ba s)] V (GivesV (.tuple #[.string (ba p), .string (ba r), .bool true]) V) := by
  cases s with
  | nil => cases h
  | cons c t =>
    rw [piece] at h
    split at h
    · rename_i hle
      simp only [Option.some.injEq, Prod.mk.injEq] at h
      obtain ⟨rfl, rfl⟩ := h
      obtain ⟨S, hS⟩ : ∃ S, S = ba (c :: t) := ⟨_, rfl⟩
      have hsz : S.size = t.length + 1 := by rw [hS]; rfl
      have hbt : PlainAid.bt S 0 = (c.toNat : Int) := by rw [hS]; exact bt_head c t
      have hE := not_empty S (by omega)
      have hF := not_nil S (by omega)
      have hp : 0 < S.size := by omega
      have hp' : (0 : Int) < (S.size : Int) := by omega
      have hg := PlainAid.get_bt S
      rw [← hS]
      have hszi : (S.size : Int) = (t.length : Int) + 1 := by omega
      have hcb := c.toNat_lt
      have hcb0 : (0 : Int) ≤ (c.toNat : Int) := by omega
      have hcb1 : (c.toNat : Int) ≤ 255 := by omega
      have hsl : t.length ≤ 100000 := by simpa using Nat.le_of_succ_le hl
      have hd : decide ((S.size : Int) < 1 + (c.toNat : Int)) = false := decide_eq_false (by omega)
      have hd' : ¬ (S.size : Int) < 1 + (c.toNat : Int) := by omega
      have hle' : 1 + (c.toNat : Int) ≤ (S.size : Int) := by omega
      have HX1 : Hid (S.extract 0 (1 + (c.toNat : Int)).toNat = ba (c :: t.take c.toNat)) := Lib.hid (by rw [hS, show (1 + (c.toNat : Int)).toNat = c.toNat + 1 by omega, ba_take]; rfl)
      have HX2 : Hid (S.extract (1 + (c.toNat : Int)).toNat S.size = ba (t.drop c.toNat)) := Lib.hid (by rw [hS, show (1 + (c.toNat : Int)).toNat = c.toNat + 1 by omega, ba_drop]; rfl)
      have hs1 : ∀ W, Sem.run Tryd.prog (Instr.slice 9 (.string S) none (some (.int .i64 (1 + (c.toNat : Int)))) none) W = .ok (.string (ba (c :: t.take c.toNat))) W := fun W => by
        have := run_slice_string_h (P := Tryd.prog) (w := W) (t := 9) (s := S) Tryd.underlying9 .i64 (1 + (c.toNat : Int)) (by omega) hle'
        rw [HX1.out] at this
        exact this
      have hs2 : ∀ W, Sem.run Tryd.prog (Instr.slice 9 (.string S) (some (.int .i64 (1 + (c.toNat : Int)))) none none) W = .ok (.string (ba (t.drop c.toNat))) W := fun W => by
        have := run_slice_string_l (P := Tryd.prog) (w := W) (t := 9) (s := S) Tryd.underlying9 .i64 (1 + (c.toNat : Int)) (by omega) hle'
        rw [HX2.out] at this
        exact this
      clear hS hszi hsz hl hle HX1 HX2
      go_enter Tryd.func40, Tryd.ntmps40
      go_wp2_with fail
      go_quiet (fail)
      go_wp2
      go_ret3
      exact ⟨rfl, below_drewN (Below.refl _ _) nq⟩
    · cases h
/-- The document's Back of a piece. -/
theorem rback_p (p : List UInt8) (w : World) (hp : p.length ≤ 300) : Calls Tryd.prog 41 #[.string (ba p)] w (GivesV (.tuple #[.int .u64 (if goodB p then uOf (ba p) else 0), .bool (goodB p)]) w) := by
  obtain ⟨h0, h1⟩ := uOf_bounds (ba p)
  exact refback_any (ba p) (kOf (uOf (ba p))) (goodB p) w hp (kOf_need h0 h1) (by
    rw [goodB]
    rw [ByteArray.toList_eq, ByteArray.toList_eq]
    rfl)
end Go.Proofs.YtdjhnjokmmbafaaDoor
