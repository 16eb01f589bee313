/-
  Chunks in memory; the small functions of package vec.
-/
import Derived.Test.YtbldjlkofaiikaaPackB
import Derived.Test.YtbldjlkofaiikaaSlotP
import Derived.Test.YtbldjlkofaiikaaVecM
namespace Go.Proofs.Ytbldjlkofaiikaa
open Go.ChangeShapes Go.WideShapes Go.ChangeAt Go.RowKit
set_option linter.unusedVariables false

/-- The part number j of a chunk, or 0. -/
def it (c : List Int) (j : Nat) : Int := c.getD j 0
/-- The five cells of a chunk. -/
def ccs (c : List Int) : List Value := [.int .i64 c.length, .int .u64 (it c 0), .int .u64 (it c 1), .int .u64 (it c 2), .int .u64 (it c 3)]
def cvs (l : List (List Int)) : List Value := l.flatMap ccs
/-- A chunk as a value. -/
def cval (c : List Int) : Value := .agg #[.int .i64 c.length, .int .u64 (it c 0), .int .u64 (it c 1), .int .u64 (it c 2), .int .u64 (it c 3)]
theorem ccs_length (c : List Int) : (ccs c).length = 5 := rfl
theorem cvs_length : ∀ l : List (List Int), (cvs l).length = l.length * 5
  | [] => rfl
  | c :: l => by
    have := cvs_length l
    simp only [cvs, List.flatMap_cons, List.length_append, ccs_length, List.length_cons] at this ⊢
    omega
theorem cvs_one (l : List (List Int)) : ∀ u ∈ cvs l, u.oneCell' = true := by
  intro u hu
  simp only [cvs, List.mem_flatMap] at hu
  obtain ⟨c, _, hc⟩ := hu
  simp only [ccs, List.mem_cons, List.not_mem_nil, or_false] at hc
  rcases hc with rfl | rfl | rfl | rfl | rfl <;> rfl
theorem cvs_at : ∀ (l : List (List Int)) (i j : Nat), i < l.length → j < 5 → (cvs l)[i * 5 + j]? = (ccs (l.getD i []))[j]?
  | [], i, j, h, _ => by simp at h
  | c :: l, 0, j, _, hj => by
    simp only [cvs, List.flatMap_cons, List.getD_cons_zero]
    rw [List.getElem?_append_left (by rw [ccs_length]; omega)]
    congr 1; omega
  | c :: l, i + 1, j, h, hj => by
    have := cvs_at l i j (by simpa using h) hj
    simp only [cvs, List.flatMap_cons, List.getD_cons_succ] at this ⊢
    rw [List.getElem?_append_right (by rw [ccs_length]; omega), ccs_length, ← this]
    congr 1; omega
theorem cvs_set : ∀ (l : List (List Int)) (i : Nat) (c : List Int), i < l.length →
    (((((cvs l).set (i * 5) (.int .i64 c.length)).set (i * 5 + 1) (.int .u64 (it c 0))).set (i * 5 + 2) (.int .u64 (it c 1))).set (i * 5 + 3) (.int .u64 (it c 2))).set (i * 5 + 4) (.int .u64 (it c 3)) = cvs (l.set i c)
  | [], i, c, h => by simp at h
  | d :: l, 0, c, _ => by simp [cvs, ccs]
  | d :: l, i + 1, c, h => by
    have := cvs_set l i c (by simpa using h)
    simp only [cvs, List.flatMap_cons, List.set_cons_succ, ccs, List.cons_append, List.nil_append] at this ⊢
    rw [← this]
    simp [show (i + 1) * 5 = i * 5 + 1 + 1 + 1 + 1 + 1 by omega, show i * 5 + 5 + 1 = i * 5 + 1 + 1 + 1 + 1 + 1 + 1 by omega, show i * 5 + 5 + 2 = i * 5 + 2 + 1 + 1 + 1 + 1 + 1 by omega, show i * 5 + 5 + 3 = i * 5 + 3 + 1 + 1 + 1 + 1 + 1 by omega, show i * 5 + 5 + 4 = i * 5 + 4 + 1 + 1 + 1 + 1 + 1 by omega, List.set_cons_succ]

/-! ### levels -/
theorem lvs_bits : ∀ n : Nat, n < 257 → 2 ≤ n → (Lib.bitLen (n - 1) + 1) / 2 = lvs n := by decide +kernel
set_option maxHeartbeats 400000 in
theorem plevels_in (n : Nat) (w : World) (h : 1 ≤ n) (h1 : n ≤ 256) :
    Calls Try.prog 84 #[.int .i64 n] w fun e w' => e = .returned (.int .i64 (if n = 1 then 0 else (lvs n : Int))) ∧ w = w' := by
  by_cases h2 : n = 1
  · subst h2
    go_enter Try.func84, Try.ntmps84
    go_wp2
    go_ret
    exact ⟨rfl, rfl⟩
  · rw [if_neg h2]
    have e := lvs_bits n (by omega) (by omega)
    have hb : Lib.bitLen (n - 1) ≤ 64 := Lib.bitLen_le (n - 1) 64 (by decide) (by omega)
    have L := fun w => len_any ((n : Int) - 1) w (by omega) (by omega)
    rw [show ((n : Int) - 1).toNat = n - 1 by omega] at L
    generalize Lib.bitLen (n - 1) = l at *
    have HL := Lib.hid L
    have HE := Lib.hid e
    clear L e
    have h3 : ¬ (n : Int) < 2 := by omega
    go_enter Try.func84, Try.ntmps84
    go_wp2_with (go_at_call 92; refine (HL.out _).mono ?_; rintro e w' ⟨rfl, rfl⟩)
    go_ret
    exact ⟨ret_int (by have := HE.out; omega), rfl⟩
theorem lvs_le (n : Nat) : lvs n ≤ 4 := by unfold lvs; (repeat' split) <;> omega
theorem lvs_pos {n : Nat} (h : 0 < n) : 1 ≤ lvs n := by unfold lvs; (repeat' split) <;> omega
set_option maxHeartbeats 400000 in
theorem levels_any (n : Nat) (w : World) (h1 : n ≤ 256) :
    Calls Try.prog 57 #[.int .i64 n] w fun e w' => e = .returned (.int .i64 (lvs n)) ∧ w = w' := by
  by_cases h : n = 0
  · subst h
    go_enter Try.func57, Try.ntmps57
    go_wp2
    go_ret
    exact ⟨rfl, rfl⟩
  · have L := fun w => plevels_in n w (by omega) h1
    have e : max 1 (if n = 1 then 0 else (lvs n : Int)) = lvs n := by
      by_cases h2 : n = 1
      · subst h2; rfl
      · rw [if_neg h2]
        have := lvs_pos (n := n) (by omega)
        omega
    generalize (if n = 1 then 0 else (lvs n : Int)) = l at *
    have HL := Lib.hid L
    have HE := Lib.hid e
    clear L e
    have h3 : ¬ (n : Int) ≤ 0 := by omega
    go_enter Try.func57, Try.ntmps57
    go_wp2_with (go_at_call 84; refine (HL.out _).mono ?_; rintro e w' ⟨rfl, rfl⟩)
    go_ret
    exact ⟨ret_int (by have := HE.out; omega), rfl⟩
end Go.Proofs.Ytbldjlkofaiikaa
