/-
  The small case of the laws.
-/
import Derived.Test.YtkcfpglmlhoiaaaDoorFoAa
namespace Go.Proofs.YtkcfpglmlhoiaaaDoor
open Go.ChangeShapes Go.WideShapes Go.ChangeAt Go.RowKit
set_option linter.unusedVariables false
set_option linter.unusedSimpArgs false

/-- The small forest. -/
def shF (k : Nat) : List Mn := [⟨0, ⟨#[]⟩, ⟨#[]⟩, [], -1, [1], none, 0, some ⟨k, 0, none⟩, 1⟩, ⟨1, ⟨#[100, 105, 118]⟩, ⟨#[]⟩, [], 0, [2], none, 0, some ⟨k + 1, 0, none⟩, 1⟩, ⟨2, ⟨#[]⟩, ⟨#[120, 60]⟩, [], 1, [], none, 0, none, 0⟩]
theorem sh_may (k : Nat) : mayB (shF k) = true := by kernel_rfl
theorem sh_bd (k : Nat) : bdB (shF k) = true := by kernel_rfl
theorem sh_print (k : Nat) : printB (shF k) (shF k).length 0 = [60, 100, 105, 118, 62, 120, 38, 108, 116, 59, 60, 47, 100, 105, 118, 62] := by kernel_rfl
theorem sh_below (k : Nat) : belowB (shF k) 0 2 = true := by kernel_rfl
theorem sh_tops (k : Nat) : topsB (shF k) = [0] := by kernel_rfl
theorem new_same : sameF [newM] [newM] = true := by decide +kernel
theorem sh_fr {W : World} {k : Nat} (h0 : W.heap[k]? = some (.cells #[.int .i64 1] 3 (0, 0))) (h1 : W.heap[k + 1]? = some (.cells #[.int .i64 2] 3 (0, 0)))
    (h2 : W.heap[k + 2]? = some (.cells #[.int .i64 0, .string ⟨#[]⟩, .string ⟨#[]⟩, .slice none 0 0, .int .i64 (-1), .slice (some ⟨k, 0, none⟩) 1 1,
      .int .i64 1, .string ⟨#[100, 105, 118]⟩, .string ⟨#[]⟩, .slice none 0 0, .int .i64 0, .slice (some ⟨k + 1, 0, none⟩) 1 1,
      .int .i64 2, .string ⟨#[]⟩, .string ⟨#[120, 60]⟩, .slice none 0 0, .int .i64 1, .slice none 0 0] 34 (0, 0))) : FR W (some ⟨k + 2, 0, none⟩) (shF k) := by
  have x0 := block1 h0
  have x1 := block1 h1
  have l0 := lt_of_block h0
  have l1 := lt_of_block h1
  have c : ∀ j : Nat, W.cell? ⟨k + 2, j, none⟩ = (#[Value.int .i64 0, .string ⟨#[]⟩, .string ⟨#[]⟩, .slice none 0 0, .int .i64 (-1), .slice (some ⟨k, 0, none⟩) 1 1,
      .int .i64 1, .string ⟨#[100, 105, 118]⟩, .string ⟨#[]⟩, .slice none 0 0, .int .i64 0, .slice (some ⟨k + 1, 0, none⟩) 1 1,
      .int .i64 2, .string ⟨#[]⟩, .string ⟨#[120, 60]⟩, .slice none 0 0, .int .i64 1, .slice none 0 0])[j]? := fun j => by simp [World.cell?, h2]
  intro i m hm
  match i with
  | 0 =>
    have e := (show shF k = _ from rfl) ▸ hm
    obtain rfl := (Option.some.inj hm : _ = m)
    refine ⟨⟨by simp [I64], by simp [I64], by simp [I64], by simp, by simp⟩, k + 2, 0, rfl, lt_of_block h2, c 0, c 1, c 2, c 3, c 4, c 5, ?_, ?_⟩
    · intro j hj; exact absurd hj (by simp)
    · intro j hj
      obtain rfl : j = 0 := by simpa using hj
      exact ⟨k, 0, rfl, l0, x0⟩
  | 1 =>
    obtain rfl := (Option.some.inj hm : _ = m)
    refine ⟨⟨by simp [I64], by simp [I64], by simp [I64], by simp, by simp⟩, k + 2, 0, rfl, lt_of_block h2, c 6, c 7, c 8, c 9, c 10, c 11, ?_, ?_⟩
    · intro j hj; exact absurd hj (by simp)
    · intro j hj
      obtain rfl : j = 0 := by simpa using hj
      exact ⟨k + 1, 0, rfl, l1, x1⟩
  | 2 =>
    obtain rfl := (Option.some.inj hm : _ = m)
    refine ⟨⟨by simp [I64], by simp [I64], by simp [I64], by simp, by simp⟩, k + 2, 0, rfl, lt_of_block h2, c 12, c 13, c 14, c 15, c 16, c 17, ?_, ?_⟩
    · intro j hj; exact absurd hj (by simp)
    · intro j hj; exact absurd hj (by simp)
  | i + 3 => simp [shF] at hm
end Go.Proofs.YtkcfpglmlhoiaaaDoor
