/-
  What Bytes comes to: a byte of how many, and the bytes, the lowest first; the memory grows only.
-/
import Derived.Test.YtdjhnjokmmbafaaDoorPackA
import Derived.Test.YtdjhnjokmmbafaaDoorPackB
import Derived.Laws.BytesArg
namespace Go.Proofs.YtdjhnjokmmbafaaDoor
open Go.ChangeShapes Go.WideShapes Go.ChangeAt Go.RowKit
set_option linter.unusedVariables false

theorem gtrans {a b c : World} (h1 : Grown a b) (h2 : Grown b c) : Grown a c :=
  ⟨World.keptBut_trans h1.1 h2.1, fun x => (h2.2.1 x).trans (h1.2.1 x), Nat.le_trans h1.2.2 h2.2.2⟩
theorem getD_of_lt {α : Type} : ∀ (l : List α) (i : Nat) (d : α) (h : i < l.length), l[i]? = some (l.getD i d)
  | [], i, d, h => by simp at h
  | x :: l, 0, d, h => by simp
  | x :: l, i + 1, d, h => by simpa using getD_of_lt l i d (by simpa using h)
theorem conv_run (w : World) (C : Array Value) (xs : List Int) (rest : List Value) (k : Nat) (hC : C = (xs.map (Value.int .u8) ++ rest).toArray) (hk : xs.length = k) (cap : Nat) :
    Sem.run Tryd.prog (convert 52 9 (.slice (some ⟨w.heap.size, 0, none⟩) k cap)) (w.alloc (Obj.cells C 77)) = .ok (.string (strOfNums xs)) (w.alloc (Obj.cells C 77)) := by
  subst hk
  refine run_convert_bytes_arg _ 52 5 Tryd.underlying52 Tryd.underlying5 _ _ _ _ xs rfl ?_ _ Tryd.underlying9
  intro i hi
  rw [World.cell?_alloc_mark, hC, Nat.zero_add, List.getElem?_toArray, List.getElem?_append_left (by simpa using hi), List.getElem?_map, getD_of_lt xs i 0 hi]
  rfl

theorem len_in (x : Int) (k m : Nat) (hm : 2 ^ k = m) (hk : k ≤ 56) (h0 : 0 ≤ x) (hlo : 1 ≤ x / (m : Int)) (hhi : x / (m : Int) ≤ 255) (h64 : x < 18446744073709551616) :
    (k : Int) + 1 ≤ (Lib.bitLen x.toNat : Int) ∧ (Lib.bitLen x.toNat : Int) ≤ k + 8 := by
  have hp : 0 < m := by rw [← hm]; exact Nat.pow_pos (by decide)
  have hx : (m : Int) ≤ x := by
    have := Int.mul_le_of_le_ediv (a := 1) (b := x) (c := (m : Int)) (by omega) hlo
    omega
  have s := len_shift x _ k m hm h0 (Or.inr hx) h64 rfl
  have l := Lib.bitLen_le8' (x / (m : Int)) (by omega) hhi
  have l1 : 1 ≤ Lib.bitLen (x / (m : Int)).toNat := by
    rw [Lib.bitLen_half _ (by omega) (by omega)]; omega
  omega

theorem len64_zero (w : World) : Calls Tryd.prog 46 #[.int .u64 0] w fun e w' => e = .returned (.int .i64 0) ∧ w = w' := len64_any 0 w (by decide) (by decide)
set_option maxHeartbeats 400000 in
theorem bytes0 (w : World) :
    Calls Tryd.prog 35 #[.int .u64 0] w fun e w' => e = .returned (.string (strOfNums [0])) ∧ Grown w w' ∧ Below w.heap.size w w' := by
  go_enter Tryd.func35, Tryd.ntmps35
  go_wp2_with (go_at_call 46; refine (len64_zero _).mono ?_; rintro e w' ⟨rfl, rfl⟩)
  rw [conv_run w #[.int .u8 0, .int .u8 0, .int .u8 0, .int .u8 0, .int .u8 0, .int .u8 0, .int .u8 0, .int .u8 0, .int .u8 0] [0] (List.replicate 8 (.int .u8 0)) 1 rfl rfl]
  go_wp2
  go_ret
  exact ⟨rfl, (Grown.refl _).alloc _ _, (Below.refl _ _).alloc (Nat.le_refl _) _⟩

set_option maxHeartbeats 400000 in
theorem bytes1 (u : Int) (w : World) (h0 : 1 ≤ u) (h1 : u ≤ 255) :
    Calls Tryd.prog 35 #[.int .u64 u] w fun e w' => e = .returned (.string (strOfNums [1, u])) ∧ Grown w w' ∧ Below w.heap.size w w' := by
  obtain ⟨hl1, hl2⟩ := len_in u 0 1 (by decide) (by decide) (by omega) (by omega) (by omega) (by omega)
  have L := len64_any u w (by omega) (by omega)
  generalize (Lib.bitLen u.toNat : Int) = l at *
  have hl : (l + 7) / 8 = 1 := by omega
  have HL := Lib.hid L
  clear L
  go_enter Tryd.func35, Tryd.ntmps35
  go_wp2_with (go_at_call 46; refine (HL.out).mono ?_; rintro e w' ⟨rfl, rfl⟩)
  rw [conv_run w #[.int .u8 1, .int .u8 u, .int .u8 0, .int .u8 0, .int .u8 0, .int .u8 0, .int .u8 0, .int .u8 0, .int .u8 0] [1, u] (List.replicate 7 (.int .u8 0)) 2 rfl rfl]
  go_wp2
  go_ret
  exact ⟨rfl, (Grown.refl _).alloc _ _, (Below.refl _ _).alloc (Nat.le_refl _) _⟩

set_option maxHeartbeats 400000 in
theorem bytes2 (u : Int) (w : World) (h0 : 256 ≤ u) (h1 : u ≤ 65535) :
    Calls Tryd.prog 35 #[.int .u64 u] w fun e w' => e = .returned (.string (strOfNums [2, u % 256, u / 256])) ∧ Grown w w' ∧ Below w.heap.size w w' := by
  obtain ⟨hl1, hl2⟩ := len_in u 8 256 (by decide) (by decide) (by omega) (by omega) (by omega) (by omega)
  have L := len64_any u w (by omega) (by omega)
  generalize (Lib.bitLen u.toNat : Int) = l at *
  have hl : (l + 7) / 8 = 2 := by omega
  have HL := Lib.hid L
  clear L
  go_enter Tryd.func35, Tryd.ntmps35
  go_wp2_with (go_at_call 46; refine (HL.out).mono ?_; rintro e w' ⟨rfl, rfl⟩)
  rw [conv_run w #[.int .u8 2, .int .u8 (u % 256), .int .u8 (u / 256), .int .u8 0, .int .u8 0, .int .u8 0, .int .u8 0, .int .u8 0, .int .u8 0] [2, u % 256, u / 256] (List.replicate 6 (.int .u8 0)) 3 rfl rfl]
  go_wp2
  go_ret
  exact ⟨rfl, (Grown.refl _).alloc _ _, (Below.refl _ _).alloc (Nat.le_refl _) _⟩

set_option maxHeartbeats 400000 in
theorem bytes3 (u : Int) (w : World) (h0 : 65536 ≤ u) (h1 : u ≤ 16777215) :
    Calls Tryd.prog 35 #[.int .u64 u] w fun e w' => e = .returned (.string (strOfNums [3, u % 256, u / 256 % 256, u / 65536])) ∧ Grown w w' ∧ Below w.heap.size w w' := by
  obtain ⟨hl1, hl2⟩ := len_in u 16 65536 (by decide) (by decide) (by omega) (by omega) (by omega) (by omega)
  have L := len64_any u w (by omega) (by omega)
  generalize (Lib.bitLen u.toNat : Int) = l at *
  have hl : (l + 7) / 8 = 3 := by omega
  have HL := Lib.hid L
  clear L
  go_enter Tryd.func35, Tryd.ntmps35
  go_wp2_with (go_at_call 46; refine (HL.out).mono ?_; rintro e w' ⟨rfl, rfl⟩)
  rw [conv_run w #[.int .u8 3, .int .u8 (u % 256), .int .u8 (u / 256 % 256), .int .u8 (u / 65536), .int .u8 0, .int .u8 0, .int .u8 0, .int .u8 0, .int .u8 0] [3, u % 256, u / 256 % 256, u / 65536] (List.replicate 5 (.int .u8 0)) 4 rfl rfl]
  go_wp2
  go_ret
  exact ⟨rfl, (Grown.refl _).alloc _ _, (Below.refl _ _).alloc (Nat.le_refl _) _⟩

set_option maxHeartbeats 400000 in
theorem bytes4 (u : Int) (w : World) (h0 : 16777216 ≤ u) (h1 : u ≤ 4294967295) :
    Calls Tryd.prog 35 #[.int .u64 u] w fun e w' => e = .returned (.string (strOfNums [4, u % 256, u / 256 % 256, u / 65536 % 256, u / 16777216])) ∧ Grown w w' ∧ Below w.heap.size w w' := by
  obtain ⟨hl1, hl2⟩ := len_in u 24 16777216 (by decide) (by decide) (by omega) (by omega) (by omega) (by omega)
  have L := len64_any u w (by omega) (by omega)
  generalize (Lib.bitLen u.toNat : Int) = l at *
  have hl : (l + 7) / 8 = 4 := by omega
  have HL := Lib.hid L
  clear L
  go_enter Tryd.func35, Tryd.ntmps35
  go_wp2_with (go_at_call 46; refine (HL.out).mono ?_; rintro e w' ⟨rfl, rfl⟩)
  rw [conv_run w #[.int .u8 4, .int .u8 (u % 256), .int .u8 (u / 256 % 256), .int .u8 (u / 65536 % 256), .int .u8 (u / 16777216), .int .u8 0, .int .u8 0, .int .u8 0, .int .u8 0] [4, u % 256, u / 256 % 256, u / 65536 % 256, u / 16777216] (List.replicate 4 (.int .u8 0)) 5 rfl rfl]
  go_wp2
  go_ret
  exact ⟨rfl, (Grown.refl _).alloc _ _, (Below.refl _ _).alloc (Nat.le_refl _) _⟩

set_option maxHeartbeats 400000 in
theorem bytes5 (u : Int) (w : World) (h0 : 4294967296 ≤ u) (h1 : u ≤ 1099511627775) :
    Calls Tryd.prog 35 #[.int .u64 u] w fun e w' => e = .returned (.string (strOfNums [5, u % 256, u / 256 % 256, u / 65536 % 256, u / 16777216 % 256, u / 4294967296])) ∧ Grown w w' ∧ Below w.heap.size w w' := by
  obtain ⟨hl1, hl2⟩ := len_in u 32 4294967296 (by decide) (by decide) (by omega) (by omega) (by omega) (by omega)
  have L := len64_any u w (by omega) (by omega)
  generalize (Lib.bitLen u.toNat : Int) = l at *
  have hl : (l + 7) / 8 = 5 := by omega
  have HL := Lib.hid L
  clear L
  go_enter Tryd.func35, Tryd.ntmps35
  go_wp2_with (go_at_call 46; refine (HL.out).mono ?_; rintro e w' ⟨rfl, rfl⟩)
  rw [conv_run w #[.int .u8 5, .int .u8 (u % 256), .int .u8 (u / 256 % 256), .int .u8 (u / 65536 % 256), .int .u8 (u / 16777216 % 256), .int .u8 (u / 4294967296), .int .u8 0, .int .u8 0, .int .u8 0] [5, u % 256, u / 256 % 256, u / 65536 % 256, u / 16777216 % 256, u / 4294967296] (List.replicate 3 (.int .u8 0)) 6 rfl rfl]
  go_wp2
  go_ret
  exact ⟨rfl, (Grown.refl _).alloc _ _, (Below.refl _ _).alloc (Nat.le_refl _) _⟩

set_option maxHeartbeats 400000 in
theorem bytes6 (u : Int) (w : World) (h0 : 1099511627776 ≤ u) (h1 : u ≤ 281474976710655) :
    Calls Tryd.prog 35 #[.int .u64 u] w fun e w' => e = .returned (.string (strOfNums [6, u % 256, u / 256 % 256, u / 65536 % 256, u / 16777216 % 256, u / 4294967296 % 256, u / 1099511627776])) ∧ Grown w w' ∧ Below w.heap.size w w' := by
  obtain ⟨hl1, hl2⟩ := len_in u 40 1099511627776 (by decide) (by decide) (by omega) (by omega) (by omega) (by omega)
  have L := len64_any u w (by omega) (by omega)
  generalize (Lib.bitLen u.toNat : Int) = l at *
  have hl : (l + 7) / 8 = 6 := by omega
  have HL := Lib.hid L
  clear L
  go_enter Tryd.func35, Tryd.ntmps35
  go_wp2_with (go_at_call 46; refine (HL.out).mono ?_; rintro e w' ⟨rfl, rfl⟩)
  rw [conv_run w #[.int .u8 6, .int .u8 (u % 256), .int .u8 (u / 256 % 256), .int .u8 (u / 65536 % 256), .int .u8 (u / 16777216 % 256), .int .u8 (u / 4294967296 % 256), .int .u8 (u / 1099511627776), .int .u8 0, .int .u8 0] [6, u % 256, u / 256 % 256, u / 65536 % 256, u / 16777216 % 256, u / 4294967296 % 256, u / 1099511627776] (List.replicate 2 (.int .u8 0)) 7 rfl rfl]
  go_wp2
  go_ret
  exact ⟨rfl, (Grown.refl _).alloc _ _, (Below.refl _ _).alloc (Nat.le_refl _) _⟩

set_option maxHeartbeats 400000 in
theorem bytes7 (u : Int) (w : World) (h0 : 281474976710656 ≤ u) (h1 : u ≤ 72057594037927935) :
    Calls Tryd.prog 35 #[.int .u64 u] w fun e w' => e = .returned (.string (strOfNums [7, u % 256, u / 256 % 256, u / 65536 % 256, u / 16777216 % 256, u / 4294967296 % 256, u / 1099511627776 % 256, u / 281474976710656])) ∧ Grown w w' ∧ Below w.heap.size w w' := by
  obtain ⟨hl1, hl2⟩ := len_in u 48 281474976710656 (by decide) (by decide) (by omega) (by omega) (by omega) (by omega)
  have L := len64_any u w (by omega) (by omega)
  generalize (Lib.bitLen u.toNat : Int) = l at *
  have hl : (l + 7) / 8 = 7 := by omega
  have HL := Lib.hid L
  clear L
  go_enter Tryd.func35, Tryd.ntmps35
  go_wp2_with (go_at_call 46; refine (HL.out).mono ?_; rintro e w' ⟨rfl, rfl⟩)
  rw [conv_run w #[.int .u8 7, .int .u8 (u % 256), .int .u8 (u / 256 % 256), .int .u8 (u / 65536 % 256), .int .u8 (u / 16777216 % 256), .int .u8 (u / 4294967296 % 256), .int .u8 (u / 1099511627776 % 256), .int .u8 (u / 281474976710656), .int .u8 0] [7, u % 256, u / 256 % 256, u / 65536 % 256, u / 16777216 % 256, u / 4294967296 % 256, u / 1099511627776 % 256, u / 281474976710656] (List.replicate 1 (.int .u8 0)) 8 rfl rfl]
  go_wp2
  go_ret
  exact ⟨rfl, (Grown.refl _).alloc _ _, (Below.refl _ _).alloc (Nat.le_refl _) _⟩

set_option maxHeartbeats 400000 in
theorem bytes8 (u : Int) (w : World) (h0 : 72057594037927936 ≤ u) (h1 : u ≤ 18446744073709551615) :
    Calls Tryd.prog 35 #[.int .u64 u] w fun e w' => e = .returned (.string (strOfNums [8, u % 256, u / 256 % 256, u / 65536 % 256, u / 16777216 % 256, u / 4294967296 % 256, u / 1099511627776 % 256, u / 281474976710656 % 256, u / 72057594037927936])) ∧ Grown w w' ∧ Below w.heap.size w w' := by
  obtain ⟨hl1, hl2⟩ := len_in u 56 72057594037927936 (by decide) (by decide) (by omega) (by omega) (by omega) (by omega)
  have L := len64_any u w (by omega) (by omega)
  generalize (Lib.bitLen u.toNat : Int) = l at *
  have hl : (l + 7) / 8 = 8 := by omega
  have HL := Lib.hid L
  clear L
  go_enter Tryd.func35, Tryd.ntmps35
  go_wp2_with (go_at_call 46; refine (HL.out).mono ?_; rintro e w' ⟨rfl, rfl⟩)
  rw [conv_run w #[.int .u8 8, .int .u8 (u % 256), .int .u8 (u / 256 % 256), .int .u8 (u / 65536 % 256), .int .u8 (u / 16777216 % 256), .int .u8 (u / 4294967296 % 256), .int .u8 (u / 1099511627776 % 256), .int .u8 (u / 281474976710656 % 256), .int .u8 (u / 72057594037927936)] [8, u % 256, u / 256 % 256, u / 65536 % 256, u / 16777216 % 256, u / 4294967296 % 256, u / 1099511627776 % 256, u / 281474976710656 % 256, u / 72057594037927936] (List.replicate 0 (.int .u8 0)) 9 rfl rfl]
  go_wp2
  go_ret
  exact ⟨rfl, (Grown.refl _).alloc _ _, (Below.refl _ _).alloc (Nat.le_refl _) _⟩
end Go.Proofs.YtdjhnjokmmbafaaDoor
