/-
  Parts shifted into a word, and back: along, join, split.
-/
import Derived.Test.YthfeonmaajiajaaDoorRecA
import Derived.Deep.CutRange
import Derived.Deep.DeepCutAuto
import Derived.StillTailTactics
namespace Go.Proofs.YthfeonmaajiajaaDoor
open Go.ChangeShapes Go.WideShapes Go.ChangeAt Go.RowKit
open Rm
set_option linter.unusedVariables false
set_option linter.unusedSimpArgs false

/-- A word stands at block k. -/
structure At1 (w : World) (k : Nat) (v : Value) : Prop where
  cell : w.cell? ⟨k, 0, none⟩ = some v
  fro : w.frozen? ⟨k, 0, none⟩ = false

theorem At1.below {w w' : World} {k B : Nat} {v : Value} (h : At1 w k v) (hb : Below B w w') (hk : k < B) : At1 w' k v :=
  ⟨bcell hb hk h.cell, (hb.frozen (p := ⟨k, 0, none⟩) hk).trans h.fro⟩
theorem At1.of_block {w : World} {k : Nat} {v : Value} {t : TypeId} (h : w.heap[k]? = some (.cells #[v] t (0, 0))) : At1 w k v := ⟨block_cell h rfl, block_frozen h 0⟩
theorem At1.set {w : World} {k : Nat} {v : Value} (h : At1 w k v) (u : Value) : At1 (w.setCell ⟨k, 0, none⟩ u) k u :=
  ⟨World.cell?_setCell_same' _ _ _ (by rw [h.cell]; rfl), by rw [World.frozen?_setCell]; exact h.fro⟩
theorem At1.drew {w : World} {k : Nat} {v : Value} (h : At1 w k v) : At1 w.drew k v := ⟨h.cell, h.fro⟩

set_option maxHeartbeats 1000000 in
theorem join1 (k kp i t : Nat) (x p : Int) (w : World) (hx : At1 w k (.int .u64 x)) (hp : w.cell? ⟨kp, i, none⟩ = some (.int .i64 p)) (hi : i < 8) (ht : t ≤ 64)
    (x0 : 0 ≤ x) (x1 : x < 2 ^ t) (p0 : 0 ≤ p) (p1 : (p + 1) * 2 ^ t ≤ 18446744073709551616) :
    Calls Tryd.prog 41 #[.int .i64 i, .int .i64 t, .pointer (some ⟨k, 0, none⟩), .pointer (some ⟨kp, 0, none⟩)] w fun e w' => e = .returned (.tuple #[]) ∧ At1 w' k (.int .u64 (x + p * 2 ^ t)) ∧ Below k w w' := by
  have hor := or_part t x p ht x0 x1 p0 p1
  have hpu : p ≤ 18446744073709551615 := by
    have hq : (0 : Int) < 2 ^ t := Int.pow_pos (by decide)
    have h1 : p + 1 ≤ (p + 1) * 2 ^ t := by
      have := Int.mul_le_mul_of_nonneg_left (show (1 : Int) ≤ 2 ^ t by omega) (show 0 ≤ p + 1 by omega)
      rwa [Int.mul_one] at this
    omega
  have HX := Lib.hid hx
  obtain ⟨hc, hf⟩ := hx
  have i0 : (0 : Int) ≤ (i : Int) := by omega
  have i1 : (i : Int) < 8 := by omega
  obtain ⟨R, hR⟩ : ∃ R, R = x + p * 2 ^ t := ⟨_, rfl⟩
  rw [← hR] at hor ⊢
  clear hR x1 p1
  go_enter Tryd.func41, Tryd.ntmps41
  go_wp2_with fail
  go_region
  go_wp2
  go_end0
  exact ⟨rfl, (HX.out.set _).drew, bdrewN (((Below.refl k w).setCell (p := ⟨k, 0, none⟩) (Nat.le_refl _) _)) 1⟩

theorem under_P : Tryd.prog.underlying 63 = some (.array 8 3) := by kernel_rfl
theorem info_P : (Tryd.prog.info? 63).map (fun i => (i.zero, i.size, i.bytes)) = some (some (.agg #[.int .i64 0, .int .i64 0, .int .i64 0, .int .i64 0, .int .i64 0, .int .i64 0, .int .i64 0, .int .i64 0]), 8, 64) := by kernel_rfl
theorem sizeOf_I (W : World) : (sizeOf 3).run Tryd.prog W = .ok 1 W := by
  obtain ⟨i0, hi, _, hz1, _⟩ := info_parts info_I
  simp [sizeOf, typeInfo, hi, hz1]
theorem one_I (W : World) : (isAgg 3).run Tryd.prog W = .ok false W := by
  have h : Tryd.prog.underlying 3 = some (.int .i64) := Tryd.underlying3
  simp [isAgg, run_underlying h]
theorem part_I (vs : Array Value) (k : Nat) (v : Value) (hv : vs[k]? = some v) (W : World) : (part 3 vs k).run Tryd.prog W = .ok v W := by
  simp [part, isAgg, run_underlying (show Tryd.prog.underlying 3 = some (.int .i64) from Tryd.underlying3), hv]
theorem run_index8 (p : Nat → Int) (k : Nat) (hk : k < 8) (W : World) : (Instr.index 63 (.agg (pArr p)) (.int .i64 (k : Int))).run Tryd.prog W = .ok (.int .i64 (p k)) W := by
  have h := part_I (pArr p) (k * 1) (.int .i64 (p k)) (by rw [Nat.mul_one]; exact pArr_at p hk) W
  have h0 : (0 : Int) ≤ (k : Int) ∧ (k : Int) < ((8 : Nat) : Int) := by omega
  simp only [Instr.index, asIntOf, Sem.run_bind, Sem.run_pure, Result.andThen_ok, run_underlying under_P, if_pos h0, sizeOf_I, Int.toNat_natCast, h]

set_option maxHeartbeats 2000000 in
set_option maxRecDepth 100000 in
theorem along_join (b : Nat → Nat) (p : Nat → Int) (k kp : Nat) (w : World) (hS : S b 8 ≤ 64) (hb : ∀ i, i < 8 → b i ≤ 64) (hp : ∀ i, i < 8 → 0 ≤ p i ∧ p i < 2 ^ b i)
    (hx : At1 w k (.int .u64 0)) (hc : ∀ i, i < 8 → w.cell? ⟨kp, i, none⟩ = some (.int .i64 (p i))) (hk : kp < k) (hkw : k < w.heap.size) :
    Calls Tryd.prog 38 #[.agg (bArr b), .func (.func 41) #[] #[.pointer (some ⟨k, 0, none⟩), .pointer (some ⟨kp, 0, none⟩)]] w fun e w' => e = .returned (.tuple #[]) ∧ At1 w' k (.int .u64 (J b p 8)) ∧ Below k w w' := by
  have HX := Lib.hid hx
  have HC := Lib.hid hc
  have HP := Lib.hid hp
  have HBb := Lib.hid hb
  have HS := Lib.hid hS
  have HI := Lib.hid (fun (q : Nat) (W : World) (hq : q < 8) => run_index8 (fun i => (b i : Int)) q hq W)
  clear hx hc hp hb hS
  go_enter Tryd.func38, Tryd.ntmps38
  go_wp2
  go_loopw [4, 8] (fun a i wr => ∃ q : Nat, q ≤ 8 ∧ i = .int .i64 q ∧ a = .int .i64 (S b q : Nat) ∧ Hid (At1 wr k (.int .u64 (J b p q))) ∧ Hid (Below k w wr)) (fun _ i _ => 8 - (intOf i).toNat)
  case atStart => exact ⟨0, by omega, rfl, rfl, Lib.hid ⟨bcell (Below.refl (k + 1) w |>.alloc (by omega) _) (by omega) HX.out.cell, ((Below.refl (k + 1) w |>.alloc (by omega) _).frozen (p := ⟨k, 0, none⟩) (by show k < k + 1; omega)).trans HX.out.fro⟩, Lib.hid ((Below.refl k w).alloc (by omega) _)⟩
  case round =>
    obtain ⟨q, hq, rfl, rfl, HA, HB⟩ := hrel
    by_cases hlt : q < 8
    · have q0 : (0 : Int) ≤ (q : Int) := by omega
      have q1 : (q : Int) < 8 := by omega
      have hix : ∀ W, Sem.run Tryd.prog (Instr.index 63 (.agg (bArr b)) (.int .i64 (q : Int))) W = .ok (.int .i64 (b q : Nat)) W := fun W => HI.out q W hlt
      have hb8 := HBb.out q hlt
      have hs8 : S b q ≤ 64 := Nat.le_trans (S_mono b (by omega)) HS.out
      have hss : S b q + b q ≤ 64 := Nat.le_trans (S_mono b (show q + 1 ≤ 8 by omega)) HS.out
      have HJ : Hid (Calls Tryd.prog 41 #[.int .i64 q, .int .i64 (S b q : Nat), .pointer (some ⟨k, 0, none⟩), .pointer (some ⟨kp, 0, none⟩)] wr fun e w' => e = .returned (.tuple #[]) ∧ At1 w' k (.int .u64 (J b p q + p q * 2 ^ S b q)) ∧ Below k wr w') := Lib.hid (by
        obtain ⟨j0, j1⟩ := J_bound b p q (fun i hi => HP.out i (by omega))
        obtain ⟨p0, p1⟩ := HP.out q hlt
        exact join1 k kp q (S b q) (J b p q) (p q) wr HA.out (bcell HB.out hk (HC.out q hlt)) hlt hs8 j0 j1 p0 (part_fits b p hlt HS.out p1))
      have HS1 : Hid (S b (q + 1) = S b q + b q) := Lib.hid rfl
      have HJ1 : Hid (J b p (q + 1) = J b p q + p q * 2 ^ S b q) := Lib.hid rfl
      generalize S b q = s at *
      generalize b q = bq at *
      go_wp2_with fail
      refine HJ.out.mono ?_
      rintro e w1 ⟨rfl, h1, h2⟩
      have HA1 := Lib.hid h1
      have HB1 := Lib.hid (HB.out.trans h2)
      clear h1 h2
      go_wp2
      go_roundw
      case rel => exact ⟨q + 1, by omega, by go_num, by rw [HS1.out]; go_num, by rw [HJ1.out]; exact HA1, HB1⟩
      case measure => simp [intOf]; omega
    · obtain rfl : q = 8 := by omega
      go_wp2
      go_end0
      exact ⟨rfl, HA.out, HB.out⟩
end Go.Proofs.YthfeonmaajiajaaDoor
