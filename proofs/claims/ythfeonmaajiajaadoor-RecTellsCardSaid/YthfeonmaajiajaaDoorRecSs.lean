/-
  Parts of slices of texts and of words.
-/
import Derived.Test.YthfeonmaajiajaaDoorRecN
import Derived.Test.YthfeonmaajiajaaDoorRecJ
namespace Go.Proofs.YthfeonmaajiajaaDoor
open Go.ChangeShapes Go.WideShapes Go.ChangeAt Go.RowKit
open Rm
set_option linter.unusedVariables false
set_option linter.unusedSimpArgs false

theorem sizeOf_Str (W : World) : (sizeOf 9).run Tryd.prog W = .ok 1 W := by
  obtain ⟨i0, hi, _, hz1, _⟩ := info_parts info_S
  simp [sizeOf, typeInfo, hi, hz1]
/-- Where a part of a slice begins. -/
def subA (p : Option Addr) (c k : Nat) : Option Addr := if c = k then p else p.map (·.add k)
theorem subA_block {p : Option Addr} {c k : Nat} {a : Addr} (h : subA p c k = some a) : ∃ b, p = some b ∧ b.block = a.block := by
  unfold subA at h
  split at h
  · exact ⟨a, h, rfl⟩
  · obtain ⟨b, hb, rfl⟩ := Option.map_eq_some_iff.1 h
    exact ⟨b, hb, by unfold Addr.add; split <;> rfl⟩
theorem subA_lv {w : World} {p : Option Addr} {c k : Nat} {vs : List Value} (h : LV w p vs) (hc : vs.length ≤ c) : LV w (subA p c k) (vs.drop k) := fun h0 => by
  rw [List.length_drop] at h0
  obtain ⟨g, off, rfl, hg, hx⟩ := h (by omega)
  unfold subA
  rw [if_neg (by omega)]
  refine ⟨g, off + k, by simp [add_plain], hg, fun j u hu => ?_⟩
  have := hx (k + j) u (by rw [List.getElem?_drop] at hu; exact hu)
  rwa [show off + k + j = off + (k + j) by omega]
theorem LV.take {w : World} {p : Option Addr} {vs : List Value} (h : LV w p vs) (k : Nat) : LV w p (vs.take k) := fun h0 => by
  rw [List.length_take] at h0
  obtain ⟨g, off, rfl, hg, hx⟩ := h (by omega)
  exact ⟨g, off, rfl, hg, fun j u hu => hx j u (by rw [List.getElem?_take] at hu; split at hu; exact hu; cases hu)⟩
theorem run_loS (p : Option Addr) (n c m : Nat) (h1 : m ≤ n) (W : World) : Sem.run Tryd.prog (Instr.slice 22 (.slice p n c) (some (.int .i64 (m : Int))) none none) W = .ok (.slice (subA p c m) (n - m) (c - m)) W := by
  rw [run_slice_l (P := Tryd.prog) W 22 p n c Tryd.underlying22 .i64 (m : Int) (by omega) (by omega)]
  rw [show ((sizeOf (Tryd.prog.elem 22)).run Tryd.prog W) = .ok 1 W from sizeOf_Str W]
  simp only [Result.andThen, sliced, Int.toNat_natCast, Nat.mul_one]
  rfl
theorem run_hiS (p : Option Addr) (n c m : Nat) (h1 : m ≤ c) (W : World) : Sem.run Tryd.prog (Instr.slice 22 (.slice p n c) none (some (.int .i64 (m : Int))) none) W = .ok (.slice (subA p c 0) m c) W := by
  rw [run_slice_h (P := Tryd.prog) W 22 p n c Tryd.underlying22 .i64 (m : Int) (by omega) (by omega)]
  rw [show ((sizeOf (Tryd.prog.elem 22)).run Tryd.prog W) = .ok 1 W from sizeOf_Str W]
  simp only [Result.andThen, sliced, Int.toNat_natCast, Nat.mul_one, Nat.sub_zero]
  rfl
theorem run_loG (p : Option Addr) (n c m : Nat) (h1 : m ≤ n) (W : World) : Sem.run Tryd.prog (Instr.slice 28 (.slice p n c) (some (.int .i64 (m : Int))) none none) W = .ok (.slice (subA p c m) (n - m) (c - m)) W := by
  rw [run_slice_l (P := Tryd.prog) W 28 p n c Tryd.underlying28 .i64 (m : Int) (by omega) (by omega)]
  rw [show ((sizeOf (Tryd.prog.elem 28)).run Tryd.prog W) = .ok 1 W from sizeOf_G W]
  simp only [Result.andThen, sliced, Int.toNat_natCast, Nat.mul_one]
  rfl
theorem run_hiG (p : Option Addr) (n c m : Nat) (h1 : m ≤ c) (W : World) : Sem.run Tryd.prog (Instr.slice 28 (.slice p n c) none (some (.int .i64 (m : Int))) none) W = .ok (.slice (subA p c 0) m c) W := by
  rw [run_slice_h (P := Tryd.prog) W 28 p n c Tryd.underlying28 .i64 (m : Int) (by omega) (by omega)]
  rw [show ((sizeOf (Tryd.prog.elem 28)).run Tryd.prog W) = .ok 1 W from sizeOf_G W]
  simp only [Result.andThen, sliced, Int.toNat_natCast, Nat.mul_one, Nat.sub_zero]
  rfl
/-- The first m texts, and those behind them. -/
theorem parts_S (p : Option Addr) (n c m : Nat) (l : List Wd) (hl : l.length = n) (h1 : m ≤ n) (h2 : n ≤ c) : ∃ (p1 p2 : Option Addr) (c1 m2 c2 : Nat),
    (∀ W, Sem.run Tryd.prog (Instr.slice 22 (.slice p n c) none (some (.int .i64 (m : Int))) none) W = .ok (.slice p1 m c1) W) ∧
    (∀ W, Sem.run Tryd.prog (Instr.slice 22 (.slice p n c) (some (.int .i64 (m : Int))) none none) W = .ok (.slice p2 m2 c2) W) ∧
    (∀ W, LV W p (svs l) → LV W p1 (svs (l.take m)) ∧ LV W p2 (svs (l.drop m))) ∧ (l.take m).length = m ∧ (l.drop m).length = m2 := by
  refine ⟨subA p c 0, subA p c m, c, n - m, c - m, run_hiS p n c m (by omega), run_loS p n c m h1, fun W h => ⟨?_, ?_⟩, by rw [List.length_take]; omega, by rw [List.length_drop, hl]⟩
  · have e : svs (l.take m) = (svs l).take m := by simp [svs]
    have := subA_lv (c := c) (k := 0) h (by rw [svs_length]; omega)
    rw [List.drop_zero] at this
    rw [e]
    exact this.take m
  · have e : svs (l.drop m) = (svs l).drop m := by simp [svs]
    rw [e]
    exact subA_lv h (by rw [svs_length]; omega)
end Go.Proofs.YthfeonmaajiajaaDoor
