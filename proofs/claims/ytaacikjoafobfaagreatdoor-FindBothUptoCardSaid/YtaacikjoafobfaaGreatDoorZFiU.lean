/-
  What a bound on the bulk gives; the law FindBoth, of what came in.
-/
import Derived.Test.YtaacikjoafobfaaGreatDoorRows
import Derived.Test.YtaacikjoafobfaaGreatDoorZFiLc
namespace Go.Proofs.YtaacikjoafobfaaGreatDoor.Fi
open Go.ChangeShapes Go.WideShapes Go.ChangeAt Go.RowKit
open Sx (Tr Ms Mr TR MR XR tV r1)
set_option linter.unusedVariables false

theorem bulk_pos {H : Type} (d : DataW H) : 1 ≤ Rows.uptoBulk d := by
  cases d with
  | lit l => cases l <;> simp [Rows.uptoBulk]
  | nil => simp [Rows.uptoBulk]
  | ptr d => simp [Rows.uptoBulk]
  | slice elems spare => simp [Rows.uptoBulk]
  | agg parts => simp [Rows.uptoBulk]
  | iface t d => simp [Rows.uptoBulk]
  | map entries => simp [Rows.uptoBulk]
  | held h => simp [Rows.uptoBulk]
theorem bulk_len {H : Type} (l : List (DataW H)) : l.length ≤ Rows.uptoBulkAll l := by
  induction l with
  | nil => exact Nat.le_refl _
  | cons x r ih =>
    have := bulk_pos x
    simp only [Rows.uptoBulkAll, List.length_cons]
    omega
set_option maxRecDepth 100000 in
/-- A selector that came in has at most as many rows as its bulk; the nil one has no room. -/
theorem sel_bulk {H : Type} {enc : TypeId × Value → H} {W : World} {A : Option Addr} {n c : Nat} {d : DataW H} {ps : List MemPlace} (h : DataW.Trod enc Tryz.prog W 0 (fun _ => true) true 24 (.slice A n c) d ps) :
    n ≤ Rows.uptoBulk d ∧ (A = none → c = 0) := by
  obtain ⟨fuel, hf⟩ := h
  rcases Deep.open_slice Tryz.underlying24 hf with ⟨hcs, hx⟩ | ⟨a, len, cap, m, fu, D, Pl, hcs, hb, hl, hm, hmm, hx, hel⟩
  · simp [Value.cells] at hcs
    obtain ⟨rfl, rfl, rfl⟩ := hcs
    exact ⟨Nat.zero_le _, fun _ => rfl⟩
  · simp [Value.cells] at hcs
    obtain ⟨rfl, rfl, rfl⟩ := hcs
    simp only [Prod.mk.injEq] at hx
    obtain ⟨rfl, rfl⟩ := hx
    have := bulk_len ((List.range n).map D)
    rw [List.length_map, List.length_range] at this
    refine ⟨?_, fun h => by cases h⟩
    simp only [Rows.uptoBulk]
    omega
set_option maxRecDepth 100000 in
/-- The law, of what came in. -/
theorem both_true {H : Type} {enc : TypeId × Value → H} {W : World} {base : Nat} {v0 : Value} {d0 : DataW H} {p0 : List MemPlace} {v1 : Value} {d1 : DataW H} {p1 : List MemPlace} {v2 : Value} {d2 : DataW H} {p2 : List MemPlace} {v3 : Value} {d3 : DataW H} {p3 : List MemPlace} (hk : Rows.uptoSmall H [d0, d1, d2, d3] = true) (hK : Ops.KT W) (o0 : Value.okWide Tryz.prog W .any base 22 v0) (o1 : Value.okWide Tryz.prog W .any base 24 v1) (o2 : Value.okWide Tryz.prog W .any base 24 v2) (o3 : Value.okWide Tryz.prog W .any base 5 v3)
    (h0 : DataW.Trod enc Tryz.prog W 0 (fun _ => true) true 22 v0 d0 p0) (h1 : DataW.Trod enc Tryz.prog W 0 (fun _ => true) true 24 v1 d1 p1) (h2 : DataW.Trod enc Tryz.prog W 0 (fun _ => true) true 24 v2 d2 p2) (h3 : DataW.Trod enc Tryz.prog W 0 (fun _ => true) true 5 v3 d3 p3)
    (l0 : ∀ x ∈ p0, x.block < W.heap.size) (l1 : ∀ x ∈ p1, x.block < W.heap.size) (l2 : ∀ x ∈ p2, x.block < W.heap.size) (l3 : ∀ x ∈ p3, x.block < W.heap.size) :
    Calls Tryz.prog 5 #[v0, v1, v2, v3] W fun e W' => e = .returned (.bool true) ∧ Below W.heap.size W W' := by
  obtain ⟨A, cap, l, rfl, e1, e2, hL, -⟩ := Ops.ol_open o0 h0 l0
  obtain ⟨P, pc, a, rfl, f1, f2, hP, hPf⟩ := Sx.So.sel_open o1 h1 l1
  obtain ⟨Q, qc, b, rfl, g1, g2, hQ, hQf⟩ := Sx.So.sel_open o2 h2 l2
  obtain ⟨top, rfl, rfl, rfl, w0⟩ := open_int Tryz.underlying5 o3 h3
  obtain ⟨u0, u1⟩ := u8_wfc w0
  have b1 := sel_bulk h1
  have b2 := sel_bulk h2
  have hs : Rows.uptoBulkAll [d0, d1, d2, .lit (.int .u8 top)] ≤ 1048576 := by simpa [Rows.uptoSmall] using hk
  simp only [Rows.uptoBulkAll] at hs
  exact both_law A l cap P a pc Q b qc top u0 u1 W hL (Nat.le_trans e1 e2) ⟨hP, hPf, f1, by omega, b1.2⟩ ⟨hQ, hQf, g1, by omega, b2.2⟩ hK
end Go.Proofs.YtaacikjoafobfaaGreatDoor.Fi
