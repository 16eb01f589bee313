/-
  A compound that came in, counted: it has no more tests than its bulk.
-/
import Derived.Test.YtaacikjoafobfaaGreatDoorRows
import Derived.Test.YtaacikjoafobfaaGreatDoorG36
namespace Go.Proofs.YtaacikjoafobfaaGreatDoor.Fi
open Go.ChangeShapes Go.WideShapes Go.ChangeAt Go.RowKit
open Sx (Tr Ms Mr TR MR XR tV r1 ls te stp rws)
open Sx.So
set_option linter.unusedVariables false
set_option linter.unusedSimpArgs false

theorem bulk_posM {H : Type} (d : DataW H) : 1 ≤ Rows.uptoBulk d := by
  cases d with
  | lit l => cases l <;> simp [Rows.uptoBulk]
  | nil => simp [Rows.uptoBulk]
  | ptr d => simp [Rows.uptoBulk]
  | slice elems spare => simp [Rows.uptoBulk]
  | agg parts => simp [Rows.uptoBulk]
  | iface t d => simp [Rows.uptoBulk]
  | map entries => simp [Rows.uptoBulk]
  | held h => simp [Rows.uptoBulk]
theorem bulk_lenM {H : Type} (l : List (DataW H)) : l.length ≤ Rows.uptoBulkAll l := by
  induction l with
  | nil => exact Nat.le_refl _
  | cons x r ih =>
    have := bulk_posM x
    simp only [Rows.uptoBulkAll, List.length_cons]
    omega
set_option maxRecDepth 100000 in
theorem tests_cellM {H : Type} {enc : TypeId × Value → H} {W : World} {n : Nat} {v : Value} {d : DataW H} {ps : List MemPlace} (hf : DataW.trod enc Tryz.prog W 0 (fun _ => true) true n 52 [v] = some (d, ps)) (hlt : ∀ x ∈ ps, x.block < W.heap.size) :
    ∃ (A : Option Addr) (cap : Nat) (T : List Tr), v = .slice A T.length cap ∧ T.length ≤ cap ∧ cap ≤ M63 ∧ TR W A T ∧ T.length + 1 ≤ Rows.uptoBulk d := by
  rcases Deep.open_slice Tryz.underlying52 hf with ⟨hcs, hx⟩ | ⟨a, len, cap, m, fu, D, Pl, hcs, hb, hl, hm, hmm, hx, hel⟩
  · cases hcs
    cases hx
    exact ⟨none, 0, [], rfl, by simp, by simp, fun i t hi => by simp at hi, by simp [Rows.uptoBulk]⟩
  · cases hcs
    simp only [Prod.mk.injEq] at hx
    obtain ⟨rfl, rfl⟩ := hx
    simp only [if_true] at hmm
    subst hmm
    rw [cells_Te] at hel hlt
    by_cases h0 : len = 0
    · subst h0
      exact ⟨some a, m, [], rfl, by simp, hm, fun i t hi => by simp at hi, by simp [Rows.uptoBulk]⟩
    obtain ⟨cs0, z1, -⟩ := hel 0 (by omega)
    have hspot := spot_of z1 (by omega)
    obtain ⟨b, off, spot⟩ := a
    have hs : spot = none := by simpa [Addr.add] using hspot
    subst hs
    have hbl : b < W.heap.size := hlt (.cell b off) (List.mem_append.2 (.inl (MemPlace.mem_row.2 ⟨0, by omega, by simp⟩)))
    have each : ∀ i, i < len → ∃ z : Tr, W.cell? ⟨b, off + i * 3, none⟩ = some (.int .i64 z.1) ∧ W.cell? ⟨b, off + i * 3 + 1, none⟩ = some (.string z.2.1) ∧ W.cell? ⟨b, off + i * 3 + 2, none⟩ = some (.string z.2.2) := fun i hi => by
      obtain ⟨cs', h1, h2⟩ := hel i (by omega)
      obtain ⟨_, hlen, hcell⟩ := World.cells?_some h1
      match cs', hlen with
      | [y0, y1, y2], _ =>
        obtain ⟨n0, d0, p0, t0, s0⟩ := struct_field under_Te h2 0 fTe0 cells_int (v := y0) rfl
        obtain ⟨n1, d1, p1, t1, s1⟩ := struct_field under_Te h2 1 fTe1 cells_str (v := y1) rfl
        obtain ⟨n2, d2, p2, t2, s2⟩ := struct_field under_Te h2 2 fTe2 cells_str (v := y2) rfl
        obtain ⟨z0, e0, -, -⟩ := DataW.trod_int Tryz.underlying3 t0
        obtain ⟨z1, e1, -, -⟩ := DataW.trod_string Tryz.underlying9 t1
        obtain ⟨z2, e2, -, -⟩ := DataW.trod_string Tryz.underlying9 t2
        cases e0
        cases e1
        cases e2
        have g0 := hcell 0 (by omega)
        have g1 := hcell 1 (by omega)
        have g2 := hcell 2 (by omega)
        simp only [add_plainS, Nat.add_zero] at g0 g1 g2
        exact ⟨(z0, z1, z2), g0, g1, g2⟩
    obtain ⟨f, hf⟩ := Deep.choose_lt each
    refine ⟨some ⟨b, off, none⟩, m, (List.range len).map f, by simp, by simpa using hl, hm, fun i t hi => ?_, by
      have := bulk_lenM ((List.range len).map D)
      simp only [List.length_map, List.length_range, Rows.uptoBulk] at this ⊢
      omega⟩
    obtain ⟨hi2, e⟩ := List.getElem?_eq_some_iff.1 hi
    have hi' : i < len := by simpa using hi2
    have e' : f i = t := by simpa using e
    rw [← e']
    exact ⟨b, off, rfl, hbl, hf i hi'⟩
end Go.Proofs.YtaacikjoafobfaaGreatDoor.Fi
