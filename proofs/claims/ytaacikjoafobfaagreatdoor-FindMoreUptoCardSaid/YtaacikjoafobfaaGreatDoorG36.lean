/-
  A compound, and a selector, that came in.
-/
import Derived.Test.YtaacikjoafobfaaGreatDoorG34
import Derived.Deep.Slices
import Derived.ChangeSame
import Derived.WalkSmall
namespace Go.Proofs.YtaacikjoafobfaaGreatDoor.Sx
open Go.ChangeShapes Go.WideShapes Go.ChangeAt Go.RowKit
set_option linter.unusedVariables false
set_option linter.unusedSimpArgs false
namespace So

theorem add_plainS (g i j : Nat) : (⟨g, i, none⟩ : Addr).add j = ⟨g, i + j, none⟩ := by unfold Addr.add; split <;> simp_all
/-- A field of a struct that can be read: its one cell, and how it reads. -/
theorem struct_field {H : Type} {enc : TypeId × Value → H} {P : Program} {w : World} {base : Nat} {sp : Nat → Bool} {held : Bool} {fuel : Nat} {t : TypeId} {cs : List Value} {x : DataW H × List MemPlace} {fs : Array Field}
    (ht : P.underlying t = some (.struct fs)) (h : DataW.trod enc P w base sp held fuel t cs = some x) (i : Nat) {ft : TypeId} {off : Nat} (hi : (fs[i]?).map (fun f => (f.type, f.offset)) = some (ft, off)) (hc : P.cellsOf ft = 1) {v : Value} (hv : cs[off]? = some v) :
    ∃ n d ps, DataW.trod enc P w base sp held n ft [v] = some (d, ps) ∧ ∀ y ∈ ps, y ∈ x.2 := by
  obtain ⟨xs, n, _, hx, _, hxl, hf⟩ := DataW.trod_struct ht h
  obtain ⟨f, hfi, he⟩ := Option.map_eq_some_iff.1 hi
  have e1 : f.type = ft := congrArg Prod.fst he
  have e2 : f.offset = off := congrArg Prod.snd he
  have hlt : i < xs.length := by
    rw [hxl]
    exact (Array.getElem?_eq_some_iff.1 hfi).1
  have := hf i f hfi
  rw [e1, e2, hc, List.getElem?_eq_getElem hlt] at this
  obtain ⟨hl, hg⟩ := List.getElem?_eq_some_iff.1 hv
  have h1 : (cs.drop off).take 1 = [v] := by
    rw [List.drop_eq_getElem_cons hl, hg]
    rfl
  rw [h1] at this
  refine ⟨n, (xs[i]).1, (xs[i]).2, this, fun y hy => ?_⟩
  rw [hx]
  exact List.mem_flatMap.2 ⟨xs[i], List.getElem_mem _, hy⟩
theorem cells_int : Tryz.prog.cellsOf 3 = 1 := by kernel_rfl
theorem cells_str : Tryz.prog.cellsOf 9 = 1 := by kernel_rfl
theorem cells_bool : Tryz.prog.cellsOf 4 = 1 := by kernel_rfl
theorem cells_Te : Tryz.prog.cellsOf 77 = 3 := by kernel_rfl
theorem cells_Co : Tryz.prog.cellsOf 52 = 1 := by kernel_rfl
theorem cells_St : Tryz.prog.cellsOf 54 = 2 := by kernel_rfl
theorem cells_Ss : Tryz.prog.cellsOf 46 = 1 := by kernel_rfl
theorem under_Te : Tryz.prog.underlying 77 = some (.struct (Tryz.prog.fieldsOf 77)) := by kernel_rfl
theorem under_St : Tryz.prog.underlying 54 = some (.struct (Tryz.prog.fieldsOf 54)) := by kernel_rfl
theorem fTe0 : ((Tryz.prog.fieldsOf 77)[0]?).map (fun f => (f.type, f.offset)) = some (3, 0) := by kernel_rfl
theorem fTe1 : ((Tryz.prog.fieldsOf 77)[1]?).map (fun f => (f.type, f.offset)) = some (9, 1) := by kernel_rfl
theorem fTe2 : ((Tryz.prog.fieldsOf 77)[2]?).map (fun f => (f.type, f.offset)) = some (9, 2) := by kernel_rfl
theorem fSt0 : ((Tryz.prog.fieldsOf 54)[0]?).map (fun f => (f.type, f.offset)) = some (52, 0) := by kernel_rfl
theorem fSt1 : ((Tryz.prog.fieldsOf 54)[1]?).map (fun f => (f.type, f.offset)) = some (4, 1) := by kernel_rfl
theorem spot_of {W : World} {base : Nat} {a : Addr} {n : Nat} {cs : List Value} (h : W.cells? base a n = some cs) (hn : 0 < n) : a.spot = none := by
  obtain ⟨_, hl, hc⟩ := World.cells?_some h
  have z := hc 0 hn
  rw [List.getElem?_eq_getElem (by omega)] at z
  simpa [Addr.add] using World.cell?_spot z
/-- No list is longer than any that there is. -/
abbrev M63 : Nat := 9223372036854775807
set_option maxRecDepth 100000 in
theorem tests_cell {H : Type} {enc : TypeId × Value → H} {W : World} {n : Nat} {v : Value} {d : DataW H} {ps : List MemPlace} (hf : DataW.trod enc Tryz.prog W 0 (fun _ => true) true n 52 [v] = some (d, ps)) (hlt : ∀ x ∈ ps, x.block < W.heap.size) :
    ∃ (A : Option Addr) (cap : Nat) (T : List Tr), v = .slice A T.length cap ∧ T.length ≤ cap ∧ cap ≤ M63 ∧ TR W A T ∧ (A = none → T = [] ∧ cap = 0) := by
  rcases Deep.open_slice Tryz.underlying52 hf with ⟨hcs, hx⟩ | ⟨a, len, cap, m, fu, D, Pl, hcs, hb, hl, hm, hmm, hx, hel⟩
  · cases hcs
    exact ⟨none, 0, [], rfl, by simp, by simp, fun i t hi => by simp at hi, fun _ => ⟨rfl, rfl⟩⟩
  · cases hcs
    simp only [Prod.mk.injEq] at hx
    obtain ⟨rfl, rfl⟩ := hx
    simp only [if_true] at hmm
    subst hmm
    rw [cells_Te] at hel hlt
    by_cases h0 : len = 0
    · subst h0
      exact ⟨some a, m, [], rfl, by simp, hm, fun i t hi => by simp at hi, fun h => by cases h⟩
    obtain ⟨cs0, z1, -⟩ := hel 0 (by omega)
    have hspot := spot_of z1 (by omega)
    obtain ⟨b, off, spot⟩ := a
    have hs : spot = none := by simpa [Addr.add] using hspot
    subst hs
    have hbl : b < W.heap.size := hlt (.cell b off) (List.mem_append.2 (.inl (MemPlace.mem_row.2 ⟨0, by omega, by simp⟩)))
    have each : ∀ i, i < len → ∃ z : Tr, W.cell? ⟨b, off + i * 3, none⟩ = some (.int .i64 z.1) ∧ W.cell? ⟨b, off + i * 3 + 1, none⟩ = some (.string z.2.1) ∧ W.cell? ⟨b, off + i * 3 + 2, none⟩ = some (.string z.2.2) := fun i hi => by
      obtain ⟨cs', h1, h2⟩ := hel i (by omega)
      obtain ⟨_, hlen, hcell⟩ := World.cells?_some h1
      match cs', hlen with
      | [y0, y1, y2], _ =>
        obtain ⟨n0, d0, p0, t0, s0⟩ := struct_field under_Te h2 0 fTe0 cells_int (v := y0) rfl
        obtain ⟨n1, d1, p1, t1, s1⟩ := struct_field under_Te h2 1 fTe1 cells_str (v := y1) rfl
        obtain ⟨n2, d2, p2, t2, s2⟩ := struct_field under_Te h2 2 fTe2 cells_str (v := y2) rfl
        obtain ⟨z0, e0, -, -⟩ := DataW.trod_int Tryz.underlying3 t0
        obtain ⟨z1, e1, -, -⟩ := DataW.trod_string Tryz.underlying9 t1
        obtain ⟨z2, e2, -, -⟩ := DataW.trod_string Tryz.underlying9 t2
        cases e0
        cases e1
        cases e2
        have g0 := hcell 0 (by omega)
        have g1 := hcell 1 (by omega)
        have g2 := hcell 2 (by omega)
        simp only [add_plainS, Nat.add_zero] at g0 g1 g2
        exact ⟨(z0, z1, z2), g0, g1, g2⟩
    obtain ⟨f, hf⟩ := Deep.choose_lt each
    refine ⟨some ⟨b, off, none⟩, m, (List.range len).map f, by simp, by simpa using hl, hm, fun i t hi => ?_, fun h => by cases h⟩
    obtain ⟨hi2, e⟩ := List.getElem?_eq_some_iff.1 hi
    have hi' : i < len := by simpa using hi2
    have e' : f i = t := by simpa using e
    rw [← e']
    exact ⟨b, off, rfl, hbl, hf i hi'⟩
/-- No list of a row is too long. -/
def RowFit (l : List Ms) : Prop := l.length ≤ M63 ∧ ∀ s ∈ l, s.2.1.length ≤ M63 ∧ s.2.1.length ≤ s.1.2 ∧ s.1.2 ≤ M63
def SelFit (x : List Mr) : Prop := x.length ≤ M63 ∧ ∀ m ∈ x, RowFit m.2 ∧ m.2.length ≤ m.1.2 ∧ m.1.2 ≤ M63
set_option maxRecDepth 100000 in
theorem steps_cell {H : Type} {enc : TypeId × Value → H} {W : World} {n : Nat} {v : Value} {d : DataW H} {ps : List MemPlace} (hf : DataW.trod enc Tryz.prog W 0 (fun _ => true) true n 46 [v] = some (d, ps)) (hlt : ∀ x ∈ ps, x.block < W.heap.size) :
    ∃ (A : Option Addr) (cap : Nat) (l : List Ms), v = .slice A l.length cap ∧ l.length ≤ cap ∧ cap ≤ M63 ∧ MR W A l ∧ RowFit l := by
  rcases Deep.open_slice Tryz.underlying46 hf with ⟨hcs, hx⟩ | ⟨a, len, cap, m, fu, D, Pl, hcs, hb, hl, hm, hmm, hx, hel⟩
  · cases hcs
    exact ⟨none, 0, [], rfl, by simp, by simp, fun i t hi => by simp at hi, by simp, by simp⟩
  · cases hcs
    simp only [Prod.mk.injEq] at hx
    obtain ⟨rfl, rfl⟩ := hx
    simp only [if_true] at hmm
    subst hmm
    rw [cells_St] at hel hlt
    by_cases h0 : len = 0
    · subst h0
      exact ⟨some a, m, [], rfl, by simp, hm, fun i t hi => by simp at hi, by simp, by simp⟩
    obtain ⟨cs0, z1, -⟩ := hel 0 (by omega)
    have hspot := spot_of z1 (by omega)
    obtain ⟨b, off, spot⟩ := a
    have hs : spot = none := by simpa [Addr.add] using hspot
    subst hs
    have hbl : b < W.heap.size := hlt (.cell b off) (List.mem_append.2 (.inl (MemPlace.mem_row.2 ⟨0, by omega, by simp⟩)))
    have each : ∀ i, i < len → ∃ z : Ms, (z.2.1.length ≤ M63 ∧ z.2.1.length ≤ z.1.2 ∧ z.1.2 ≤ M63) ∧ W.cell? ⟨b, off + i * 2, none⟩ = some (.slice z.1.1 z.2.1.length z.1.2) ∧ W.cell? ⟨b, off + i * 2 + 1, none⟩ = some (.bool z.2.2) ∧ TR W z.1.1 z.2.1 := fun i hi => by
      obtain ⟨cs', h1, h2⟩ := hel i (by omega)
      have hsub : ∀ y ∈ Pl i, y.block < W.heap.size := fun y hy => hlt y (List.mem_append.2 (.inr (List.mem_flatMap.2 ⟨i, List.mem_range.2 (by omega), hy⟩)))
      obtain ⟨_, hlen, hcell⟩ := World.cells?_some h1
      match cs', hlen with
      | [y0, y1], _ =>
        obtain ⟨n0, d0, p0, t0, s0⟩ := struct_field under_St h2 0 fSt0 cells_Co (v := y0) rfl
        obtain ⟨n1, d1, p1, t1, s1⟩ := struct_field under_St h2 1 fSt1 cells_bool (v := y1) rfl
        obtain ⟨A, cap, T, rfl, q1, q2, q3, -⟩ := tests_cell t0 (fun y hy => hsub y (s0 y hy))
        obtain ⟨z1, e1, -⟩ := DataW.trod_bool Tryz.underlying4 t1
        cases e1
        have g0 := hcell 0 (by omega)
        have g1 := hcell 1 (by omega)
        simp only [add_plainS, Nat.add_zero] at g0 g1
        exact ⟨((A, cap), (T, z1)), ⟨Nat.le_trans q1 q2, q1, q2⟩, g0, g1, q3⟩
    obtain ⟨f, hf⟩ := Deep.choose_lt each
    refine ⟨some ⟨b, off, none⟩, m, (List.range len).map f, by simp, by simpa using hl, hm, fun i t hi => ?_, by rw [List.length_map, List.length_range]; exact Nat.le_trans hl hm, fun s hs => ?_⟩
    · obtain ⟨hi2, e⟩ := List.getElem?_eq_some_iff.1 hi
      have hi' : i < len := by simpa using hi2
      have e' : f i = t := by simpa using e
      rw [← e']
      exact ⟨b, off, rfl, hbl, (hf i hi').2⟩
    · obtain ⟨i, hi, rfl⟩ := List.mem_map.1 hs
      exact (hf i (by simpa using hi)).1
set_option maxRecDepth 100000 in
/-- A selector that came in. -/
theorem sel_open {H : Type} {enc : TypeId × Value → H} {W : World} {base : Nat} {v : Value} {d : DataW H} {ps : List MemPlace} (hv : Value.okWide Tryz.prog W .any base 24 v)
    (h : DataW.Trod enc Tryz.prog W 0 (fun _ => true) true 24 v d ps) (hlt : ∀ x ∈ ps, x.block < W.heap.size) :
    ∃ (A : Option Addr) (cap : Nat) (x : List Mr), v = .slice A x.length cap ∧ x.length ≤ cap ∧ cap ≤ M63 ∧ XR W A x ∧ SelFit x := by
  obtain ⟨a0, len0, cap0, rfl⟩ := okWide_slice Tryz.underlying24 hv
  obtain ⟨fuel, hf⟩ := h
  rcases Deep.open_slice Tryz.underlying24 hf with ⟨hcs, hx⟩ | ⟨a, len, cap, m, fu, D, Pl, hcs, hb, hl, hm, hmm, hx, hel⟩
  · simp [Value.cells] at hcs
    obtain ⟨rfl, rfl, rfl⟩ := hcs
    exact ⟨none, 0, [], rfl, by simp, by simp, fun i m hm => by simp at hm, by simp, by simp⟩
  · simp [Value.cells] at hcs
    obtain ⟨rfl, rfl, rfl⟩ := hcs
    simp only [Prod.mk.injEq] at hx
    obtain ⟨rfl, rfl⟩ := hx
    simp only [if_true] at hmm
    subst hmm
    rw [cells_Ss] at hel hlt
    by_cases h0 : len0 = 0
    · subst h0
      exact ⟨some a, m, [], rfl, by simp, hm, fun i m hm => by simp at hm, by simp, by simp⟩
    obtain ⟨cs0, z1, -⟩ := hel 0 (by omega)
    have hspot := spot_of z1 (by omega)
    obtain ⟨b, off, spot⟩ := a
    have hs : spot = none := by simpa [Addr.add] using hspot
    subst hs
    have hbl : b < W.heap.size := hlt (.cell b off) (List.mem_append.2 (.inl (MemPlace.mem_row.2 ⟨0, by omega, by simp⟩)))
    have each : ∀ i, i < len0 → ∃ z : Mr, (RowFit z.2 ∧ z.2.length ≤ z.1.2 ∧ z.1.2 ≤ M63) ∧ W.cell? ⟨b, off + i, none⟩ = some (r1 z) ∧ MR W z.1.1 z.2 := fun i hi => by
      obtain ⟨cs', h1, h2⟩ := hel i (by omega)
      have hsub : ∀ y ∈ Pl i, y.block < W.heap.size := fun y hy => hlt y (List.mem_append.2 (.inr (List.mem_flatMap.2 ⟨i, List.mem_range.2 (by omega), hy⟩)))
      obtain ⟨_, hlen, hcell⟩ := World.cells?_some h1
      match cs', hlen with
      | [y0], _ =>
        obtain ⟨A, cap, l, rfl, q1, q2, q3, q4⟩ := steps_cell h2 hsub
        have g0 := hcell 0 (by omega)
        simp only [add_plainS, Nat.add_zero, Nat.mul_one] at g0
        exact ⟨((A, cap), l), ⟨q4, q1, q2⟩, g0, q3⟩
    obtain ⟨f, hf⟩ := Deep.choose_lt each
    refine ⟨some ⟨b, off, none⟩, m, (List.range len0).map f, by simp, by simpa using hl, hm, fun i z hz => ?_, by rw [List.length_map, List.length_range]; exact Nat.le_trans hl hm, fun s hs => ?_⟩
    · obtain ⟨hi, e⟩ := List.getElem?_eq_some_iff.1 hz
      have hi' : i < len0 := by simpa using hi
      have e' : f i = z := by simpa using e
      rw [← e']
      exact ⟨b, off, rfl, hbl, (hf i hi').2⟩
    · obtain ⟨i, hi, rfl⟩ := List.mem_map.1 hs
      exact (hf i (by simpa using hi)).1
set_option maxRecDepth 100000 in
/-- A compound that came in. -/
theorem comp_open {H : Type} {enc : TypeId × Value → H} {W : World} {base : Nat} {v : Value} {d : DataW H} {ps : List MemPlace} (hv : Value.okWide Tryz.prog W .any base 52 v)
    (h : DataW.Trod enc Tryz.prog W 0 (fun _ => true) true 52 v d ps) (hlt : ∀ x ∈ ps, x.block < W.heap.size) :
    ∃ (A : Option Addr) (cap : Nat) (T : List Tr), v = .slice A T.length cap ∧ T.length ≤ cap ∧ cap ≤ M63 ∧ TR W A T ∧ (A = none → T = [] ∧ cap = 0) := by
  obtain ⟨a0, len0, cap0, rfl⟩ := okWide_slice Tryz.underlying52 hv
  obtain ⟨fuel, hf⟩ := h
  exact tests_cell (v := .slice a0 len0 cap0) (by simpa [Value.cells] using hf) hlt
set_option maxRecDepth 100000 in
/-- A test that came in. -/
theorem test_open {H : Type} {enc : TypeId × Value → H} {W : World} {base : Nat} {v : Value} {d : DataW H} {ps : List MemPlace} (hv : Value.okWide Tryz.prog W .any base 77 v)
    (h : DataW.Trod enc Tryz.prog W 0 (fun _ => true) true 77 v d ps) : ∃ t : Tr, v = tV t := by
  obtain ⟨cs, rfl, hs⟩ := okWide_struct under_Te hv
  rw [cells_Te] at hs
  obtain ⟨fuel, h2⟩ := h
  obtain ⟨l⟩ := cs
  match l, hs with
  | [y0, y1, y2], _ =>
        obtain ⟨n0, d0, p0, t0, s0⟩ := struct_field under_Te h2 0 fTe0 cells_int (v := y0) rfl
        obtain ⟨n1, d1, p1, t1, s1⟩ := struct_field under_Te h2 1 fTe1 cells_str (v := y1) rfl
        obtain ⟨n2, d2, p2, t2, s2⟩ := struct_field under_Te h2 2 fTe2 cells_str (v := y2) rfl
        obtain ⟨z0, e0, -, -⟩ := DataW.trod_int Tryz.underlying3 t0
        obtain ⟨z1, e1, -, -⟩ := DataW.trod_string Tryz.underlying9 t1
        obtain ⟨z2, e2, -, -⟩ := DataW.trod_string Tryz.underlying9 t2
        cases e0
        cases e1
        cases e2
        exact ⟨(z0, z1, z2), rfl⟩
end So
end Go.Proofs.YtaacikjoafobfaaGreatDoor.Sx
