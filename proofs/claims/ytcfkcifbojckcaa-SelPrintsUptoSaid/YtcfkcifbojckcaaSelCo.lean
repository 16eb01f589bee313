/-
  A selector that came in, counted: it has no more rows, steps and tests than its bulk.
-/
import Derived.Test.YtcfkcifbojckcaaRows
import Derived.Test.YtcfkcifbojckcaaSelCn
import Derived.Test.YtcfkcifbojckcaaSelOp
namespace Go.Proofs.Ytcfkcifbojckcaa
open Go.ChangeShapes Go.WideShapes Go.ChangeAt Go.RowKit
open So
set_option linter.unusedVariables false
set_option linter.unusedSimpArgs false

theorem bulk_pos {H : Type} (d : DataW H) : 1 ≤ Rows.uptoBulk d := by
  cases d with
  | lit l => cases l <;> simp [Rows.uptoBulk]
  | nil => simp [Rows.uptoBulk]
  | ptr d => simp [Rows.uptoBulk]
  | slice elems spare => simp [Rows.uptoBulk]
  | agg parts => simp [Rows.uptoBulk]
  | iface t d => simp [Rows.uptoBulk]
  | map entries => simp [Rows.uptoBulk]
  | held h => simp [Rows.uptoBulk]
theorem bulk_len {H : Type} (l : List (DataW H)) : l.length ≤ Rows.uptoBulkAll l := by
  induction l with
  | nil => exact Nat.le_refl _
  | cons x r ih =>
    have := bulk_pos x
    simp only [Rows.uptoBulkAll, List.length_cons]
    omega
theorem bulk_mem {H : Type} {d : DataW H} : ∀ {l : List (DataW H)}, d ∈ l → Rows.uptoBulk d ≤ Rows.uptoBulkAll l
  | x :: r, h => by
    simp only [Rows.uptoBulkAll]
    rcases List.mem_cons.1 h with rfl | h
    · omega
    · have := bulk_mem h
      omega
theorem bulk_sum {H : Type} {D : Nat → DataW H} {g : Nat → Nat} : ∀ (L : List Nat), (∀ i ∈ L, g i ≤ Rows.uptoBulk (D i)) → (L.map g).sum ≤ Rows.uptoBulkAll (L.map D)
  | [], _ => by simp
  | a :: L, h => by
    have h1 := h a (List.mem_cons_self ..)
    have h2 := bulk_sum (D := D) (g := g) L (fun i hi => h i (List.mem_cons_of_mem _ hi))
    simp only [List.map_cons, List.sum_cons, Rows.uptoBulkAll]
    omega
/-- A field of a struct that can be read, and how much of its bulk it has. -/
theorem struct_fieldc {H : Type} {enc : TypeId × Value → H} {P : Program} {w : World} {base : Nat} {sp : Nat → Bool} {held : Bool} {fuel : Nat} {t : TypeId} {cs : List Value} {x : DataW H × List MemPlace} {fs : Array Field}
    (ht : P.underlying t = some (.struct fs)) (h : DataW.trod enc P w base sp held fuel t cs = some x) (i : Nat) {ft : TypeId} {off : Nat} (hi : (fs[i]?).map (fun f => (f.type, f.offset)) = some (ft, off)) (hc : P.cellsOf ft = 1) {v : Value} (hv : cs[off]? = some v) :
    ∃ n d ps, DataW.trod enc P w base sp held n ft [v] = some (d, ps) ∧ (∀ y ∈ ps, y ∈ x.2) ∧ Rows.uptoBulk d + 1 ≤ Rows.uptoBulk x.1 := by
  obtain ⟨xs, n, _, hx, _, hxl, hf⟩ := DataW.trod_struct ht h
  obtain ⟨f, hfi, he⟩ := Option.map_eq_some_iff.1 hi
  have e1 : f.type = ft := congrArg Prod.fst he
  have e2 : f.offset = off := congrArg Prod.snd he
  have hlt : i < xs.length := by
    rw [hxl]
    exact (Array.getElem?_eq_some_iff.1 hfi).1
  have := hf i f hfi
  rw [e1, e2, hc, List.getElem?_eq_getElem hlt] at this
  obtain ⟨hl, hg⟩ := List.getElem?_eq_some_iff.1 hv
  have h1 : (cs.drop off).take 1 = [v] := by
    rw [List.drop_eq_getElem_cons hl, hg]
    rfl
  rw [h1] at this
  refine ⟨n, (xs[i]).1, (xs[i]).2, this, fun y hy => ?_, ?_⟩
  · rw [hx]
    exact List.mem_flatMap.2 ⟨xs[i], List.getElem_mem _, hy⟩
  · rw [hx]
    have := bulk_mem (List.mem_map_of_mem (f := (·.1)) (List.getElem_mem hlt))
    simp only [Rows.uptoBulk]
    omega
set_option maxRecDepth 100000 in
theorem tests_cellc {H : Type} {enc : TypeId × Value → H} {W : World} {n : Nat} {v : Value} {d : DataW H} {ps : List MemPlace} (hf : DataW.trod enc Try.prog W 0 (fun _ => true) true n 35 [v] = some (d, ps)) (hlt : ∀ x ∈ ps, x.block < W.heap.size) :
    ∃ (A : Option Addr) (cap : Nat) (T : List Tr), v = .slice A T.length cap ∧ T.length ≤ cap ∧ cap ≤ M63 ∧ TR W A T ∧ T.length + 1 ≤ Rows.uptoBulk d := by
  rcases Deep.open_slice Try.underlying35 hf with ⟨hcs, hx⟩ | ⟨a, len, cap, m, fu, D, Pl, hcs, hb, hl, hm, hmm, hx, hel⟩
  · cases hcs
    cases hx
    exact ⟨none, 0, [], rfl, by simp, by simp, fun i t hi => by simp at hi, by simp [Rows.uptoBulk]⟩
  · cases hcs
    simp only [Prod.mk.injEq] at hx
    obtain ⟨rfl, rfl⟩ := hx
    simp only [if_true] at hmm
    subst hmm
    rw [cells_Te] at hel hlt
    by_cases h0 : len = 0
    · subst h0
      exact ⟨some a, m, [], rfl, by simp, hm, fun i t hi => by simp at hi, by simp [Rows.uptoBulk]⟩
    obtain ⟨cs0, z1, -⟩ := hel 0 (by omega)
    have hspot := spot_of z1 (by omega)
    obtain ⟨b, off, spot⟩ := a
    have hs : spot = none := by simpa [Addr.add] using hspot
    subst hs
    have hbl : b < W.heap.size := hlt (.cell b off) (List.mem_append.2 (.inl (MemPlace.mem_row.2 ⟨0, by omega, by simp⟩)))
    have each : ∀ i, i < len → ∃ z : Tr, W.cell? ⟨b, off + i * 3, none⟩ = some (.int .i64 z.1) ∧ W.cell? ⟨b, off + i * 3 + 1, none⟩ = some (.string z.2.1) ∧ W.cell? ⟨b, off + i * 3 + 2, none⟩ = some (.string z.2.2) := fun i hi => by
      obtain ⟨cs', h1, h2⟩ := hel i (by omega)
      obtain ⟨_, hlen, hcell⟩ := World.cells?_some h1
      match cs', hlen with
      | [y0, y1, y2], _ =>
        obtain ⟨n0, d0, p0, t0, s0⟩ := struct_field under_Te h2 0 fTe0 cells_int (v := y0) rfl
        obtain ⟨n1, d1, p1, t1, s1⟩ := struct_field under_Te h2 1 fTe1 cells_str (v := y1) rfl
        obtain ⟨n2, d2, p2, t2, s2⟩ := struct_field under_Te h2 2 fTe2 cells_str (v := y2) rfl
        obtain ⟨z0, e0, -, -⟩ := DataW.trod_int Try.underlying3 t0
        obtain ⟨z1, e1, -, -⟩ := DataW.trod_string Try.underlying9 t1
        obtain ⟨z2, e2, -, -⟩ := DataW.trod_string Try.underlying9 t2
        cases e0
        cases e1
        cases e2
        have g0 := hcell 0 (by omega)
        have g1 := hcell 1 (by omega)
        have g2 := hcell 2 (by omega)
        simp only [add_plainS, Nat.add_zero] at g0 g1 g2
        exact ⟨(z0, z1, z2), g0, g1, g2⟩
    obtain ⟨f, hf⟩ := Deep.choose_lt each
    refine ⟨some ⟨b, off, none⟩, m, (List.range len).map f, by simp, by simpa using hl, hm, fun i t hi => ?_, by
      have := bulk_len ((List.range len).map D)
      simp only [List.length_map, List.length_range, Rows.uptoBulk] at this ⊢
      omega⟩
    obtain ⟨hi2, e⟩ := List.getElem?_eq_some_iff.1 hi
    have hi' : i < len := by simpa using hi2
    have e' : f i = t := by simpa using e
    rw [← e']
    exact ⟨b, off, rfl, hbl, hf i hi'⟩
set_option maxRecDepth 100000 in
theorem steps_cellc {H : Type} {enc : TypeId × Value → H} {W : World} {n : Nat} {v : Value} {d : DataW H} {ps : List MemPlace} (hf : DataW.trod enc Try.prog W 0 (fun _ => true) true n 33 [v] = some (d, ps)) (hlt : ∀ x ∈ ps, x.block < W.heap.size) :
    ∃ (A : Option Addr) (cap : Nat) (l : List Ms), v = .slice A l.length cap ∧ l.length ≤ cap ∧ cap ≤ M63 ∧ MR W A l ∧ RowFit l ∧ cL l + 1 ≤ Rows.uptoBulk d := by
  rcases Deep.open_slice Try.underlying33 hf with ⟨hcs, hx⟩ | ⟨a, len, cap, m, fu, D, Pl, hcs, hb, hl, hm, hmm, hx, hel⟩
  · cases hcs
    cases hx
    exact ⟨none, 0, [], rfl, by simp, by simp, fun i t hi => by simp at hi, ⟨by simp, by simp⟩, by simp [Rows.uptoBulk, cL]⟩
  · cases hcs
    simp only [Prod.mk.injEq] at hx
    obtain ⟨rfl, rfl⟩ := hx
    simp only [if_true] at hmm
    subst hmm
    rw [cells_St] at hel hlt
    by_cases h0 : len = 0
    · subst h0
      exact ⟨some a, m, [], rfl, by simp, hm, fun i t hi => by simp at hi, ⟨by simp, by simp⟩, by simp [Rows.uptoBulk, cL]⟩
    obtain ⟨cs0, z1, -⟩ := hel 0 (by omega)
    have hspot := spot_of z1 (by omega)
    obtain ⟨b, off, spot⟩ := a
    have hs : spot = none := by simpa [Addr.add] using hspot
    subst hs
    have hbl : b < W.heap.size := hlt (.cell b off) (List.mem_append.2 (.inl (MemPlace.mem_row.2 ⟨0, by omega, by simp⟩)))
    have each : ∀ i, i < len → ∃ z : Ms, (cS z ≤ Rows.uptoBulk (D i) ∧ z.2.1.length ≤ M63 ∧ z.2.1.length ≤ z.1.2 ∧ z.1.2 ≤ M63) ∧ W.cell? ⟨b, off + i * 2, none⟩ = some (.slice z.1.1 z.2.1.length z.1.2) ∧ W.cell? ⟨b, off + i * 2 + 1, none⟩ = some (.bool z.2.2) ∧ TR W z.1.1 z.2.1 := fun i hi => by
      obtain ⟨cs', h1, h2⟩ := hel i (by omega)
      have hsub : ∀ y ∈ Pl i, y.block < W.heap.size := fun y hy => hlt y (List.mem_append.2 (.inr (List.mem_flatMap.2 ⟨i, List.mem_range.2 (by omega), hy⟩)))
      obtain ⟨_, hlen, hcell⟩ := World.cells?_some h1
      match cs', hlen with
      | [y0, y1], _ =>
        obtain ⟨n0, d0, p0, t0, s0, u0⟩ := struct_fieldc under_St h2 0 fSt0 cells_Co (v := y0) rfl
        obtain ⟨n1, d1, p1, t1, s1⟩ := struct_field under_St h2 1 fSt1 cells_bool (v := y1) rfl
        obtain ⟨A, cap, T, rfl, q1, q2, q3, q4⟩ := tests_cellc t0 (fun y hy => hsub y (s0 y hy))
        obtain ⟨z1, e1, -⟩ := DataW.trod_bool Try.underlying4 t1
        cases e1
        have g0 := hcell 0 (by omega)
        have g1 := hcell 1 (by omega)
        simp only [add_plainS, Nat.add_zero] at g0 g1
        exact ⟨((A, cap), (T, z1)), ⟨by simp only [cS]; simp only [] at u0; omega, Nat.le_trans q1 q2, q1, q2⟩, g0, g1, q3⟩
    obtain ⟨f, hf⟩ := Deep.choose_lt each
    refine ⟨some ⟨b, off, none⟩, m, (List.range len).map f, by simp, by simpa using hl, hm, fun i t hi => ?_, ⟨by rw [List.length_map, List.length_range]; exact Nat.le_trans hl hm, fun s hs => ?_⟩, ?_⟩
    · obtain ⟨hi2, e⟩ := List.getElem?_eq_some_iff.1 hi
      have hi' : i < len := by simpa using hi2
      have e' : f i = t := by simpa using e
      rw [← e']
      exact ⟨b, off, rfl, hbl, (hf i hi').2⟩
    · obtain ⟨i, hi, rfl⟩ := List.mem_map.1 hs
      exact (hf i (by simpa using hi)).1.2
    · have := bulk_sum (D := D) (g := fun i => cS (f i)) (List.range len) (fun i hi => (hf i (by simpa using hi)).1.1)
      have e : cL ((List.range len).map f) = ((List.range len).map (fun i => cS (f i))).sum := by unfold cL; rw [List.map_map]; rfl
      rw [e]
      simp only [Rows.uptoBulk]
      omega
set_option maxRecDepth 100000 in
/-- A selector that came in. -/
theorem sel_openc {H : Type} {enc : TypeId × Value → H} {W : World} {base : Nat} {v : Value} {d : DataW H} {ps : List MemPlace} (hv : Value.okWide Try.prog W .any base 23 v)
    (h : DataW.Trod enc Try.prog W 0 (fun _ => true) true 23 v d ps) (hlt : ∀ x ∈ ps, x.block < W.heap.size) :
    ∃ (A : Option Addr) (cap : Nat) (x : List Mr), v = .slice A x.length cap ∧ x.length ≤ cap ∧ cap ≤ M63 ∧ XR W A x ∧ SelFit x ∧ cX x ≤ Rows.uptoBulk d := by
  obtain ⟨a0, len0, cap0, rfl⟩ := okWide_slice Try.underlying23 hv
  obtain ⟨fuel, hf⟩ := h
  rcases Deep.open_slice Try.underlying23 hf with ⟨hcs, hx⟩ | ⟨a, len, cap, m, fu, D, Pl, hcs, hb, hl, hm, hmm, hx, hel⟩
  · simp [Value.cells] at hcs
    obtain ⟨rfl, rfl, rfl⟩ := hcs
    exact ⟨none, 0, [], rfl, by simp, by simp, fun i m hm => by simp at hm, ⟨by simp, by simp⟩, by simp [cX]⟩
  · simp [Value.cells] at hcs
    obtain ⟨rfl, rfl, rfl⟩ := hcs
    simp only [Prod.mk.injEq] at hx
    obtain ⟨rfl, rfl⟩ := hx
    simp only [if_true] at hmm
    subst hmm
    rw [cells_Ss] at hel hlt
    by_cases h0 : len0 = 0
    · subst h0
      exact ⟨some a, m, [], rfl, by simp, hm, fun i m hm => by simp at hm, ⟨by simp, by simp⟩, by simp [cX]⟩
    obtain ⟨cs0, z1, -⟩ := hel 0 (by omega)
    have hspot := spot_of z1 (by omega)
    obtain ⟨b, off, spot⟩ := a
    have hs : spot = none := by simpa [Addr.add] using hspot
    subst hs
    have hbl : b < W.heap.size := hlt (.cell b off) (List.mem_append.2 (.inl (MemPlace.mem_row.2 ⟨0, by omega, by simp⟩)))
    have each : ∀ i, i < len0 → ∃ z : Mr, (cM z ≤ Rows.uptoBulk (D i) ∧ RowFit z.2 ∧ z.2.length ≤ z.1.2 ∧ z.1.2 ≤ M63) ∧ W.cell? ⟨b, off + i, none⟩ = some (r1 z) ∧ MR W z.1.1 z.2 := fun i hi => by
      obtain ⟨cs', h1, h2⟩ := hel i (by omega)
      have hsub : ∀ y ∈ Pl i, y.block < W.heap.size := fun y hy => hlt y (List.mem_append.2 (.inr (List.mem_flatMap.2 ⟨i, List.mem_range.2 (by omega), hy⟩)))
      obtain ⟨_, hlen, hcell⟩ := World.cells?_some h1
      match cs', hlen with
      | [y0], _ =>
        obtain ⟨A, cap, l, rfl, q1, q2, q3, q4, q5⟩ := steps_cellc h2 hsub
        have g0 := hcell 0 (by omega)
        simp only [add_plainS, Nat.add_zero, Nat.mul_one] at g0
        exact ⟨((A, cap), l), ⟨q5, q4, q1, q2⟩, g0, q3⟩
    obtain ⟨f, hf⟩ := Deep.choose_lt each
    refine ⟨some ⟨b, off, none⟩, m, (List.range len0).map f, by simp, by simpa using hl, hm, fun i z hz => ?_, ⟨by rw [List.length_map, List.length_range]; exact Nat.le_trans hl hm, fun s hs => ?_⟩, ?_⟩
    · obtain ⟨hi, e⟩ := List.getElem?_eq_some_iff.1 hz
      have hi' : i < len0 := by simpa using hi
      have e' : f i = z := by simpa using e
      rw [← e']
      exact ⟨b, off, rfl, hbl, (hf i hi').2⟩
    · obtain ⟨i, hi, rfl⟩ := List.mem_map.1 hs
      exact (hf i (by simpa using hi)).1.2
    · have := bulk_sum (D := D) (g := fun i => cM (f i)) (List.range len0) (fun i hi => (hf i (by simpa using hi)).1.1)
      have e : cX ((List.range len0).map f) = ((List.range len0).map (fun i => cM (f i))).sum := by unfold cX; rw [List.map_map]; rfl
      rw [e]
      simp only [Rows.uptoBulk]
      omega
end Go.Proofs.Ytcfkcifbojckcaa
