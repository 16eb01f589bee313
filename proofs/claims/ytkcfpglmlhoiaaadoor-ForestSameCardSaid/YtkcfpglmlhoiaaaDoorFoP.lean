/-
  A forest that came in.
-/
import Derived.Test.YtkcfpglmlhoiaaaDoorFoA
import Derived.Deep.Slices
import Derived.ChangeSame
import Derived.WalkSmall
namespace Go.Proofs.YtkcfpglmlhoiaaaDoor
open Go.ChangeShapes Go.WideShapes Go.ChangeAt Go.RowKit
set_option linter.unusedVariables false
set_option linter.unusedSimpArgs false

instance : Inhabited Mn := ⟨⟨0, ⟨#[]⟩, ⟨#[]⟩, [], 0, [], none, 0, none, 0⟩⟩
theorem add_plain (g i j : Nat) : (⟨g, i, none⟩ : Addr).add j = ⟨g, i + j, none⟩ := by unfold Addr.add; split <;> simp_all
theorem i64_wf {n : Int} (h : (Lit.int .i64 n).wf = true) : I64 n := by
  have h : IntKind.i64.min ≤ n ∧ n ≤ IntKind.i64.max := by simpa [Lit.wf] using h
  exact h
/-- A field of a struct that can be read: its one cell, and how it reads. -/
theorem struct_field {H : Type} {enc : TypeId × Value → H} {P : Program} {w : World} {base : Nat} {sp : Nat → Bool} {held : Bool} {fuel : Nat} {t : TypeId} {cs : List Value} {x : DataW H × List MemPlace} {fs : Array Field}
    (ht : P.underlying t = some (.struct fs)) (h : DataW.trod enc P w base sp held fuel t cs = some x) (i : Nat) {ft : TypeId} {off : Nat} (hi : (fs[i]?).map (fun f => (f.type, f.offset)) = some (ft, off)) (hc : P.cellsOf ft = 1) {v : Value} (hv : cs[off]? = some v) :
    ∃ n d ps, DataW.trod enc P w base sp held n ft [v] = some (d, ps) ∧ ∀ y ∈ ps, y ∈ x.2 := by
  obtain ⟨xs, n, _, hx, _, hxl, hf⟩ := DataW.trod_struct ht h
  obtain ⟨f, hfi, he⟩ := Option.map_eq_some_iff.1 hi
  have e1 : f.type = ft := congrArg Prod.fst he
  have e2 : f.offset = off := congrArg Prod.snd he
  have hlt : i < xs.length := by
    rw [hxl]
    exact (Array.getElem?_eq_some_iff.1 hfi).1
  have := hf i f hfi
  rw [e1, e2, hc, List.getElem?_eq_getElem hlt] at this
  obtain ⟨hl, hg⟩ := List.getElem?_eq_some_iff.1 hv
  have h1 : (cs.drop off).take 1 = [v] := by
    rw [List.drop_eq_getElem_cons hl, hg]
    rfl
  rw [h1] at this
  refine ⟨n, (xs[i]).1, (xs[i]).2, this, fun y hy => ?_⟩
  rw [hx]
  exact List.mem_flatMap.2 ⟨xs[i], List.getElem_mem _, hy⟩
theorem cells_int : Tryd.prog.cellsOf 3 = 1 := by kernel_rfl
theorem cells_str : Tryd.prog.cellsOf 9 = 1 := by kernel_rfl
theorem cells_as : Tryd.prog.cellsOf 31 = 1 := by kernel_rfl
theorem cells_is : Tryd.prog.cellsOf 32 = 1 := by kernel_rfl
theorem cells_At : Tryd.prog.cellsOf 36 = 2 := by kernel_rfl
theorem cells_Nd : Tryd.prog.cellsOf 34 = 6 := by kernel_rfl
theorem under_At : Tryd.prog.underlying 36 = some (.struct (Tryd.prog.fieldsOf 36)) := by kernel_rfl
theorem under_Nd : Tryd.prog.underlying 34 = some (.struct (Tryd.prog.fieldsOf 34)) := by kernel_rfl
theorem fAt0 : ((Tryd.prog.fieldsOf 36)[0]?).map (fun f => (f.type, f.offset)) = some (9, 0) := by kernel_rfl
theorem fAt1 : ((Tryd.prog.fieldsOf 36)[1]?).map (fun f => (f.type, f.offset)) = some (9, 1) := by kernel_rfl
theorem fNd0 : ((Tryd.prog.fieldsOf 34)[0]?).map (fun f => (f.type, f.offset)) = some (3, 0) := by kernel_rfl
theorem fNd1 : ((Tryd.prog.fieldsOf 34)[1]?).map (fun f => (f.type, f.offset)) = some (9, 1) := by kernel_rfl
theorem fNd2 : ((Tryd.prog.fieldsOf 34)[2]?).map (fun f => (f.type, f.offset)) = some (9, 2) := by kernel_rfl
theorem fNd3 : ((Tryd.prog.fieldsOf 34)[3]?).map (fun f => (f.type, f.offset)) = some (31, 3) := by kernel_rfl
theorem fNd4 : ((Tryd.prog.fieldsOf 34)[4]?).map (fun f => (f.type, f.offset)) = some (3, 4) := by kernel_rfl
theorem fNd5 : ((Tryd.prog.fieldsOf 34)[5]?).map (fun f => (f.type, f.offset)) = some (32, 5) := by kernel_rfl
theorem spot_of {W : World} {base : Nat} {a : Addr} {n : Nat} {cs : List Value} (h : W.cells? base a n = some cs) (hn : 0 < n) : a.spot = none := by
  obtain ⟨_, hl, hc⟩ := World.cells?_some h
  have z := hc 0 hn
  rw [List.getElem?_eq_getElem (by omega)] at z
  simpa [Addr.add] using World.cell?_spot z
theorem getD_range_map {α : Type} (f : Nat → α) (d : α) {n j : Nat} (h : j < n) : ((List.range n).map f).getD j d = f j := by simp [List.getD, h]
set_option maxRecDepth 100000 in
theorem ints_cell {H : Type} {enc : TypeId × Value → H} {W : World} {n : Nat} {v : Value} {d : DataW H} {ps : List MemPlace} (hf : DataW.trod enc Tryd.prog W 0 (fun _ => true) true n 32 [v] = some (d, ps)) (hlt : ∀ x ∈ ps, x.block < W.heap.size) :
    ∃ (A : Option Addr) (cap : Nat) (l : List Int), v = .slice A l.length cap ∧ l.length ≤ cap ∧ cap ≤ 9223372036854775807 ∧ IR W A l ∧ ∀ x ∈ l, I64 x := by
  rcases Deep.open_slice1 Tryd.underlying32 cells_int hf with ⟨hcs, hx⟩ | ⟨a, len, cap, m, fu, V, D, Pl, hcs, hb, hl, hm, hmm, hx, hel⟩
  · cases hcs
    exact ⟨none, 0, [], rfl, by simp, by simp, fun j hj => by simp at hj, fun x hx => by simp at hx⟩
  · cases hcs
    simp only [Prod.mk.injEq] at hx
    obtain ⟨rfl, rfl⟩ := hx
    simp only [if_true] at hmm
    subst hmm
    have each : ∀ i, i < len → ∃ z : Int, W.cell? (a.add i) = some (.int .i64 z) ∧ I64 z := fun i hi => by
      obtain ⟨h1, h2⟩ := hel i (by omega)
      obtain ⟨z, e, -, wz⟩ := DataW.trod_int Tryd.underlying3 h2
      have ev : V i = .int .i64 z := by simpa using e
      exact ⟨z, by rw [h1, ev], i64_wf wz⟩
    obtain ⟨f, hf⟩ := Deep.choose_lt each
    refine ⟨some a, m, (List.range len).map f, by simp, by simpa using hl, hm, fun j hj => ?_, fun x hx => ?_⟩
    · have hj' : j < len := by simpa using hj
      have h0 := (hf 0 (by omega)).1
      obtain ⟨b, off, spot⟩ := a
      have hspot : spot = none := by simpa [Addr.add] using World.cell?_spot h0
      subst hspot
      refine ⟨b, off, rfl, hlt (.cell b off) (List.mem_append.2 (.inl (MemPlace.mem_row.2 ⟨0, by omega, by simp⟩))), ?_⟩
      rw [getD_range_map f 0 hj', ← (hf j hj').1, add_plain]
    · obtain ⟨i, hi, rfl⟩ := List.mem_map.1 hx
      exact (hf i (by simpa using hi)).2
set_option maxRecDepth 100000 in
theorem attrs_cell {H : Type} {enc : TypeId × Value → H} {W : World} {n : Nat} {v : Value} {d : DataW H} {ps : List MemPlace} (hf : DataW.trod enc Tryd.prog W 0 (fun _ => true) true n 31 [v] = some (d, ps)) (hlt : ∀ x ∈ ps, x.block < W.heap.size) :
    ∃ (A : Option Addr) (cap : Nat) (l : List (ByteArray × ByteArray)), v = .slice A l.length cap ∧ l.length ≤ cap ∧ cap ≤ 9223372036854775807 ∧ AR W A l := by
  rcases Deep.open_slice Tryd.underlying31 hf with ⟨hcs, hx⟩ | ⟨a, len, cap, m, fu, D, Pl, hcs, hb, hl, hm, hmm, hx, hel⟩
  · cases hcs
    exact ⟨none, 0, [], rfl, by simp, by simp, fun j hj => by simp at hj⟩
  · cases hcs
    simp only [Prod.mk.injEq] at hx
    obtain ⟨rfl, rfl⟩ := hx
    simp only [if_true] at hmm
    subst hmm
    rw [cells_At] at hel hlt
    have each : ∀ i, i < len → ∃ z : ByteArray × ByteArray, W.cell? (a.add (i * 2)) = some (.string z.1) ∧ W.cell? (a.add (i * 2 + 1)) = some (.string z.2) := fun i hi => by
      obtain ⟨cs', h1, h2⟩ := hel i (by omega)
      obtain ⟨_, hlen, hcell⟩ := World.cells?_some h1
      match cs', hlen with
      | [y0, y1], _ =>
        obtain ⟨n0, d0, p0, t0, s0⟩ := struct_field under_At h2 0 fAt0 cells_str (v := y0) rfl
        obtain ⟨n1, d1, p1, t1, s1⟩ := struct_field under_At h2 1 fAt1 cells_str (v := y1) rfl
        obtain ⟨z0, e0, -, -⟩ := DataW.trod_string Tryd.underlying9 t0
        obtain ⟨z1, e1, -, -⟩ := DataW.trod_string Tryd.underlying9 t1
        cases e0
        cases e1
        have g0 := hcell 0 (by omega)
        have g1 := hcell 1 (by omega)
        rw [Deep.add_add] at g0 g1
        exact ⟨(z0, z1), by simpa using g0, by simpa using g1⟩
    obtain ⟨f, hf⟩ := Deep.choose_lt each
    refine ⟨some a, m, (List.range len).map f, by simp, by simpa using hl, hm, fun j hj => ?_⟩
    have hj' : j < len := by simpa using hj
    obtain ⟨cs0, z1, -⟩ := hel 0 (by omega)
    have hspot := spot_of z1 (by omega)
    obtain ⟨b, off, spot⟩ := a
    have hs : spot = none := by simpa [Addr.add] using hspot
    subst hs
    refine ⟨b, off, rfl, hlt (.cell b off) (List.mem_append.2 (.inl (MemPlace.mem_row.2 ⟨0, by omega, by simp⟩))), ?_, ?_⟩
    · rw [getD_range_map f default hj', ← (hf j hj').1, add_plain]
    · rw [getD_range_map f default hj', ← (hf j hj').2, add_plain]
      rfl
set_option maxRecDepth 100000 in
theorem forest_open {H : Type} {enc : TypeId × Value → H} {W : World} {base : Nat} {v : Value} {d : DataW H} {ps : List MemPlace} (hv : Value.okWide Tryd.prog W .any base 23 v)
    (h : DataW.Trod enc Tryd.prog W 0 (fun _ => true) true 23 v d ps) (hlt : ∀ x ∈ ps, x.block < W.heap.size) :
    ∃ (A : Option Addr) (cap : Nat) (F : List Mn), v = .slice A F.length cap ∧ F.length ≤ cap ∧ cap ≤ 9223372036854775807 ∧ FR W A F := by
  obtain ⟨a0, len0, cap0, rfl⟩ := okWide_slice Tryd.underlying23 hv
  obtain ⟨fuel, hf⟩ := h
  rcases Deep.open_slice Tryd.underlying23 hf with ⟨hcs, hx⟩ | ⟨a, len, cap, m, fu, D, Pl, hcs, hb, hl, hm, hmm, hx, hel⟩
  · simp [Value.cells] at hcs
    obtain ⟨rfl, rfl, rfl⟩ := hcs
    exact ⟨none, 0, [], rfl, by simp, by simp, fun i m hm => by simp at hm⟩
  · simp [Value.cells] at hcs
    obtain ⟨rfl, rfl, rfl⟩ := hcs
    simp only [Prod.mk.injEq] at hx
    obtain ⟨rfl, rfl⟩ := hx
    simp only [if_true] at hmm
    subst hmm
    rw [cells_Nd] at hel hlt
    by_cases h0 : len0 = 0
    · subst h0
      exact ⟨some a, m, [], rfl, by simp, hm, fun i m hm => by simp at hm⟩
    obtain ⟨cs0, z1, -⟩ := hel 0 (by omega)
    have hspot := spot_of z1 (by omega)
    obtain ⟨b, off, spot⟩ := a
    have hs : spot = none := by simpa [Addr.add] using hspot
    subst hs
    have hbl : b < W.heap.size := hlt (.cell b off) (List.mem_append.2 (.inl (MemPlace.mem_row.2 ⟨0, by omega, by simp⟩)))
    have each : ∀ i, i < len0 → ∃ z : Mn, Fit z ∧ NodeAt W b (off + i * 6) z := fun i hi => by
      obtain ⟨cs', h1, h2⟩ := hel i (by omega)
      have hsub : ∀ y ∈ Pl i, y.block < W.heap.size := fun y hy => hlt y (List.mem_append.2 (.inr (List.mem_flatMap.2 ⟨i, List.mem_range.2 (by omega), hy⟩)))
      obtain ⟨_, hlen, hcell⟩ := World.cells?_some h1
      match cs', hlen with
      | [y0, y1, y2, y3, y4, y5], _ =>
        obtain ⟨n0, d0, p0, t0, s0⟩ := struct_field under_Nd h2 0 fNd0 cells_int (v := y0) rfl
        obtain ⟨n1, d1, p1, t1, s1⟩ := struct_field under_Nd h2 1 fNd1 cells_str (v := y1) rfl
        obtain ⟨n2, d2, p2, t2, s2⟩ := struct_field under_Nd h2 2 fNd2 cells_str (v := y2) rfl
        obtain ⟨n3, d3, p3, t3, s3⟩ := struct_field under_Nd h2 3 fNd3 cells_as (v := y3) rfl
        obtain ⟨n4, d4, p4, t4, s4⟩ := struct_field under_Nd h2 4 fNd4 cells_int (v := y4) rfl
        obtain ⟨n5, d5, p5, t5, s5⟩ := struct_field under_Nd h2 5 fNd5 cells_is (v := y5) rfl
        obtain ⟨kd, e0, -, w0⟩ := DataW.trod_int Tryd.underlying3 t0
        obtain ⟨nm0, e1, -, -⟩ := DataW.trod_string Tryd.underlying9 t1
        obtain ⟨tx0, e2, -, -⟩ := DataW.trod_string Tryd.underlying9 t2
        obtain ⟨pr0, e4, -, w4⟩ := DataW.trod_int Tryd.underlying3 t4
        cases e0
        cases e1
        cases e2
        cases e4
        obtain ⟨aA, aC, al, rfl, q1, q2, q3⟩ := attrs_cell t3 (fun y hy => hsub y (s3 y hy))
        obtain ⟨kA, kC, kl, rfl, r1, r2, r3, r4⟩ := ints_cell t5 (fun y hy => hsub y (s5 y hy))
        have g0 := hcell 0 (by omega)
        have g1 := hcell 1 (by omega)
        have g2 := hcell 2 (by omega)
        have g3 := hcell 3 (by omega)
        have g4 := hcell 4 (by omega)
        have g5 := hcell 5 (by omega)
        simp only [add_plain, Nat.add_zero] at g0 g1 g2 g3 g4 g5
        exact ⟨⟨kd, nm0, tx0, al, pr0, kl, aA, aC, kA, kC⟩, ⟨i64_wf w0, i64_wf w4, r4, ⟨q1, q2⟩, ⟨r1, r2⟩⟩, ⟨g0, g1, g2, g3, g4, g5, q3, r3⟩⟩
    obtain ⟨f, hf⟩ := Deep.choose_lt each
    refine ⟨some ⟨b, off, none⟩, m, (List.range len0).map f, by simp, by simpa using hl, hm, fun i z hz => ?_⟩
    obtain ⟨hi, e⟩ := List.getElem?_eq_some_iff.1 hz
    have hi' : i < len0 := by simpa using hi
    have e' : f i = z := by simpa using e
    rw [← e']
    exact ⟨(hf i hi').1, b, off, rfl, hbl, (hf i hi').2⟩
end Go.Proofs.YtkcfpglmlhoiaaaDoor
