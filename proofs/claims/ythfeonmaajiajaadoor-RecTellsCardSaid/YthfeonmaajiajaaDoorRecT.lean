/-
  The shell of a card: a world that bears the tables; what the tables are; what came in; a wrap that hands on that the tables are laid.
-/
import Derived.Test.YthfeonmaajiajaaDoorRows
import Derived.Test.YthfeonmaajiajaaDoorRecE
import Derived.Test.YthfeonmaajiajaaDoorRecI
import Derived.ProofKit
import Derived.LaidMore
import Derived.LaidSub
import Derived.OpenShut
import Derived.ChangeMaps5
import Derived.Carry
import Derived.HandedShaped
import Derived.Stop.Joined
import Derived.MakeChecks
import Derived.Lib.LaidTab
import Derived.SliceStrings
import Derived.ChangeSlices
import Derived.Deep.Slices
namespace Go.Proofs.YthfeonmaajiajaaDoor
open Go.ChangeShapes Go.WideShapes Go.ChangeAt Go.RowKit
open Rm
set_option linter.unusedVariables false
set_option linter.unusedSimpArgs false

/-- The tables that the rows list. -/
def tabs : List (String × DataW Unit) := Rows.recTellsRow.laid
noncomputable def laidWorld (os : Os) : World := World.doorLaid Tryd.prog 4000 os
theorem laid_met (os : Os) (args : Array Value) : laidMetH Tryd.prog tabs ((laidWorld os).forCall (fun _ _ => 0) ⟨#[], args, []⟩).memory :=
  laidMetH_of_parts3 (fuel := 8) (laidMet_of_run' 8 (by kernel_rfl) (by kernel_rfl)) (by kernel_rfl) (by kernel_rfl)
theorem glob_B : Tryd.prog.globalNamed "treillage/rec.byteBits" = some 0 := by kernel_rfl
theorem glob_H : Tryd.prog.globalNamed "treillage/rec.headBits" = some 1 := by kernel_rfl
theorem glob_L : Tryd.prog.globalNamed "treillage/rec.lengthBits" = some 2 := by kernel_rfl
theorem glob_lt {W : World} {name : String} {g : Nat} {k : IntKind} {zs : List Int} (hg : Tryd.prog.globalNamed name = some g) (h : Lib.TabIs Tryd.prog W name k zs) : g < W.heap.size := by
  unfold Lib.TabIs World.var? at h
  rw [hg, Option.bind_some] at h
  rcases Nat.lt_or_ge g W.heap.size with h' | h'
  · exact h'
  · rw [Array.getElem?_eq_none h'] at h; cases h
/-- The tables, out of what the row says. -/
theorem tb_of {W : World} (h : laidMetH Tryd.prog tabs W) : BT W := by
  have hb := h.filter (fun x => x.1 == "treillage/rec.byteBits")
  have hh := h.filter (fun x => x.1 == "treillage/rec.headBits")
  have hl := h.filter (fun x => x.1 == "treillage/rec.lengthBits")
  have eb : tabs.filter (fun x => x.1 == "treillage/rec.byteBits") = [("treillage/rec.byteBits", Rows.laid_treillage_rec_byteBits)] := by rfl
  have eh : tabs.filter (fun x => x.1 == "treillage/rec.headBits") = [("treillage/rec.headBits", Rows.laid_treillage_rec_headBits)] := by rfl
  have el : tabs.filter (fun x => x.1 == "treillage/rec.lengthBits") = [("treillage/rec.lengthBits", Rows.laid_treillage_rec_lengthBits)] := by rfl
  rw [eb, MakeChecks.laidMetH_plain _ _ _ (by kernel_rfl)] at hb
  rw [eh, MakeChecks.laidMetH_plain _ _ _ (by kernel_rfl)] at hh
  rw [el, MakeChecks.laidMetH_plain _ _ _ (by kernel_rfl)] at hl
  have tB : Lib.TabIs Tryd.prog W "treillage/rec.byteBits" .i64 [8, 8, 8, 8, 8, 8, 8, 8] := Lib.tabIs_of_head (rest := []) (t := 63) (e := 3) (n := 8) glob_B (by kernel_rfl) (by kernel_rfl) (by kernel_rfl) (by kernel_rfl) (by kernel_rfl) hb
  have tH : Lib.TabIs Tryd.prog W "treillage/rec.headBits" .i64 [2, 8, 5, 6, 4, 8, 0, 0] := Lib.tabIs_of_head (rest := []) (t := 63) (e := 3) (n := 8) glob_H (by kernel_rfl) (by kernel_rfl) (by kernel_rfl) (by kernel_rfl) (by kernel_rfl) hh
  have tL : Lib.TabIs Tryd.prog W "treillage/rec.lengthBits" .i64 [6, 6, 6, 6, 6, 6, 6, 6] := Lib.tabIs_of_head (rest := []) (t := 63) (e := 3) (n := 8) glob_L (by kernel_rfl) (by kernel_rfl) (by kernel_rfl) (by kernel_rfl) (by kernel_rfl) hl
  refine ⟨glob_lt glob_B tB, glob_lt glob_H tH, glob_lt glob_L tL, fun j hj => ?_, fun j hj => ?_, fun j hj => ?_⟩
  · rw [tB.cell glob_B j hj]
    have : j = 0 ∨ j = 1 ∨ j = 2 ∨ j = 3 ∨ j = 4 ∨ j = 5 ∨ j = 6 ∨ j = 7 := by omega
    rcases this with rfl | rfl | rfl | rfl | rfl | rfl | rfl | rfl <;> rfl
  · rw [tH.cell glob_H j hj]
    have : j = 0 ∨ j = 1 ∨ j = 2 ∨ j = 3 ∨ j = 4 ∨ j = 5 ∨ j = 6 ∨ j = 7 := by omega
    rcases this with rfl | rfl | rfl | rfl | rfl | rfl | rfl | rfl <;> rfl
  · rw [tL.cell glob_L j hj]
    have : j = 0 ∨ j = 1 ∨ j = 2 ∨ j = 3 ∨ j = 4 ∨ j = 5 ∨ j = 6 ∨ j = 7 := by omega
    rcases this with rfl | rfl | rfl | rfl | rfl | rfl | rfl | rfl <;> rfl
theorem BT.of_memory {W : World} (h : BT W.memory) : BT W := ⟨h.gB, h.gH, h.gL, h.B, h.H, h.L⟩

theorem cells_str : Tryd.prog.cellsOf 9 = 1 := by kernel_rfl
theorem cells_int : Tryd.prog.cellsOf 3 = 1 := by kernel_rfl
theorem cells_u64 : Tryd.prog.cellsOf 23 = 1 := by kernel_rfl
theorem cells_ss : Tryd.prog.cellsOf 22 = 1 := by kernel_rfl
theorem cells_vec : Tryd.prog.cellsOf 25 = 2 := by kernel_rfl
theorem cells_rec : Tryd.prog.cellsOf 27 = 7 := by kernel_rfl
theorem under_rec : Tryd.prog.underlying 27 = some (.struct (Tryd.prog.fieldsOf 27)) := by kernel_rfl
theorem under_vec : Tryd.prog.underlying 25 = some (.struct (Tryd.prog.fieldsOf 25)) := by kernel_rfl
/-- A field of a struct that can be read: its one cell, and how it reads. -/
theorem struct_field {H : Type} {enc : TypeId × Value → H} {P : Program} {w : World} {base : Nat} {sp : Nat → Bool} {held : Bool} {fuel : Nat} {t : TypeId} {cs : List Value} {x : DataW H × List MemPlace} {fs : Array Field}
    (ht : P.underlying t = some (.struct fs)) (h : DataW.trod enc P w base sp held fuel t cs = some x) (i : Nat) {ft : TypeId} {off : Nat} (hi : (fs[i]?).map (fun f => (f.type, f.offset)) = some (ft, off)) (hc : P.cellsOf ft = 1) {v : Value} (hv : cs[off]? = some v) :
    ∃ n d ps, DataW.trod enc P w base sp held n ft [v] = some (d, ps) ∧ ∀ y ∈ ps, y ∈ x.2 := by
  obtain ⟨xs, n, _, hx, _, hxl, hf⟩ := DataW.trod_struct ht h
  obtain ⟨f, hfi, he⟩ := Option.map_eq_some_iff.1 hi
  have e1 : f.type = ft := congrArg Prod.fst he
  have e2 : f.offset = off := congrArg Prod.snd he
  have hlt : i < xs.length := by
    rw [hxl]
    exact (Array.getElem?_eq_some_iff.1 hfi).1
  have := hf i f hfi
  rw [e1, e2, hc, List.getElem?_eq_getElem hlt] at this
  obtain ⟨hl, hg⟩ := List.getElem?_eq_some_iff.1 hv
  have h1 : (cs.drop off).take 1 = [v] := by
    rw [List.drop_eq_getElem_cons hl, hg]
    rfl
  rw [h1] at this
  refine ⟨n, (xs[i]).1, (xs[i]).2, this, fun y hy => ?_⟩
  rw [hx]
  exact List.mem_flatMap.2 ⟨xs[i], List.getElem_mem _, hy⟩
theorem struct_fieldN {H : Type} {enc : TypeId × Value → H} {P : Program} {w : World} {base : Nat} {sp : Nat → Bool} {held : Bool} {fuel : Nat} {t : TypeId} {cs : List Value} {x : DataW H × List MemPlace} {fs : Array Field}
    (ht : P.underlying t = some (.struct fs)) (h : DataW.trod enc P w base sp held fuel t cs = some x) (i : Nat) {ft : TypeId} {off c : Nat} (hi : (fs[i]?).map (fun f => (f.type, f.offset)) = some (ft, off)) (hc : P.cellsOf ft = c) :
    ∃ n d ps, DataW.trod enc P w base sp held n ft ((cs.drop off).take c) = some (d, ps) ∧ ∀ y ∈ ps, y ∈ x.2 := by
  obtain ⟨xs, n, _, hx, _, hxl, hf⟩ := DataW.trod_struct ht h
  obtain ⟨f, hfi, he⟩ := Option.map_eq_some_iff.1 hi
  have e1 : f.type = ft := congrArg Prod.fst he
  have e2 : f.offset = off := congrArg Prod.snd he
  have hlt : i < xs.length := by
    rw [hxl]
    exact (Array.getElem?_eq_some_iff.1 hfi).1
  have := hf i f hfi
  rw [e1, e2, hc, List.getElem?_eq_getElem hlt] at this
  refine ⟨n, (xs[i]).1, (xs[i]).2, this, fun y hy => ?_⟩
  rw [hx]
  exact List.mem_flatMap.2 ⟨xs[i], List.getElem_mem _, hy⟩
theorem fRec0 : ((Tryd.prog.fieldsOf 27)[0]?).map (fun f => (f.type, f.offset)) = some (3, 0) := by kernel_rfl
theorem fRec1 : ((Tryd.prog.fieldsOf 27)[1]?).map (fun f => (f.type, f.offset)) = some (3, 1) := by kernel_rfl
theorem fRec2 : ((Tryd.prog.fieldsOf 27)[2]?).map (fun f => (f.type, f.offset)) = some (9, 2) := by kernel_rfl
theorem fRec3 : ((Tryd.prog.fieldsOf 27)[3]?).map (fun f => (f.type, f.offset)) = some (9, 3) := by kernel_rfl
theorem fRec4 : ((Tryd.prog.fieldsOf 27)[4]?).map (fun f => (f.type, f.offset)) = some (22, 4) := by kernel_rfl
theorem fRec5 : ((Tryd.prog.fieldsOf 27)[5]?).map (fun f => (f.type, f.offset)) = some (25, 5) := by kernel_rfl
theorem fVec0 : ((Tryd.prog.fieldsOf 25)[0]?).map (fun f => (f.type, f.offset)) = some (23, 0) := by kernel_rfl
theorem fVec1 : ((Tryd.prog.fieldsOf 25)[1]?).map (fun f => (f.type, f.offset)) = some (3, 1) := by kernel_rfl
/-- Texts that came in. -/
theorem attrs_open {H : Type} {enc : TypeId × Value → H} {W : World} {n : Nat} {v : Value} {d : DataW H} {ps : List MemPlace}
    (hf : DataW.trod enc Tryd.prog W 0 (fun _ => true) true n 22 [v] = some (d, ps)) (hlt : ∀ x ∈ ps, x.block < W.heap.size) :
    ∃ (A : Option Addr) (cap : Nat) (ls : List Wd), v = .slice A ls.length cap ∧ ls.length ≤ 9223372036854775807 ∧ LV W A (svs ls) ∧ ∀ x ∈ ls, x.length ≤ 9223372036854775807 := by
  rcases open_strings Tryd.underlying22 Tryd.underlying9 cells_str hf with ⟨hcs, hx⟩ | ⟨a, len, cap, ss, hcs, _, hl, hm, hz, hx, hcell, hws⟩
  · obtain rfl : v = .slice none 0 0 := by simpa using hcs
    exact ⟨none, 0, [], rfl, by simp, LV.nil _ _, by simp⟩
  · obtain rfl : v = .slice (some a) len cap := by simpa using hcs
    simp only [Prod.mk.injEq] at hx
    obtain ⟨rfl, rfl⟩ := hx
    simp only [if_true] at hz
    unfold maxLen at hm hws
    have hlen : ((ss.take len).map (fun s => s.data.toList)).length = len := by simp; omega
    refine ⟨some a, cap, (ss.take len).map (fun s => s.data.toList), by rw [hlen], by rw [hlen]; omega, fun h0 => ?_, fun x hx => ?_⟩
    · have h0' : 0 < len := by simp [svs] at h0; omega
      obtain ⟨b, off, spot⟩ := a
      have hspot : spot = none := by simpa [Addr.add] using World.cell?_spot (hcell 0 (by omega))
      subst hspot
      refine ⟨b, off, rfl, hlt (.cell b off) (MemPlace.mem_row.2 ⟨0, by omega, by simp⟩), fun j u hu => ?_⟩
      obtain ⟨hj, e⟩ := List.getElem?_eq_some_iff.1 hu
      have hj2 : j < len := by simp [svs] at hj; omega
      rw [← add_plain, hcell j (by omega), ← e]
      simp [svs, List.getD, List.getElem?_eq_getElem (show j < ss.length by omega), str_eq]
    · obtain ⟨s, hs, rfl⟩ := List.mem_map.1 hx
      have := hws s (List.mem_of_mem_take hs)
      have e : s.data.toList.length = s.size := by rw [← str_size, str_eq]
      omega
theorem i64_wf {x : Int} (h : (Lit.int .i64 x).wf = true) : -9223372036854775808 ≤ x ∧ x ≤ 9223372036854775807 := by
  have h : IntKind.i64.min ≤ x ∧ x ≤ IntKind.i64.max := by simpa [Lit.wf] using h
  exact h
theorem u64_wf {x : Int} (h : (Lit.int .u64 x).wf = true) : 0 ≤ x ∧ x ≤ 18446744073709551615 := by
  have h : IntKind.u64.min ≤ x ∧ x ≤ IntKind.u64.max := by simpa [Lit.wf] using h
  exact h
/-- A node that came in. -/
theorem rec_open {H : Type} {enc : TypeId × Value → H} {W : World} {base : Nat} {v : Value} {d : DataW H} {ps : List MemPlace} (hv : Value.okWide Tryd.prog W .any base 27 v)
    (h : DataW.Trod enc Tryd.prog W 0 (fun _ => true) true 27 v d ps) (hlt : ∀ x ∈ ps, x.block < W.heap.size) : ∃ (r : Rc) (A : Option Addr) (c : Nat), v = .agg (rcs r A c) ∧ LV W A (svs r.attrs) ∧ RcB r := by
  obtain ⟨cs, rfl, hs⟩ := okWide_struct under_rec hv
  rw [cells_rec] at hs
  obtain ⟨fuel, h2⟩ := h
  obtain ⟨l⟩ := cs
  match l, hs with
  | [y0, y1, y2, y3, y4, y5, y6], _ =>
        obtain ⟨n0, d0, p0, t0, s0⟩ := struct_field under_rec h2 0 fRec0 cells_int (v := y0) rfl
        obtain ⟨n1, d1, p1, t1, s1⟩ := struct_field under_rec h2 1 fRec1 cells_int (v := y1) rfl
        obtain ⟨n2, d2, p2, t2, s2⟩ := struct_field under_rec h2 2 fRec2 cells_str (v := y2) rfl
        obtain ⟨n3, d3, p3, t3, s3⟩ := struct_field under_rec h2 3 fRec3 cells_str (v := y3) rfl
        obtain ⟨n4, d4, p4, t4, s4⟩ := struct_field under_rec h2 4 fRec4 cells_ss (v := y4) rfl
        obtain ⟨n5, d5, p5, t5, s5⟩ := struct_fieldN under_rec h2 5 fRec5 cells_vec
        obtain ⟨m0, b0, q0, u0, r0⟩ := struct_field under_vec t5 0 fVec0 cells_u64 (v := y5) rfl
        obtain ⟨m1, b1, q1, u1, r1⟩ := struct_field under_vec t5 1 fVec1 cells_int (v := y6) rfl
        obtain ⟨x0, e0, -, w0⟩ := DataW.trod_int Tryd.underlying3 t0
        obtain ⟨x1, e1, -, w1⟩ := DataW.trod_int Tryd.underlying3 t1
        obtain ⟨x2, e2, -, w2⟩ := DataW.trod_string Tryd.underlying9 t2
        obtain ⟨x3, e3, -, w3⟩ := DataW.trod_string Tryd.underlying9 t3
        obtain ⟨A, cap, ls, rfl, hl1, hl2, hl3⟩ := attrs_open t4 (fun y hy => hlt y (s4 y hy))
        obtain ⟨x5, e5, -, w5⟩ := DataW.trod_int Tryd.underlying23 u0
        obtain ⟨x6, e6, -, w6⟩ := DataW.trod_int Tryd.underlying3 u1
        cases e0
        cases e1
        cases e2
        cases e3
        cases e5
        cases e6
        have z2 : x2.data.toList.length = x2.size := by rw [← str_size, str_eq]
        have z3 : x3.data.toList.length = x3.size := by rw [← str_size, str_eq]
        have v2 : x2.size ≤ 9223372036854775807 := w2
        have v3 : x3.size ≤ 9223372036854775807 := w3
        exact ⟨⟨x0, x1, x2.data.toList, x3.data.toList, ls, x5, x6⟩, A, cap, by simp [rcs, str_eq], hl2, ⟨i64_wf w0, i64_wf w1, by show x2.data.toList.length ≤ _; omega, by show x3.data.toList.length ≤ _; omega, hl1, hl3, u64_wf w5, i64_wf w6⟩⟩
theorem shape_lt {W : World} {g : Nat} {x : TypeId × Nat} (h : W.shape? g = some x) : g < W.heap.size := by
  rcases Nat.lt_or_ge g W.heap.size with h' | h'
  · exact h'
  · unfold World.shape? at h
    rw [Array.getElem?_eq_none h'] at h
    cases h
/-- Words that came in. -/
theorem gs_open {H : Type} {enc : TypeId × Value → H} {W : World} {base : Nat} {v : Value} {d : DataW H} {ps : List MemPlace} (hv : Value.okWide Tryd.prog W .any base 28 v)
    (h : DataW.Trod enc Tryd.prog W 0 (fun _ => true) true 28 v d ps) (hlt : ∀ x ∈ ps, x.block < W.heap.size) :
    ∃ (A : Option Addr) (n cap : Nat) (l : List Int), v = .slice A n cap ∧ n ≤ cap ∧ cap ≤ maxLen ∧ l.length = n ∧ LV W A (gvs l) ∧ U64 l ∧ ∀ a, A = some a → a.block < W.heap.size := by
  have hv0 := hv
  obtain ⟨a0, len, cap, rfl⟩ := okWide_slice Tryd.underlying28 hv
  have hblk : ∀ a, a0 = some a → a.block < W.heap.size := fun a e => by
    subst e
    simp only [Value.okWide, Tryd.underlying28, Cell.okWide, Cell.ok, World.has] at hv0
    obtain ⟨-, -, -, -, row, cells, hs, -⟩ := hv0
    exact shape_lt hs
  obtain ⟨fuel, hf⟩ := h
  rcases open_ints Tryd.underlying28 Tryd.underlying23 cells_u64 hf with ⟨hcs, hx⟩ | ⟨a, len', cap', ss, hcs, _, hl, hm, hz, hx, hcell, hws⟩
  · simp [Value.cells] at hcs
    obtain ⟨rfl, rfl, rfl⟩ := hcs
    exact ⟨none, 0, 0, [], rfl, by simp, by simp, rfl, LV.nil _ _, fun x hx => by simp at hx, fun a e => by cases e⟩
  · simp [Value.cells] at hcs
    obtain ⟨rfl, rfl, rfl⟩ := hcs
    simp only [Prod.mk.injEq] at hx
    obtain ⟨rfl, rfl⟩ := hx
    simp only [if_true] at hz
    have hlen : (ss.take len).length = len := by rw [List.length_take]; omega
    refine ⟨some a, len, cap, ss.take len, rfl, hl, hm, hlen, fun h0 => ?_, fun z hz => u64_wf (hws z (List.mem_of_mem_take hz)), hblk⟩
    have h0' : 0 < len := by simp [gvs] at h0; omega
    obtain ⟨b, off, spot⟩ := a
    have hspot : spot = none := by simpa [Addr.add] using World.cell?_spot (hcell 0 (by omega))
    subst hspot
    refine ⟨b, off, rfl, hlt (.cell b off) (MemPlace.mem_row.2 ⟨0, by omega, by simp⟩), fun j u hu => ?_⟩
    obtain ⟨hj, e⟩ := List.getElem?_eq_some_iff.1 hu
    have hj2 : j < len := by simp [gvs] at hj; omega
    rw [← add_plain, hcell j (by omega), ← e]
    simp [gvs, List.getD, List.getElem?_eq_getElem (show j < ss.length by omega)]
/-- A text that came in. -/
theorem s_open {H : Type} {enc : TypeId × Value → H} {W : World} {base : Nat} {v : Value} {d : DataW H} {ps : List MemPlace} (hv : Value.okWide Tryd.prog W .any base 9 v) (h : DataW.Trod enc Tryd.prog W 0 (fun _ => true) true 9 v d ps) : ∃ s : Wd, v = .string (str s) ∧ s.length ≤ 9223372036854775807 := by
  obtain ⟨s, rfl⟩ := okWide_string Tryd.underlying9 hv
  obtain ⟨fuel, hf⟩ := h
  obtain ⟨x, e, -, hw⟩ := DataW.trod_string Tryd.underlying9 hf
  have hw : x.size ≤ 9223372036854775807 := hw
  simp [Value.cells] at e
  subst e
  refine ⟨s.data.toList, by rw [str_eq], ?_⟩
  have e : s.data.toList.length = s.size := by rw [← str_size, str_eq]
  omega
/-- A number that came in. -/
theorem n_open {H : Type} {enc : TypeId × Value → H} {W : World} {base : Nat} {v : Value} {d : DataW H} {ps : List MemPlace} (hv : Value.okWide Tryd.prog W .any base 3 v) (h : DataW.Trod enc Tryd.prog W 0 (fun _ => true) true 3 v d ps) : ∃ n : Int, v = .int .i64 n ∧ -9223372036854775808 ≤ n ∧ n ≤ 9223372036854775807 := by
  obtain ⟨n, rfl⟩ := okWide_int Tryd.underlying3 hv
  obtain ⟨fuel, hf⟩ := h
  obtain ⟨x, e, -, hw⟩ := DataW.trod_int Tryd.underlying3 hf
  simp [Value.cells] at e
  subst e
  exact ⟨n, rfl, i64_wf hw⟩
/-- From calls to the claim: the listed tables are there, and that they are is handed on. -/
theorem both {H : Type} {enc : TypeId × Value → H} {a : Assume} {C : Checked} {os : Os} {f : FuncId} {fn : Func} {s : ChangeSpec} {conds : List PathCond} {apart fresh handsOn again : Bool} {X : World → Array Value → Prop}
    (own : ownKnob C.prog.godebug = none) (started : os.Started) (noInit : C.prog.inits.idxOf? f = none) (hfn : C.prog.funcs[f]? = some fn)
    (witness : ∃ (w : World) (tape : Tape) (i : Input), w.os = os ∧ (w.forCall tape i).Shaped C.prog ∧ i.vars = [] ∧ Input.okWide C.prog (w.forCall tape i) .any w.heap.size f i ∧
      ((s.pre enc C.prog fn conds apart (w.forCall tape i).memory i.args ∧ X (w.forCall tape i).memory i.args) ∧ sizedMet enc C.prog fn (OpenSpec.ofChange s) apart (w.forCall tape i).memory i.args) ∧ a.holds C.prog (lone (Frame.enter C.prog f i.args .normal) [] (w.forCall tape i)))
    (contract : ∀ (W : World) (base : Nat) (args : Array Value) (ds gs : List (DataW H)) (before : List MemPlace),
      (∀ (j : Nat) t v, fn.params[j]? = some t → args[j]? = some v → Value.okWide C.prog W .any base t v) →
      DataW.Whole enc C.prog fn.params.toList s.vars apart W args.toList ds gs before → X W.memory args →
      Calls C.prog f args W fun e W' => ∃ v, e = .returned v ∧ s.post enc C.prog fn apart fresh handsOn again W args v W') :
    ReturnsInHanded a C os f .any (fun w args => (s.pre enc C.prog fn conds apart w args ∧ X w args) ∧ sizedMet enc C.prog fn (OpenSpec.ofChange s) apart w args) (s.post enc C.prog fn apart fresh handsOn again) := by
  refine returnsInHanded_of_calls own started noInit witness ?_
  intro w tape i h1 h2 h3 hok hpre hholds
  obtain ⟨_, _, _, fn', hfn', _, _, _, _, hval⟩ := hok
  obtain rfl : fn' = fn := Option.some.inj (hfn'.symm.trans hfn)
  obtain ⟨⟨⟨ds, gs, before, hw, hc⟩, hx⟩, hz⟩ := hpre
  refine (contract (w.forCall tape i) w.heap.size i.args ds gs before hval (DataW.Whole.of_heap (w' := w.forCall tape i) (by rfl) hw) hx).mono fun e W' ⟨v, he, hp⟩ => ?_
  subst he
  exact ChangeSpec.post_blind hp
end Go.Proofs.YthfeonmaajiajaaDoor
