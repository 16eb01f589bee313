/-
  What any turn of a list comes to, on plain pools; a list of acts that came in.
-/
import Derived.Test.YtbldjlkofaiikaaVecBk
import Derived.Test.YtbldjlkofaiikaaVecPm
import Derived.Deep.Slices
import Derived.ChangeSame
namespace Go.Proofs.Ytbldjlkofaiikaa
open Go.ChangeShapes Go.WideShapes Go.ChangeAt Go.RowKit
set_option linter.unusedVariables false
set_option linter.unusedSimpArgs false

/-- Nothing is turned; or other items are laid, and what they leave is told. -/
def Turned (p : Pl) (v : Vc) (rows : List (List Int)) (T : Told) : Prop :=
  (T.p = p ∧ T.v = v ∧ T.gone = []) ∨ ∃ items rows', p.raise rows (lvs items.length) items = some (T.p, rows') ∧ T.gone = left rows' 0 rows ∧ WF T.p T.v items rows'
theorem change_turn {n : Nat} {G : Int} {p : Pl} {v : Vc} {l items : List Int} {rows : List (List Int)} (hP : PK n G p) (hG : G ≤ 1099511627775) (hv : WF p v l rows) (hU : U64 items) : Turned p v rows (p.change v items) := by
  by_cases h200 : 200 < items.length
  · rw [Pl.change, if_pos h200]
    exact .inl ⟨rfl, rfl, rfl⟩
  · cases hr : p.raise rows (lvs items.length) items with
    | none =>
      rw [Pl.change, if_neg h200, hv.down]
      simp only [hr]
      exact .inl ⟨rfl, rfl, rfl⟩
    | some x =>
      obtain ⟨q, rows'⟩ := x
      obtain ⟨a, b, c, d⟩ := change_wf hP hG hv (by omega) hU hr
      rw [a]
      exact .inr ⟨items, rows', hr, rfl, d⟩
theorem setV_turn {n : Nat} {G : Int} {p : Pl} {v : Vc} {l : List Int} {rows : List (List Int)} (hP : PK n G p) (hG : G ≤ 1099511627775) (hv : WF p v l rows) (i : Int) {x : Int} (hx : B64 x) : Turned p v rows (p.setV v i x) := by
  rw [Pl.setV]
  split
  · exact .inl ⟨rfl, rfl, rfl⟩
  · rw [hv.items]
    exact change_turn hP hG hv (hv.u64.set _ hx)
theorem insertV_turn {n : Nat} {G : Int} {p : Pl} {v : Vc} {l : List Int} {rows : List (List Int)} (hP : PK n G p) (hG : G ≤ 1099511627775) (hv : WF p v l rows) (i : Int) {x : Int} (hx : B64 x) : Turned p v rows (p.insertV v i x) := by
  rw [Pl.insertV]
  split
  · exact .inl ⟨rfl, rfl, rfl⟩
  · rw [hv.items]
    exact change_turn hP hG hv (ins_nl ⟨by have := hv.small; omega, hv.u64, hx.1, hx.2⟩).2
theorem removeV_turn {n : Nat} {G : Int} {p : Pl} {v : Vc} {l : List Int} {rows : List (List Int)} (hP : PK n G p) (hG : G ≤ 1099511627775) (hv : WF p v l rows) (i : Int) : Turned p v rows (p.removeV v i) := by
  rw [Pl.removeV]
  split
  · exact .inl ⟨rfl, rfl, rfl⟩
  · rw [hv.items]
    exact change_turn hP hG hv (rem_nl ⟨by have := hv.small; omega, hv.u64⟩).2
theorem Turned.keeps {n : Nat} {G : Int} {p : Pl} {v : Vc} {l : List Int} {rows : List (List Int)} {T : Told} (hP : PK n G p) (hG : G ≤ 1099511627775) (hv : WF p v l rows) (h : Turned p v rows T) : PK n G T.p ∧ Ext p T.p ∧ ∃ l' rows', WF T.p T.v l' rows' := by
  rcases h with ⟨e1, e2, e3⟩ | ⟨items, rows', h1, h2, h3⟩
  · rw [e1, e2]
    exact ⟨hP, Ext.refl _, l, rows, hv⟩
  · obtain ⟨a, b, c, d⟩ := raise_spec hG hP h3.u64 (tr_mem hv.tr) h1
    exact ⟨a, b, items, rows', h3⟩
/-- Change, whatever is laid into it. -/
theorem change_rla (root : Int) (size : Nat) (items : List Int) (pi : Option Addr) (ci : Nat) (vg vu vf vc : Value) (p : Pl) (b n : Nat) (G : Int) (w : World) (hA : PA w b vg vu vf vc p) (hP : PK n G p) (hI : RL w pi items) (hci : items.length ≤ ci) (hcm : ci ≤ 9223372036854775807) (hil : items.length ≤ 1000) (hiU : U64 items) (h0 : 0 ≤ root) (h1 : root ≤ 18446744073709551615) (hs : size ≤ 256) (hG : G ≤ 1099511627775) (hn0 : 0 < n) :
    Calls Try.prog 14 #[.agg #[vg, vu, vf, vc], .agg #[.int .u64 root, .int .i64 size], .slice pi items.length ci] w (GivesC (p.change ⟨root, size⟩ items) w) := by
  by_cases h200 : 200 < items.length
  · have e : p.change ⟨root, size⟩ items = ⟨p, ⟨root, size⟩, [], 1⟩ := by rw [Pl.change, if_pos h200]
    rw [e]
    exact change_argl root size items pi ci vg vu vf vc p b n G w hA hP hI hci hcm h200 hil
  · exact change_rl root size items pi ci vg vu vf vc p b n G w hA hP hI hci hcm (by omega) hiU h0 h1 hs hG hn0

/-! ### acts -/
/-- A field of a struct that can be read: its one cell, and how it reads. -/
theorem struct_field {H : Type} {enc : TypeId × Value → H} {P : Program} {w : World} {base : Nat} {sp : Nat → Bool} {held : Bool} {fuel : Nat} {t : TypeId} {cs : List Value} {x : DataW H × List MemPlace} {fs : Array Field}
    (ht : P.underlying t = some (.struct fs)) (h : DataW.trod enc P w base sp held fuel t cs = some x) (i : Nat) {ft : TypeId} {off : Nat} (hi : (fs[i]?).map (fun f => (f.type, f.offset)) = some (ft, off)) (hc : P.cellsOf ft = 1) {v : Value} (hv : cs[off]? = some v) :
    ∃ n d ps, DataW.trod enc P w base sp held n ft [v] = some (d, ps) ∧ ∀ y ∈ ps, y ∈ x.2 := by
  obtain ⟨xs, n, _, hx, _, hxl, hf⟩ := DataW.trod_struct ht h
  obtain ⟨f, hfi, he⟩ := Option.map_eq_some_iff.1 hi
  have e1 : f.type = ft := congrArg Prod.fst he
  have e2 : f.offset = off := congrArg Prod.snd he
  have hlt : i < xs.length := by
    rw [hxl]
    exact (Array.getElem?_eq_some_iff.1 hfi).1
  have := hf i f hfi
  rw [e1, e2, hc, List.getElem?_eq_getElem hlt] at this
  obtain ⟨hl, hg⟩ := List.getElem?_eq_some_iff.1 hv
  have h1 : (cs.drop off).take 1 = [v] := by
    rw [List.drop_eq_getElem_cons hl, hg]
    rfl
  rw [h1] at this
  refine ⟨n, (xs[i]).1, (xs[i]).2, this, fun y hy => ?_⟩
  rw [hx]
  exact List.mem_flatMap.2 ⟨xs[i], List.getElem_mem _, hy⟩
set_option maxRecDepth 100000 in
/-- A list of numbers in a cell: it can be read. -/
theorem u64s_cell {H : Type} {enc : TypeId × Value → H} {W : World} {n : Nat} {v : Value} {d : DataW H} {ps : List MemPlace} (hf : DataW.trod enc Try.prog W 0 (fun _ => true) true n 24 [v] = some (d, ps)) (hlt : ∀ x ∈ ps, x.block < W.heap.size) :
    ∃ (A : Option Addr) (cap : Nat) (zs : List Int), v = .slice A zs.length cap ∧ zs.length ≤ cap ∧ cap ≤ maxLen ∧ RL W A zs ∧ U64 zs := by
  have hv : v.cells.toList = [v] := by
    rcases open_ints Try.underlying24 Try.underlying41 cells_u64 hf with ⟨hcs, hx⟩ | ⟨a, len', cap', ss, hcs, _⟩
    · cases hcs; rfl
    · cases hcs; rfl
  have hw : ∃ a len cap, v = .slice a len cap := by
    rcases open_ints Try.underlying24 Try.underlying41 cells_u64 hf with ⟨hcs, hx⟩ | ⟨a, len', cap', ss, hcs, _⟩
    · cases hcs; exact ⟨_, _, _, rfl⟩
    · cases hcs; exact ⟨_, _, _, rfl⟩
  obtain ⟨a0, len, cap, rfl⟩ := hw
  rcases open_ints Try.underlying24 Try.underlying41 cells_u64 hf with ⟨hcs, hx⟩ | ⟨a, len', cap', ss, hcs, _, hl, hm, hz, hx, hcell, hws⟩
  · simp at hcs
    obtain ⟨rfl, rfl, rfl⟩ := hcs
    exact ⟨none, 0, [], rfl, by simp, by simp [maxLen], fun h => by simp at h, fun x hx => by simp at hx⟩
  · simp at hcs
    obtain ⟨rfl, rfl, rfl⟩ := hcs
    simp only [Prod.mk.injEq] at hx
    obtain ⟨rfl, rfl⟩ := hx
    simp only [if_true] at hz
    have hlen : (ss.take len).length = len := by rw [List.length_take]; omega
    refine ⟨some a, cap, ss.take len, by rw [hlen], by rw [hlen]; exact hl, hm, fun h0 => ?_, fun z hz => ?_⟩
    · rw [hlen] at h0
      obtain ⟨b, off, spot⟩ := a
      have hspot : spot = none := by simpa [Addr.add] using World.cell?_spot (hcell 0 (by omega))
      subst hspot
      refine ⟨b, off, rfl, hlt (.cell b off) (MemPlace.mem_row.2 ⟨0, by omega, by simp⟩), fun j u hu => ?_⟩
      have hj : j < len := by
        rcases Nat.lt_or_ge j len with hj | hj
        · exact hj
        · rw [List.getElem?_eq_none (by rw [gvs_length, hlen]; exact hj)] at hu; cases hu
      have := hcell j (by omega)
      rw [add_plain] at this
      rw [this]
      have e : (gvs (ss.take len))[j]? = some (.int .u64 (ss.getD j 0)) := by
        rw [gvs, List.getElem?_map, List.getElem?_take, if_pos hj, List.getElem?_eq_getElem (by omega), getD_at 0 (by omega)]
        rfl
      rw [e] at hu
      exact hu
    · exact u64_wf (hws z (List.mem_of_mem_take hz))
/-- One act, of its four cells from o on in block g. -/
structure ActAt (w : World) (g o : Nat) (k i x : Int) (B : Option Addr) (c : Nat) (zs : List Int) : Prop where
  c0 : w.cell? ⟨g, o, none⟩ = some (.int .i64 k)
  c1 : w.cell? ⟨g, o + 1, none⟩ = some (.int .i64 i)
  c2 : w.cell? ⟨g, o + 2, none⟩ = some (.int .u64 x)
  c3 : w.cell? ⟨g, o + 3, none⟩ = some (.slice B zs.length c)
  k64 : -9223372036854775808 ≤ k ∧ k ≤ 9223372036854775807
  i64 : -9223372036854775808 ≤ i ∧ i ≤ 9223372036854775807
  x64 : 0 ≤ x ∧ x ≤ 18446744073709551615
  cap : zs.length ≤ c ∧ c ≤ 9223372036854775807
  rl : RL w B zs
  u64 : U64 zs
def AL (w : World) (A : Option Addr) (n : Nat) : Prop := ∀ j, j < n → ∃ g off, A = some ⟨g, off, none⟩ ∧ g < w.heap.size ∧ ∃ k i x B c zs, ActAt w g (off + j * 4) k i x B c zs
theorem ActAt.below {w w' : World} {g o : Nat} {k i x : Int} {B : Option Addr} {c : Nat} {zs : List Int} (h : ActAt w g o k i x B c zs) (hg : g < w.heap.size) (hb : Below w.heap.size w w') : ActAt w' g o k i x B c zs :=
  ⟨(hb.cell (p := ⟨g, o, none⟩) hg).trans h.c0, (hb.cell (p := ⟨g, o + 1, none⟩) hg).trans h.c1, (hb.cell (p := ⟨g, o + 2, none⟩) hg).trans h.c2, (hb.cell (p := ⟨g, o + 3, none⟩) hg).trans h.c3, h.k64, h.i64, h.x64, h.cap, h.rl.below hb, h.u64⟩
theorem AL.below {w w' : World} {A : Option Addr} {n : Nat} (h : AL w A n) (hb : Below w.heap.size w w') : AL w' A n := fun j hj => by
  obtain ⟨g, off, hA, hg, k, i, x, B, c, zs, ha⟩ := h j hj
  exact ⟨g, off, hA, Nat.lt_of_lt_of_le hg hb.size, k, i, x, B, c, zs, ha.below hg hb⟩
theorem under_A : Try.prog.underlying 45 = some (.struct (Try.prog.fieldsOf 45)) := by kernel_rfl
theorem fA0 : ((Try.prog.fieldsOf 45)[0]?).map (fun f => (f.type, f.offset)) = some (3, 0) := by kernel_rfl
theorem fA1 : ((Try.prog.fieldsOf 45)[1]?).map (fun f => (f.type, f.offset)) = some (3, 1) := by kernel_rfl
theorem fA2 : ((Try.prog.fieldsOf 45)[2]?).map (fun f => (f.type, f.offset)) = some (41, 2) := by kernel_rfl
theorem fA3 : ((Try.prog.fieldsOf 45)[3]?).map (fun f => (f.type, f.offset)) = some (24, 3) := by kernel_rfl
theorem cells_A : Try.prog.cellsOf 45 = 4 := by kernel_rfl
theorem cells_int : Try.prog.cellsOf 3 = 1 := by kernel_rfl
theorem cells_gs : Try.prog.cellsOf 24 = 1 := by kernel_rfl
set_option maxRecDepth 100000 in
theorem acts_open {H : Type} {enc : TypeId × Value → H} {W : World} {base : Nat} {v : Value} {d : DataW H} {ps : List MemPlace} (hv : Value.okWide Try.prog W .any base 22 v)
    (h : DataW.Trod enc Try.prog W 0 (fun _ => true) true 22 v d ps) (hlt : ∀ x ∈ ps, x.block < W.heap.size) :
    ∃ (A : Option Addr) (n cap : Nat), v = .slice A n cap ∧ n ≤ maxLen ∧ AL W A n := by
  obtain ⟨a0, len, cap, rfl⟩ := okWide_slice Try.underlying22 hv
  obtain ⟨fuel, hf⟩ := h
  rcases Deep.open_slice Try.underlying22 hf with ⟨hcs, hx⟩ | ⟨a, len', cap', m, fu, D, Pl, hcs, hb, hl, hm, hmm, hx, hel⟩
  · simp [Value.cells] at hcs
    obtain ⟨rfl, rfl, rfl⟩ := hcs
    exact ⟨none, 0, 0, rfl, by simp [maxLen], fun j hj => by omega⟩
  · simp [Value.cells] at hcs
    obtain ⟨rfl, rfl, rfl⟩ := hcs
    simp only [Prod.mk.injEq] at hx
    obtain ⟨rfl, rfl⟩ := hx
    simp only [if_true] at hmm
    subst hmm
    refine ⟨some a, len, m, rfl, by omega, fun j hj => ?_⟩
    obtain ⟨cs', h1, h2⟩ := hel j (by omega)
    have hsub : ∀ y ∈ Pl j, y.block < W.heap.size := fun y hy => hlt y (List.mem_append.2 (.inr (List.mem_flatMap.2 ⟨j, List.mem_range.2 (by omega), hy⟩)))
    rw [cells_A] at h1
    obtain ⟨_, hlen, hcell⟩ := World.cells?_some h1
    match cs', hlen with
    | [y0, y1, y2, y3], _ =>
      obtain ⟨n0, d0, p0, t0, s0⟩ := struct_field under_A h2 0 fA0 cells_int (v := y0) rfl
      obtain ⟨n1, d1, p1, t1, s1⟩ := struct_field under_A h2 1 fA1 cells_int (v := y1) rfl
      obtain ⟨n2, d2, p2, t2, s2⟩ := struct_field under_A h2 2 fA2 cells_u64 (v := y2) rfl
      obtain ⟨n3, d3, p3, t3, s3⟩ := struct_field under_A h2 3 fA3 cells_gs (v := y3) rfl
      obtain ⟨k, e0, -, w0⟩ := DataW.trod_int Try.underlying3 t0
      obtain ⟨i, e1, -, w1⟩ := DataW.trod_int Try.underlying3 t1
      obtain ⟨x, e2, -, w2⟩ := DataW.trod_int Try.underlying41 t2
      cases e0
      cases e1
      cases e2
      obtain ⟨B, c, zs, rfl, q1, q2, q3, q4⟩ := u64s_cell t3 (fun y hy => hsub y (s3 y hy))
      have g0 := hcell 0 (by omega)
      have g1 := hcell 1 (by omega)
      have g2 := hcell 2 (by omega)
      have g3 := hcell 3 (by omega)
      obtain ⟨b, off, spot⟩ := a
      have hspot : spot = none := by
        obtain ⟨cs0, z1, -⟩ := hel 0 (by omega)
        rw [cells_A] at z1
        have z2 := (World.cells?_some z1).2.2 0 (by omega)
        have z3 := (World.cells?_some z1).2.1
        rw [List.getElem?_eq_getElem (by omega)] at z2
        simpa [Addr.add] using World.cell?_spot z2
      subst hspot
      simp only [cells_A, add_plain, Nat.add_zero] at g0 g1 g2 g3
      refine ⟨b, off, rfl, ?_, k, i, x, B, c, zs, ⟨g0, g1, g2, g3, i64_wf w0, i64_wf w1, u64_wf w2, ⟨q1, q2⟩, q3, q4⟩⟩
      exact hlt (.cell b off) (List.mem_append.2 (.inl (MemPlace.mem_row.2 ⟨0, by rw [cells_A]; omega, by simp⟩)))
end Go.Proofs.Ytbldjlkofaiikaa
