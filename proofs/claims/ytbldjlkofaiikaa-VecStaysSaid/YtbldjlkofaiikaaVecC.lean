/-
  A chunk filled; chunks compared; a handle by its level and number.
-/
import Derived.Test.YtbldjlkofaiikaaVecB
import Derived.ChangeKeysEq
namespace Go.Proofs.Ytbldjlkofaiikaa
open Go.ChangeShapes Go.WideShapes Go.ChangeAt Go.RowKit
set_option linter.unusedVariables false
set_option linter.unusedSimpArgs false

/-! ### filled -/
theorem info_C : (Try.prog.info? 41).map (·.size) = some 1 := by kernel_rfl
theorem fill_cells {z o : Value} (c : List Int) (h : c.length ≤ 4) (ho : o = .int .u64 0) : splice [z, o, o, o, o] 1 (gvs c) = [z, .int .u64 (it c 0), .int .u64 (it c 1), .int .u64 (it c 2), .int .u64 (it c 3)] := by
  subst ho
  match c, h with
  | [], _ => rfl
  | [_], _ => rfl
  | [_, _], _ => rfl
  | [_, _, _], _ => rfl
  | [_, _, _, _], _ => rfl
  | _ :: _ :: _ :: _ :: _ :: _, h => simp at h
theorem heap_new1 (w : World) (o o' : Obj) : ((w.alloc o).alloc o').heap[w.heap.size + 1]? = some o' := (show (w.alloc o).heap.size = w.heap.size + 1 by simp) ▸ heap_alloc_new _ _
theorem block5 {w : World} {k : Nat} {a b c d e : Value} {t : TypeId} (h : w.heap[k]? = some (.cells #[a, b, c, d, e] t (0, 0))) :
    (w.cell? ⟨k, 0, none⟩ = some a ∧ w.cell? ⟨k, 1, none⟩ = some b ∧ w.cell? ⟨k, 2, none⟩ = some c ∧ w.cell? ⟨k, 3, none⟩ = some d ∧ w.cell? ⟨k, 4, none⟩ = some e) ∧
    w.frozen? ⟨k, 0, none⟩ = false ∧ w.frozen? ⟨k, 1, none⟩ = false ∧ w.frozen? ⟨k, 2, none⟩ = false ∧ w.frozen? ⟨k, 3, none⟩ = false ∧ w.frozen? ⟨k, 4, none⟩ = false := by
  simp [World.cell?, World.frozen?, h]
theorem set5 {w : World} {k : Nat} {a b c d e : Value} {t : TypeId} (h : w.heap[k]? = some (.cells #[a, b, c, d, e] t (0, 0))) (x y z u v : Value) :
    (((((w.setCell ⟨k, 0, none⟩ x).setCell ⟨k, 1, none⟩ y).setCell ⟨k, 2, none⟩ z).setCell ⟨k, 3, none⟩ u).setCell ⟨k, 4, none⟩ v).heap[k]? = some (.cells #[x, y, z, u, v] t (0, 0)) := by
  simp [World.setCell, Array.getElem?_modify, h]
theorem below_set5 {a w : World} {B k : Nat} (h : Below B a w) (hk : B ≤ k) (x y z u v : Value) : Below B a (((((w.setCell ⟨k, 0, none⟩ x).setCell ⟨k, 1, none⟩ y).setCell ⟨k, 2, none⟩ z).setCell ⟨k, 3, none⟩ u).setCell ⟨k, 4, none⟩ v) :=
  ((((h.setCell hk _).setCell hk _).setCell hk _).setCell hk _).setCell hk _
set_option maxRecDepth 100000 in
set_option maxHeartbeats 1000000 in
theorem filled_any (g off cap : Nat) (l : List Int) (w : World) (hg : g < w.heap.size) (hc : ∀ j u, (gvs l)[j]? = some u → w.cell? ⟨g, off + j, none⟩ = some u) (hl : l.length ≤ 1000) (h0 : 0 < l.length) :
    Calls Try.prog 70 #[.slice (some ⟨g, off, none⟩) l.length cap] w (GivesV (cval (l.take 4)) w) := by
  have HC := Lib.hid hc
  have HSZ := Lib.hid info_C
  have HL : Hid (l.take 4 = l.take 4 ∧ (gvs (l.take 4)).length = Nat.min l.length 4 ∧ (l.take 4).length ≤ 4) := Lib.hid ⟨rfl, by rw [gvs_length, List.length_take]; exact Nat.min_comm _ _, by simp; omega⟩
  clear hc
  go_enter Try.func70, Try.ntmps70
  go_wp2_with (with_reducible refine wpList_copy_splice rfl (.tmp 5) (.tmp 6) 24 24 rfl 41 Try.underlying24 HSZ.out (some ⟨w.heap.size + 1, 1, none⟩) (some ⟨g, off, none⟩) 4 4 l.length cap rfl rfl (w.heap.size + 1) 1 [.int .i64 0, .int .u64 0, .int .u64 0, .int .u64 0, .int .u64 0] 83 ?hg (gvs (l.take 4)) ?hn ?hpos ?hfit (gvs_one _) (w.heap.size + 1) (w.alloc (.cells #[.int .i64 0, .int .u64 0, .int .u64 0, .int .u64 0, .int .u64 0] 83)) ?hb (Nat.le_refl _) ?hk)
  case hg => exact (Array.getElem?_eq_some_iff.1 (heap_new1 _ _ _)).2
  case hn => exact HL.out.2.1
  case hpos =>
    intro _
    intro j u hj
    have hj' : (gvs l)[j]? = some u := by
      simp only [gvs, List.map_take] at hj ⊢
      rw [List.getElem?_take] at hj
      split at hj
      · exact hj
      · cases hj
    exact HC.out j u hj'
  case hfit => have := HL.out; rw [gvs_length]; simp; omega
  case hb => exact (Below.refl _ _).alloc (by simp) _
  case hk =>
    intro w' HG hb
    rw [fill_cells _ HL.out.2.2 rfl] at HG
    rw [gvs_length]
    have HB := Lib.hid hb
    have hs := hb.size
    obtain ⟨⟨f0, f1, f2, f3, f4⟩, y0, y1, y2, y3, y4⟩ := block5 ((hb.block w.heap.size (by omega)).trans (heap_alloc_new w _))
    clear hb
    unfold cval
    generalize l.take 4 = c at *
    obtain ⟨⟨d0, d1, d2, d3, d4⟩, z0, z1, z2, z3, z4⟩ := block5 HG.out
    have ne : w.heap.size + 1 ≠ w.heap.size := by omega
    have ne' : w.heap.size ≠ w.heap.size + 1 := by omega
    go_wp2
    obtain ⟨W, hW⟩ : ∃ W, W = w'.setCell ⟨w.heap.size + 1, 0, none⟩ (.int .i64 c.length) := ⟨_, rfl⟩
    have hX := (heap_set_other w' ⟨w.heap.size + 1, 0, none⟩ (.int .i64 c.length) (k := w.heap.size) (by simp)).trans ((HB.out.block w.heap.size (by omega)).trans (heap_alloc_new w _))
    have hBW : Below w.heap.size w w' := ((Below.refl _ w).alloc (Nat.le_refl _) _).trans (HB.out.mono (by omega))
    have hB2 := below_set5 (hBW.setCell (show w.heap.size ≤ (⟨w.heap.size + 1, 0, none⟩ : Addr).block by simp) (.int .i64 c.length)) (Nat.le_refl _) (.int .i64 c.length) (.int .u64 (it c 0)) (.int .u64 (it c 1)) (.int .u64 (it c 2)) (.int .u64 (it c 3))
    have HB2 := Lib.hid hB2
    rw [← hW] at hX
    obtain ⟨⟨k0, k1, k2, k3, k4⟩, -⟩ := block5 (set5 hX (.int .i64 c.length) (.int .u64 (it c 0)) (.int .u64 (it c 1)) (.int .u64 (it c 2)) (.int .u64 (it c 3)))
    rw [← hW]
    rw [← hW] at HB2
    refine bodyPost_ret (v := cval c) (by simp [results, Try.results70, go_sem, cval, k0, k1, k2, k3, k4]) rfl ⟨rfl, HB2.out⟩

/-! ### holds -/
theorem sizeOf_G (W : World) : (sizeOf 41).run Try.prog W = .ok 1 W := by
  obtain ⟨i, hi, -⟩ := info_parts info_G
  rw [run_sizeOf W hi]
  exact congrArg (fun n => Result.ok n W) (show Try.prog.cellsOf 41 = 1 by kernel_rfl)
theorem part_G (xs : Array Value) (off : Nat) (v : Value) (hx : xs[off]? = some v) (W : World) : (part 41 xs off).run Try.prog W = .ok v W := run_part_plain W (by kernel_rfl) hx
theorem eq4D (D : Nat) (a0 a1 a2 a3 b0 b1 b2 b3 : Int) (W : World) (hD : ∀ a b W, (Op.equalIn D 41 (.int .u64 a) (.int .u64 b)).run Try.prog W = .ok (a == b) W) :
    (Op.equalIn (D + 1) 81 (.agg #[.int .u64 a0, .int .u64 a1, .int .u64 a2, .int .u64 a3]) (.agg #[.int .u64 b0, .int .u64 b1, .int .u64 b2, .int .u64 b3])).run Try.prog W = .ok (a0 == b0 && (a1 == b1 && (a2 == b2 && a3 == b3))) W := by
  have h86 : Try.prog.underlying 81 = some (.array 4 41) := by kernel_rfl
  simp only [Op.equalIn, Sem.run_bind, run_underlying h86, Result.andThen_ok, sizeOf_G, Std.Legacy.Range.forIn_eq_forIn_range', Std.Legacy.Range.size]
  simp only [Nat.sub_zero, Nat.add_sub_cancel, Nat.div_one, List.range', List.forIn_cons, List.forIn_nil, Sem.run_bind, Nat.mul_one, Nat.zero_add]
  rw [part_G _ 0 (.int .u64 a0) rfl]
  simp only [Result.andThen_ok]
  rw [part_G _ 0 (.int .u64 b0) rfl]
  simp only [Result.andThen_ok, hD]
  cases (a0 == b0)
  · rfl
  simp only [Bool.not_true, Bool.false_eq_true, if_false, Sem.run_pure, Result.andThen_ok, Sem.run_bind, Bool.true_and]
  rw [part_G _ 1 (.int .u64 a1) rfl]
  simp only [Result.andThen_ok]
  rw [part_G _ 1 (.int .u64 b1) rfl]
  simp only [Result.andThen_ok, hD]
  cases (a1 == b1)
  · rfl
  simp only [Bool.not_true, Bool.false_eq_true, if_false, Sem.run_pure, Result.andThen_ok, Sem.run_bind, Bool.true_and]
  rw [part_G _ 2 (.int .u64 a2) rfl]
  simp only [Result.andThen_ok]
  rw [part_G _ 2 (.int .u64 b2) rfl]
  simp only [Result.andThen_ok, hD]
  cases (a2 == b2)
  · rfl
  simp only [Bool.not_true, Bool.false_eq_true, if_false, Sem.run_pure, Result.andThen_ok, Sem.run_bind, Bool.true_and]
  rw [part_G _ 3 (.int .u64 a3) rfl]
  simp only [Result.andThen_ok]
  rw [part_G _ 3 (.int .u64 b3) rfl]
  simp only [Result.andThen_ok, hD]
  cases (a3 == b3)
  · rfl
  simp only [Bool.not_true, Bool.false_eq_true, if_false, Sem.run_pure, Result.andThen_ok, Sem.run_bind, Bool.true_and]
theorem eq4 (a0 a1 a2 a3 b0 b1 b2 b3 : Int) (W : World) :
    (Op.equalIn 10000 81 (.agg #[.int .u64 a0, .int .u64 a1, .int .u64 a2, .int .u64 a3]) (.agg #[.int .u64 b0, .int .u64 b1, .int .u64 b2, .int .u64 b3])).run Try.prog W = .ok (a0 == b0 && (a1 == b1 && (a2 == b2 && a3 == b3))) W :=
  eq4D 9999 a0 a1 a2 a3 b0 b1 b2 b3 W fun a b W => run_equalIn_int W 9998 _ .u64 .u64 a b (by kernel_rfl)
theorem it_ext {c d : List Int} (hl : c.length = d.length) (h4 : c.length ≤ 4) (h : it c 0 = it d 0 ∧ it c 1 = it d 1 ∧ it c 2 = it d 2 ∧ it c 3 = it d 3) : c = d := by
  apply List.ext_getElem hl
  intro j h1 h2
  have e : it c j = it d j := by
    match j, h1 with
    | 0, _ => exact h.1
    | 1, _ => exact h.2.1
    | 2, _ => exact h.2.2.1
    | 3, _ => exact h.2.2.2
    | j + 4, h1 => omega
  unfold it at e
  rwa [getD_at 0 h1, getD_at 0 h2] at e
set_option maxRecDepth 100000 in
set_option maxHeartbeats 1000000 in
theorem holds_any (h : Int) (c : List Int) (vg vu vf vc : Value) (p : Pl) (b : Nat) (w : World) (hA : PA w b vg vu vf vc p) (h0 : 0 ≤ h) (h1 : h ≤ 18446744073709551615) (hi : ix h < p.ch.length) (hl : p.ch.length ≤ 1000) (h4 : (p.at h).length ≤ 4) :
    Calls Try.prog 40 #[.agg #[vg, vu, vf, vc], .int .u64 h, cval c] w (GivesV (.bool (p.holds h c)) w) := by
  unfold Pl.holds
  have HA := Lib.hid hA
  clear hA
  have CH := fun W hW => chunk_any h vg vu vf vc p b W (HA.out.below hW) h0 h1 hi hl
  unfold cval at CH ⊢
  have HX : Hid (p.at h = c ↔ ((p.at h).length = c.length ∧ it (p.at h) 0 = it c 0 ∧ it (p.at h) 1 = it c 1 ∧ it (p.at h) 2 = it c 2 ∧ it (p.at h) 3 = it c 3)) := Lib.hid ⟨fun e => by rw [e]; simp, fun e => it_ext e.1 h4 e.2⟩
  generalize p.at h = d at *
  generalize ea : it d 0 = a0 at *
  generalize eb : it d 1 = a1 at *
  generalize ec : it d 2 = a2 at *
  generalize ed : it d 3 = a3 at *
  generalize it c 0 = b0 at *
  generalize it c 1 = b1 at *
  generalize it c 2 = b2 at *
  generalize it c 3 = b3 at *
  generalize en : d.length = dn at *
  generalize em : c.length = cn at *
  have HCH := Lib.hid CH
  clear CH
  go_enter Try.func40, Try.ntmps40
  go_wp2_with fail
  refine (HCH.out _ ?_).mono ?_
  · exact ((Below.refl _ w).alloc (Nat.le_refl _) _).alloc (by simp) _
  rintro e w1 ⟨rfl, hb⟩
  have hs := hb.size
  simp only [World.size_alloc] at hs
  have hB2 := hb.block (w.heap.size + 1) (by simp)
  rw [show ((w.alloc (.cells #[vg, vu, vf, vc] 31)).alloc (.cells #[.int .i64 cn, .int .u64 b0, .int .u64 b1, .int .u64 b2, .int .u64 b3] 83)).heap[w.heap.size + 1]? = _ from (show (w.alloc (.cells #[vg, vu, vf, vc] 31)).heap.size = w.heap.size + 1 by simp) ▸ heap_alloc_new _ _] at hB2
  obtain ⟨⟨d0, d1, d2, d3, d4⟩, z0, z1, z2, z3, z4⟩ := block5 hB2
  have ne : w.heap.size + 1 ≠ w1.heap.size := by omega
  have ne' : w1.heap.size ≠ w.heap.size + 1 := by omega
  have ne2 : w.heap.size + 1 < w1.heap.size := by omega
  have HB := Lib.hid hb
  clear hb hB2
  by_cases hn : dn = cn
  · subst hn
    have hE := eq4 a0 a1 a2 a3 b0 b1 b2 b3
    go_wp2
    refine bodyPost_ret (v := .bool (a0 == b0 && (a1 == b1 && (a2 == b2 && a3 == b3)))) (by simp [results, Try.results40, go_sem]) rfl ⟨ret_bool ?_, ?_⟩
    · rw [Bool.eq_iff_iff]
      simp only [Bool.and_eq_true, beq_iff_eq, decide_eq_true_eq, HX.out, true_and]
    · exact ((((Below.refl _ w).alloc (Nat.le_refl _) _).alloc (by simp) _).trans (HB.out.mono (by simp; omega))).alloc (by omega) _
  · have hn' : ((dn : Int) == (cn : Int)) = false := by simp; omega
    go_wp2
    refine bodyPost_ret (v := .bool false) (by simp [results, Try.results40, go_sem]) rfl ⟨ret_bool ?_, ?_⟩
    · rw [eq_comm, decide_eq_false_iff_not, HX.out]; exact fun hc => hn hc.1
    · exact ((((Below.refl _ w).alloc (Nat.le_refl _) _).alloc (by simp) _).trans (HB.out.mono (by simp; omega))).alloc (by omega) _
end Go.Proofs.Ytbldjlkofaiikaa
