/-
  Two pools of the document's that bear the same are told the same.
-/
import Derived.Test.YtbldjlkofaiikaaVecPa
namespace Go.Proofs.Ytbldjlkofaiikaa
open Go.ChangeShapes Go.WideShapes Go.ChangeAt Go.RowKit
set_option linter.unusedVariables false
set_option linter.unusedSimpArgs false

theorem under_D : Try.prog.underlying 95 = some (.struct (Try.prog.fieldsOf 95)) := by kernel_rfl
theorem fields_D : ((Try.prog.fieldsOf 95).toList.map (fun f => (f.type, f.offset, decide (f.name ≠ "_")))) = [(3, 0, true), (81, 1, true)] := by kernel_rfl
theorem part_4 (n a b c d : Value) (W : World) : (part 81 #[n, a, b, c, d] 1).run Try.prog W = .ok (.agg #[a, b, c, d]) W := by
  have h86 : Try.prog.underlying 81 = some (.array 4 41) := by kernel_rfl
  simp [part, isAgg, run_underlying h86, sizeOf_4, asAgg]
theorem eqD (n a0 a1 a2 a3 : Int) (W : World) : (Op.equalIn 10000 95 (.agg #[.int .i64 n, .int .u64 a0, .int .u64 a1, .int .u64 a2, .int .u64 a3]) (.agg #[.int .i64 n, .int .u64 a0, .int .u64 a1, .int .u64 a2, .int .u64 a3])).run Try.prog W = .ok true W := by
  rw [show (10000 : Nat) = 9999 + 1 from rfl, run_equalIn_struct W 9999 _ _ _ under_D (by kernel_rfl)]
  have hf := fields_D
  generalize (Try.prog.fieldsOf 95).toList = fs at *
  have hl := congrArg List.length hf
  simp only [List.length_map, List.length_cons, List.length_nil] at hl
  match fs, hl, hf with
  | [f0, f1], _, hf =>
    simp only [List.map_cons, List.map_nil, List.cons.injEq, Prod.mk.injEq, decide_eq_true_eq, and_true] at hf
    obtain ⟨⟨t0, o0, n0⟩, t1, o1, n1⟩ := hf
    have hI : Try.prog.plainKey 3 = true := by kernel_rfl
    simp only [Op.eqFields, n0, n1, t0, t1, o0, o1, ne_eq, not_true, not_false_eq_true, if_true, Sem.run_bind]
    rw [run_part_plain W hI (v := .int .i64 n) rfl]
    simp only [Result.andThen_ok]
    rw [run_part_plain W hI (v := .int .i64 n) rfl]
    simp only [Result.andThen_ok]
    rw [run_equalIn_int W 9998 _ .i64 .i64 n n (by kernel_rfl)]
    simp only [Result.andThen_ok, beq_self_eq_true, Bool.not_true, Bool.false_eq_true, if_false, Sem.run_bind]
    rw [part_4]
    simp only [Result.andThen_ok]
    rw [part_4]
    simp only [Result.andThen_ok]
    rw [eq4D 9998 a0 a1 a2 a3 a0 a1 a2 a3 W (fun a b W => run_equalIn_int W 9997 _ .u64 .u64 a b (by kernel_rfl))]
    simp

theorem own_chunkQ {w : World} {b g n cap i : Nat} {e : TypeId} {l : List (List Int)} (h : w.ownsRow b e 5 (.slice (some ⟨g, 0, none⟩) n cap) n (cvs l)) (hi : i < l.length) :
    w.cell? ⟨g, i * 5, none⟩ = some (.int .i64 (l.getD i []).length) ∧ w.cell? ⟨g, i * 5 + 1, none⟩ = some (.int .u64 (it (l.getD i []) 0)) ∧ w.cell? ⟨g, i * 5 + 2, none⟩ = some (.int .u64 (it (l.getD i []) 1)) ∧
    w.cell? ⟨g, i * 5 + 3, none⟩ = some (.int .u64 (it (l.getD i []) 2)) ∧ w.cell? ⟨g, i * 5 + 4, none⟩ = some (.int .u64 (it (l.getD i []) 3)) := by
  have hc : ∀ j, j < 5 → w.cell? ⟨g, i * 5 + j, none⟩ = (ccs (l.getD i []))[j]? := fun j hj => by
    have e := cvs_at l i j hi hj
    have hj' : j < (ccs (l.getD i [])).length := hj
    rw [List.getElem?_eq_getElem hj'] at e ⊢
    have := h.cells rfl (i * 5 + j) _ e
    rw [add_plain, Nat.zero_add] at this
    exact this
  exact ⟨hc 0 (by omega), hc 1 (by omega), hc 2 (by omega), hc 3 (by omega), hc 4 (by omega)⟩

set_option maxRecDepth 100000 in
set_option maxHeartbeats 4000000 in
theorem sameQ (vg vu vf vc vg' vu' vf' vc' : Value) (p : Pl) (b b' d d' n : Nat) (G : Int) (w : World) (hA : Ar w b vg vu vf p.st) (hC : w.ownsRow d 95 5 vc p.ch.length (cvs p.ch))
    (hA' : Ar w b' vg' vu' vf' p.st) (hC' : w.ownsRow d' 95 5 vc' p.ch.length (cvs p.ch)) (hP : PK n G p) :
    Calls Try.prog 18 #[.agg #[vg, vu, vf, vc], .agg #[vg', vu', vf', vc']] w (GivesV (.bool true) w) := by
  have hsm := hP.ok.small
  have hln := hP.len
  have g1 := hP.ok.gens
  have g2 := hP.ok.used
  have g4 := hP.ok.free_le
  have HSB : Hid (sameB p.st p.st = true) := Lib.hid (by simp [sameB])
  have HS := Lib.hid (fun (w : World) (hA : Ar w b vg vu vf p.st) (hA' : Ar w b' vg' vu' vf' p.st) => same_any vg vu vf vg' vu' vf' p.st p.st b b' w hA hA' (by omega) (by omega) (by omega) (by omega) (by omega) (by omega))
  rw [HSB.out] at HS
  obtain ⟨pg, cg, rfl, _, _, _⟩ := own_form hA.g
  obtain ⟨pu, cu, rfl, _, _, _⟩ := own_form hA.u
  obtain ⟨pf, cf, rfl, _, _, _⟩ := own_form hA.f
  obtain ⟨pg', cg', rfl, _, _, _⟩ := own_form hA'.g
  obtain ⟨pu', cu', rfl, _, _, _⟩ := own_form hA'.u
  obtain ⟨pf', cf', rfl, _, _, _⟩ := own_form hA'.f
  obtain ⟨pc, cc, rfl, -, -⟩ := own_form5 hC
  obtain ⟨pc', cc', rfl, -, -⟩ := own_form5 hC'
  have HA := Lib.hid hA
  have HA' := Lib.hid hA'
  have HC := Lib.hid hC
  have HC' := Lib.hid hC'
  clear hA hA' hC hC' hP
  obtain ⟨N, hN⟩ : ∃ N, p.ch.length = N := ⟨_, rfl⟩
  have HN := Lib.hid hN
  generalize p.st.gens.length = n1 at *
  generalize p.st.used.length = n2 at *
  generalize p.st.free.length = n3 at *
  have hN5 : N ≤ 500 := by omega
  rw [hN] at HC HC' ⊢
  clear hN hln g1 g2 g4
  obtain ⟨W, hW⟩ : ∃ W, W = (w.alloc (.cells #[.slice pg n1 cg, .slice pu n2 cu, .slice pf n3 cf, .slice pc N cc] 38)).alloc (.cells #[.slice pg' n1 cg', .slice pu' n2 cu', .slice pf' n3 cf', .slice pc' N cc'] 38) := ⟨_, rfl⟩
  have HW : Hid (Below w.heap.size w W ∧ W.heap[w.heap.size]? = some (.cells #[.slice pg n1 cg, .slice pu n2 cu, .slice pf n3 cf, .slice pc N cc] 38 (0, 0)) ∧ W.heap[w.heap.size + 1]? = some (.cells #[.slice pg' n1 cg', .slice pu' n2 cu', .slice pf' n3 cf', .slice pc' N cc'] 38 (0, 0))) := Lib.hid (by
    subst hW
    refine ⟨((Below.refl _ w).alloc (Nat.le_refl _) _).alloc (by simp) _, ?_, heap_alloc2_new _ _ _⟩
    rw [heap_alloc_old _ _ (by simp)]; exact heap_alloc_new w _)
  obtain ⟨x0, x1, x2, x3, -⟩ := block4 HW.out.2.1
  obtain ⟨y0, y1, y2, y3, -⟩ := block4 HW.out.2.2
  have HWs : Hid (w.heap.size + 1 < W.heap.size) := Lib.hid (lt_of_block HW.out.2.2)
  go_enter Try.func18, Try.ntmps18
  go_upto_region 1 with fail
  rw [← hW]
  clear hW
  go_wp2_with fail
  refine (HS.out W (HA.out.below HW.out.1) (HA'.out.below HW.out.1)).mono ?_
  rintro e w1 ⟨rfl, hb⟩
  have HB := Lib.hid hb
  have HB1 : Hid (Below w.heap.size w w1) := Lib.hid (HW.out.1.trans (hb.mono HW.out.1.size))
  have HX : Hid (w1.heap[w.heap.size]? = _) := Lib.hid ((hb.block _ (by have := HWs.out; omega)).trans HW.out.2.1)
  have HY : Hid (w1.heap[w.heap.size + 1]? = _) := Lib.hid ((hb.block _ HWs.out).trans HW.out.2.2)
  clear hb x0 x1 x2 x3 y0 y1 y2 y3
  go_wp2_with fail
  go_loopw [5] (fun i wr => ∃ (k : Nat), k ≤ N ∧ i = .int .i64 k ∧ Hid (∃ q, wr = w1.drewN q)) (fun i _ => N - (intOf i).toNat)
  case atStart => exact ⟨0, Nat.zero_le _, rfl, Lib.hid ⟨0, rfl⟩⟩
  case round =>
    obtain ⟨k, hk, rfl, HD⟩ := hrel
    obtain ⟨q, rfl⟩ := HD.out
    have HBr := Lib.hid (below_drewN HB1.out q)
    obtain ⟨x0, x1, x2, x3, -⟩ := block4 HX.out
    obtain ⟨y0, y1, y2, y3, -⟩ := block4 HY.out
    by_cases hlt : k < N
    · have k0 : (0 : Int) ≤ (k : Int) := by omega
      have k1 : (k : Int) < (N : Int) := by omega
      obtain ⟨gc, rfl, -, hgc⟩ := own_some5 HC.out (by omega)
      obtain ⟨gc', rfl, -, hgc'⟩ := own_some5 HC'.out (by omega)
      have hkl : k < p.ch.length := by rw [HN.out]; exact hlt
      obtain ⟨m0, m1, m2, m3, m4⟩ := own_chunkQ (own_below HC.out HB1.out) hkl
      obtain ⟨l0, l1, l2, l3, l4⟩ := own_chunkQ (own_below HC'.out HB1.out) hkl
      generalize p.ch.getD k [] = c at *
      have hE := eqD c.length (it c 0) (it c 1) (it c 2) (it c 3)
      go_wp2
      go_quiet (fail)
      go_wp2
      go_roundw
      case rel => exact ⟨k + 1, by omega, by go_num, Lib.hid ⟨q + nq, by simp⟩⟩
      case measure => simp [intOf] <;> omega
    · go_wp2
      go_ret
      exact ⟨rfl, HBr.out⟩
end Go.Proofs.Ytbldjlkofaiikaa
