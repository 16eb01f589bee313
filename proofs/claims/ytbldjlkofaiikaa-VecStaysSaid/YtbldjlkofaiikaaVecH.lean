/-
  The rows of a list, from its root on down.
-/
import Derived.Test.YtbldjlkofaiikaaVecD
import Derived.Test.YtbldjlkofaiikaaVecE
namespace Go.Proofs.Ytbldjlkofaiikaa
open Go.ChangeShapes Go.WideShapes Go.ChangeAt Go.RowKit
set_option linter.unusedVariables false
set_option linter.unusedSimpArgs false

/-- Numbers that a uint64 has. -/
def U64 (l : List Int) : Prop := ∀ h ∈ l, 0 ≤ h ∧ h ≤ 18446744073709551615
/-- The handle of a closure that asks whether a handle is not live, of the pool in block k. -/
def deadF (k : Nat) : Value := .func (.func 69) #[] #[.pointer (some ⟨k, 0, none⟩)]
set_option maxHeartbeats 1000000 in
theorem dead_any (k : Nat) (h : Int) (vg vu vf vc : Value) (p : Pl) (b n : Nat) (G : Int) (w : World) (hk : w.heap[k]? = some (.cells #[vg, vu, vf, vc] 31 (0, 0))) (hA : PA w b vg vu vf vc p) (ho : Ok n G p.st) (h0 : 0 ≤ h) (h1 : h ≤ 18446744073709551615) :
    Calls Try.prog 69 #[.int .u64 h, .pointer (some ⟨k, 0, none⟩)] w (GivesV (.bool (!p.st.lv h)) w) := by
  obtain ⟨x0, x1, x2, x3, -⟩ := block4 hk
  have HA := Lib.hid hA
  have HO := Lib.hid ho
  clear hA ho hk
  go_enter Try.func69, Try.ntmps69
  go_wp2_with fail
  refine (liveO HO.out HA.out.ar h0 h1).mono ?_
  rintro e w1 ⟨rfl, hb⟩
  have HB := Lib.hid hb
  clear hb
  go_wp2
  go_ret
  exact ⟨rfl, HB.out⟩
/-- The place of the first handle of a row that is not live. -/
theorem all_false {f : Int → Bool} {l : List Int} {k : Nat} (h1 : k < l.length) (h2 : f (l.getD k 0) = false) : l.all f = false := by
  rw [List.all_eq_false]
  refine ⟨l.getD k 0, by rw [getD_at 0 h1]; exact List.getElem_mem _, fun h => by rw [h2] at h; cases h⟩
set_option maxRecDepth 100000 in
set_option maxHeartbeats 2000000 in
theorem index_dead (k : Nat) (row : List Int) (vr : Value) (b' : Nat) (vg vu vf vc : Value) (p : Pl) (b n : Nat) (G : Int) (w : World) (hk : w.heap[k]? = some (.cells #[vg, vu, vf, vc] 31 (0, 0))) (hA : PA w b vg vu vf vc p) (ho : Ok n G p.st)
    (hR : w.ownsRow b' 41 1 vr row.length (gvs row)) (hU : U64 row) (hl : row.length ≤ 1000) :
    Calls Try.prog 86 #[vr, deadF k] w fun e w' => ∃ j : Int, e = .returned (.int .i64 j) ∧ (decide (0 ≤ j) = !row.all p.st.lv) ∧ Below w.heap.size w w' := by
  obtain ⟨pr, cr, rfl, _, _, _⟩ := own_form hR
  have HA := Lib.hid hA
  have HO := Lib.hid ho
  have HR := Lib.hid hR
  have HU := Lib.hid hU
  have HK := Lib.hid hk
  clear hA hR hU ho hk
  obtain ⟨m, hm⟩ : ∃ m, row.length = m := ⟨_, rfl⟩
  have HN := Lib.hid hm
  rw [hm] at hl HR ⊢
  clear hm
  unfold deadF
  go_enter Try.func86, Try.ntmps86
  go_wp2
  go_loopw [8] (fun i wr => ∃ (q : Nat), q ≤ m ∧ i = .int .i64 q ∧ Hid ((row.take q).all p.st.lv = true) ∧ Hid (Below w.heap.size w wr)) (fun i _ => m - (intOf i).toNat)
  case atStart => exact ⟨0, Nat.zero_le _, rfl, Lib.hid (by simp), Lib.hid (Below.refl _ _)⟩
  case round =>
    obtain ⟨q, hq, rfl, HT, HB⟩ := hrel
    have HAr := Lib.hid (HA.out.below HB.out)
    have HRr := Lib.hid (own_below HR.out HB.out)
    have HKr := Lib.hid ((HB.out.block k (lt_of_block HK.out)).trans HK.out)
    by_cases hlt : q < m
    · have k0 : (0 : Int) ≤ (q : Int) := by omega
      have k1 : (q : Int) < (m : Int) := by omega
      obtain ⟨gr, rfl, _, hgr⟩ := own_some HRr.out (by omega)
      have cr0 := own_at_gen HRr.out hlt
      have hql : q < row.length := by rw [HN.out]; exact hlt
      have HX : Hid (0 ≤ row.getD q 0 ∧ row.getD q 0 ≤ 18446744073709551615) := Lib.hid (HU.out _ (by rw [getD_at 0 hql]; exact List.getElem_mem _))
      have HS : Hid ((row.take (q + 1)).all p.st.lv = ((row.take q).all p.st.lv && p.st.lv (row.getD q 0))) := Lib.hid (by rw [take_more hql, getD_at 0 hql, List.all_append, List.all_cons, List.all_nil, Bool.and_true])
      have HF : Hid (p.st.lv (row.getD q 0) = false → row.all p.st.lv = false) := Lib.hid (fun h => all_false hql h)
      generalize row.getD q 0 = h at *
      go_wp2_with fail
      refine (dead_any k h vg vu vf vc p b n G wr HKr.out HAr.out HO.out HX.out.1 HX.out.2).mono ?_
      rintro e w1 ⟨rfl, hb1⟩
      have HB1 : Hid (Below w.heap.size w w1) := Lib.hid (HB.out.trans (hb1.mono HB.out.size))
      clear hb1
      rcases Bool.eq_false_or_eq_true (p.st.lv h) with hv | hv
      · rw [hv]
        have HV := Lib.hid hv
        clear hv
        go_wp2
        go_roundw
        case rel => exact ⟨q + 1, by omega, by go_num, Lib.hid (by rw [HS.out, HT.out, HV.out]; rfl), HB1⟩
        case measure => simp [intOf] <;> omega
      · rw [hv]
        have HV := Lib.hid (HF.out hv)
        clear hv
        go_wp2
        go_ret
        exact ⟨_, rfl, by rw [HV.out]; simp, HB1.out⟩
    · obtain rfl : q = m := by omega
      have e : row.take q = row := List.take_of_length_le (by rw [HN.out]; exact Nat.le_refl _)
      go_wp2
      go_ret
      have := HT.out
      rw [e] at this
      exact ⟨_, rfl, by rw [this]; rfl, HB.out⟩
set_option maxHeartbeats 1000000 in
theorem contains_dead (k : Nat) (row : List Int) (vr : Value) (b' : Nat) (vg vu vf vc : Value) (p : Pl) (b n : Nat) (G : Int) (w : World) (hk : w.heap[k]? = some (.cells #[vg, vu, vf, vc] 31 (0, 0))) (hA : PA w b vg vu vf vc p) (ho : Ok n G p.st)
    (hR : w.ownsRow b' 41 1 vr row.length (gvs row)) (hU : U64 row) (hl : row.length ≤ 1000) :
    Calls Try.prog 68 #[vr, deadF k] w (GivesV (.bool (!row.all p.st.lv)) w) := by
  have HC := Lib.hid (index_dead k row vr b' vg vu vf vc p b n G w hk hA ho hR hU hl)
  clear hk hA ho hR
  go_enter Try.func68, Try.ntmps68
  go_wp2_with fail
  refine HC.out.mono ?_
  rintro e w1 ⟨j, rfl, hj, hb⟩
  have HJ := Lib.hid hj
  have HB := Lib.hid hb
  clear hj hb
  go_wp2
  all_goals go_ret
  all_goals exact ⟨ret_bool (by rw [← HJ.out]), HB.out⟩
end Go.Proofs.Ytbldjlkofaiikaa
