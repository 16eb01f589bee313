/-
  The laws' small functions: bounded, its, shown.
-/
import Derived.Test.YthfeonmaajiajaaDoorRecP
import Derived.Test.YthfeonmaajiajaaDoorRecRa
namespace Go.Proofs.YthfeonmaajiajaaDoor
open Go.ChangeShapes Go.WideShapes Go.ChangeAt Go.RowKit
open Rm
set_option linter.unusedVariables false
set_option linter.unusedSimpArgs false

/-- Within the laws' bounds. -/
def bdd (r : Rc) : Bool := decide ((∀ a ∈ r.attrs, a.length ≤ 100) ∧ r.name.length ≤ 100 ∧ r.text.length ≤ 100 ∧ r.attrs.length ≤ 30)
theorem bdd_true {r : Rc} (h : bdd r = true) : (∀ a ∈ r.attrs, a.length ≤ 100) ∧ r.name.length ≤ 100 ∧ r.text.length ≤ 100 ∧ r.attrs.length ≤ 30 := by unfold bdd at h; exact of_decide_eq_true h
set_option maxHeartbeats 1000000 in
theorem bounded_any (r : Rc) (A : Option Addr) (c : Nat) (w : World) (hA : LV w A (svs r.attrs)) (hr : RcB r) :
    Calls Tryd.prog 4 #[.agg (rcs r A c)] w fun e w' => e = .returned (.bool (bdd r)) ∧ Below w.heap.size w w' := by
  obtain ⟨W, hW⟩ : ∃ W, W = w.alloc (.cells (rcs r A c) 27) := ⟨_, rfl⟩
  have HW : Hid (Below w.heap.size w W ∧ W.heap[w.heap.size]? = some (.cells (rcs r A c) 27 (0, 0))) := Lib.hid (by subst hW; exact ⟨(Below.refl _ w).alloc (Nat.le_refl _) _, heap_new _ _⟩)
  have HA := Lib.hid (hA.below HW.out.1)
  have hn : (str r.name).size = r.name.length := str_size _
  have ht : (str r.text).size = r.text.length := str_size _
  have hn0 := hr.n0
  have ht0 := hr.t0
  have ha0 := hr.a0
  have HR := Lib.hid hr
  clear hA hr
  go_enter Tryd.func4, Tryd.ntmps4
  go_upto_region 1 with fail
  rw [← hW]
  clear hW
  obtain ⟨x0, x1, x2, x3, x4, x5, x6⟩ := block7 HW.out.2
  go_wp2
  go_loopw [3] (fun i wr => ∃ q : Nat, q ≤ r.attrs.length ∧ i = .int .i64 q ∧ Hid (∀ a ∈ r.attrs.take q, a.length ≤ 100) ∧ wr = W) (fun i _ => r.attrs.length - (intOf i).toNat)
  case atStart => exact ⟨0, Nat.zero_le _, rfl, Lib.hid (by simp), rfl⟩
  case round =>
    obtain ⟨q, hq, rfl, HE, rfl⟩ := hrel
    by_cases hlt : q < r.attrs.length
    · obtain ⟨g, o, rfl, hg, hc⟩ := sat HA.out hlt
      have hsz : (str r.attrs[q]).size = r.attrs[q].length := str_size _
      have hlq := HR.out.a1 _ (List.getElem_mem hlt)
      have HT := Lib.hid (List.take_succ_eq_append_getElem hlt)
      have HM := Lib.hid (List.getElem_mem hlt)
      generalize r.attrs[q] = a at *
      by_cases hx : a.length ≤ 100
      · have hx2 : ¬ (100 : Int) < (a.length : Int) := by omega
        go_wp2
        go_roundw
        case rel => exact ⟨q + 1, by omega, by go_num, Lib.hid (by rw [HT.out]; intro b hb; rcases List.mem_append.1 hb with h | h; exact HE.out b h; rw [List.mem_singleton.1 h]; exact hx), by first | rfl | trivial⟩
        case measure => simp [intOf]; omega
      · have hx2 : (100 : Int) < (a.length : Int) := by omega
        go_wp2
        go_ret
        exact ⟨ret_bool (decide_eq_false (fun h => hx (h.1 _ HM.out))).symm, HW.out.1⟩
    · obtain rfl : q = r.attrs.length := by omega
      have HE2 := HE.out
      rw [List.take_length] at HE2
      by_cases h1 : r.name.length ≤ 100
      · by_cases h2 : r.text.length ≤ 100
        · by_cases h3 : r.attrs.length ≤ 30
          · go_wp2
            go_ret
            exact ⟨ret_bool (by rw [show bdd r = true from decide_eq_true ⟨HE2, h1, h2, h3⟩]; first | rfl | (simp; omega) | simp [h3]), HW.out.1⟩
          · go_wp2
            go_ret
            exact ⟨ret_bool (by simp [bdd, h1, h2, h3]; first | omega | done), HW.out.1⟩
        · go_wp2
          go_ret
          exact ⟨ret_bool (by simp [bdd, h1, h2]), HW.out.1⟩
      · go_wp2
        go_ret
        exact ⟨ret_bool (by simp [bdd, h1]), HW.out.1⟩

theorem set7' {b k : Nat} (hk : b ≤ k) {w X : World} (h : Below b w X) (v0 v1 v2 v3 v4 v5 v6 : Value) : Below b w (((((((X.setCell ⟨k, 0, none⟩ v0).setCell ⟨k, 1, none⟩ v1).setCell ⟨k, 2, none⟩ v2).setCell ⟨k, 3, none⟩ v3).setCell ⟨k, 4, none⟩ v4).setCell ⟨k, 5, none⟩ v5).setCell ⟨k, 6, none⟩ v6) :=
  ((((((h.setCell (p := ⟨k, 0, none⟩) hk _).setCell (p := ⟨k, 1, none⟩) hk _).setCell (p := ⟨k, 2, none⟩) hk _).setCell (p := ⟨k, 3, none⟩) hk _).setCell (p := ⟨k, 4, none⟩) hk _).setCell (p := ⟨k, 5, none⟩) hk _).setCell (p := ⟨k, 6, none⟩) hk _
set_option maxRecDepth 100000 in
set_option maxHeartbeats 1000000 in
theorem its_any (r : Rc) (A : Option Addr) (c : Nat) (w : World) :
    Calls Tryd.prog 8 #[.agg (rcs r A c)] w fun e w' => e = .returned (.agg (rcs r A c)) ∧ Below w.heap.size w w' := by
  obtain ⟨W, hW⟩ : ∃ W, W = (w.alloc (.cells (rcs r A c) 27)).alloc (.cells zrec 37) := ⟨_, rfl⟩
  have HW : Hid (Below w.heap.size w W ∧ W.heap[w.heap.size]? = some (.cells (rcs r A c) 27 (0, 0)) ∧ W.heap[w.heap.size + 1]? = some (.cells zrec 37 (0, 0))) := Lib.hid (by
    subst hW
    refine ⟨((Below.refl _ w).alloc (Nat.le_refl _) _).alloc (by simp) _, ?_, ?_⟩
    · rw [heap_old _ _ (by simp)]; exact heap_new _ _
    · have := heap_new (w.alloc (.cells (rcs r A c) 27)) (.cells zrec 37); simpa using this)
  go_enter Tryd.func8, Tryd.ntmps8
  go_upto_region 1 with fail
  rw [← hW]
  clear hW
  obtain ⟨x0, x1, x2, x3, x4, x5, x6⟩ := block7 HW.out.2.1
  obtain ⟨u0, u1, u2, u3, u4, u5, u6⟩ := block7 HW.out.2.2
  have z0 := block_frozen HW.out.2.2 0
  have z1 := block_frozen HW.out.2.2 1
  have z2 := block_frozen HW.out.2.2 2
  have z3 := block_frozen HW.out.2.2 3
  have z4 := block_frozen HW.out.2.2 4
  have z5 := block_frozen HW.out.2.2 5
  have z6 := block_frozen HW.out.2.2 6
  go_wp2_with fail
  refine bodyPost_ret (v := .agg (rcs r A c)) (by simp [results, Tryd.results8, go_sem, u0, u1, u2, u3, u4, u5, u6]) rfl ?_
  exact ⟨rfl, set7' (Nat.le_succ _) HW.out.1 _ _ _ _ _ _ _⟩

/-- The node that the laws show. -/
def rS : Rc := ⟨1, 2, [97, 98], [], [[99], [100, 101]], 7, 1⟩
theorem rS_may : MayR rS := by decide
theorem rS_pk : pk rS = [35653645, 7, 129, 0, 25185, 99, 25956] := by decide
theorem rS_u : U64 (pk rS) := by rw [rS_pk]; unfold U64; decide
theorem rS_b : RcB rS := ⟨by decide, by decide, by decide, by decide, by decide, by decide, by decide, by decide⟩
theorem tS : txt [25185] 2 = some [97, 98] := by decide
theorem wS : wds [] = [] := by decide
end Go.Proofs.YthfeonmaajiajaaDoor
