/-
  The document's own May.
-/
import Derived.Test.YthfeonmaajiajaaDoorRecSa
namespace Go.Proofs.YthfeonmaajiajaaDoor
open Go.ChangeShapes Go.WideShapes Go.ChangeAt Go.RowKit
open Rm
set_option linter.unusedVariables false
set_option linter.unusedSimpArgs false

set_option maxRecDepth 100000 in
set_option maxHeartbeats 2000000 in
theorem rmay_any (r : Rc) (A : Option Addr) (c : Nat) (w : World) (hA : LV w A (svs r.attrs)) (hr : RcB r) :
    Calls Tryd.prog 12 #[.agg (rcs r A c)] w fun e w' => e = .returned (.bool (mayB r)) ∧ Below w.heap.size w w' := by
  obtain ⟨W, hW⟩ : ∃ W, W = w.alloc (.cells (rcs r A c) 37) := ⟨_, rfl⟩
  have HW : Hid (Below w.heap.size w W ∧ W.heap[w.heap.size]? = some (.cells (rcs r A c) 37 (0, 0))) := Lib.hid (by subst hW; exact ⟨(Below.refl _ w).alloc (Nat.le_refl _) _, heap_new _ _⟩)
  have HA := Lib.hid (hA.below HW.out.1)
  have hn : (str r.name).size = r.name.length := str_size _
  have ht : (str r.text).size = r.text.length := str_size _
  have hn0 := hr.n0
  have ht0 := hr.t0
  have ha0 := hr.a0
  have hk0 := hr.k0
  have hp0 := hr.p0
  have hs0 := hr.s0
  have HR := Lib.hid hr
  clear hA hr
  go_enter Tryd.func12, Tryd.ntmps12
  go_upto_region 1 with fail
  rw [← hW]
  clear hW
  obtain ⟨x0, x1, x2, x3, x4, x5, x6⟩ := block7 HW.out.2
  go_wp2
  go_loopw [3] (fun i wr => ∃ q : Nat, q ≤ r.attrs.length ∧ i = .int .i64 q ∧ Hid (∀ a ∈ r.attrs.take q, a.length ≤ 60) ∧ wr = W) (fun i _ => r.attrs.length - (intOf i).toNat)
  case atStart => exact ⟨0, Nat.zero_le _, rfl, Lib.hid (by simp), rfl⟩
  case round =>
    obtain ⟨q, hq, rfl, HE, rfl⟩ := hrel
    by_cases hlt : q < r.attrs.length
    · obtain ⟨g, o, rfl, hg, hc⟩ := sat HA.out hlt
      have hsz : (str r.attrs[q]).size = r.attrs[q].length := str_size _
      have hlq := HR.out.a1 _ (List.getElem_mem hlt)
      have HT := Lib.hid (List.take_succ_eq_append_getElem hlt)
      have HM := Lib.hid (List.getElem_mem hlt)
      generalize r.attrs[q] = a at *
      by_cases hx : a.length ≤ 60
      · have hx2 : ¬ (60 : Int) < (a.length : Int) := by omega
        go_wp2
        go_roundw
        case rel => exact ⟨q + 1, by omega, by go_num, Lib.hid (by rw [HT.out]; intro b hb; rcases List.mem_append.1 hb with h | h; exact HE.out b h; rw [List.mem_singleton.1 h]; exact hx), by first | rfl | trivial⟩
        case measure => simp [intOf]; omega
      · have hx2 : (60 : Int) < (a.length : Int) := by omega
        go_wp2
        go_ret
        exact ⟨ret_bool (decide_eq_false (fun h => hx (h.2.2.2.2.2.2.2.2.1 _ HM.out))).symm, HW.out.1⟩
    · obtain rfl : q = r.attrs.length := by omega
      have HE2 := HE.out
      rw [List.take_length] at HE2
      have HE3 := Lib.hid HE2
      clear HE2 HE HA hlt hq
      by_cases a0 : 0 ≤ r.kind
      · skip
        by_cases a1 : r.kind ≤ 3
        · skip
          by_cases a2 : -1 ≤ r.par
          · skip
            by_cases a3 : r.par ≤ 59
            · skip
              by_cases a4 : r.name.length ≤ 20
              · skip
                by_cases a5 : r.text.length ≤ 60
                · skip
                  by_cases a6 : r.attrs.length % 2 = 0
                  · skip
                    have e6 : (r.attrs.length : Int) % 2 = 0 := by omega
                    by_cases a7 : r.attrs.length ≤ 16
                    · skip
                      by_cases a9 : 0 ≤ r.size
                      · skip
                        by_cases a10 : r.size ≤ 200
                        · skip
                          have hm : mayB r = true := decide_eq_true ⟨a0, a1, a2, a3, a4, a5, a6, a7, HE3.out, a9, a10⟩
                          have HMM := Lib.hid hm
                          clear hm
                          go_wp2
                          go_ret
                          exact ⟨ret_bool (by rw [HMM.out]), HW.out.1⟩
                        · skip
                          have hm : mayB r = false := decide_eq_false (fun h => a10 (h.2.2.2.2.2.2.2.2.2.2))
                          have HMM := Lib.hid hm
                          clear hm
                          go_wp2
                          go_ret
                          exact ⟨ret_bool (by rw [HMM.out]), HW.out.1⟩
                      · skip
                        have hm : mayB r = false := decide_eq_false (fun h => a9 (h.2.2.2.2.2.2.2.2.2.1))
                        have HMM := Lib.hid hm
                        clear hm
                        go_wp2
                        go_ret
                        exact ⟨ret_bool (by rw [HMM.out]), HW.out.1⟩
                    · skip
                      have hm : mayB r = false := decide_eq_false (fun h => a7 (h.2.2.2.2.2.2.2.1))
                      have HMM := Lib.hid hm
                      clear hm
                      go_wp2
                      go_ret
                      exact ⟨ret_bool (by rw [HMM.out]), HW.out.1⟩
                  · skip
                    have e6 : ¬ (r.attrs.length : Int) % 2 = 0 := by omega
                    have e6b : (r.attrs.length : Int) % 2 = 1 := by omega
                    have hm : mayB r = false := decide_eq_false (fun h => a6 (h.2.2.2.2.2.2.1))
                    have HMM := Lib.hid hm
                    clear hm
                    go_wp2
                    go_ret
                    exact ⟨ret_bool (by rw [HMM.out]), HW.out.1⟩
                · skip
                  have hm : mayB r = false := decide_eq_false (fun h => a5 (h.2.2.2.2.2.1))
                  have HMM := Lib.hid hm
                  clear hm
                  go_wp2
                  go_ret
                  exact ⟨ret_bool (by rw [HMM.out]), HW.out.1⟩
              · skip
                have hm : mayB r = false := decide_eq_false (fun h => a4 (h.2.2.2.2.1))
                have HMM := Lib.hid hm
                clear hm
                go_wp2
                go_ret
                exact ⟨ret_bool (by rw [HMM.out]), HW.out.1⟩
            · skip
              have hm : mayB r = false := decide_eq_false (fun h => a3 (h.2.2.2.1))
              have HMM := Lib.hid hm
              clear hm
              go_wp2
              go_ret
              exact ⟨ret_bool (by rw [HMM.out]), HW.out.1⟩
          · skip
            have hm : mayB r = false := decide_eq_false (fun h => a2 (h.2.2.1))
            have HMM := Lib.hid hm
            clear hm
            go_wp2
            go_ret
            exact ⟨ret_bool (by rw [HMM.out]), HW.out.1⟩
        · skip
          have hm : mayB r = false := decide_eq_false (fun h => a1 (h.2.1))
          have HMM := Lib.hid hm
          clear hm
          go_wp2
          go_ret
          exact ⟨ret_bool (by rw [HMM.out]), HW.out.1⟩
      · skip
        have hm : mayB r = false := decide_eq_false (fun h => a0 (h.1))
        have HMM := Lib.hid hm
        clear hm
        go_wp2
        go_ret
        exact ⟨ret_bool (by rw [HMM.out]), HW.out.1⟩
end Go.Proofs.YthfeonmaajiajaaDoor
