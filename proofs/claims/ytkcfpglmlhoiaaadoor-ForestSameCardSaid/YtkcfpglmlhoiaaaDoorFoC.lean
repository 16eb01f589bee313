/-
  Whether a node is linked as it says.
-/
import Derived.Test.YtkcfpglmlhoiaaaDoorFoB
import Derived.Deep.CutRange
import Derived.Deep.DeepCutAuto
namespace Go.Proofs.YtkcfpglmlhoiaaaDoor
open Go.ChangeShapes Go.WideShapes Go.ChangeAt Go.RowKit
set_option linter.unusedVariables false
set_option linter.unusedSimpArgs false

theorem block1 {w : World} {k : Nat} {a : Value} {t : TypeId} (h : w.heap[k]? = some (.cells #[a] t (0, 0))) : w.cell? ⟨k, 0, none⟩ = some a := by
  simp [World.cell?, h]
theorem block6 {w : World} {k : Nat} {a b c d e f : Value} {t : TypeId} (h : w.heap[k]? = some (.cells #[a, b, c, d, e, f] t (0, 0))) :
    w.cell? ⟨k, 0, none⟩ = some a ∧ w.cell? ⟨k, 1, none⟩ = some b ∧ w.cell? ⟨k, 2, none⟩ = some c ∧ w.cell? ⟨k, 3, none⟩ = some d ∧ w.cell? ⟨k, 4, none⟩ = some e ∧ w.cell? ⟨k, 5, none⟩ = some f := by
  simp [World.cell?, h]
theorem linkB_kids (F : List Mn) (i : Nat) (l : List Int) : (l.all fun k => isB F k && decide (par F k.toNat = i)) = !(l.any (kidBad F i)) := by
  rw [List.not_any_eq_all_not]
  congr 1
  funext k
  simp [kidBad]
set_option maxRecDepth 100000 in
set_option maxHeartbeats 4000000 in
theorem isLinked_any (A : Option Addr) (F : List Mn) (c i : Nat) (w : World) (hF : FR w A F) (hn : F.length ≤ 1000) (hi : i < F.length) (hk : ∀ m ∈ F, m.kids.length ≤ 1000) :
    Calls Tryd.prog 22 #[.slice A F.length c, .int .i64 i] w (GivesV (.bool (linkB F i)) w) := by
  have HF := Lib.hid hF
  have HK := Lib.hid hk
  obtain ⟨hfit, g, off, hA, hg, hnode⟩ := hF i F[i] (List.getElem?_eq_getElem hi)
  have HA := Lib.hid hA
  have HP : Hid (par F i = F[i].parent ∧ kidsOf F i = F[i].kids) := Lib.hid (by simp [par, kidsOf, List.getElem?_eq_getElem hi])
  have HKl := Lib.hid (hk F[i] (List.getElem_mem _))
  have HND := Lib.hid hnode
  obtain ⟨hp0, hp1⟩ := hfit.p64
  generalize F[i] = m at *
  obtain ⟨n, hnn⟩ : ∃ n, F.length = n := ⟨_, rfl⟩
  have HNN := Lib.hid hnn
  rw [hnn] at hn hi ⊢
  clear hF hk hnode hfit hnn
  have i0 : (0 : Int) ≤ (i : Int) := by omega
  have i1 : (i : Int) < (n : Int) := by omega
  subst hA
  have c0 := HND.out.c0
  have c1 := HND.out.c1
  have c2 := HND.out.c2
  have c3 := HND.out.c3
  have c4 := HND.out.c4
  have c5 := HND.out.c5
  have HLK : Hid (linkB F i = ((decide (m.parent = -1) || (decide (i ≠ 0) && (isB F m.parent && decide ((kidsOf F m.parent.toNat).count (i : Int) = 1)))) && !(m.kids.any (kidBad F i)))) := Lib.hid (by
    rw [linkB, HP.out.1, HP.out.2, linkB_kids])
  have HIs := Lib.hid (fun W => isNode_any (some ⟨g, off, none⟩) n c m.parent W hn)
  go_enter Tryd.func22, Tryd.ntmps22
  go_upto_region 2 with fail
  obtain ⟨W, hW⟩ : ∃ W, W = ((w.alloc (.cells #[.slice (some ⟨g, off, none⟩) n c] 23)).alloc (.cells #[.int .i64 i] 3)).alloc (.cells #[.int .i64 m.kind, .string m.name, .string m.text, .slice m.aA m.attrs.length m.aC, .int .i64 m.parent, .slice m.kA m.kids.length m.kC] 34) := ⟨_, rfl⟩
  rw [← hW]
  have HW : Hid (Below w.heap.size w W ∧ W.heap[w.heap.size]? = some (.cells #[.slice (some ⟨g, off, none⟩) n c] 23 (0, 0)) ∧ W.heap[w.heap.size + 1]? = some (.cells #[.int .i64 i] 3 (0, 0)) ∧ W.heap[w.heap.size + 2]? = some (.cells #[.int .i64 m.kind, .string m.name, .string m.text, .slice m.aA m.attrs.length m.aC, .int .i64 m.parent, .slice m.kA m.kids.length m.kC] 34 (0, 0))) := Lib.hid (by
    subst hW
    refine ⟨(((Below.refl _ w).alloc (Nat.le_refl _) _).alloc (by simp) _).alloc (by simp; omega) _, ?_, ?_, ?_⟩
    · rw [heap_alloc_old _ _ (by simp; omega), heap_alloc_old _ _ (by simp)]; exact heap_alloc_new w _
    · rw [heap_alloc_old _ _ (by simp)]
      have := heap_alloc_new (w.alloc (.cells #[.slice (some ⟨g, off, none⟩) n c] 23)) (.cells #[.int .i64 i] 3)
      simpa using this
    · have := heap_alloc_new ((w.alloc (.cells #[.slice (some ⟨g, off, none⟩) n c] 23)).alloc (.cells #[.int .i64 i] 3)) (.cells #[.int .i64 m.kind, .string m.name, .string m.text, .slice m.aA m.attrs.length m.aC, .int .i64 m.parent, .slice m.kA m.kids.length m.kC] 34)
      simpa using this)
  clear hW c0 c1 c2 c3 c4 c5
  have x2 := block1 HW.out.2.1
  have x3 := block1 HW.out.2.2.1
  obtain ⟨n0, n1, n2, n3, n4, n5⟩ := block6 HW.out.2.2.2
  have hks : w.heap.size < W.heap.size := lt_of_block HW.out.2.1
  have hks1 : w.heap.size + 1 < W.heap.size := lt_of_block HW.out.2.2.1
  have HFW := Lib.hid (HF.out.below HW.out.1)
  -- what is behind the parent's test
  have HGo : Hid (∀ d, Calls Tryd.prog 41 #[.slice m.kA m.kids.length m.kC, kidF w.heap.size (w.heap.size + 1)] (W.drewN d) (GivesV (.bool (m.kids.any (kidBad F i))) (W.drewN d))) := Lib.hid (fun d => by
    have hb := below_drewN (Below.refl W.heap.size W) d
    exact hasKid w.heap.size (w.heap.size + 1) (some ⟨g, off, none⟩) F c i m.kA m.kids m.kC (W.drewN d) (HFW.out.below hb) (by rw [HNN.out]; exact hn) (by rw [HNN.out]; simpa using x2) (by simpa using x3) (by simpa using hks) (by simpa using hks1) ((HND.out.ir.below HW.out.1).below hb) HKl.out)
  unfold kidF at HGo
  rcases Bool.eq_false_or_eq_true (m.parent == -1) with hp | hp
  · have hpe : m.parent = -1 := by simpa using hp
    have HL2 : Hid (linkB F i = !(m.kids.any (kidBad F i))) := Lib.hid (by rw [HLK.out, hpe]; simp)
    generalize linkB F i = LB at *
    generalize m.kids.any (kidBad F i) = KB at *
    go_quiet (fail)
    go_wp2_with fail
    refine (HGo.out _).mono ?_
    rintro e w1 ⟨rfl, hb⟩
    have HB := Lib.hid ((below_drewN HW.out.1 nq).trans (hb.mono (by simpa using HW.out.1.size)))
    clear hb
    go_wp2
    go_ret
    exact ⟨ret_bool HL2.out.symm, HB.out⟩
  have hpe : m.parent ≠ -1 := by simpa using hp
  have hpd : decide (m.parent = -1) = false := by simpa using hpe
  have hpn : (m.parent != -1) = true := by simpa using hpe
  by_cases hz : i = 0
  · have HL2 : Hid (linkB F i = false) := Lib.hid (by rw [HLK.out, hpd, hz]; simp)
    generalize linkB F i = LB at *
    subst hz
    rw [show ((0 : Nat) : Int) = 0 from rfl] at x3
    go_quiet (fail)
    go_wp2
    go_ret
    exact ⟨ret_bool HL2.out.symm, below_drewN HW.out.1 _⟩
  have hzb : ((i : Int) == 0) = false := beq_eq_false_iff_ne.2 (by omega)
  have hzd : decide (i ≠ 0) = true := by simpa using hz
  by_cases hx : 0 ≤ m.parent ∧ m.parent < n
  · rw [decide_eq_true hx] at HIs
    obtain ⟨j, hj⟩ := Int.eq_ofNat_of_zero_le hx.1
    have hjl : j < F.length := by rw [HNN.out]; omega
    obtain ⟨hfj, gj, offj, hAj, hgj, hnj⟩ := HFW.out j F[j] (List.getElem?_eq_getElem hjl)
    obtain ⟨rfl, rfl⟩ : gj = g ∧ offj = off := by cases hAj; exact ⟨rfl, rfl⟩
    have cj5 := hnj.c5
    have HJk : Hid (kidsOf F j = F[j].kids) := Lib.hid (by simp [kidsOf, List.getElem?_eq_getElem hjl])
    have HJl := Lib.hid (HK.out F[j] (List.getElem_mem _))
    have HJI := Lib.hid hnj.ir
    clear hnj hfj hAj
    generalize F[j] = mj at *
    have HL2 : Hid (linkB F i = (decide (((mj.kids.count (i : Int) : Nat) : Int) = 1) && !(m.kids.any (kidBad F i)))) := Lib.hid (by
      rw [HLK.out, hpd, hzd, hj]
      have h1 : isB F (j : Int) = true := by simp [isB]; omega
      rw [h1, Int.toNat_natCast, HJk.out]
      have h2 : decide (List.count (i : Int) mj.kids = 1) = decide (((mj.kids.count (i : Int) : Nat) : Int) = 1) := by rw [decide_eq_decide]; omega
      rw [h2]
      simp)
    have HOf := Lib.hid (fun (W' : World) (h : IR W' mj.kA mj.kids) => howOften_any mj.kA mj.kids mj.kC (i : Int) W' h HJl.out)
    have hcl : ((mj.kids.count (i : Int) : Nat) : Int) ≤ 1000 := by have := Nat.le_trans (List.count_le_length (a := (i : Int)) (l := mj.kids)) HJl.out; omega
    have hcl0 : (0 : Int) ≤ ((mj.kids.count (i : Int) : Nat) : Int) := by omega
    rw [hj] at n4 hp HIs hp0 hp1 hpn
    have j0 : (0 : Int) ≤ (j : Int) := by omega
    have j1 : (j : Int) < (n : Int) := by omega
    generalize linkB F i = LB at *
    generalize m.kids.any (kidBad F i) = KB at *
    generalize ((mj.kids.count (i : Int) : Nat) : Int) = CT at *
    rcases Bool.eq_false_or_eq_true (CT == 1) with hc1 | hc1
    · have hc1' : CT = 1 := by simpa using hc1
      go_quiet (first | (go_at_call 26; exact Calls.quiet_of_same (HIs.out _)) | (go_at_call 40; exact Calls.quiet_of_same (HOf.out _ (HJI.out.below (by first | exact Below.refl _ _ | exact below_drewN (Below.refl _ _) _)))))
      go_wp2_with fail
      refine (HGo.out _).mono ?_
      rintro e w1 ⟨rfl, hb⟩
      have HB := Lib.hid ((below_drewN HW.out.1 nq).trans (hb.mono (by simpa using HW.out.1.size)))
      clear hb
      go_wp2
      go_ret
      exact ⟨ret_bool (by rw [HL2.out, hc1']; simp), HB.out⟩
    · have hc1' : ¬ CT = 1 := by simpa using hc1
      have hc3 : (CT != 1) = true := by simpa using hc1'
      go_quiet (first | (go_at_call 26; exact Calls.quiet_of_same (HIs.out _)) | (go_at_call 40; exact Calls.quiet_of_same (HOf.out _ (HJI.out.below (by first | exact Below.refl _ _ | exact below_drewN (Below.refl _ _) _)))))
      go_wp2
      go_ret
      exact ⟨ret_bool (by rw [HL2.out]; simp [hc1']), below_drewN HW.out.1 _⟩
  · rw [decide_eq_false hx] at HIs
    have HL2 : Hid (linkB F i = false) := Lib.hid (by
      have h1 : isB F m.parent = false := by simpa [isB, HNN.out] using hx
      rw [HLK.out, hpd, hzd, h1]
      simp)
    generalize linkB F i = LB at *
    go_quiet ((go_at_call 26; exact Calls.quiet_of_same (HIs.out _)))
    go_wp2
    go_ret
    exact ⟨ret_bool HL2.out.symm, below_drewN HW.out.1 _⟩
end Go.Proofs.YtkcfpglmlhoiaaaDoor
