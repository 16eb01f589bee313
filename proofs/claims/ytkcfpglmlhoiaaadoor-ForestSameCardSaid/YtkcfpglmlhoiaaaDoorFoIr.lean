/-
  The reference's Same.
-/
import Derived.Test.YtkcfpglmlhoiaaaDoorFoIs
import Derived.StillTailTactics
namespace Go.Proofs.YtkcfpglmlhoiaaaDoor
open Go.ChangeShapes Go.WideShapes Go.ChangeAt Go.RowKit
set_option linter.unusedVariables false
set_option linter.unusedSimpArgs false

set_option maxRecDepth 100000 in
set_option maxHeartbeats 4000000 in
theorem rsame1_any (m n : Mn) (w : World) (h1 : AR w m.aA m.attrs) (h2 : IR w m.kA m.kids) (h3 : AR w n.aA n.attrs) (h4 : IR w n.kA n.kids) (l1 : m.attrs.length ≤ 1000 ∧ m.kids.length ≤ 1000) (l2 : n.attrs.length ≤ 1000 ∧ n.kids.length ≤ 1000) :
    Calls Tryd.prog 18 #[nval m, nval n] w (GivesV (.bool (sameN2 m n)) w) := by
  have HA := Lib.hid (fun (W : World) (hb : Below w.heap.size w W) => rattrs_any m.aA n.aA m.attrs n.attrs m.aC n.aC W (h1.below hb) (h3.below hb) l1.1 l2.1)
  have HI := Lib.hid (fun (W : World) (hb : Below w.heap.size w W) => rints_any m.kA n.kA m.kids n.kids m.kC n.kC W (h2.below hb) (h4.below hb) l1.2 l2.2)
  have HE : Hid (sameN2 m n = ((m.kind == n.kind) && ((m.name.toList == n.name.toList) && ((m.text.toList == n.text.toList) && ((m.parent == n.parent) && (eqA m.attrs n.attrs && eqI m.kids n.kids)))))) := Lib.hid rfl
  unfold nval
  generalize sameN2 m n = R at *
  generalize eqA m.attrs n.attrs = b5 at *
  generalize eqI m.kids n.kids = b6 at *
  generalize m.attrs.length = al at *
  generalize n.attrs.length = al' at *
  generalize m.kids.length = kl at *
  generalize n.kids.length = kl' at *
  clear h1 h2 h3 h4 l1 l2
  obtain ⟨b1, e1⟩ : ∃ b, (m.kind == n.kind) = b := ⟨_, rfl⟩
  obtain ⟨b2, e2⟩ : ∃ b, (m.name.toList == n.name.toList) = b := ⟨_, rfl⟩
  obtain ⟨b3, e3⟩ : ∃ b, (m.text.toList == n.text.toList) = b := ⟨_, rfl⟩
  obtain ⟨b4, e4⟩ : ∃ b, (m.parent == n.parent) = b := ⟨_, rfl⟩
  rw [e1, e2, e3, e4] at HE
  obtain ⟨W, hW⟩ : ∃ W, W = (w.alloc (.cells #[.int .i64 m.kind, .string m.name, .string m.text, .slice m.aA al m.aC, .int .i64 m.parent, .slice m.kA kl m.kC] 48)).alloc (.cells #[.int .i64 n.kind, .string n.name, .string n.text, .slice n.aA al' n.aC, .int .i64 n.parent, .slice n.kA kl' n.kC] 48) := ⟨_, rfl⟩
  have HWb : Hid (Below w.heap.size w W) := Lib.hid (by rw [hW]; exact ((Below.refl _ _).alloc (Nat.le_refl _) _).alloc (by simp) _)
  have HW1 : Hid (W.heap[w.heap.size]? = some (.cells #[.int .i64 m.kind, .string m.name, .string m.text, .slice m.aA al m.aC, .int .i64 m.parent, .slice m.kA kl m.kC] 48 (0, 0))) := Lib.hid (by rw [hW, heap_alloc_old _ _ (by simp)]; exact heap_alloc_new _ _)
  have HW2 : Hid (W.heap[w.heap.size + 1]? = some (.cells #[.int .i64 n.kind, .string n.name, .string n.text, .slice n.aA al' n.aC, .int .i64 n.parent, .slice n.kA kl' n.kC] 48 (0, 0))) := Lib.hid (by rw [hW]; exact heap_new1 _ _ _)
  obtain ⟨x0, x1, x2, x3, x4, x5⟩ := block6 HW1.out
  obtain ⟨y0, y1, y2, y3, y4, y5⟩ := block6 HW2.out
  go_enter Tryd.func18, Tryd.ntmps18
  go_upto_region 1 with fail
  rw [← hW]
  clear hW
  cases b1
  · go_wp2
    go_ret
    exact ⟨ret_bool (by rw [HE.out]; rfl), HWb.out⟩
  cases b2
  · go_wp2
    go_ret
    exact ⟨ret_bool (by rw [HE.out]; rfl), HWb.out⟩
  cases b3
  · go_wp2
    go_ret
    exact ⟨ret_bool (by rw [HE.out]; rfl), HWb.out⟩
  go_wp2_with fail
  refine (HA.out W HWb.out).mono ?_
  rintro e w1 ⟨rfl, hb⟩
  have HB1 := Lib.hid (HWb.out.trans (hb.mono HWb.out.size))
  have HK1 := Lib.hid ((hb.block _ (lt_of_block HW1.out)).trans HW1.out)
  have HK2 := Lib.hid ((hb.block _ (lt_of_block HW2.out)).trans HW2.out)
  clear hb x0 x1 x2 x3 x4 x5 y0 y1 y2 y3 y4 y5
  obtain ⟨x0, x1, x2, x3, x4, x5⟩ := block6 HK1.out
  obtain ⟨y0, y1, y2, y3, y4, y5⟩ := block6 HK2.out
  cases b5
  · go_wp2
    go_ret
    exact ⟨ret_bool (by rw [HE.out]; cases b4 <;> rfl), HB1.out⟩
  cases b4
  · go_wp2
    go_ret
    exact ⟨ret_bool (by rw [HE.out]; rfl), HB1.out⟩
  go_wp2_with fail
  refine (HI.out w1 HB1.out).mono ?_
  rintro e w2 ⟨rfl, hb⟩
  have HB2 := Lib.hid (HB1.out.trans (hb.mono HB1.out.size))
  clear hb x0 x1 x2 x3 x4 x5 y0 y1 y2 y3 y4 y5
  have HEE : Hid (R = b6) := Lib.hid (by rw [HE.out]; rfl)
  go_wp2
  go_ret
  exact ⟨ret_bool HEE.out.symm, HB2.out⟩
set_option maxRecDepth 100000 in
set_option maxHeartbeats 4000000 in
theorem rsame_any (A B : Option Addr) (F G : List Mn) (c d : Nat) (w : World) (hF : FR w A F) (hG : FR w B G) (zF : Sz2 F) (zG : Sz2 G) :
    Calls Tryd.prog 7 #[.slice A F.length c, .slice B G.length d] w (GivesV (.bool (sameF F G)) w) := by
  have HF := Lib.hid hF
  have HG := Lib.hid hG
  have HC : Hid (∀ (W : World), Below w.heap.size w W → ∀ (i : Nat) (m n : Mn), F[i]? = some m → G[i]? = some n → Calls Tryd.prog 18 #[nval m, nval n] W (GivesV (.bool (sameN2 m n)) W)) := Lib.hid (fun W hb i m n hm hn => by
    obtain ⟨-, g, off, -, -, h1⟩ := hF.below hb i m hm
    obtain ⟨-, g', off', -, -, h2⟩ := hG.below hb i n hn
    have m1 := zF.attrs m (List.mem_of_getElem? hm)
    have m2 := zF.kids m (List.mem_of_getElem? hm)
    have n1 := zG.attrs n (List.mem_of_getElem? hn)
    have n2 := zG.kids n (List.mem_of_getElem? hn)
    exact rsame1_any m n W h1.ar h1.ir h2.ar h2.ir ⟨by omega, m2⟩ ⟨by omega, n2⟩)
  have l1 := zF.len
  have l2 := zG.len
  have HE : Hid (sameF F G = (decide (F.length = G.length) && (List.range F.length).all (pairB F G))) := Lib.hid rfl
  generalize sameF F G = R at *
  clear hF hG zF zG
  obtain ⟨n, hn⟩ : ∃ n, F.length = n := ⟨_, rfl⟩
  obtain ⟨n', hn'⟩ : ∃ n, G.length = n := ⟨_, rfl⟩
  have HN := Lib.hid hn
  have HN' := Lib.hid hn'
  rw [hn] at l1 ⊢
  rw [hn'] at l2 ⊢
  rw [hn, hn'] at HE
  clear hn hn'
  unfold nval at *
  go_enter Tryd.func7, Tryd.ntmps7
  by_cases hnn : n = n'
  · subst hnn
    have hb : ((n : Int) != (n : Int)) = false := by simp
    have HR : Hid (R = (List.range n).all (pairB F G)) := Lib.hid (by rw [HE.out]; simp)
    clear HE
    go_wp2_with fail
    go_loopw [5] (fun q wr => ∃ j : Nat, j ≤ n ∧ q = .int .i64 j ∧ Hid ((List.range j).all (pairB F G) = true) ∧ Hid (Below w.heap.size w wr)) (fun q _ => n - (intOf q).toNat)
    case atStart => exact ⟨0, Nat.zero_le _, rfl, Lib.hid rfl, Lib.hid (Below.refl _ _)⟩
    case round =>
      obtain ⟨j, hj, rfl, HT, HB⟩ := hrel
      by_cases hlt : j < n
      · have k0 : (0 : Int) ≤ (j : Int) := by omega
        have k1 : (j : Int) < (n : Int) := by omega
        have hjF : j < F.length := by rw [HN.out]; exact hlt
        have hjG : j < G.length := by rw [HN'.out]; exact hlt
        obtain ⟨hfj, g, off, rfl, hg, hnd⟩ := (HF.out.below HB.out) j F[j] (List.getElem?_eq_getElem hjF)
        obtain ⟨hfj', g', off', rfl, hg', hnd'⟩ := (HG.out.below HB.out) j G[j] (List.getElem?_eq_getElem hjG)
        have HC2 := Lib.hid (HC.out wr.drew HB.out.drew j F[j] G[j] (List.getElem?_eq_getElem hjF) (List.getElem?_eq_getElem hjG))
        have HPj : Hid (pairB F G j = sameN2 F[j] G[j]) := Lib.hid (by simp [pairB, List.getElem?_eq_getElem hjF, List.getElem?_eq_getElem hjG])
        have HT2 : Hid ((List.range (j + 1)).all (pairB F G) = pairB F G j) := Lib.hid (all_step HT.out)
        have HNo : Hid (pairB F G j = false → R = false) := Lib.hid (fun h => by rw [HR.out]; exact all_no h hlt)
        rw [HPj.out] at HT2 HNo
        have c0 := hnd.c0
        have c1 := hnd.c1
        have c2 := hnd.c2
        have c3 := hnd.c3
        have c4 := hnd.c4
        have c5 := hnd.c5
        have d0 := hnd'.c0
        have d1 := hnd'.c1
        have d2 := hnd'.c2
        have d3 := hnd'.c3
        have d4 := hnd'.c4
        have d5 := hnd'.c5
        clear hnd hfj HPj hnd' hfj'
        generalize sameN2 F[j] G[j] = X at *
        generalize F[j] = m at *
        generalize G[j] = m' at *
        go_upto_region 6 with fail
        go_still_tail 8, (by kernel_rfl)
        change wpList _ _ _ _ _ wr.drew
        go_wp2_with fail
        refine HC2.out.mono ?_
        rintro e w1 ⟨rfl, hb'⟩
        have HB1 : Hid (Below w.heap.size w w1) := Lib.hid (HB.out.drew.trans (hb'.mono HB.out.size))
        clear hb' c0 c1 c2 c3 c4 c5 d0 d1 d2 d3 d4 d5
        cases X with
        | true =>
          go_wp2
          go_roundw
          case rel => exact ⟨j + 1, by omega, by go_num, HT2, HB1⟩
          case measure => simp [intOf] <;> omega
        | false =>
          have HRf := Lib.hid (HNo.out rfl)
          go_wp2
          go_ret
          exact ⟨ret_bool HRf.out.symm, HB1.out⟩
      · obtain rfl : j = n := by omega
        have HRt : Hid (R = true) := Lib.hid (by rw [HR.out]; exact HT.out)
        go_wp2
        go_ret
        exact ⟨ret_bool HRt.out.symm, HB.out⟩
  · have hb : ((n : Int) != (n' : Int)) = true := by simp; omega
    have HEE : Hid (R = false) := Lib.hid (by rw [HE.out, decide_eq_false hnn]; rfl)
    go_wp2
    go_ret
    exact ⟨ret_bool HEE.out.symm, Below.refl _ _⟩
end Go.Proofs.YtkcfpglmlhoiaaaDoor
