/-
  Same: two forests, node by node.
-/
import Derived.Test.YtkcfpglmlhoiaaaDoorFoY
namespace Go.Proofs.YtkcfpglmlhoiaaaDoor
open Go.ChangeShapes Go.WideShapes Go.ChangeAt Go.RowKit
set_option linter.unusedVariables false
set_option linter.unusedSimpArgs false

def pairB (F G : List Mn) (i : Nat) : Bool := ((F[i]?).bind fun m => (G[i]?).map (sameN2 m)).getD false
/-- Whether two forests are the same. -/
def sameF (F G : List Mn) : Bool := decide (F.length = G.length) && (List.range F.length).all (pairB F G)
def same1F : Value := .func (.func 15) #[] #[]
set_option maxRecDepth 100000 in
set_option maxHeartbeats 4000000 in
theorem equalF_any (A B : Option Addr) (F G : List Mn) (c d : Nat) (w : World) (hF : FR w A F) (hG : FR w B G) (zF : Sz2 F) (zG : Sz2 G) :
    Calls Tryd.prog 14 #[.slice A F.length c, .slice B G.length d, same1F] w (GivesV (.bool (sameF F G)) w) := by
  have HF := Lib.hid hF
  have HG := Lib.hid hG
  have HC : Hid (∀ (W : World), Below w.heap.size w W → ∀ (i : Nat) (m n : Mn), F[i]? = some m → G[i]? = some n → Calls Tryd.prog 15 #[nval m, nval n] W (GivesV (.bool (sameN2 m n)) W)) := Lib.hid (fun W hb i m n hm hn => by
    obtain ⟨-, g, off, -, -, h1⟩ := hF.below hb i m hm
    obtain ⟨-, g', off', -, -, h2⟩ := hG.below hb i n hn
    have m1 := zF.attrs m (List.mem_of_getElem? hm)
    have m2 := zF.kids m (List.mem_of_getElem? hm)
    have n1 := zG.attrs n (List.mem_of_getElem? hn)
    have n2 := zG.kids n (List.mem_of_getElem? hn)
    exact same1_any m n W h1.ar h1.ir h2.ar h2.ir ⟨by omega, m2⟩ ⟨by omega, n2⟩)
  have l1 := zF.len
  have l2 := zG.len
  have HE : Hid (sameF F G = (decide (F.length = G.length) && (List.range F.length).all (pairB F G))) := Lib.hid rfl
  generalize sameF F G = R at *
  clear hF hG zF zG
  obtain ⟨n, hn⟩ : ∃ n, F.length = n := ⟨_, rfl⟩
  obtain ⟨n', hn'⟩ : ∃ n, G.length = n := ⟨_, rfl⟩
  have HN := Lib.hid hn
  have HN' := Lib.hid hn'
  rw [hn] at l1 ⊢
  rw [hn'] at l2 ⊢
  rw [hn, hn'] at HE
  clear hn hn'
  unfold same1F nval at *
  go_enter Tryd.func14, Tryd.ntmps14
  by_cases hnn : n = n'
  · subst hnn
    have hb : ((n : Int) != (n : Int)) = false := by simp
    have HR : Hid (R = (List.range n).all (pairB F G)) := Lib.hid (by rw [HE.out]; simp)
    clear HE
    go_wp2_with fail
    go_loopw [17] (fun q wr => ∃ j : Nat, j ≤ n ∧ q = .int .i64 j ∧ Hid ((List.range j).all (pairB F G) = true) ∧ Hid (Below w.heap.size w wr)) (fun q _ => n - (intOf q).toNat)
    case atStart => exact ⟨0, Nat.zero_le _, rfl, Lib.hid rfl, Lib.hid (Below.refl _ _)⟩
    case round =>
      obtain ⟨j, hj, rfl, HT, HB⟩ := hrel
      by_cases hlt : j < n
      · have k0 : (0 : Int) ≤ (j : Int) := by omega
        have k1 : (j : Int) < (n : Int) := by omega
        have hjF : j < F.length := by rw [HN.out]; exact hlt
        have hjG : j < G.length := by rw [HN'.out]; exact hlt
        obtain ⟨hfj, g, off, rfl, hg, hnd⟩ := (HF.out.below HB.out) j F[j] (List.getElem?_eq_getElem hjF)
        obtain ⟨hfj', g', off', rfl, hg', hnd'⟩ := (HG.out.below HB.out) j G[j] (List.getElem?_eq_getElem hjG)
        have HND := Lib.hid hnd'
        have HC2 := Lib.hid (fun (W : World) (hb : Below w.heap.size w W) => HC.out W hb j F[j] G[j] (List.getElem?_eq_getElem hjF) (List.getElem?_eq_getElem hjG))
        have HPj : Hid (pairB F G j = sameN2 F[j] G[j]) := Lib.hid (by simp [pairB, List.getElem?_eq_getElem hjF, List.getElem?_eq_getElem hjG])
        have HT2 : Hid ((List.range (j + 1)).all (pairB F G) = pairB F G j) := Lib.hid (all_step HT.out)
        have HNo : Hid (pairB F G j = false → R = false) := Lib.hid (fun h => by rw [HR.out]; exact all_no h hlt)
        rw [HPj.out] at HT2 HNo
        have c0 := hnd.c0
        have c1 := hnd.c1
        have c2 := hnd.c2
        have c3 := hnd.c3
        have c4 := hnd.c4
        have c5 := hnd.c5
        clear hnd hfj HPj hnd' hfj'
        generalize sameN2 F[j] G[j] = X at *
        generalize F[j] = m at *
        generalize G[j] = m' at *
        go_upto_region 6 with fail
        obtain ⟨W, hW⟩ : ∃ W, W = wr.alloc (.cells #[.int .i64 m.kind, .string m.name, .string m.text, .slice m.aA m.attrs.length m.aC, .int .i64 m.parent, .slice m.kA m.kids.length m.kC] 34) := ⟨_, rfl⟩
        rw [← hW]
        have hWr : Below wr.heap.size wr W := by rw [hW]; exact (Below.refl _ _).alloc (Nat.le_refl _) _
        have HWb : Hid (Below w.heap.size w W) := Lib.hid (by rw [hW]; exact HB.out.alloc HB.out.size _)
        have HWk : Hid (W.heap[wr.heap.size]? = some (.cells #[.int .i64 m.kind, .string m.name, .string m.text, .slice m.aA m.attrs.length m.aC, .int .i64 m.parent, .slice m.kA m.kids.length m.kC] 34 (0, 0))) := Lib.hid (by rw [hW]; exact heap_alloc_new _ _)
        have HND2 := Lib.hid (HND.out.below hg' hWr)
        clear hW c0 c1 c2 c3 c4 c5 hWr
        have c0 := HND2.out.c0
        have c1 := HND2.out.c1
        have c2 := HND2.out.c2
        have c3 := HND2.out.c3
        have c4 := HND2.out.c4
        have c5 := HND2.out.c5
        go_upto_region 7 with fail
        obtain ⟨V, hV⟩ : ∃ V, V = W.alloc (.cells #[.int .i64 m'.kind, .string m'.name, .string m'.text, .slice m'.aA m'.attrs.length m'.aC, .int .i64 m'.parent, .slice m'.kA m'.kids.length m'.kC] 34) := ⟨_, rfl⟩
        rw [← hV]
        have HVb : Hid (Below w.heap.size w V) := Lib.hid (by rw [hV]; exact HWb.out.alloc HWb.out.size _)
        have HVk : Hid (V.heap[wr.heap.size]? = some (.cells #[.int .i64 m.kind, .string m.name, .string m.text, .slice m.aA m.attrs.length m.aC, .int .i64 m.parent, .slice m.kA m.kids.length m.kC] 34 (0, 0))) := Lib.hid (by rw [hV, heap_alloc_old _ _ (lt_of_block HWk.out)]; exact HWk.out)
        have HVl : Hid (V.heap[W.heap.size]? = some (.cells #[.int .i64 m'.kind, .string m'.name, .string m'.text, .slice m'.aA m'.attrs.length m'.aC, .int .i64 m'.parent, .slice m'.kA m'.kids.length m'.kC] 34 (0, 0))) := Lib.hid (by rw [hV]; exact heap_alloc_new _ _)
        clear hV c0 c1 c2 c3 c4 c5
        obtain ⟨x0, x1, x2, x3, x4, x5⟩ := block6 HVk.out
        obtain ⟨y0, y1, y2, y3, y4, y5⟩ := block6 HVl.out
        go_wp2_with fail
        refine (HC2.out V HVb.out).mono ?_
        rintro e w1 ⟨rfl, hb'⟩
        have HB1 := Lib.hid (HVb.out.trans (hb'.mono HVb.out.size))
        clear hb' x0 x1 x2 x3 x4 x5 y0 y1 y2 y3 y4 y5
        cases X with
        | true =>
          go_wp2
          go_roundw
          case rel => exact ⟨j + 1, by omega, by go_num, HT2, HB1⟩
          case measure => simp [intOf] <;> omega
        | false =>
          have HRf := Lib.hid (HNo.out rfl)
          go_wp2
          go_ret
          exact ⟨ret_bool HRf.out.symm, HB1.out⟩
      · obtain rfl : j = n := by omega
        have HRt : Hid (R = true) := Lib.hid (by rw [HR.out]; exact HT.out)
        go_wp2
        go_ret
        exact ⟨ret_bool HRt.out.symm, HB.out⟩
  · have hb : ((n : Int) != (n' : Int)) = true := by simp; omega
    have HEE : Hid (R = false) := Lib.hid (by rw [HE.out, decide_eq_false hnn]; rfl)
    go_wp2
    go_ret
    exact ⟨ret_bool HEE.out.symm, Below.refl _ _⟩
theorem same_any (A B : Option Addr) (F G : List Mn) (c d : Nat) (w : World) (hF : FR w A F) (hG : FR w B G) (zF : Sz2 F) (zG : Sz2 G) :
    Calls Tryd.prog 6 #[.slice A F.length c, .slice B G.length d] w (GivesV (.bool (sameF F G)) w) := by
  have HC := Lib.hid (equalF_any A B F G c d w hF hG zF zG)
  unfold same1F at HC
  generalize sameF F G = R at *
  generalize F.length = n at *
  generalize G.length = n' at *
  clear hF hG zF zG
  go_enter Tryd.func6, Tryd.ntmps6
  go_wp2_with fail
  refine HC.out.mono ?_
  rintro e w1 ⟨rfl, hb⟩
  have HB := Lib.hid hb
  clear hb
  go_wp2
  go_ret
  exact ⟨rfl, HB.out⟩
end Go.Proofs.YtkcfpglmlhoiaaaDoor
