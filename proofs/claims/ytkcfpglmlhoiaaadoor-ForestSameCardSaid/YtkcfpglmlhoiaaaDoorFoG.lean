/-
  May: whether nodes are a forest.
-/
import Derived.Test.YtkcfpglmlhoiaaaDoorFoF
namespace Go.Proofs.YtkcfpglmlhoiaaaDoor
open Go.ChangeShapes Go.WideShapes Go.ChangeAt Go.RowKit
set_option linter.unusedVariables false
set_option linter.unusedSimpArgs false

theorem heap_new1 (w : World) (o o' : Obj) : ((w.alloc o).alloc o').heap[w.heap.size + 1]? = some o' := by
  have := heap_alloc_new (w.alloc o) o'
  simpa using this
set_option maxHeartbeats 1000000 in
theorem comes_any (A : Option Addr) (F : List Mn) (c i : Nat) (w : World) (hF : FR w A F) (hn : F.length ≤ 1000) (hU : Up F) (hi : i < F.length) :
    Calls Tryd.prog 25 #[.slice A F.length c, .int .i64 i] w (GivesV (.bool (endsB F F.length i)) w) := by
  have HC := Lib.hid (fun (ks kf : Nat) (hks : w.heap.size ≤ ks) (hne : kf ≠ ks) (W : World) (hb : Below w.heap.size w W) (hk : W.heap[ks]? = some (.cells #[.int .i64 0] 3 (0, 0))) (hf : W.heap[kf]? = some (.cells #[.slice A F.length c] 23 (0, 0))) =>
    climb_top w A F c hF hn hU ks kf hks hne (i : Int) (.inr (by rw [isB, decide_eq_true_eq]; omega)) W hb hk hf)
  clear hF hU
  generalize endsB F F.length i = R at *
  generalize F.length = n at *
  obtain ⟨W, hW⟩ : ∃ W, W = (w.alloc (.cells #[.slice A n c] 23)).alloc (.cells #[.int .i64 0] 3) := ⟨_, rfl⟩
  have HW : Hid (Below w.heap.size w W ∧ W.heap[w.heap.size]? = some (.cells #[.slice A n c] 23 (0, 0)) ∧ W.heap[w.heap.size + 1]? = some (.cells #[.int .i64 0] 3 (0, 0))) := Lib.hid (by
    subst hW
    refine ⟨((Below.refl _ w).alloc (Nat.le_refl _) _).alloc (by simp) _, ?_, heap_new1 _ _ _⟩
    rw [heap_alloc_old _ _ (by simp)]; exact heap_alloc_new w _)
  have x0 := block1 HW.out.2.1
  have HC2 := Lib.hid (HC.out (w.heap.size + 1) w.heap.size (by omega) (by omega) W HW.out.1 HW.out.2.2 HW.out.2.1)
  unfold topF at HC2
  clear HC
  go_enter Tryd.func25, Tryd.ntmps25
  go_upto_region 2 with fail
  rw [← hW]
  clear hW
  go_wp2_with fail
  refine HC2.out.mono ?_
  rintro e w1 ⟨rfl, hb⟩
  have HB := Lib.hid hb
  clear hb
  go_wp2
  go_ret
  exact ⟨rfl, HB.out⟩
def may2F (kf : Nat) : Value := .func (.func 24) #[] #[.pointer (some ⟨kf, 0, none⟩)]
def may1F (kf : Nat) : Value := .func (.func 20) #[] #[.pointer (some ⟨kf, 0, none⟩)]
set_option maxHeartbeats 1000000 in
theorem may2_any (kf : Nat) (A : Option Addr) (F : List Mn) (c i : Nat) (m : Mn) (w : World) (hF : FR w A F) (hn : F.length ≤ 1000) (hU : Up F) (hi : i < F.length) (hk : w.heap[kf]? = some (.cells #[.slice A F.length c] 23 (0, 0))) :
    Calls Tryd.prog 24 #[.int .i64 i, nval m, .pointer (some ⟨kf, 0, none⟩)] w (GivesV (.bool (endsB F F.length i)) w) := by
  have HC := Lib.hid (fun (W : World) (hb : Below w.heap.size w W) => comes_any A F c i W (hF.below hb) hn hU hi)
  have hlt := lt_of_block hk
  have ne : kf ≠ w.heap.size := by omega
  have x0 := block1 hk
  clear hF hU hk
  generalize endsB F F.length i = R at *
  generalize F.length = n at *
  unfold nval
  go_enter Tryd.func24, Tryd.ntmps24
  go_wp2_with fail
  refine (HC.out _ ((Below.refl _ w).alloc (Nat.le_refl _) _)).mono ?_
  rintro e w1 ⟨rfl, hb⟩
  have HB : Hid (Below w.heap.size w w1) := Lib.hid (((Below.refl _ w).alloc (Nat.le_refl _) _).trans (hb.mono (by simp)))
  clear hb
  go_wp2
  go_ret
  exact ⟨rfl, HB.out⟩
/-- Sizes that the contracts ask. -/
structure Sz (F : List Mn) : Prop where
  len : F.length ≤ 1000
  kids : ∀ m ∈ F, m.kids.length ≤ 1000
  str : ∀ m ∈ F, m.name.size ≤ 100000 ∧ m.text.size ≤ 100000 ∧ ∀ a ∈ m.attrs, a.1.size ≤ 100000 ∧ a.2.size ≤ 100000
set_option maxRecDepth 100000 in
set_option maxHeartbeats 2000000 in
theorem may1_any (kf : Nat) (A : Option Addr) (F : List Mn) (c i : Nat) (m : Mn) (w : World) (hF : FR w A F) (hz : Sz F) (hm : F[i]? = some m) (hk : w.heap[kf]? = some (.cells #[.slice A F.length c] 23 (0, 0))) :
    Calls Tryd.prog 20 #[.int .i64 i, nval m, .pointer (some ⟨kf, 0, none⟩)] w (GivesV (.bool (oneB F i m)) w) := by
  have hi : i < F.length := (List.getElem?_eq_some_iff.1 hm).1
  have hmem : m ∈ F := List.mem_of_getElem? hm
  obtain ⟨hfit, g, off, hA, hg, hnode⟩ := hF i m hm
  have HL := Lib.hid (fun (W : World) (hb : Below w.heap.size w W) => isLinked_any A F c i W (hF.below hb) hz.len hi hz.kids)
  have HO := Lib.hid (fun (W : World) (hb : Below w.heap.size w W) => hasItsOwn_any m W hfit (hnode.ar.below hb) (hz.str m hmem))
  have HE : Hid (oneB F i m = (((m.kind == 0) == ((i : Int) == 0)) && (ownB m && linkB F i))) := Lib.hid rfl
  have hlt := lt_of_block hk
  have ne : kf ≠ w.heap.size := by omega
  have HK := Lib.hid hk
  clear hF hz hm hk hA hnode hfit hmem
  generalize oneB F i m = R at *
  generalize ownB m = OB at *
  generalize linkB F i = LB at *
  generalize F.length = n at *
  unfold nval at *
  obtain ⟨W, hW⟩ : ∃ W, W = w.alloc (.cells #[.int .i64 m.kind, .string m.name, .string m.text, .slice m.aA m.attrs.length m.aC, .int .i64 m.parent, .slice m.kA m.kids.length m.kC] 34) := ⟨_, rfl⟩
  have HWb : Hid (Below w.heap.size w W) := Lib.hid (by rw [hW]; exact (Below.refl _ _).alloc (Nat.le_refl _) _)
  have HWk : Hid (W.heap[w.heap.size]? = some (.cells #[.int .i64 m.kind, .string m.name, .string m.text, .slice m.aA m.attrs.length m.aC, .int .i64 m.parent, .slice m.kA m.kids.length m.kC] 34 (0, 0))) := Lib.hid (by rw [hW]; exact heap_alloc_new _ _)
  obtain ⟨x0, x1, x2, x3, x4, x5⟩ := block6 HWk.out
  rcases Bool.eq_false_or_eq_true (((m.kind == 0) == ((i : Int) == 0))) with hd | hd
  · rw [hd] at HE
    go_enter Tryd.func20, Tryd.ntmps20
    go_upto_region 1 with fail
    rw [← hW]
    clear hW
    rcases Bool.eq_false_or_eq_true (m.kind == 0) with h1 | h1
    · rcases Bool.eq_false_or_eq_true ((i : Int) == 0) with h2 | h2
      · go_wp2_with fail
        refine (HO.out W HWb.out).mono ?_
        rintro e w1 ⟨rfl, hb⟩
        have HB := Lib.hid (HWb.out.trans (hb.mono HWb.out.size))
        clear hb x0 x1 x2 x3 x4 x5
        cases OB with
        | false =>
          go_wp2
          go_ret
          exact ⟨ret_bool (by rw [HE.out]; rfl), HB.out⟩
        | true =>
          have x0 := block1 ((HB.out.block kf hlt).trans HK.out)
          go_wp2_with fail
          refine (HL.out w1 HB.out).mono ?_
          rintro e w2 ⟨rfl, hb⟩
          have HB2 := Lib.hid (HB.out.trans (hb.mono HB.out.size))
          clear hb
          go_wp2
          go_ret
          exact ⟨ret_bool (by rw [HE.out]; simp), HB2.out⟩
      · exfalso; rw [h1, h2] at hd; cases hd
    · rcases Bool.eq_false_or_eq_true ((i : Int) == 0) with h2 | h2
      · exfalso; rw [h1, h2] at hd; cases hd
      · go_wp2_with fail
        refine (HO.out W HWb.out).mono ?_
        rintro e w1 ⟨rfl, hb⟩
        have HB := Lib.hid (HWb.out.trans (hb.mono HWb.out.size))
        clear hb x0 x1 x2 x3 x4 x5
        cases OB with
        | false =>
          go_wp2
          go_ret
          exact ⟨ret_bool (by rw [HE.out]; rfl), HB.out⟩
        | true =>
          have x0 := block1 ((HB.out.block kf hlt).trans HK.out)
          go_wp2_with fail
          refine (HL.out w1 HB.out).mono ?_
          rintro e w2 ⟨rfl, hb⟩
          have HB2 := Lib.hid (HB.out.trans (hb.mono HB.out.size))
          clear hb
          go_wp2
          go_ret
          exact ⟨ret_bool (by rw [HE.out]; simp), HB2.out⟩
  · rw [hd] at HE
    rcases Bool.eq_false_or_eq_true (m.kind == 0) with h1 | h1
    · rcases Bool.eq_false_or_eq_true ((i : Int) == 0) with h2 | h2
      · exfalso; rw [h1, h2] at hd; cases hd
      · go_enter Tryd.func20, Tryd.ntmps20
        go_upto_region 1 with fail
        rw [← hW]
        clear hW
        go_wp2
        go_ret
        exact ⟨ret_bool (by rw [HE.out]; rfl), HWb.out⟩
    · rcases Bool.eq_false_or_eq_true ((i : Int) == 0) with h2 | h2
      · go_enter Tryd.func20, Tryd.ntmps20
        go_upto_region 1 with fail
        rw [← hW]
        clear hW
        go_wp2
        go_ret
        exact ⟨ret_bool (by rw [HE.out]; rfl), HWb.out⟩
      · exfalso; rw [h1, h2] at hd; cases hd
end Go.Proofs.YtkcfpglmlhoiaaaDoor
