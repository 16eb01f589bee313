/-
  Whether attributes may be.
-/
import Derived.Test.YtkcfpglmlhoiaaaDoorFoC
namespace Go.Proofs.YtkcfpglmlhoiaaaDoor
open Go.ChangeShapes Go.WideShapes Go.ChangeAt Go.RowKit
set_option linter.unusedVariables false
set_option linter.unusedSimpArgs false

theorem block2 {w : World} {k : Nat} {a b : Value} {t : TypeId} (h : w.heap[k]? = some (.cells #[a, b] t (0, 0))) : w.cell? ⟨k, 0, none⟩ = some a ∧ w.cell? ⟨k, 1, none⟩ = some b := by
  simp [World.cell?, h]
def sameN (x : ByteArray) (a : ByteArray × ByteArray) : Bool := a.1.toList == x.toList
def dupF (k : Nat) : Value := .func (.func 49) #[] #[.pointer (some ⟨k, 0, none⟩)]
theorem AR.take {w : World} {A : Option Addr} {l : List (ByteArray × ByteArray)} (h : AR w A l) (i : Nat) : AR w A (l.take i) := fun j hj => by
  have hj' : j < l.length := by rw [List.length_take] at hj; omega
  obtain ⟨g, off, h1, h2, h3, h4⟩ := h j hj'
  have e : (l.take i).getD j default = l.getD j default := by
    rw [List.length_take] at hj
    simp [List.getD, List.getElem?_take, show j < i by omega]
  rw [← e] at h3 h4
  exact ⟨g, off, h1, h2, h3, h4⟩
set_option maxHeartbeats 1000000 in
theorem dup_any (k : Nat) (x y : ByteArray) (a : ByteArray × ByteArray) (w : World) (hk : w.heap[k]? = some (.cells #[.string x, .string y] 36 (0, 0))) :
    Calls Tryd.prog 49 #[.agg #[.string a.1, .string a.2], .pointer (some ⟨k, 0, none⟩)] w (GivesV (.bool (sameN x a)) w) := by
  obtain ⟨x0, x1⟩ := block2 hk
  have hlt := lt_of_block hk
  have ne : k ≠ w.heap.size := by omega
  have HS : Hid (sameN x a = (a.1.toList == x.toList)) := Lib.hid rfl
  generalize sameN x a = S at *
  clear hk
  go_enter Tryd.func49, Tryd.ntmps49
  go_wp2
  go_ret
  refine ⟨ret_bool ?_, (Below.refl _ w).alloc (Nat.le_refl _) _⟩
  rw [HS.out]
set_option maxHeartbeats 2000000 in
theorem indexDup (k : Nat) (x y : ByteArray) (A : Option Addr) (l : List (ByteArray × ByteArray)) (c : Nat) (w : World) (hk : w.heap[k]? = some (.cells #[.string x, .string y] 36 (0, 0))) (hI : AR w A l) (hl : l.length ≤ 1000) :
    Calls Tryd.prog 54 #[.slice A l.length c, dupF k] w fun e w' => ∃ j : Int, e = .returned (.int .i64 j) ∧ decide (0 ≤ j) = l.any (sameN x) ∧ Below w.heap.size w w' := by
  have HI := Lib.hid hI
  have HK := Lib.hid hk
  obtain ⟨n, hnn⟩ : ∃ n, l.length = n := ⟨_, rfl⟩
  have HNN := Lib.hid hnn
  rw [hnn] at hl ⊢
  clear hI hnn hk
  unfold dupF
  go_enter Tryd.func54, Tryd.ntmps54
  go_wp2
  go_loopw [8] (fun q wr => ∃ j : Nat, j ≤ n ∧ q = .int .i64 j ∧ Hid ((l.take j).any (sameN x) = false) ∧ Hid (Below w.heap.size w wr)) (fun q _ => n - (intOf q).toNat)
  case atStart => exact ⟨0, Nat.zero_le _, rfl, Lib.hid rfl, Lib.hid (Below.refl _ _)⟩
  case round =>
    obtain ⟨j, hj, rfl, HT, HB⟩ := hrel
    by_cases hlt : j < n
    · have k0 : (0 : Int) ≤ (j : Int) := by omega
      have k1 : (j : Int) < (n : Int) := by omega
      have hkl : j < l.length := by rw [HNN.out]; exact hlt
      obtain ⟨g, off, rfl, hg, hc, hd⟩ := (HI.out.below HB.out) j hkl
      have HD := Lib.hid (dup_any k x y (l.getD j default) wr ((HB.out.block k (lt_of_block HK.out)).trans HK.out))
      have HT2 : Hid ((l.take (j + 1)).any (sameN x) = sameN x (l.getD j default)) := Lib.hid (by rw [take_more hkl, List.any_append, HT.out, getD_at default hkl]; simp)
      have HT3 : Hid (sameN x (l.getD j default) = true → l.any (sameN x) = true) := Lib.hid (fun h => List.any_eq_true.2 ⟨l.getD j default, by rw [getD_at default hkl]; exact List.getElem_mem _, h⟩)
      generalize l.getD j default = a at *
      go_wp2_with fail
      refine HD.out.mono ?_
      rintro e w1 ⟨rfl, hb⟩
      have HB1 := Lib.hid (HB.out.trans (hb.mono HB.out.size))
      clear hb hc hd
      rcases Bool.eq_false_or_eq_true (sameN x a) with hy | hy
      · have HA := Lib.hid (HT3.out hy)
        rw [hy]
        go_wp2
        go_ret
        exact ⟨j, rfl, by rw [HA.out]; simp, HB1.out⟩
      · rw [hy] at HT2 ⊢
        go_wp2
        go_roundw
        case rel => exact ⟨j + 1, by omega, by go_num, HT2, HB1⟩
        case measure => simp [intOf] <;> omega
    · obtain rfl : j = n := by omega
      have e : l.take j = l := List.take_of_length_le (by rw [HNN.out]; exact Nat.le_refl _)
      go_wp2
      go_ret
      exact ⟨-1, rfl, by rw [← e, HT.out]; rfl, HB.out⟩
set_option maxHeartbeats 400000 in
theorem hasDup (k : Nat) (x y : ByteArray) (A : Option Addr) (l : List (ByteArray × ByteArray)) (c : Nat) (w : World) (hk : w.heap[k]? = some (.cells #[.string x, .string y] 36 (0, 0))) (hI : AR w A l) (hl : l.length ≤ 1000) :
    Calls Tryd.prog 48 #[.slice A l.length c, dupF k] w (GivesV (.bool (l.any (sameN x))) w) := by
  have HX := Lib.hid (indexDup k x y A l c w hk hI hl)
  clear hk hI
  unfold dupF at *
  go_enter Tryd.func48, Tryd.ntmps48
  go_wp2_with fail
  refine HX.out.mono ?_
  rintro e w1 ⟨j, rfl, hj, hb⟩
  have HJ := Lib.hid hj
  have HB := Lib.hid hb
  clear hj hb
  go_wp2
  go_ret
  refine ⟨ret_bool ?_, HB.out⟩
  rw [← HJ.out]

/-- What is asked of one attribute. -/
def attrB (l : List (ByteArray × ByteArray)) (i : Nat) : Bool := nm (l.getD i default).1 && (decide ((l.getD i default).2.size ≤ 60) && !((l.take i).any (sameN (l.getD i default).1)))
theorem attrsB_eq (l : List (ByteArray × ByteArray)) : attrsB l = (decide (l.length ≤ 8) && (List.range l.length).all (attrB l)) := rfl
theorem all_step {f : Nat → Bool} {k : Nat} (h : (List.range k).all f = true) : (List.range (k + 1)).all f = f k := by
  rw [List.range_succ, List.all_append, h]
  simp
theorem all_no {f : Nat → Bool} {n k : Nat} (h : f k = false) (hk : k < n) : (List.range n).all f = false := List.all_eq_false.2 ⟨k, List.mem_range.2 hk, by rw [h]; simp⟩
set_option maxRecDepth 100000 in
set_option maxHeartbeats 4000000 in
theorem attrsMay_any (A : Option Addr) (l : List (ByteArray × ByteArray)) (c : Nat) (w : World) (hI : AR w A l) (hc : l.length ≤ c) (hcm : c ≤ 9223372036854775807) (hs : ∀ a ∈ l, a.1.size ≤ 100000 ∧ a.2.size ≤ 100000) :
    Calls Tryd.prog 39 #[.slice A l.length c] w (GivesV (.bool (attrsB l)) w) := by
  have HI := Lib.hid hI
  have HS := Lib.hid hs
  have HE := Lib.hid (attrsB_eq l)
  generalize attrsB l = R at *
  obtain ⟨n, hnn⟩ : ∃ n, l.length = n := ⟨_, rfl⟩
  have HNN := Lib.hid hnn
  rw [hnn] at hc HE ⊢
  clear hI hnn hs
  by_cases h8 : 8 < n
  · have h8' : (8 : Int) < (n : Int) := by omega
    go_enter Tryd.func39, Tryd.ntmps39
    go_wp2
    go_ret
    exact ⟨ret_bool (by rw [HE.out]; simp; omega), Below.refl _ _⟩
  have h8' : ¬ (8 : Int) < (n : Int) := by omega
  go_enter Tryd.func39, Tryd.ntmps39
  go_wp2_with fail
  go_loopw [10] (fun q wr => ∃ j : Nat, j ≤ n ∧ q = .int .i64 j ∧ Hid ((List.range j).all (attrB l) = true) ∧ Hid (Below w.heap.size w wr)) (fun q _ => n - (intOf q).toNat)
  case atStart => exact ⟨0, Nat.zero_le _, rfl, Lib.hid rfl, Lib.hid (Below.refl _ _)⟩
  case round =>
    obtain ⟨j, hj, rfl, HT, HB⟩ := hrel
    by_cases hlt : j < n
    · have k0 : (0 : Int) ≤ (j : Int) := by omega
      have k1 : (j : Int) < (n : Int) := by omega
      have k2 : (j : Int) ≤ (c : Int) := by omega
      have hkl : j < l.length := by rw [HNN.out]; exact hlt
      obtain ⟨g, off, rfl, hg, hcc, hdd⟩ := (HI.out.below HB.out) j hkl
      obtain ⟨hz1, hz2⟩ := HS.out (l.getD j default) (by rw [getD_at default hkl]; exact List.getElem_mem _)
      have HT2 : Hid ((List.range (j + 1)).all (attrB l) = attrB l j) := Lib.hid (all_step HT.out)
      have HNo : Hid (attrB l j = false → R = false) := Lib.hid (fun h => by rw [HE.out, all_no h hlt]; simp)
      have HAB : Hid (attrB l j = (nm (l.getD j default).1 && (decide ((l.getD j default).2.size ≤ 60) && !((l.take j).any (sameN (l.getD j default).1))))) := Lib.hid rfl
      have HLn : Hid ((l.take j).length = j) := Lib.hid (by rw [List.length_take]; omega)
      have HDp := Lib.hid (fun (W : World) (k : Nat) (hk : W.heap[k]? = some (.cells #[.string (l.getD j default).1, .string (l.getD j default).2] 36 (0, 0))) (h : AR W (some ⟨g, off, none⟩) (l.take j)) => hasDup k _ _ (some ⟨g, off, none⟩) (l.take j) c W hk h (by have := HLn.out; omega))
      rw [HLn.out] at HDp
      have HAR := Lib.hid (((HI.out.below HB.out)).take j)
      generalize attrB l j = AB at *
      generalize (l.take j).any (sameN (l.getD j default).1) = DP at *
      generalize l.getD j default = a at *
      obtain ⟨ax, ay⟩ := a
      simp only [] at *
      go_upto_region 6 with fail
      obtain ⟨W, hW⟩ : ∃ W, W = wr.alloc (.cells #[.string ax, .string ay] 36) := ⟨_, rfl⟩
      rw [← hW]
      have hbW : Below wr.heap.size wr W := by rw [hW]; exact (Below.refl _ _).alloc (Nat.le_refl _) _
      have HWk : Hid (W.heap[wr.heap.size]? = some (.cells #[.string ax, .string ay] 36 (0, 0))) := Lib.hid (by rw [hW]; exact heap_alloc_new _ _)
      have HBW := Lib.hid (HB.out.trans (hbW.mono HB.out.size))
      have HAW := Lib.hid (HAR.out.below hbW)
      clear hW hbW hcc hdd
      obtain ⟨x0, x1⟩ := block2 HWk.out
      have HNm := Lib.hid (name_any ax W hz1)
      have HTx := Lib.hid (text_any ay W hz2)
      rcases Bool.eq_false_or_eq_true (nm ax) with hn1 | hn1
      · rw [hn1] at HNm HAB
        rcases Bool.eq_false_or_eq_true (decide (ay.size ≤ 60)) with hn2 | hn2
        · rw [hn2] at HTx HAB
          have HDq := Lib.hid (HDp.out W wr.heap.size HWk.out HAW.out)
          unfold dupF at HDq
          go_wp2_with fail
          refine HNm.out.mono ?_
          rintro e w' ⟨rfl, rfl⟩
          go_wp2_with fail
          refine HTx.out.mono ?_
          rintro e w' ⟨rfl, rfl⟩
          go_wp2_with fail
          refine HDq.out.mono ?_
          rintro e w1 ⟨rfl, hb⟩
          have HB1 := Lib.hid (HBW.out.trans (hb.mono HBW.out.size))
          clear hb x0 x1
          rcases Bool.eq_false_or_eq_true DP with hd | hd
          · rw [hd] at HAB ⊢
            have HR := Lib.hid (HNo.out (by rw [HAB.out]; rfl))
            go_wp2
            go_ret
            exact ⟨ret_bool HR.out.symm, HB1.out⟩
          · rw [hd] at HAB ⊢
            have HT3 : Hid ((List.range (j + 1)).all (attrB l) = true) := Lib.hid (by rw [HT2.out, HAB.out]; rfl)
            go_wp2
            go_roundw
            case rel => exact ⟨j + 1, by omega, by go_num, HT3, HB1⟩
            case measure => simp [intOf] <;> omega
        · rw [hn2] at HTx HAB
          have HR := Lib.hid (HNo.out (by rw [HAB.out]; rfl))
          go_wp2_with fail
          refine HNm.out.mono ?_
          rintro e w' ⟨rfl, rfl⟩
          go_wp2_with fail
          refine HTx.out.mono ?_
          rintro e w' ⟨rfl, rfl⟩
          go_wp2
          go_ret
          exact ⟨ret_bool HR.out.symm, HBW.out⟩
      · rw [hn1] at HNm HAB
        have HR := Lib.hid (HNo.out (by rw [HAB.out]; rfl))
        go_wp2_with fail
        refine HNm.out.mono ?_
        rintro e w' ⟨rfl, rfl⟩
        go_wp2
        go_ret
        exact ⟨ret_bool HR.out.symm, HBW.out⟩
    · obtain rfl : j = n := by omega
      go_wp2
      go_ret
      exact ⟨ret_bool (by rw [HE.out, HT.out]; simp; omega), HB.out⟩
end Go.Proofs.YtkcfpglmlhoiaaaDoor
