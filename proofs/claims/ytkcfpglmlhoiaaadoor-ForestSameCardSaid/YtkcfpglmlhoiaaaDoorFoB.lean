/-
  Nodes by their numbers; how often a list has one; whether a node is linked as it says.
-/
import Derived.Test.YtkcfpglmlhoiaaaDoorFoA
import Derived.Deep.QuietTactic
import Derived.BigQuiet
import Derived.WalkSmall
namespace Go.Proofs.YtkcfpglmlhoiaaaDoor
open Go.ChangeShapes Go.WideShapes Go.ChangeAt Go.RowKit
set_option linter.unusedVariables false
set_option linter.unusedSimpArgs false

/-- A value is told; below nothing has turned. -/
def GivesV (v : Value) (w : World) (en : Ending) (w' : World) : Prop := en = .returned v ∧ Below w.heap.size w w'
theorem lt_of_block {w : World} {k : Nat} {o : Obj} (h : w.heap[k]? = some o) : k < w.heap.size := (Array.getElem?_eq_some_iff.1 h).1
theorem heap_new {w : World} (o : Obj) : (w.alloc o).heap[w.heap.size]? = some o := heap_alloc_new w o
set_option maxHeartbeats 400000 in
theorem isNode_any (A : Option Addr) (n c : Nat) (x : Int) (w : World) (hn : n ≤ 1000) :
    Calls Tryd.prog 26 #[.slice A n c, .int .i64 x] w fun e w' => e = .returned (.bool (decide (0 ≤ x ∧ x < n))) ∧ w' = w := by
  by_cases h : 0 ≤ x
  · go_enter Tryd.func26, Tryd.ntmps26
    go_wp2
    go_ret
    exact ⟨ret_bool (by simp [h]), rfl⟩
  · go_enter Tryd.func26, Tryd.ntmps26
    go_wp2
    go_ret
    exact ⟨ret_bool (by simp; omega), rfl⟩
theorem getD_at {α : Type} {l : List α} (d : α) {j : Nat} (h : j < l.length) : l.getD j d = l[j] := by simp [List.getD, List.getElem?_eq_getElem h]
theorem take_more {α : Type} {l : List α} {k : Nat} (h : k < l.length) : l.take (k + 1) = l.take k ++ [l[k]] := List.take_succ_eq_append_getElem h
set_option maxHeartbeats 1000000 in
theorem howOften_any (A : Option Addr) (l : List Int) (c : Nat) (x : Int) (w : World) (hI : IR w A l) (hl : l.length ≤ 1000) :
    Calls Tryd.prog 40 #[.slice A l.length c, .int .i64 x] w fun e w' => e = .returned (.int .i64 (l.count x : Nat)) ∧ w' = w := by
  have HI := Lib.hid hI
  obtain ⟨n, hn⟩ : ∃ n, l.length = n := ⟨_, rfl⟩
  have HN := Lib.hid hn
  rw [hn] at hl ⊢
  clear hI hn
  go_enter Tryd.func40, Tryd.ntmps40
  go_wp2
  go_loopw [5, 10] (fun m i wr => ∃ k : Nat, k ≤ n ∧ i = .int .i64 k ∧ m = .int .i64 ((l.take k).count x : Nat) ∧ w = wr) (fun _ i _ => n - (intOf i).toNat)
  case atStart => exact ⟨0, Nat.zero_le _, rfl, rfl, rfl⟩
  case round =>
    obtain ⟨k, hk, rfl, rfl, rfl⟩ := hrel
    by_cases hlt : k < n
    · have k0 : (0 : Int) ≤ (k : Int) := by omega
      have k1 : (k : Int) < (n : Int) := by omega
      have hkl : k < l.length := by rw [HN.out]; exact hlt
      obtain ⟨g, off, rfl, hg, hc⟩ := HI.out k hkl
      have hle : (l.take k).count x ≤ k := Nat.le_trans List.count_le_length (by rw [List.length_take]; omega)
      have HT : Hid ((l.take (k + 1)).count x = (l.take k).count x + if l.getD k 0 == x then 1 else 0) := Lib.hid (by
        rw [take_more hkl, List.count_append, getD_at 0 hkl, List.count_singleton])
      generalize l.getD k 0 = y at *
      generalize (l.take k).count x = q at *
      rcases Bool.eq_false_or_eq_true (y == x) with hy | hy
      · go_wp2
        go_roundw
        case rel => exact ⟨k + 1, by omega, by go_num, by rw [HT.out, hy]; go_num, by first | trivial | rfl⟩
        case measure => simp [intOf] <;> omega
      · go_wp2
        go_roundw
        case rel => exact ⟨k + 1, by omega, by go_num, by rw [HT.out, hy]; simp, by first | trivial | rfl⟩
        case measure => simp [intOf] <;> omega
    · obtain rfl : k = n := by omega
      have e : l.take k = l := List.take_of_length_le (by rw [HN.out]; exact Nat.le_refl _)
      go_wp2
      go_ret
      exact ⟨by rw [e]; rfl, rfl⟩

/-! ### a node's kids are its own -/
/-- What is asked of a kid. -/
def kidBad (F : List Mn) (i : Nat) (k : Int) : Bool := !(isB F k && decide (par F k.toNat = i))
def kidF (kf ki : Nat) : Value := .func (.func 42) #[] #[.pointer (some ⟨kf, 0, none⟩), .pointer (some ⟨ki, 0, none⟩)]
set_option maxHeartbeats 1000000 in
theorem kid_any (kf ki : Nat) (A : Option Addr) (F : List Mn) (c i : Nat) (x : Int) (w : World) (hF : FR w A F) (hn : F.length ≤ 1000) (hkf : w.cell? ⟨kf, 0, none⟩ = some (.slice A F.length c)) (hki : w.cell? ⟨ki, 0, none⟩ = some (.int .i64 i)) :
    Calls Tryd.prog 42 #[.int .i64 x, .pointer (some ⟨kf, 0, none⟩), .pointer (some ⟨ki, 0, none⟩)] w (GivesV (.bool (kidBad F i x)) w) := by
  have HF := Lib.hid hF
  clear hF
  obtain ⟨n, hnn⟩ : ∃ n, F.length = n := ⟨_, rfl⟩
  have HNN := Lib.hid hnn
  rw [hnn] at hkf hn
  clear hnn
  by_cases hx : 0 ≤ x ∧ x < n
  · obtain ⟨k, rfl⟩ := Int.eq_ofNat_of_zero_le hx.1
    have hk : k < F.length := by rw [HNN.out]; omega
    obtain ⟨hfit, g, off, rfl, hg, hnode⟩ := HF.out k F[k] (List.getElem?_eq_getElem hk)
    have c4 := hnode.c4
    have hp : par F k = F[k].parent := by simp [par, List.getElem?_eq_getElem hk]
    have h0 : (0 : Int) ≤ (k : Int) := by omega
    have h1 : (k : Int) < (n : Int) := by omega
    have HB : Hid (kidBad F i (k : Int) = !decide (F[k].parent = (i : Int))) := Lib.hid (by simp [kidBad, isB, hp, HNN.out]; omega)
    clear hnode hfit hp
    generalize F[k].parent = pp at *
    have HIs := Lib.hid (fun W => isNode_any (some ⟨g, off, none⟩) n c (k : Int) W hn)
    rw [decide_eq_true hx] at HIs
    rcases Bool.eq_false_or_eq_true (pp == (i : Int)) with hy | hy
    all_goals
      go_enter Tryd.func42, Tryd.ntmps42
      go_wp2_with fail
      go_quiet ((go_at_call 26; exact Calls.quiet_of_same (HIs.out _)))
      go_wp2
      go_ret
      refine ⟨ret_bool ?_, below_drewN (Below.refl _ _) _⟩
      rw [HB.out]
      simp_all
  · have hd : decide (0 ≤ x ∧ x < (n : Int)) = false := by simpa using hx
    have HB : Hid (kidBad F i x = true) := Lib.hid (by simp only [kidBad, isB, HNN.out, hd]; rfl)
    have HIs := Lib.hid (fun W => isNode_any A n c x W hn)
    rw [hd] at HIs
    go_enter Tryd.func42, Tryd.ntmps42
    go_wp2_with fail
    go_quiet ((go_at_call 26; exact Calls.quiet_of_same (HIs.out _)))
    go_wp2
    go_ret
    exact ⟨ret_bool HB.out.symm, below_drewN (Below.refl _ _) _⟩
set_option maxHeartbeats 2000000 in
theorem indexKid (kf ki : Nat) (A : Option Addr) (F : List Mn) (c i : Nat) (Ak : Option Addr) (l : List Int) (ck : Nat) (w : World) (hF : FR w A F) (hn : F.length ≤ 1000) (hkf : w.cell? ⟨kf, 0, none⟩ = some (.slice A F.length c)) (hki : w.cell? ⟨ki, 0, none⟩ = some (.int .i64 i)) (hkf' : kf < w.heap.size) (hki' : ki < w.heap.size) (hI : IR w Ak l) (hl : l.length ≤ 1000) :
    Calls Tryd.prog 50 #[.slice Ak l.length ck, kidF kf ki] w fun e w' => ∃ j : Int, e = .returned (.int .i64 j) ∧ decide (0 ≤ j) = l.any (kidBad F i) ∧ Below w.heap.size w w' := by
  have HF := Lib.hid hF
  have HI := Lib.hid hI
  have HKF := Lib.hid hkf
  have HKI := Lib.hid hki
  obtain ⟨n, hnn⟩ : ∃ n, l.length = n := ⟨_, rfl⟩
  have HNN := Lib.hid hnn
  rw [hnn] at hl ⊢
  clear hF hI hnn hkf hki
  unfold kidF
  go_enter Tryd.func50, Tryd.ntmps50
  go_wp2
  go_loopw [8] (fun q wr => ∃ k : Nat, k ≤ n ∧ q = .int .i64 k ∧ Hid ((l.take k).any (kidBad F i) = false) ∧ Hid (Below w.heap.size w wr)) (fun q _ => n - (intOf q).toNat)
  case atStart => exact ⟨0, Nat.zero_le _, rfl, Lib.hid rfl, Lib.hid (Below.refl _ _)⟩
  case round =>
    obtain ⟨k, hk, rfl, HT, HB⟩ := hrel
    by_cases hlt : k < n
    · have k0 : (0 : Int) ≤ (k : Int) := by omega
      have k1 : (k : Int) < (n : Int) := by omega
      have hkl : k < l.length := by rw [HNN.out]; exact hlt
      obtain ⟨g, off, rfl, hg, hc⟩ := (HI.out.below HB.out) k hkl
      have HK := Lib.hid (kid_any kf ki A F c i (l.getD k 0) wr (HF.out.below HB.out) hn ((HB.out.cell (p := ⟨kf, 0, none⟩) hkf').trans HKF.out) ((HB.out.cell (p := ⟨ki, 0, none⟩) hki').trans HKI.out))
      have HT2 : Hid ((l.take (k + 1)).any (kidBad F i) = kidBad F i (l.getD k 0)) := Lib.hid (by rw [take_more hkl, List.any_append, HT.out, getD_at 0 hkl]; simp)
      have HT3 : Hid (kidBad F i (l.getD k 0) = true → l.any (kidBad F i) = true) := Lib.hid (fun h => List.any_eq_true.2 ⟨l.getD k 0, by rw [getD_at 0 hkl]; exact List.getElem_mem _, h⟩)
      generalize l.getD k 0 = y at *
      go_wp2_with fail
      refine HK.out.mono ?_
      rintro e w1 ⟨rfl, hb⟩
      have HB1 := Lib.hid (HB.out.trans (hb.mono HB.out.size))
      clear hb hc
      rcases Bool.eq_false_or_eq_true (kidBad F i y) with hy | hy
      · have HA := Lib.hid (HT3.out hy)
        rw [hy]
        go_wp2
        go_ret
        exact ⟨k, rfl, by rw [HA.out]; simp, HB1.out⟩
      · rw [hy] at HT2 ⊢
        go_wp2
        go_roundw
        case rel => exact ⟨k + 1, by omega, by go_num, HT2, HB1⟩
        case measure => simp [intOf] <;> omega
    · obtain rfl : k = n := by omega
      have e : l.take k = l := List.take_of_length_le (by rw [HNN.out]; exact Nat.le_refl _)
      go_wp2
      go_ret
      exact ⟨-1, rfl, by rw [← e, HT.out]; rfl, HB.out⟩
set_option maxHeartbeats 400000 in
theorem hasKid (kf ki : Nat) (A : Option Addr) (F : List Mn) (c i : Nat) (Ak : Option Addr) (l : List Int) (ck : Nat) (w : World) (hF : FR w A F) (hn : F.length ≤ 1000) (hkf : w.cell? ⟨kf, 0, none⟩ = some (.slice A F.length c)) (hki : w.cell? ⟨ki, 0, none⟩ = some (.int .i64 i)) (hkf' : kf < w.heap.size) (hki' : ki < w.heap.size) (hI : IR w Ak l) (hl : l.length ≤ 1000) :
    Calls Tryd.prog 41 #[.slice Ak l.length ck, kidF kf ki] w (GivesV (.bool (l.any (kidBad F i))) w) := by
  have HX := Lib.hid (indexKid kf ki A F c i Ak l ck w hF hn hkf hki hkf' hki' hI hl)
  clear hF hkf hki hI
  unfold kidF at *
  go_enter Tryd.func41, Tryd.ntmps41
  go_wp2_with fail
  refine HX.out.mono ?_
  rintro e w1 ⟨j, rfl, hj, hb⟩
  have HJ := Lib.hid hj
  have HB := Lib.hid hb
  clear hj hb
  go_wp2
  go_ret
  refine ⟨ret_bool ?_, HB.out⟩
  rw [← HJ.out]
end Go.Proofs.YtkcfpglmlhoiaaaDoor
