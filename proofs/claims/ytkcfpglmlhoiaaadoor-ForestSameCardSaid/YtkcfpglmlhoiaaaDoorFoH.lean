/-
  May: whether nodes are a forest.
-/
import Derived.Test.YtkcfpglmlhoiaaaDoorFoG
namespace Go.Proofs.YtkcfpglmlhoiaaaDoor
open Go.ChangeShapes Go.WideShapes Go.ChangeAt Go.RowKit
set_option linter.unusedVariables false
set_option linter.unusedSimpArgs false

set_option maxRecDepth 100000 in
set_option maxHeartbeats 2000000 in
theorem every1 (kf : Nat) (A : Option Addr) (F : List Mn) (c : Nat) (w : World) (hF : FR w A F) (hz : Sz F) (hk : w.heap[kf]? = some (.cells #[.slice A F.length c] 23 (0, 0))) :
    Calls Tryd.prog 19 #[.slice A F.length c, may1F kf] w (GivesV (.bool ((List.range F.length).all (fun i => ((F[i]?).map (oneB F i)).getD false))) w) := by
  have HF := Lib.hid hF
  have HK := Lib.hid hk
  have HC := Lib.hid (fun (W : World) (hb : Below w.heap.size w W) (i : Nat) (m : Mn) (hm : F[i]? = some m) => may1_any kf A F c i m W (hF.below hb) hz hm ((hb.block kf (lt_of_block hk)).trans hk))
  have hl := hz.len
  clear hF hk hz
  obtain ⟨n, hnn⟩ : ∃ n, F.length = n := ⟨_, rfl⟩
  have HNN := Lib.hid hnn
  obtain ⟨R, hR⟩ : ∃ R, (List.range F.length).all (fun i => ((F[i]?).map (oneB F i)).getD false) = R := ⟨_, rfl⟩
  have HR := Lib.hid hR
  rw [hR, hnn]
  rw [hnn] at hl
  clear hnn hR
  unfold may1F nval at *
  go_enter Tryd.func19, Tryd.ntmps19
  go_wp2_with fail
  go_loopw [9] (fun q wr => ∃ j : Nat, j ≤ n ∧ q = .int .i64 j ∧ Hid ((List.range j).all (fun i => ((F[i]?).map (oneB F i)).getD false) = true) ∧ Hid (Below w.heap.size w wr)) (fun q _ => n - (intOf q).toNat)
  case atStart => exact ⟨0, Nat.zero_le _, rfl, Lib.hid rfl, Lib.hid (Below.refl _ _)⟩
  case round =>
    obtain ⟨j, hj, rfl, HT, HB⟩ := hrel
    by_cases hlt : j < n
    · have k0 : (0 : Int) ≤ (j : Int) := by omega
      have k1 : (j : Int) < (n : Int) := by omega
      have hjF : j < F.length := by rw [HNN.out]; exact hlt
      obtain ⟨hfj, g, off, rfl, hg, hnd⟩ := (HF.out.below HB.out) j F[j] (List.getElem?_eq_getElem hjF)
      have HC2 := Lib.hid (fun (W : World) (hb : Below w.heap.size w W) => HC.out W hb j F[j] (List.getElem?_eq_getElem hjF))
      have HPj : Hid ((fun i => ((F[i]?).map (oneB F i)).getD false) j = oneB F j F[j]) := Lib.hid (by simp [List.getElem?_eq_getElem hjF])
      have HT2 : Hid ((List.range (j + 1)).all (fun i => ((F[i]?).map (oneB F i)).getD false) = (fun i => ((F[i]?).map (oneB F i)).getD false) j) := Lib.hid (all_step HT.out)
      have HNo : Hid ((fun i => ((F[i]?).map (oneB F i)).getD false) j = false → R = false) := Lib.hid (fun h => by rw [← HR.out]; exact all_no h hjF)
      rw [HPj.out] at HT2 HNo
      have c0 := hnd.c0
      have c1 := hnd.c1
      have c2 := hnd.c2
      have c3 := hnd.c3
      have c4 := hnd.c4
      have c5 := hnd.c5
      clear hnd hfj HPj
      generalize oneB F j F[j] = X at *
      generalize F[j] = m at *
      go_upto_region 4 with fail
      obtain ⟨W, hW⟩ : ∃ W, W = wr.alloc (.cells #[.int .i64 m.kind, .string m.name, .string m.text, .slice m.aA m.attrs.length m.aC, .int .i64 m.parent, .slice m.kA m.kids.length m.kC] 34) := ⟨_, rfl⟩
      rw [← hW]
      have HWb : Hid (Below w.heap.size w W) := Lib.hid (by rw [hW]; exact HB.out.alloc HB.out.size _)
      have HWk : Hid (W.heap[wr.heap.size]? = some (.cells #[.int .i64 m.kind, .string m.name, .string m.text, .slice m.aA m.attrs.length m.aC, .int .i64 m.parent, .slice m.kA m.kids.length m.kC] 34 (0, 0))) := Lib.hid (by rw [hW]; exact heap_alloc_new _ _)
      clear hW c0 c1 c2 c3 c4 c5
      obtain ⟨x0, x1, x2, x3, x4, x5⟩ := block6 HWk.out
      go_wp2_with fail
      refine (HC2.out W HWb.out).mono ?_
      rintro e w1 ⟨rfl, hb⟩
      have HB1 := Lib.hid (HWb.out.trans (hb.mono HWb.out.size))
      clear hb x0 x1 x2 x3 x4 x5
      cases X with
      | true =>
        go_wp2
        go_roundw
        case rel => exact ⟨j + 1, by omega, by go_num, HT2, HB1⟩
        case measure => simp [intOf] <;> omega
      | false =>
        have HRf := Lib.hid (HNo.out rfl)
        go_wp2
        go_ret
        exact ⟨ret_bool HRf.out.symm, HB1.out⟩
    · obtain rfl : j = n := by omega
      have HRt : Hid (R = true) := Lib.hid (by have h := HT.out; rw [← HNN.out] at h; rw [← HR.out]; exact h)
      go_wp2
      go_ret
      exact ⟨ret_bool HRt.out.symm, HB.out⟩

set_option maxRecDepth 100000 in
set_option maxHeartbeats 2000000 in
theorem every2 (kf : Nat) (A : Option Addr) (F : List Mn) (c : Nat) (w : World) (hF : FR w A F) (hz : Sz F) (hU : Up F) (hk : w.heap[kf]? = some (.cells #[.slice A F.length c] 23 (0, 0))) :
    Calls Tryd.prog 19 #[.slice A F.length c, may2F kf] w (GivesV (.bool ((List.range F.length).all (fun i => endsB F F.length i))) w) := by
  have HF := Lib.hid hF
  have HK := Lib.hid hk
  have HC := Lib.hid (fun (W : World) (hb : Below w.heap.size w W) (i : Nat) (m : Mn) (hm : F[i]? = some m) => may2_any kf A F c i m W (hF.below hb) hz.len hU (List.getElem?_eq_some_iff.1 hm).1 ((hb.block kf (lt_of_block hk)).trans hk))
  have hl := hz.len
  clear hF hk hz
  obtain ⟨n, hnn⟩ : ∃ n, F.length = n := ⟨_, rfl⟩
  have HNN := Lib.hid hnn
  obtain ⟨R, hR⟩ : ∃ R, (List.range F.length).all (fun i => endsB F F.length i) = R := ⟨_, rfl⟩
  have HR := Lib.hid hR
  rw [hR, hnn]
  rw [hnn] at hl
  clear hnn hR
  unfold may2F nval at *
  go_enter Tryd.func19, Tryd.ntmps19
  go_wp2_with fail
  go_loopw [9] (fun q wr => ∃ j : Nat, j ≤ n ∧ q = .int .i64 j ∧ Hid ((List.range j).all (fun i => endsB F F.length i) = true) ∧ Hid (Below w.heap.size w wr)) (fun q _ => n - (intOf q).toNat)
  case atStart => exact ⟨0, Nat.zero_le _, rfl, Lib.hid rfl, Lib.hid (Below.refl _ _)⟩
  case round =>
    obtain ⟨j, hj, rfl, HT, HB⟩ := hrel
    by_cases hlt : j < n
    · have k0 : (0 : Int) ≤ (j : Int) := by omega
      have k1 : (j : Int) < (n : Int) := by omega
      have hjF : j < F.length := by rw [HNN.out]; exact hlt
      obtain ⟨hfj, g, off, rfl, hg, hnd⟩ := (HF.out.below HB.out) j F[j] (List.getElem?_eq_getElem hjF)
      have HC2 := Lib.hid (fun (W : World) (hb : Below w.heap.size w W) => HC.out W hb j F[j] (List.getElem?_eq_getElem hjF))
      have HPj : Hid ((fun i => endsB F F.length i) j = endsB F F.length j) := Lib.hid (by rfl)
      have HT2 : Hid ((List.range (j + 1)).all (fun i => endsB F F.length i) = (fun i => endsB F F.length i) j) := Lib.hid (all_step HT.out)
      have HNo : Hid ((fun i => endsB F F.length i) j = false → R = false) := Lib.hid (fun h => by rw [← HR.out]; exact all_no h hjF)
      rw [HPj.out] at HT2 HNo
      have c0 := hnd.c0
      have c1 := hnd.c1
      have c2 := hnd.c2
      have c3 := hnd.c3
      have c4 := hnd.c4
      have c5 := hnd.c5
      clear hnd hfj HPj
      generalize endsB F F.length j = X at *
      generalize F[j] = m at *
      go_upto_region 4 with fail
      obtain ⟨W, hW⟩ : ∃ W, W = wr.alloc (.cells #[.int .i64 m.kind, .string m.name, .string m.text, .slice m.aA m.attrs.length m.aC, .int .i64 m.parent, .slice m.kA m.kids.length m.kC] 34) := ⟨_, rfl⟩
      rw [← hW]
      have HWb : Hid (Below w.heap.size w W) := Lib.hid (by rw [hW]; exact HB.out.alloc HB.out.size _)
      have HWk : Hid (W.heap[wr.heap.size]? = some (.cells #[.int .i64 m.kind, .string m.name, .string m.text, .slice m.aA m.attrs.length m.aC, .int .i64 m.parent, .slice m.kA m.kids.length m.kC] 34 (0, 0))) := Lib.hid (by rw [hW]; exact heap_alloc_new _ _)
      clear hW c0 c1 c2 c3 c4 c5
      obtain ⟨x0, x1, x2, x3, x4, x5⟩ := block6 HWk.out
      go_wp2_with fail
      refine (HC2.out W HWb.out).mono ?_
      rintro e w1 ⟨rfl, hb⟩
      have HB1 := Lib.hid (HWb.out.trans (hb.mono HWb.out.size))
      clear hb x0 x1 x2 x3 x4 x5
      cases X with
      | true =>
        go_wp2
        go_roundw
        case rel => exact ⟨j + 1, by omega, by go_num, HT2, HB1⟩
        case measure => simp [intOf] <;> omega
      | false =>
        have HRf := Lib.hid (HNo.out rfl)
        go_wp2
        go_ret
        exact ⟨ret_bool HRf.out.symm, HB1.out⟩
    · obtain rfl : j = n := by omega
      have HRt : Hid (R = true) := Lib.hid (by have h := HT.out; rw [← HNN.out] at h; rw [← HR.out]; exact h)
      go_wp2
      go_ret
      exact ⟨ret_bool HRt.out.symm, HB.out⟩

theorem sound_of {F : List Mn} (h : (List.range F.length).all (fun i => ((F[i]?).map (oneB F i)).getD false) = true) {i : Nat} (hi : i < F.length) : oneB F i F[i] = true := by
  have := List.all_eq_true.1 h i (List.mem_range.2 hi)
  simpa [List.getElem?_eq_getElem hi] using this
theorem link_of {F : List Mn} (h : (List.range F.length).all (fun i => ((F[i]?).map (oneB F i)).getD false) = true) {i : Nat} (hi : i < F.length) : linkB F i = true := by
  have := sound_of h hi
  simp only [oneB, Bool.and_eq_true] at this
  exact this.2.2
theorem up_of {F : List Mn} (h : (List.range F.length).all (fun i => ((F[i]?).map (oneB F i)).getD false) = true) : Up F := fun i hi => by
  have := link_of h hi
  simp only [linkB, Bool.and_eq_true, Bool.or_eq_true, decide_eq_true_eq] at this
  rcases this.1 with h1 | h1
  · exact .inl h1
  · exact .inr h1.2.1
theorem kids_of {F : List Mn} (h : (List.range F.length).all (fun i => ((F[i]?).map (oneB F i)).getD false) = true) {i : Nat} (hi : i < F.length) {k : Int} (hk : k ∈ kidsOf F i) : isB F k = true ∧ par F k.toNat = i := by
  have := link_of h hi
  simp only [linkB, Bool.and_eq_true] at this
  have := List.all_eq_true.1 this.2 k hk
  simpa using this
set_option maxRecDepth 100000 in
set_option maxHeartbeats 4000000 in
theorem may_any (A : Option Addr) (F : List Mn) (c : Nat) (w : World) (hF : FR w A F) (hz : Sz F) :
    Calls Tryd.prog 9 #[.slice A F.length c] w (GivesV (.bool (mayB F)) w) := by
  have HF := Lib.hid hF
  have HZ := Lib.hid hz
  have hl := hz.len
  have HE : Hid (mayB F = (decide (0 < F.length ∧ F.length ≤ 60) && ((List.range F.length).all (fun i => ((F[i]?).map (oneB F i)).getD false) && (docB F && (List.range F.length).all fun i => endsB F F.length i)))) := Lib.hid rfl
  have HS : Hid ((List.range F.length).all (fun i => ((F[i]?).map (oneB F i)).getD false) = true → Up F ∧ ∀ h0 : 0 < F.length, ∀ k ∈ kidsOf F 0, isB F k = true) := Lib.hid (fun h => ⟨up_of h, fun h0 k hk => (kids_of h h0 hk).1⟩)
  generalize mayB F = R at *
  obtain ⟨W, hW⟩ : ∃ W, W = w.alloc (.cells #[.slice A F.length c] 23) := ⟨_, rfl⟩
  have HWb : Hid (Below w.heap.size w W) := Lib.hid (by rw [hW]; exact (Below.refl _ _).alloc (Nat.le_refl _) _)
  have HWk : Hid (W.heap[w.heap.size]? = some (.cells #[.slice A F.length c] 23 (0, 0))) := Lib.hid (by rw [hW]; exact heap_alloc_new _ _)
  have HE1 := Lib.hid (every1 w.heap.size A F c W (HF.out.below HWb.out) HZ.out HWk.out)
  have HD := Lib.hid (fun (V : World) (hb : Below w.heap.size w V) (h0 : 0 < F.length) (hB : ∀ k ∈ kidsOf F 0, isB F k = true) => docHas_any A F c V (HF.out.below hb) HZ.out.len h0 HZ.out.kids hB)
  have HE2 := Lib.hid (fun (V : World) (hb : Below w.heap.size w V) (hU : Up F) (hk : V.heap[w.heap.size]? = some (.cells #[.slice A F.length c] 23 (0, 0))) => every2 w.heap.size A F c V (HF.out.below hb) HZ.out hU hk)
  unfold may1F at HE1
  unfold may2F at HE2
  have x0 := block1 HWk.out
  have hlt := lt_of_block HWk.out
  clear hF hz
  generalize (List.range F.length).all (fun i => ((F[i]?).map (oneB F i)).getD false) = B1 at *
  generalize (List.range F.length).all (fun i => endsB F F.length i) = B2 at *
  generalize docB F = B3 at *
  obtain ⟨n, hnn⟩ : ∃ n, F.length = n := ⟨_, rfl⟩
  rw [hnn] at hl HE HS hW HWk HE1 HD HE2 x0 ⊢
  clear hnn
  by_cases h0 : n = 0
  · subst h0
    go_enter Tryd.func9, Tryd.ntmps9
    go_upto_region 1 with fail
    rw [← hW]
    clear hW
    go_wp2
    go_ret
    exact ⟨ret_bool (by rw [HE.out]; rfl), HWb.out⟩
  have h0b : ((n : Int) == 0) = false := beq_eq_false_iff_ne.2 (by omega)
  have h0c : ¬ (n : Int) = 0 := by omega
  by_cases h60 : 60 < n
  · have h6 : (60 : Int) < (n : Int) := by omega
    go_enter Tryd.func9, Tryd.ntmps9
    go_upto_region 1 with fail
    rw [← hW]
    clear hW
    go_wp2
    go_ret
    exact ⟨ret_bool (by rw [HE.out]; simp; omega), HWb.out⟩
  have h6 : ¬ (60 : Int) < (n : Int) := by omega
  have hd : decide (0 < n ∧ n ≤ 60) = true := decide_eq_true (by omega)
  rw [hd] at HE
  go_enter Tryd.func9, Tryd.ntmps9
  go_upto_region 1 with fail
  rw [← hW]
  clear hW
  go_wp2_with fail
  refine HE1.out.mono ?_
  rintro e w1 ⟨rfl, hb⟩
  have HB1 := Lib.hid (HWb.out.trans (hb.mono HWb.out.size))
  have HK1 := Lib.hid ((hb.block _ hlt).trans HWk.out)
  have hlt1 : w.heap.size < w1.heap.size := Nat.lt_of_lt_of_le hlt hb.size
  clear hb x0
  cases B1 with
  | false =>
    go_wp2
    go_ret
    exact ⟨ret_bool (by rw [HE.out]; rfl), HB1.out⟩
  | true =>
    obtain ⟨hU, hK⟩ := HS.out rfl
    have HU := Lib.hid hU
    have HKd := Lib.hid (hK (by omega))
    clear hU hK
    have x0 := block1 HK1.out
    go_wp2_with fail
    refine (HD.out w1 HB1.out (by omega) HKd.out).mono ?_
    rintro e w2 ⟨rfl, hb⟩
    have HB2 := Lib.hid (HB1.out.trans (hb.mono HB1.out.size))
    have HK2 := Lib.hid ((hb.block _ hlt1).trans HK1.out)
    clear hb x0
    have x0 := block1 HK2.out
    cases B3 with
    | false =>
      go_wp2
      go_ret
      exact ⟨ret_bool (by rw [HE.out]; rfl), HB2.out⟩
    | true =>
      go_wp2_with fail
      refine (HE2.out w2 HB2.out HU.out HK2.out).mono ?_
      rintro e w3 ⟨rfl, hb⟩
      have HB3 := Lib.hid (HB2.out.trans (hb.mono HB2.out.size))
      clear hb x0
      go_wp2
      go_ret
      exact ⟨ret_bool (by rw [HE.out]; simp), HB3.out⟩
end Go.Proofs.YtkcfpglmlhoiaaaDoor
