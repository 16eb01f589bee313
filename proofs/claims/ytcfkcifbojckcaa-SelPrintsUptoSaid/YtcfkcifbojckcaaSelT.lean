/-
  Whether two selectors are the same: steps, rows, all.
-/
import Derived.Test.YtcfkcifbojckcaaSelS
namespace Go.Proofs.Ytcfkcifbojckcaa
open Go.ChangeShapes Go.WideShapes Go.ChangeAt Go.RowKit
open Go.PlainAid (bt)
set_option linter.unusedVariables false
set_option linter.unusedSimpArgs false

/-- What steps say, without where they lie. -/
def cl (l : List Ms) : List (List Tr × Bool) := l.map (·.2)
def cx (x : List Mr) : List (List (List Tr × Bool)) := x.map (fun m => cl m.2)
def small (l : List Ms) : Prop := l.length ≤ 1000000000000 ∧ ∀ m ∈ l, m.2.1.length ≤ 1000000000000
def sV (m : Ms) : Value := .agg #[.slice m.1.1 m.2.1.length m.1.2, .bool m.2.2]
theorem sel_same11 (m m' : Ms) (w : World) (hT : TR w m.1.1 m.2.1) (hT' : TR w m'.1.1 m'.2.1) (h1 : m.2.1.length ≤ 1000000000000) (h2 : m'.2.1.length ≤ 1000000000000) :
    Calls Try.prog 26 #[sV m, sV m'] w (GivesV (.bool (decide (m.2 = m'.2))) w) := by
  obtain ⟨⟨A, c⟩, T, ch⟩ := m
  obtain ⟨⟨A', c'⟩, T', ch'⟩ := m'
  simp only [] at hT hT' h1 h2
  have HC := Lib.hid (fun (W : World) (hb : Below w.heap.size w W) => equalT_any A A' T T' c c' W (hT.below hb) (hT'.below hb) h1 h2)
  unfold sV
  obtain ⟨W, hW⟩ : ∃ W, W = (w.alloc (.cells #[.slice A T.length c, .bool ch] 37)).alloc (.cells #[.slice A' T'.length c', .bool ch'] 37) := ⟨_, rfl⟩
  have HW : Hid (Below w.heap.size w W) := Lib.hid (by rw [hW]; exact ((Below.refl _ _).alloc (Nat.le_refl _) _).alloc (by simp) _)
  obtain ⟨R, hR⟩ : ∃ R, decide ((T, ch) = (T', ch')) = R := ⟨_, rfl⟩
  have HR : Hid (R = (decide (ch = ch') && decide (T = T'))) := Lib.hid (by
    rw [← hR, Bool.eq_iff_iff]
    simp only [decide_eq_true_eq, Bool.and_eq_true, Prod.mk.injEq]
    exact and_comm)
  simp only [hR]
  clear hT hT' h1 h2 hR
  generalize decide (T = T') = Q at *
  generalize T.length = n at *
  generalize T'.length = n' at *
  go_enter Try.func26, Try.ntmps26
  cases ch <;> cases ch'
  case false.true =>
    go_wp2_with fail
    rw [← hW]
    go_ret
    exact ⟨ret_bool (by rw [HR.out]; rfl), HW.out⟩
  case true.false =>
    go_wp2_with fail
    rw [← hW]
    go_ret
    exact ⟨ret_bool (by rw [HR.out]; rfl), HW.out⟩
  all_goals
    go_wp2_with fail
    rw [← hW]
    clear hW
    refine (HC.out W HW.out).mono ?_
    rintro e w1 ⟨rfl, hb⟩
    have HB := Lib.hid (HW.out.trans (hb.mono HW.out.size))
    clear hb
    go_wp2
    go_ret
    exact ⟨ret_bool (by rw [HR.out]; rfl), HB.out⟩
theorem cl_take {l : List Ms} (k : Nat) : cl (l.take k) = (cl l).take k := by simp [cl, List.map_take]
set_option maxRecDepth 100000 in
set_option maxHeartbeats 4000000 in
theorem equalS_any (A B : Option Addr) (l l' : List Ms) (c d : Nat) (w : World) (hF : MR w A l) (hG : MR w B l') (z1 : small l) (z2 : small l') :
    Calls Try.prog 25 #[.slice A l.length c, .slice B l'.length d, .func (.func 26) #[] #[]] w (GivesV (.bool (decide (cl l = cl l'))) w) := by
  have HF := Lib.hid hF
  have HG := Lib.hid hG
  have HC : Hid (∀ (W : World), Below w.heap.size w W → ∀ (i : Nat) (m n : Ms), l[i]? = some m → l'[i]? = some n → Calls Try.prog 26 #[sV m, sV n] W (GivesV (.bool (decide (m.2 = n.2))) W)) := Lib.hid (fun W hb i m n hm hn => by
    obtain ⟨-, -, -, -, -, -, h1⟩ := hF.below hb i m hm
    obtain ⟨-, -, -, -, -, -, h2⟩ := hG.below hb i n hn
    exact sel_same11 m n W h1 h2 (z1.2 m (List.mem_of_getElem? hm)) (z2.2 n (List.mem_of_getElem? hn)))
  have l1 : l.length ≤ 1000000000000 := z1.1
  have l2 : l'.length ≤ 1000000000000 := z2.1
  obtain ⟨R, hR⟩ : ∃ R, decide (cl l = cl l') = R := ⟨_, rfl⟩
  have HE := Lib.hid hR
  rw [hR]
  obtain ⟨n, hn⟩ : ∃ n, l.length = n := ⟨_, rfl⟩
  obtain ⟨n', hn'⟩ : ∃ n, l'.length = n := ⟨_, rfl⟩
  have HN := Lib.hid hn
  have HN' := Lib.hid hn'
  rw [hn] at l1 ⊢
  rw [hn'] at l2 ⊢
  clear hF hG z1 z2 hn hn' hR
  unfold sV at *
  go_enter Try.func25, Try.ntmps25
  by_cases hnn : n = n'
  · subst hnn
    have hb : ((n : Int) != (n : Int)) = false := by simp
    go_wp2_with fail
    go_loopw [17] (fun q wr => ∃ (V : World) (j : Nat), V = wr ∧ j ≤ n ∧ q = .int .i64 j ∧ Hid ((cl l).take j = (cl l').take j) ∧ Hid (Below w.heap.size w V)) (fun q _ => n - (intOf q).toNat)
    case atStart => exact ⟨_, 0, rfl, Nat.zero_le _, rfl, Lib.hid rfl, Lib.hid (Below.refl _ _)⟩
    case round =>
      obtain ⟨wr, j, rfl, hj, rfl, HT, HB⟩ := hrel
      by_cases hlt : j < n
      · have k0 : (0 : Int) ≤ (j : Int) := by omega
        have k1 : (j : Int) < (n : Int) := by omega
        have hjF : j < l.length := by rw [HN.out]; exact hlt
        have hjG : j < l'.length := by rw [HN'.out]; exact hlt
        have hcF : j < (cl l).length := by simpa [cl] using hjF
        have hcG : j < (cl l').length := by simpa [cl] using hjG
        obtain ⟨g, off, rfl, hg, c0, c1, -⟩ := (HF.out.below HB.out) j l[j] (List.getElem?_eq_getElem hjF)
        obtain ⟨g', off', rfl, hg', d0, d1, -⟩ := (HG.out.below HB.out) j l'[j] (List.getElem?_eq_getElem hjG)
        have HC2 := Lib.hid (fun (W : World) (hb : Below w.heap.size w W) => HC.out W hb j l[j] l'[j] (List.getElem?_eq_getElem hjF) (List.getElem?_eq_getElem hjG))
        have HT2 := Lib.hid (eq_upto hcF hcG HT.out)
        have HX : Hid ((cl l)[j] ≠ (cl l')[j] → cl l ≠ cl l') := Lib.hid (ne_at hcF hcG)
        have e1 : (cl l)[j] = l[j].2 := by simp [cl]
        have e2 : (cl l')[j] = l'[j].2 := by simp [cl]
        rw [e1, e2] at HT2 HX
        clear e1 e2 hcF hcG
        generalize l[j] = m at *
        generalize l'[j] = m' at *
        obtain ⟨⟨mA, mc⟩, mT, mch⟩ := m
        obtain ⟨⟨mA', mc'⟩, mT', mch'⟩ := m'
        simp only [] at c0 c1 d0 d1 HC2 HT2 HX ⊢
        obtain ⟨nT, hnT⟩ : ∃ nT, mT.length = nT := ⟨_, rfl⟩
        obtain ⟨nT', hnT'⟩ : ∃ nT, mT'.length = nT := ⟨_, rfl⟩
        rw [hnT] at c0 HC2
        rw [hnT'] at d0 HC2
        clear hnT hnT'
        go_upto_region 6 with fail
        obtain ⟨W, hW⟩ : ∃ W, W = wr.alloc (.cells #[.slice mA nT mc, .bool mch] 37) := ⟨_, rfl⟩
        rw [← hW]
        have hWr : Below wr.heap.size wr W := by rw [hW]; exact (Below.refl _ _).alloc (Nat.le_refl _) _
        have HWb := Lib.hid (HB.out.trans (hWr.mono HB.out.size))
        have HWk : Hid (W.heap[wr.heap.size]? = some (.cells #[.slice mA nT mc, .bool mch] 37 (0, 0))) := Lib.hid (by rw [hW]; exact heap_alloc_new _ _)
        have d0' := (hWr.cell (p := ⟨g', off' + j * 2, none⟩) hg').trans d0
        have d1' := (hWr.cell (p := ⟨g', off' + j * 2 + 1, none⟩) hg').trans d1
        clear hW c0 c1 d0 d1 hWr
        go_upto_region 7 with fail
        obtain ⟨V, hV⟩ : ∃ V, V = W.alloc (.cells #[.slice mA' nT' mc', .bool mch'] 37) := ⟨_, rfl⟩
        rw [← hV]
        have hVr : Below W.heap.size W V := by rw [hV]; exact (Below.refl _ _).alloc (Nat.le_refl _) _
        have HVb := Lib.hid (HWb.out.trans (hVr.mono HWb.out.size))
        have HVk : Hid (V.heap[wr.heap.size]? = some (.cells #[.slice mA nT mc, .bool mch] 37 (0, 0))) := Lib.hid ((hVr.block _ (lt_block HWk.out)).trans HWk.out)
        have HVl : Hid (V.heap[W.heap.size]? = some (.cells #[.slice mA' nT' mc', .bool mch'] 37 (0, 0))) := Lib.hid (by rw [hV]; exact heap_alloc_new _ _)
        clear hV d0' d1' hVr
        have x0 : V.cell? ⟨wr.heap.size, 0, none⟩ = some (.slice mA nT mc) := by simp [World.cell?, HVk.out]
        have x1 : V.cell? ⟨wr.heap.size, 1, none⟩ = some (.bool mch) := by simp [World.cell?, HVk.out]
        have y0 : V.cell? ⟨W.heap.size, 0, none⟩ = some (.slice mA' nT' mc') := by simp [World.cell?, HVl.out]
        have y1 : V.cell? ⟨W.heap.size, 1, none⟩ = some (.bool mch') := by simp [World.cell?, HVl.out]
        go_wp2_with fail
        refine (HC2.out V HVb.out).mono ?_
        rintro e w1 ⟨rfl, hb'⟩
        have HB1 := Lib.hid (HVb.out.trans (hb'.mono HVb.out.size))
        clear x0 x1 y0 y1
        clear hb'
        rcases Decidable.em ((mT, mch) = (mT', mch')) with hx | hx
        · rw [decide_eq_true hx]
          have HT3 := Lib.hid (HT2.out.2 hx)
          clear hx
          go_wp2
          go_roundw
          case rel => exact ⟨_, j + 1, rfl, by omega, by go_num, HT3, HB1⟩
          case measure => simp [intOf] <;> omega
        · rw [decide_eq_false hx]
          have HRf : Hid (R = false) := Lib.hid (by rw [← HE.out]; exact decide_eq_false (HX.out hx))
          clear hx
          go_wp2
          go_ret
          exact ⟨ret_bool HRf.out.symm, HB1.out⟩
      · obtain rfl : j = n := by omega
        have HRt : Hid (R = true) := Lib.hid (by
          rw [← HE.out, decide_eq_true_eq]
          have := HT.out
          rwa [List.take_of_length_le (by simp [cl, HN.out]), List.take_of_length_le (by simp [cl, HN'.out])] at this)
        go_wp2
        go_ret
        exact ⟨ret_bool HRt.out.symm, HB.out⟩
  · have hb : ((n : Int) != (n' : Int)) = true := by simp; omega
    have HEE : Hid (R = false) := Lib.hid (by
      rw [← HE.out, decide_eq_false_iff_not]
      intro e
      have := congrArg List.length e
      simp [cl, HN.out, HN'.out] at this
      exact hnn this)
    go_wp2
    go_ret
    exact ⟨ret_bool HEE.out.symm, Below.refl _ _⟩
theorem sel_same1 (m m' : Mr) (w : World) (hT : MR w m.1.1 m.2) (hT' : MR w m'.1.1 m'.2) (h1 : small m.2) (h2 : small m'.2) :
    Calls Try.prog 24 #[r1 m, r1 m'] w (GivesV (.bool (decide (cl m.2 = cl m'.2))) w) := by
  obtain ⟨⟨A, c⟩, l⟩ := m
  obtain ⟨⟨A', c'⟩, l'⟩ := m'
  simp only [] at hT hT' h1 h2 ⊢
  have HC := Lib.hid (equalS_any A A' l l' c c' w hT hT' h1 h2)
  unfold r1
  simp only []
  clear hT hT' h1 h2
  generalize decide (cl l = cl l') = R at *
  generalize l.length = n at *
  generalize l'.length = n' at *
  go_enter Try.func24, Try.ntmps24
  go_wp2_with fail
  refine HC.out.mono ?_
  rintro e w1 ⟨rfl, hb⟩
  have HB := Lib.hid hb
  clear hb
  go_wp2
  go_ret
  exact ⟨rfl, HB.out⟩
def smallX (x : List Mr) : Prop := x.length ≤ 1000000000000 ∧ ∀ m ∈ x, small m.2
set_option maxRecDepth 100000 in
set_option maxHeartbeats 4000000 in
theorem equalX_any (A B : Option Addr) (l l' : List Mr) (c d : Nat) (w : World) (hF : XR w A l) (hG : XR w B l') (z1 : smallX l) (z2 : smallX l') :
    Calls Try.prog 23 #[.slice A l.length c, .slice B l'.length d, .func (.func 24) #[] #[]] w (GivesV (.bool (decide (cx l = cx l'))) w) := by
  have HF := Lib.hid hF
  have HG := Lib.hid hG
  have HC : Hid (∀ (W : World), Below w.heap.size w W → ∀ (i : Nat) (m n : Mr), l[i]? = some m → l'[i]? = some n → Calls Try.prog 24 #[r1 m, r1 n] W (GivesV (.bool (decide (cl m.2 = cl n.2))) W)) := Lib.hid (fun W hb i m n hm hn => by
    obtain ⟨-, -, -, -, -, h1⟩ := hF.below hb i m hm
    obtain ⟨-, -, -, -, -, h2⟩ := hG.below hb i n hn
    exact sel_same1 m n W h1 h2 (z1.2 m (List.mem_of_getElem? hm)) (z2.2 n (List.mem_of_getElem? hn)))
  have l1 : l.length ≤ 1000000000000 := z1.1
  have l2 : l'.length ≤ 1000000000000 := z2.1
  obtain ⟨R, hR⟩ : ∃ R, decide (cx l = cx l') = R := ⟨_, rfl⟩
  have HE := Lib.hid hR
  rw [hR]
  obtain ⟨n, hn⟩ : ∃ n, l.length = n := ⟨_, rfl⟩
  obtain ⟨n', hn'⟩ : ∃ n, l'.length = n := ⟨_, rfl⟩
  have HN := Lib.hid hn
  have HN' := Lib.hid hn'
  rw [hn] at l1 ⊢
  rw [hn'] at l2 ⊢
  clear hF hG z1 z2 hn hn' hR
  unfold r1 at *
  go_enter Try.func23, Try.ntmps23
  by_cases hnn : n = n'
  · subst hnn
    have hb : ((n : Int) != (n : Int)) = false := by simp
    go_wp2_with fail
    go_loopw [17] (fun q wr => ∃ (V : World) (j : Nat), V = wr ∧ j ≤ n ∧ q = .int .i64 j ∧ Hid ((cx l).take j = (cx l').take j) ∧ Hid (Below w.heap.size w V)) (fun q _ => n - (intOf q).toNat)
    case atStart => exact ⟨_, 0, rfl, Nat.zero_le _, rfl, Lib.hid rfl, Lib.hid (Below.refl _ _)⟩
    case round =>
      obtain ⟨wr, j, rfl, hj, rfl, HT, HB⟩ := hrel
      by_cases hlt : j < n
      · have k0 : (0 : Int) ≤ (j : Int) := by omega
        have k1 : (j : Int) < (n : Int) := by omega
        have hjF : j < l.length := by rw [HN.out]; exact hlt
        have hjG : j < l'.length := by rw [HN'.out]; exact hlt
        have hcF : j < (cx l).length := by simpa [cx] using hjF
        have hcG : j < (cx l').length := by simpa [cx] using hjG
        obtain ⟨g, off, rfl, hg, c0, -⟩ := (HF.out.below HB.out) j l[j] (List.getElem?_eq_getElem hjF)
        obtain ⟨g', off', rfl, hg', d0, -⟩ := (HG.out.below HB.out) j l'[j] (List.getElem?_eq_getElem hjG)
        unfold r1 at c0 d0
        have HC2 := Lib.hid (fun (W : World) (hb : Below w.heap.size w W) => HC.out W hb j l[j] l'[j] (List.getElem?_eq_getElem hjF) (List.getElem?_eq_getElem hjG))
        have HT2 := Lib.hid (eq_upto hcF hcG HT.out)
        have HX : Hid ((cx l)[j] ≠ (cx l')[j] → cx l ≠ cx l') := Lib.hid (ne_at hcF hcG)
        have e1 : (cx l)[j] = cl l[j].2 := by simp [cx]
        have e2 : (cx l')[j] = cl l'[j].2 := by simp [cx]
        rw [e1, e2] at HT2 HX
        clear e1 e2 hcF hcG
        generalize l[j] = m at *
        generalize l'[j] = m' at *
        go_wp2_with fail
        refine (HC2.out wr HB.out).mono ?_
        rintro e w1 ⟨rfl, hb'⟩
        have HB1 := Lib.hid (HB.out.trans (hb'.mono HB.out.size))
        clear hb'
        rcases Decidable.em (cl m.2 = cl m'.2) with hx | hx
        · rw [decide_eq_true hx]
          have HT3 := Lib.hid (HT2.out.2 hx)
          clear hx
          go_wp2
          go_roundw
          case rel => exact ⟨_, j + 1, rfl, by omega, by go_num, HT3, HB1⟩
          case measure => simp [intOf] <;> omega
        · rw [decide_eq_false hx]
          have HRf : Hid (R = false) := Lib.hid (by rw [← HE.out]; exact decide_eq_false (HX.out hx))
          clear hx
          go_wp2
          go_ret
          exact ⟨ret_bool HRf.out.symm, HB1.out⟩
      · obtain rfl : j = n := by omega
        have HRt : Hid (R = true) := Lib.hid (by
          rw [← HE.out, decide_eq_true_eq]
          have := HT.out
          rwa [List.take_of_length_le (by simp [cx, HN.out]), List.take_of_length_le (by simp [cx, HN'.out])] at this)
        go_wp2
        go_ret
        exact ⟨ret_bool HRt.out.symm, HB.out⟩
  · have hb : ((n : Int) != (n' : Int)) = true := by simp; omega
    have HEE : Hid (R = false) := Lib.hid (by
      rw [← HE.out, decide_eq_false_iff_not]
      intro e
      have := congrArg List.length e
      simp [cx, HN.out, HN'.out] at this
      exact hnn this)
    go_wp2
    go_ret
    exact ⟨ret_bool HEE.out.symm, Below.refl _ _⟩
theorem sel_same (A B : Option Addr) (x x' : List Mr) (c d : Nat) (w : World) (hF : XR w A x) (hG : XR w B x') (z1 : smallX x) (z2 : smallX x') :
    Calls Try.prog 12 #[.slice A x.length c, .slice B x'.length d] w (GivesV (.bool (decide (cx x = cx x'))) w) := by
  have HC := Lib.hid (equalX_any A B x x' c d w hF hG z1 z2)
  generalize decide (cx x = cx x') = R at *
  generalize x.length = n at *
  generalize x'.length = n' at *
  clear hF hG z1 z2
  go_enter Try.func12, Try.ntmps12
  go_wp2_with fail
  refine HC.out.mono ?_
  rintro e w1 ⟨rfl, hb⟩
  have HB := Lib.hid hb
  clear hb
  go_wp2
  go_ret
  exact ⟨rfl, HB.out⟩
end Go.Proofs.Ytcfkcifbojckcaa
