/-
  A row's last part; whether steps fit a way from its begin on.
-/
import Derived.Test.YtaacikjoafobfaaGreatDoorZFiD
import Derived.Test.YtaacikjoafobfaaGreatDoorZFiE
import Derived.StillTailTactics
namespace Go.Proofs.YtaacikjoafobfaaGreatDoor.Fi
open Go.ChangeShapes Go.WideShapes Go.ChangeAt Go.RowKit
open Sx (Tr Ms Mr TR MR XR tV r1)
set_option linter.unusedVariables false
set_option linter.unusedSimpArgs false

/-- What a row says. -/
def rowB (l : List Ms) : List (List Tr × Bool) := l.map (·.2)
theorem rowB_len (l : List Ms) : (rowB l).length = l.length := by simp [rowB]
theorem rowB_child {l : List Ms} {k : Nat} (hk : k < l.length) : (((rowB l)[k]?).map Prod.snd).getD false = l[k].2.2 := by simp [rowB, List.getElem?_eq_getElem hk]
theorem rowB_drop (l : List Ms) (k : Nat) : rowB (l.drop k) = (rowB l).drop k := by simp [rowB, List.map_drop]
theorem rowB_take (l : List Ms) (k : Nat) : rowB (l.take k) = (rowB l).take k := by simp [rowB, List.map_take]
theorem MR.drop {w : World} {g off : Nat} {l : List Ms} (h : MR w (some ⟨g, off, none⟩) l) (k : Nat) : MR w (some ⟨g, off + k * 2, none⟩) (l.drop k) := fun i m hi => by
  rw [List.getElem?_drop] at hi
  obtain ⟨g', off', hA, hg, h1, h2, h3⟩ := h (k + i) m hi
  cases hA
  refine ⟨g, off + k * 2, rfl, hg, ?_, ?_, h3⟩
  · rw [show off + k * 2 + i * 2 = off + (k + i) * 2 by omega]; exact h1
  · rw [show off + k * 2 + i * 2 + 1 = off + (k + i) * 2 + 1 by omega]; exact h2
theorem MR.take {w : World} {A : Option Addr} {l : List Ms} (h : MR w A l) (k : Nat) : MR w A (l.take k) := fun i m hi => by
  rw [List.getElem?_take] at hi
  split at hi
  · exact h i m hi
  · cases hi
theorem FR.drop {w : World} {g off : Nat} {F : List Mn} (h : FR w (some ⟨g, off, none⟩) F) (k : Nat) : FR w (some ⟨g, off + k * 6, none⟩) (F.drop k) := fun i m hi => by
  rw [List.getElem?_drop] at hi
  obtain ⟨hf, g', off', hA, hg, hn⟩ := h (k + i) m hi
  cases hA
  refine ⟨hf, g, off + k * 6, rfl, hg, ?_⟩
  rw [show off + k * 6 + i * 6 = off + (k + i) * 6 by omega]
  exact hn
set_option maxRecDepth 100000 in
set_option maxHeartbeats 2000000 in
theorem split_any (A : Option Addr) (l : List Ms) (c : Nat) (w : World) (hM : MR w A l) (hne : l ≠ []) (hc : l.length ≤ c) (hcm : c ≤ 9223372036854775807) :
    Calls Tryz.prog 119 #[.slice A l.length c] w fun e w' => (∃ A2 c2, e = .returned (.tuple #[.slice A (cutAt (rowB l)) c, .slice A2 (l.length - cutAt (rowB l)) c2]) ∧ MR w A2 (l.drop (cutAt (rowB l))) ∧ l.length - cutAt (rowB l) ≤ c2 ∧ c2 ≤ 9223372036854775807) ∧ Below w.heap.size w w' := by
  have hpos : 0 < l.length := List.length_pos_iff.2 hne
  obtain ⟨g, off, rfl, hg, -, -, -⟩ := hM 0 l[0] (List.getElem?_eq_getElem hpos)
  have HM := Lib.hid hM
  have HD := Lib.hid (fun k => MR.drop hM k)
  have hcut : cutAt (rowB l) < l.length := by
    have := cut_lt (row := rowB l) (by intro e; exact hne (List.map_eq_nil_iff.1 e))
    rwa [rowB_len] at this
  have HE : Hid (bg (rowB l) (l.length - 1) = cutAt (rowB l)) := Lib.hid (by unfold cutAt; rw [rowB_len])
  have HBg : Hid (∀ k (hk : k + 1 < l.length), bg (rowB l) (k + 1) = if l[k + 1].2.2 = true then bg (rowB l) k else k + 1) := Lib.hid (fun k hk => by rw [bg, rowB_child hk])
  have HB0 : Hid (bg (rowB l) 0 = 0) := Lib.hid rfl
  generalize cutAt (rowB l) = R at *
  generalize rowB l = row at *
  obtain ⟨n, hnn⟩ : ∃ n, l.length = n := ⟨_, rfl⟩
  have HNN := Lib.hid hnn
  rw [hnn] at hc hpos HE hcut ⊢
  clear hM hne hnn
  have k0 : (0 : Int) < (n : Int) := by omega
  go_enter Tryz.func119, Tryz.ntmps119
  go_wp2_with fail
  go_loopw [4] (fun q wr => ∃ k : Nat, k < n ∧ q = .int .i64 k ∧ Hid (bg row k = R) ∧ w = wr) (fun q _ => (intOf q).toNat)
  case atStart => exact ⟨n - 1, by omega, by go_num, HE, rfl⟩
  case round =>
    clear HE
    obtain ⟨k, hk, rfl, HK, rfl⟩ := hrel
    cases k with
    | zero =>
      have HR : Hid (R = 0) := Lib.hid (by rw [← HK.out]; exact HB0.out)
      have hRl : R = 0 := HR.out
      subst hRl
      have hcn : ¬ (c = 0) := by omega
      go_wp2_with fail
      go_quiet (fail)
      go_wp2
      go_ret2
      exact ⟨⟨some ⟨g, off, none⟩, c, by simp, by have := HD.out 0; simpa using this, by omega, hcm⟩, below_drewF (Below.refl _ _) _⟩
    | succ k =>
      have hkl : k + 1 < l.length := by rw [HNN.out]; exact hk
      obtain ⟨g', off', hA', hg', d0, d1, -⟩ := HM.out (k + 1) l[k + 1] (List.getElem?_eq_getElem hkl)
      cases hA'
      have HBk := Lib.hid (HBg.out k hkl)
      generalize l[k + 1] = m at *
      obtain ⟨⟨mA, mc⟩, mT, mch⟩ := m
      simp only [] at d0 d1 HBk
      have i0 : (0 : Int) ≤ ((k + 1 : Nat) : Int) := by omega
      have i1 : ((k + 1 : Nat) : Int) < (n : Int) := by omega
      have i2 : (0 : Int) < ((k + 1 : Nat) : Int) := by omega
      cases mch with
      | true =>
        have HK2 : Hid (bg row k = R) := Lib.hid (by rw [← HK.out, HBk.out]; rfl)
        go_wp2
        go_roundw
        case rel => exact ⟨k, by omega, by go_num, HK2, by first | trivial | rfl⟩
        case measure => simp [intOf] <;> omega
      | false =>
        have HR : Hid (R = k + 1) := Lib.hid (by rw [← HK.out, HBk.out]; rfl)
        have hRl : R = k + 1 := HR.out
        have hcn : ¬ (c = k + 1) := by omega
        have hcn2 : k + 1 ≤ c := by omega
        have hcn3 : k + 1 ≤ n := by omega
        subst hRl
        go_wp2_with fail
        go_quiet (fail)
        go_wp2
        go_ret2
        exact ⟨⟨some ⟨g, off + (k + 1) * 2, none⟩, c - (k + 1), by simp, HD.out (k + 1), by omega, by omega⟩, below_drewF (Below.refl _ _) _⟩
set_option maxRecDepth 100000 in
set_option maxHeartbeats 4000000 in
theorem run_any (A : Option Addr) (L : List Mn) (c : Nat) (B : Option Addr) (l : List Ms) (d : Nat) (w : World) (hF : FR w A L) (hN : ∀ m ∈ L, NB m) (hM : MR w B l) (hT : ∀ s ∈ l, s.2.1.length ≤ 9223372036854775807 ∧ ∀ t ∈ s.2.1, t.2.1.size ≤ 100000) (hL : L.length ≤ 1000) (hl : l.length ≤ 9223372036854775807) :
    Calls Tryz.prog 120 #[.slice A L.length c, .slice B l.length d] w (GivesV (.bool (runB fitsB L (rowB l))) w) := by
  have HF := Lib.hid hF
  have HM := Lib.hid hM
  obtain ⟨R, hR⟩ : ∃ R, runB fitsB L (rowB l) = R := ⟨_, rfl⟩
  rw [hR]
  by_cases hlt : L.length < l.length
  · have HR : Hid (R = false) := Lib.hid (by rw [← hR]; simp [runB, rowB_len]; omega)
    have q0 : (L.length : Int) < (l.length : Int) := by omega
    generalize L.length = n at *
    generalize l.length = m at *
    clear hF hN hM hT hR hlt
    go_enter Tryz.func120, Tryz.ntmps120
    go_wp2
    go_ret
    exact ⟨ret_bool (by rw [HR.out]), Below.refl _ _⟩
  · have HNo : Hid (∀ k (hk : k < l.length), fitsB (L[l.length - 1 - k]'(by omega)) l[k].2.1 = false → R = false) := Lib.hid (fun k hk h => by
      rw [← hR, Bool.eq_false_iff]
      intro e
      have := (runB_iff.1 e).2 k (by rw [rowB_len]; exact hk)
      unfold fitAt at this
      rw [rowB_len, List.getElem?_eq_getElem (show l.length - 1 - k < L.length by omega)] at this
      simp only [rowB, List.getElem?_map, List.getElem?_eq_getElem hk, Option.map_some] at this
      rw [h] at this
      cases this)
    have HYes : Hid ((∀ k (hk : k < l.length), fitsB (L[l.length - 1 - k]'(by omega)) l[k].2.1 = true) → R = true) := Lib.hid (fun h => by
      rw [← hR, runB_iff, rowB_len]
      refine ⟨by omega, fun k hk => ?_⟩
      unfold fitAt
      rw [rowB_len, List.getElem?_eq_getElem (show l.length - 1 - k < L.length by omega)]
      simp only [rowB, List.getElem?_map, List.getElem?_eq_getElem hk, Option.map_some]
      exact h k hk)
    have HFi := Lib.hid (fun (k i : Nat) (hk : k < l.length) (hi : i < L.length) (V : World) (hb : Below w.heap.size w V) => fits_any L[i] l[k].1.1 l[k].2.1 l[k].1.2 V ((by
      obtain ⟨-, g, off, -, hg, hn⟩ := hF.below hb i L[i] (List.getElem?_eq_getElem hi)
      exact hn.ar)) (hN _ (List.getElem_mem hi)) ((by
      obtain ⟨g, off, -, hg, -, -, ht⟩ := hM.below hb k l[k] (List.getElem?_eq_getElem hk)
      exact ht)) (hT _ (List.getElem_mem hk)).2 (hT _ (List.getElem_mem hk)).1)
    have q0 : ¬ (L.length : Int) < (l.length : Int) := by omega
    obtain ⟨n, hn⟩ : ∃ n, L.length = n := ⟨_, rfl⟩
    obtain ⟨m, hm⟩ : ∃ m, l.length = m := ⟨_, rfl⟩
    have HN := Lib.hid hn
    have HMm := Lib.hid hm
    have hmn : m ≤ n := by omega
    rw [hn] at q0 hL ⊢
    rw [hm] at q0 hl ⊢
    clear hF hN hM hT hR hn hm
    go_enter Tryz.func120, Tryz.ntmps120
    go_wp2_with fail
    go_loopw [14] (fun q wr => ∃ k : Nat, k ≤ m ∧ q = .int .i64 k ∧ Hid (∀ j (hj : j < l.length), j < k → fitsB (L[l.length - 1 - j]'(by have e1 := HN.out; have e2 := HMm.out; omega)) l[j].2.1 = true) ∧ Hid (Below w.heap.size w wr)) (fun q _ => m - (intOf q).toNat)
    case atStart => exact ⟨0, Nat.zero_le _, rfl, Lib.hid (fun j _ h => by omega), Lib.hid (Below.refl _ _)⟩
    case round =>
      obtain ⟨k, hk, rfl, HT, HB⟩ := hrel
      by_cases hlt : k < m
      · have k0 : (0 : Int) ≤ (k : Int) := by omega
        have k1 : (k : Int) < (m : Int) := by omega
        have hkl : k < l.length := by rw [HMm.out]; exact hlt
        obtain ⟨i, hi⟩ : ∃ i, m - 1 - k = i := ⟨_, rfl⟩
        have hin : i < n := by omega
        have hiL : i < L.length := by rw [HN.out]; exact hin
        have e1 : IntKind.i64.wrap ((m : Int) - 1) = ((m - 1 : Nat) : Int) := by rw [IntKind.wrap_i64]; omega
        have e2 : IntKind.i64.wrap (((m - 1 : Nat) : Int) - (k : Int)) = (i : Int) := by rw [IntKind.wrap_i64]; omega
        generalize m - 1 = m1 at e1 e2
        have j0 : (0 : Int) ≤ (i : Int) := by omega
        have j1 : (i : Int) < (n : Int) := by omega
        obtain ⟨gB, oB, rfl, hgB, d0, d1, -⟩ := (HM.out.below HB.out) k l[k] (List.getElem?_eq_getElem hkl)
        obtain ⟨-, gA, oA, rfl, hgA, hnd⟩ := (HF.out.below HB.out) i L[i] (List.getElem?_eq_getElem hiL)
        have HFk := Lib.hid (fun (V : World) (hb : Below wr.heap.size wr V) => HFi.out k i hkl hiL V (HB.out.trans (hb.mono HB.out.size)))
        have HNk : Hid (fitsB L[i] l[k].2.1 = false → R = false) := Lib.hid (fun h => HNo.out k hkl (by simp only [HMm.out, hi]; exact h))
        have HT2 : Hid (fitsB L[i] l[k].2.1 = true → ∀ j (hj : j < l.length), j < k + 1 → fitsB (L[l.length - 1 - j]'(by have e1 := HN.out; have e2 := HMm.out; omega)) l[j].2.1 = true) := Lib.hid (fun h j hj hjk => by
          by_cases e : j = k
          · subst e
            simp only [HMm.out, hi]
            exact h
          · exact HT.out j hj (by omega))
        have HN6 := Lib.hid (fun (V : World) (hb : Below wr.heap.size wr V) => hnd.below hgA hb)
        clear hnd
        generalize fitsB L[i] l[k].2.1 = Y at *
        generalize l[k] = s at *
        generalize L[i] = nd at *
        obtain ⟨⟨sA, sc⟩, sT, sch⟩ := s
        obtain ⟨sn, hsn⟩ : ∃ sn, sT.length = sn := ⟨_, rfl⟩
        simp only [] at d0 d1 HFk
        rw [hsn] at d0 HFk
        clear hsn
        obtain ⟨WA, hWA⟩ : ∃ WA, WA = wr.alloc (.cells #[.slice sA sn sc, .bool sch] 54) := ⟨_, rfl⟩
        have HWA : Hid (Below wr.heap.size wr WA) := Lib.hid (by rw [hWA]; exact (Below.refl _ _).alloc (Nat.le_refl _) _)
        have hX : WA.heap[wr.heap.size]? = some (.cells #[.slice sA sn sc, .bool sch] 54 (0, 0)) := by rw [hWA]; exact heap_alloc_new _ _
        go_wp2_with fail
        rw [← hWA]
        clear hWA d0 d1
        obtain ⟨d0, d1⟩ := block2 hX
        obtain ⟨c0, c1, c2, c3, c4, c5, -, -⟩ := HN6.out WA HWA.out
        clear hX
        obtain ⟨kd, nm0, tx, al, pa, kl, aA, aC, kA, kC⟩ := nd
        unfold nval at HFk
        simp only [] at c0 c1 c2 c3 c4 c5 HFk
        go_still_tail 10, (by kernel_rfl)
        change wpList _ _ _ _ _ WA.drew
        go_wp2_with fail
        refine (HFk.out _ HWA.out.drew).mono ?_
        rintro e w1 ⟨rfl, hb⟩
        have HB1 := Lib.hid (HB.out.trans ((HWA.out.drew.trans (hb.mono HWA.out.drew.size)).mono HB.out.size))
        clear hb
        cases Y with
        | true =>
          have HT3 := Lib.hid (HT2.out rfl)
          go_wp2
          go_roundw
          case rel => exact ⟨k + 1, by omega, by go_num, HT3, HB1⟩
          case measure => simp [intOf] <;> omega
        | false =>
          have HR := Lib.hid (HNk.out rfl)
          go_wp2
          go_ret
          exact ⟨ret_bool (by rw [HR.out]), HB1.out⟩
      · obtain rfl : k = m := by omega
        have HR : Hid (R = true) := Lib.hid (HYes.out (fun j hj => HT.out j hj (by rw [← HMm.out]; exact hj)))
        go_wp2
        go_ret
        exact ⟨ret_bool (by rw [HR.out]), HB.out⟩
end Go.Proofs.YtaacikjoafobfaaGreatDoor.Fi
