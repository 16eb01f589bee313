/-
  The document's own row.
-/
import Derived.Test.YtcfkcifbojckcaaSelRf
namespace Go.Proofs.Ytcfkcifbojckcaa
open Go.ChangeShapes Go.WideShapes Go.ChangeAt Go.RowKit
open Go.PlainAid (bt)
open Sl (St Te Stp Mo tstep cstep fin isB isL isN)
set_option linter.unusedVariables false
set_option linter.unusedSimpArgs false

/-- What a row comes to. -/
def WRes (s : ByteArray) (i : Nat) (R : List (List Stp)) (w : World) (e : Ending) (w' : World) : Prop :=
  ((∃ (l : List Ms) (j : Nat) (v : Value), e = .returned (.tuple #[v, .int .i64 j, .bool true]) ∧ RwR w' w.heap.size v l ∧ RdR s j R (l.map stp) ∧ i < j ∧ j ≤ s.size ∧ (lk s j = -1 ∨ lk s j = 44)) ∨ (∃ (k : Nat) (v : Value), e = .returned (.tuple #[v, .int .i64 k, .bool false]) ∧ Sl.parse (ls s) = .error k)) ∧ Below w.heap.size w w'
theorem lk_ne {s : ByteArray} {i : Nat} (h : i < s.size) : lk s i ≠ -1 := by
  obtain ⟨c, -, e⟩ := lk_get h
  omega
theorem bt_ne {s : ByteArray} {j : Nat} {c : Int} (h : lk s j ≠ c) (hj : j < s.size) : (bt s j == c) = false := by
  rw [lk_in hj] at h
  simpa using h
theorem bt_eq {s : ByteArray} {j : Nat} {c : Int} (h : lk s j = c) (hj : j < s.size) : (bt s j == c) = true := by
  rw [lk_in hj] at h
  simpa using h
set_option maxRecDepth 100000 in
set_option maxHeartbeats 8000000 in
theorem rrow_any (s : ByteArray) (i : Nat) (w : World) (R : List (List Stp)) (hs : s.size ≤ 4000000) (hA : At s i ⟨R, [], [], false, .comp⟩) :
    Calls Try.prog 28 #[.string s, .int .i64 i] w (WRes s i R w) := by
  have hi := hA.1
  have HS := Lib.hid (fun (k : Nat) (hk : k ≤ s.size) (V : World) => rblanks_any s k V hk hs)
  have HC := Lib.hid (fun (k : Nat) (hk : k ≤ s.size) (V : World) (r : List Stp) (ch : Bool) (hc : Cmp s k R r ch) (hnb : bB (lk s k) = false) => rcompound_any s k V R r ch hk hs hc hnb)
  have HCm : Hid (Cmp s (sp s i) R [] false) := Lib.hid (by
    have k := hA.blanks (st1 := ⟨R, [], [], false, .comp⟩) (fun c hc => by simp [Sl.step, cstep, hc, St.to]) (fun c hc => by simp [Sl.step, cstep, hc, St.to])
    rw [ite_self] at k
    exact ⟨_, k, fun c _ => rfl, fun _ => rfl⟩)
  have h0 := sp_le s i hi
  have HNB := Lib.hid (sp_end s i hi)
  have HS0 := Lib.hid (fun (V : World) => HS.out i hi V)
  obtain ⟨i0, hi0, hz0, hz1, hz2⟩ := info_parts info_rstep
  have HJ := Lib.hid (And.intro hi0 (And.intro hz0 (And.intro hz1 hz2)))
  obtain ⟨W0, hW0⟩ : ∃ W0, W0 = w.alloc (.cells #[] 49) := ⟨_, rfl⟩
  have HB0 : Hid (Below w.heap.size w W0) := Lib.hid (by rw [hW0]; exact (Below.refl _ _).alloc (Nat.le_refl _) _)
  have HW0 : Hid (RwR W0 w.heap.size (.slice (some ⟨w.heap.size, 0, none⟩) 0 0) []) := Lib.hid ⟨by rw [hW0]; exact own_empty (Nat.le_refl _), fun m hm => absurd hm (by simp)⟩
  clear hA hi0 hz0 hz1 hz2
  go_enter Try.func28, Try.ntmps28
  generalize sp s i = i1 at *
  go_wp2_with fail
  rw [← hW0]
  clear hW0
  refine (HS0.out W0).mono ?_
  rintro e w1 ⟨rfl, rfl⟩
  go_wp2_with fail
  go_loopw [1, 7, 8] (fun q5 q3 q4 wr => ∃ (V : World) (l : List Ms) (j : Nat) (ch : Bool) (p : Option Addr) (cap : Nat), V = wr ∧ q3 = .slice p l.length cap ∧ q4 = .bool ch ∧ q5 = .int .i64 j ∧ i ≤ j ∧ j ≤ s.size ∧ l.length ≤ j ∧ Hid (RwR V w.heap.size (.slice p l.length cap) l) ∧ Hid (Cmp s j R (l.map stp) ch) ∧ Hid (bB (lk s j) = false) ∧ Hid (Below w.heap.size w V)) (fun q5 _ _ _ => s.size - (intOf q5).toNat)
  case atStart => exact ⟨_, [], i1, false, some ⟨w.heap.size, 0, none⟩, 0, rfl, rfl, rfl, rfl, h0.1, h0.2, Nat.zero_le _, HW0, HCm, HNB, HB0⟩
  case round =>
    clear HB0 HW0 HCm HNB HS0 h0
    obtain ⟨V, l, j, ch, p, cap, rfl, rfl, rfl, rfl, hij, hjs, hlj, HW, HCm, HNB, HB⟩ := hrel
    have HC1 := Lib.hid (HC.out j hjs V (l.map stp) ch HCm.out HNB.out)
    go_wp2_with fail
    refine HC1.out.mono ?_
    rintro e w2 ⟨hcs, hg⟩
    have HB2 := Lib.hid (HB.out.trans (hg.mono HB.out.size))
    have HW2 := Lib.hid (HW.out.below hg)
    have HV2 := Lib.hid HB.out.size
    clear hg
    rcases hcs with ⟨T, k, v, rfl, hT, hd, hjk, hks, hmk⟩ | ⟨k, v, rfl, hpe⟩
    · obtain ⟨p2, cap2, rfl, -⟩ := own_form2 hT
      have HT2 := Lib.hid (own_mono hT HV2.out)
      have HD2 := Lib.hid hd
      have HMK := Lib.hid hmk
      clear hT hd hmk
      obtain ⟨n2, hn2⟩ : ∃ n2, T.length = n2 := ⟨_, rfl⟩
      have HN2 := Lib.hid hn2
      rw [hn2] at HT2 ⊢
      clear hn2
      have HXB : Hid (Below w2.heap.size w2 (w2.alloc (.cells #[.slice p2 n2 cap2, .bool ch] 49))) := Lib.hid ((Below.refl _ _).alloc (Nat.le_refl _) _)
      have HX := Lib.hid (own_below HW2.out.row HXB.out)
      have HXC := Lib.hid (cells2 _ _ _ _ _ (heap_alloc_new w2 (.cells #[.slice p2 n2 cap2, .bool ch] 49)))
      have HXS := Lib.hid (Nat.le_trans HB2.out.size HXB.out.size)
      obtain ⟨nl, hnl⟩ : ∃ nl, l.length = nl := ⟨_, rfl⟩
      have HNL := Lib.hid hnl
      rw [hnl] at HX hlj ⊢
      clear hnl
      go_wp2_with (at_builtin; refine wpList_append_own_at _ rfl _ _ 46 rfl w.heap.size 49 i0 (.agg #[.slice none 0 0, .bool false]) 2 32 Try.underlying46 HJ.out.1 HJ.out.2.1 HJ.out.2.2.1 HJ.out.2.2.2 rfl (by decide) _ _ _ rfl HX.out ⟨w2.heap.size, 0, none⟩ 1 1 [.slice p2 n2 cap2, .bool ch] rfl rfl HXC.out (by intro u hu; simp only [List.mem_cons, List.not_mem_nil, or_false] at hu; rcases hu with rfl | rfl <;> rfl) (by unfold maxLen; omega) (by omega) HXS.out ?_; intro v' V' hown' hgrow hnz hat; have HO' := Lib.hid hown'; have HGR := Lib.hid hgrow; clear hown' hgrow hnz hat)
      obtain ⟨p', cap', rfl, -⟩ := own_form2 HO'.out
      have HB9 : Hid (Below w.heap.size w V') := Lib.hid ((HB2.out.trans (HXB.out.mono HB2.out.size)).grown HGR.out HXS.out (fun q e => (HX.out.lt q e).1))
      have hlen : (l ++ [((p2, cap2), (T, ch))]).length = nl + 1 := by rw [List.length_append, HNL.out]; rfl
      have HW9 : Hid (RwR V' w.heap.size (.slice p' (nl + 1) cap') (l ++ [((p2, cap2), (T, ch))])) := Lib.hid (by
        have hX := HW2.out.below HXB.out
        rw [HNL.out] at hX
        refine hX.more (m := ((p2, cap2), (T, ch))) ?_ ?_ HGR.out
        · show World.ownsRow _ _ _ _ (.slice p2 T.length cap2) T.length _
          rw [HN2.out]
          exact own_below HT2.out HXB.out
        · rw [HNL.out]
          have := HO'.out
          show World.ownsRow _ _ _ _ _ _ (_ ++ [.slice p2 T.length cap2, .bool ch])
          rw [HN2.out]
          exact this)
      have HM9 : Hid ((l ++ [((p2, cap2), (T, ch))]).map stp = l.map stp ++ [⟨T.map te, ch⟩]) := Lib.hid (by rw [List.map_append]; rfl)
      have HS1 := Lib.hid (fun (X : World) => HS.out k hks X)
      have h1 := sp_le s k hks
      have HGT := Lib.hid (fun (hc : lk s (sp s k) = 62) => rdy_gt HD2.out hc)
      have HAP := Lib.hid (fun hj h62 h44 h1 => rdy_apart HD2.out hj h62 h44 h1)
      have HEN := Lib.hid (fun h62 hd => rdy_end HD2.out HMK.out h62 hd)
      have HNB1 := Lib.hid (sp_end s k hks)
      clear HX HXC HXS HXB HGR HO' HT2 HW2 HB2 HMK HD2 HC1 HW HCm HNB HB HNL HN2 HV2
      generalize sp s k = j1 at *
      generalize l ++ [((p2, cap2), (T, ch))] = l' at *
      have hnn : nl + 1 ≤ j + 1 := by omega
      generalize nl + 1 = nl' at *
      go_wp2_with fail
      refine (HS1.out V').mono ?_
      rintro e w3 ⟨rfl, rfl⟩
      by_cases hend : j1 = s.size
      · have HRD : Hid (RdR s j1 R (l'.map stp) ∧ lk s j1 = -1) := Lib.hid (by
          have e1 : lk s j1 = -1 := lk_end (by omega)
          rw [HM9.out]
          exact ⟨HEN.out (by rw [e1]; decide) (fun h => h.2.2 e1), e1⟩)
        subst hend
        go_wp2
        go_ret3
        exact ⟨.inl ⟨l', s.size, .slice p' nl' cap', rfl, HW9.out, HRD.out.1, by omega, h1.2, .inl HRD.out.2⟩, HB9.out⟩
      · have hlt : j1 < s.size := by omega
        have q1 : (((j1 : Nat) : Int) == (s.size : Int)) = false := by simp; omega
        have k0 : (0 : Int) ≤ (j1 : Int) := by omega
        have k1 : (j1 : Int) < (s.size : Int) := by omega
        have hbt := lk_in hlt
        have hgb := PlainAid.get_bt s
        have hn1 : lk s j1 ≠ -1 := lk_ne hlt
        by_cases h44 : lk s j1 = 44
        · have HRD : Hid (RdR s j1 R (l'.map stp) ∧ lk s j1 = 44) := Lib.hid (by
            rw [HM9.out]
            exact ⟨HEN.out (by rw [h44]; decide) (fun h => h.2.1 h44), h44⟩)
          have q2 : (bt s j1 == 44) = true := bt_eq h44 hlt
          clear h44 hbt hn1
          go_wp2
          go_ret3
          exact ⟨.inl ⟨l', j1, .slice p' nl' cap', rfl, HW9.out, HRD.out.1, by omega, h1.2, .inr HRD.out.2⟩, HB9.out⟩
        · have q2 : (bt s j1 == 44) = false := bt_ne h44 hlt
          by_cases h62 : lk s j1 = 62
          · obtain ⟨hCm, -⟩ := HGT.out h62
            have HCm : Hid (Cmp s (sp s (j1 + 1)) R (l'.map stp) true) := Lib.hid (by rw [HM9.out]; exact hCm)
            have h2 := sp_le s (j1 + 1) hlt
            have HNB2 := Lib.hid (sp_end s (j1 + 1) hlt)
            have q3 : (bt s j1 == 62) = true := bt_eq h62 hlt
            have HS2 := Lib.hid (fun (X : World) => HS.out (j1 + 1) hlt X)
            clear hCm h62 h44 hbt hn1 HGT HAP HEN
            generalize sp s (j1 + 1) = j2 at *
            go_wp2_with fail
            refine (HS2.out _).mono ?_
            rintro e w3 ⟨rfl, rfl⟩
            go_wp2
            go_roundw
            case rel => exact ⟨_, l', j2, true, p', cap', rfl, by rw [hlen], rfl, rfl, by omega, h2.2, by omega, Lib.hid (by rw [hlen]; exact HW9.out), HCm, HNB2, HB9⟩
            case measure => simp [intOf]; omega
          · have q3 : (bt s j1 == 62) = false := bt_ne h62 hlt
            by_cases hkj : j1 = k
            · have HPE : Hid (Sl.parse (ls s) = .error j1) := Lib.hid (rdr_not (HEN.out h62 (fun h => by omega)) hn1 h44)
              have q4 : (((j1 : Nat) : Int) == (k : Int)) = true := by simp; omega
              clear h62 h44 hbt hn1 HGT HAP HEN hkj
              go_wp2
              go_ret3
              exact ⟨.inr ⟨j1, _, rfl, HPE.out⟩, HB9.out⟩
            · have HCm : Hid (Cmp s j1 R (l'.map stp) false) := Lib.hid (by
                rw [HM9.out]
                exact HAP.out (by omega) h62 h44 hn1)
              have q4 : (((j1 : Nat) : Int) == (k : Int)) = false := by simp; omega
              clear h62 h44 hbt hn1 HGT HAP HEN hkj
              go_wp2
              go_roundw
              case rel => exact ⟨_, l', j1, false, p', cap', rfl, by rw [hlen], rfl, rfl, by omega, h1.2, by omega, Lib.hid (by rw [hlen]; exact HW9.out), HCm, HNB1, HB9⟩
              case measure => simp [intOf]; omega
    · have HPE := Lib.hid hpe
      clear hpe
      go_wp2
      go_ret3
      exact ⟨.inr ⟨k, _, rfl, HPE.out⟩, HB2.out⟩
end Go.Proofs.Ytcfkcifbojckcaa
