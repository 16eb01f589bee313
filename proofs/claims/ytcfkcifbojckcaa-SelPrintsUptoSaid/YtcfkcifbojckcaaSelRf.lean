/-
  The document's own compound.
-/
import Derived.Test.YtcfkcifbojckcaaSelRe
namespace Go.Proofs.Ytcfkcifbojckcaa
open Go.ChangeShapes Go.WideShapes Go.ChangeAt Go.RowKit
open Go.PlainAid (bt)
open Sl (St Te Stp)
set_option linter.unusedVariables false
set_option linter.unusedSimpArgs false

theorem nm_one {s : ByteArray} {i : Nat} (hi : i < s.size) : nm (s.extract i (i + 1)) = bL (bt s i) := by
  rw [Bool.eq_iff_iff, nm_ext (by omega)]
  constructor
  · rintro ⟨-, -, h, -⟩; exact h
  · intro h
    refine ⟨by omega, by omega, h, fun j a b => ?_⟩
    obtain rfl : j = i := (by omega)
    exact bN_let h
theorem rtP_le {s : ByteArray} {i : Nat} (hm : mkB (lk s i) = true) (hi : i ≤ s.size) {t : Int × ByteArray × ByteArray} {j : Nat} (h : rtP s i = .ok (t, j)) : i < j ∧ j ≤ s.size := by
  simp only [mkB, decide_eq_true_eq] at hm
  rcases rtP_cases (s := s) (i := i) (by omega) with e | ⟨t', j', -, e, -⟩
  · rw [e] at h
    exact tP_le hi h
  · rw [e] at h
    cases h
theorem rnP_lt {s : ByteArray} {i : Nat} (hi : i ≤ s.size) {n : ByteArray} {j : Nat} (h : rnP s i = .ok (n, j)) : i < j ∧ j ≤ s.size := by
  rcases rnP_cases s i with e | ⟨n', j', -, e, -⟩
  · rw [e] at h
    have := nP_le hi h
    omega
  · rw [e] at h
    cases h
/-- What a compound comes to. -/
def KRes (s : ByteArray) (i : Nat) (R : List (List Stp)) (r : List Stp) (ch : Bool) (w : World) (e : Ending) (w' : World) : Prop :=
  ((∃ (T : List Tr) (j : Nat) (v : Value), e = .returned (.tuple #[v, .int .i64 j, .bool true]) ∧ w'.ownsRow w.heap.size 51 3 v T.length (tcells T) ∧ Rdy s j R r (T.map te) ch ∧ i < j ∧ j ≤ s.size ∧ mkB (lk s j) = false) ∨ (∃ (k : Nat) (v : Value), e = .returned (.tuple #[v, .int .i64 k, .bool false]) ∧ Sl.parse (ls s) = .error k)) ∧ Below w.heap.size w w'
set_option maxRecDepth 100000 in
set_option maxHeartbeats 8000000 in
theorem rcompound_any (s : ByteArray) (i : Nat) (w : World) (R : List (List Stp)) (r : List Stp) (ch : Bool) (hi : i ≤ s.size) (hs : s.size ≤ 4000000) (hc : Cmp s i R r ch) (hnb : bB (lk s i) = false) :
    Calls Try.prog 36 #[.string s, .int .i64 i] w (KRes s i R r ch w) := by
  have HI := Lib.hid (fun (k : Nat) (b : Int) (hk : k ≤ s.size) (hb : 0 ≤ b) (V : World) => ris_any s k b V hk hs hb)
  have HT := Lib.hid (fun (k : Nat) (hm : mkB (lk s k) = true) (V : World) => rtest_any s k V hs hm)
  have HC := Lib.hid hc
  have HNB := Lib.hid hnb
  obtain ⟨i0, hi0, hz0, hz1, hz2⟩ := info_parts info_rtest
  have HJ := Lib.hid (And.intro hi0 (And.intro hz0 (And.intro hz1 hz2)))
  have HI42 := Lib.hid (fun (V : World) => HI.out i 42 hi (by decide) V)
  obtain ⟨W0, hW0⟩ : ∃ W0, W0 = w.alloc (.cells #[] 51) := ⟨_, rfl⟩
  have HB0 : Hid (Below w.heap.size w W0) := Lib.hid (by rw [hW0]; exact (Below.refl _ _).alloc (Nat.le_refl _) _)
  have HO0 : Hid (W0.ownsRow w.heap.size 51 3 (.slice (some ⟨w.heap.size, 0, none⟩) 0 0) 0 (tcells [])) := Lib.hid (by rw [hW0]; exact own_empty (Nat.le_refl _))
  have HNMn := Lib.hid (fun (t : ByteArray) (V : World) (ht : t.size ≤ 4000001) => rname_any t V (by omega))
  have HN9 := Lib.hid (fun (V : World) => rname9_any s i V hi hs)
  clear hc hnb hi0 hz0 hz1 hz2
  by_cases h42 : lk s i = 42
  · have hlt : i < s.size := lk_lt (by rw [h42]; decide)
    have HRD := Lib.hid (cmp_star HC.out h42)
    rw [decide_eq_true h42] at HI42
    have HCR : Hid (CR s i (i + 1) R r [] ch) := Lib.hid (.inr ⟨by omega, HRD.out⟩)
    clear h42
    go_enter Try.func36, Try.ntmps36
    go_wp2_with fail
    rw [← hW0]
    clear hW0
    refine (HI42.out W0).mono ?_
    rintro e w' ⟨rfl, rfl⟩
    go_wp2_with fail
    go_loopw [7, 8] (fun q7 q8 wr => ∃ (V : World) (T : List Tr) (j : Nat) (p : Option Addr) (cap : Nat), V = wr ∧ q7 = .slice p T.length cap ∧ q8 = .int .i64 j ∧ i ≤ j ∧ j ≤ s.size ∧ T.length ≤ j ∧ Hid (V.ownsRow w.heap.size 51 3 (.slice p T.length cap) T.length (tcells T)) ∧ Hid (CR s i j R r T ch) ∧ Hid (Below w.heap.size w V)) (fun _ q8 _ => s.size - (intOf q8).toNat)
    case atStart => exact ⟨_, [], i + 1, some ⟨w.heap.size, 0, none⟩, 0, rfl, rfl, by go_num, by omega, hlt, Nat.zero_le _, HO0, HCR, HB0⟩
    case round =>
      clear HO0 HCR HB0
      obtain ⟨V, T, j, p, cap, rfl, rfl, rfl, hij, hjs, hTj, HO, HR, HB⟩ := hrel
      have HI35 := Lib.hid (HI.out j 35 hjs (by decide) V)
      have HI46 := Lib.hid (HI.out j 46 hjs (by decide) V)
      have HI91 := Lib.hid (HI.out j 91 hjs (by decide) V)
      rcases Bool.eq_false_or_eq_true (mkB (lk s j)) with hmk | hmk
      · have HDT := Lib.hid (cr_test HR.out hmk)
        have HT3 := Lib.hid (HT.out j hmk V)
        have hle := fun t j' h => rtP_le (t := t) (j := j') hmk hjs h
        have hm2 := hmk
        simp only [mkB, decide_eq_true_eq] at hm2
        have h3 : (decide (lk s j = 35) = true) ∨ (decide (lk s j = 35) = false ∧ decide (lk s j = 46) = true) ∨ (decide (lk s j = 35) = false ∧ decide (lk s j = 46) = false ∧ decide (lk s j = 91) = true) := by simp only [decide_eq_true_eq, decide_eq_false_iff_not]; omega
        clear hmk hm2
        cases htp : rtP s j with
        | error k =>
          rw [htp] at HT3 HDT
          clear htp hle
          rcases h3 with h35 | ⟨h35, h46⟩ | ⟨h35, h46, h91⟩
          all_goals
            rw [h35] at HI35
            try rw [h46] at HI46
            try rw [h91] at HI91
            go_wp2_with fail
            refine HI35.out.mono ?_
            rintro e w' ⟨rfl, rfl⟩
            go_wp2_with fail
            try (refine HI46.out.mono ?_; rintro e w' ⟨rfl, rfl⟩; go_wp2_with fail)
            try (refine HI91.out.mono ?_; rintro e w' ⟨rfl, rfl⟩; go_wp2_with fail)
            refine HT3.out.mono ?_
            rintro e w5 ⟨⟨x, rfl⟩, hb⟩
            have HB5 := Lib.hid (HB.out.trans (hb.mono HB.out.size))
            unfold tV
            clear hb
            go_wp2
            go_ret3
            exact ⟨.inr ⟨k, _, rfl, HDT.out⟩, HB5.out.alloc HB5.out.size _⟩
        | ok pr =>
          obtain ⟨t, j'⟩ := pr
          have hj' := hle t j' htp
          rw [htp] at HT3 HDT
          clear htp hle
          obtain ⟨nT, hnT⟩ : ∃ nT, T.length = nT := ⟨_, rfl⟩
          have HNT := Lib.hid hnT
          rw [hnT] at HO hTj ⊢
          clear hnT
          rcases h3 with h35 | ⟨h35, h46⟩ | ⟨h35, h46, h91⟩
          all_goals
            rw [h35] at HI35
            try rw [h46] at HI46
            try rw [h91] at HI91
            go_wp2_with fail
            refine HI35.out.mono ?_
            rintro e w' ⟨rfl, rfl⟩
            go_wp2_with fail
            try (refine HI46.out.mono ?_; rintro e w' ⟨rfl, rfl⟩; go_wp2_with fail)
            try (refine HI91.out.mono ?_; rintro e w' ⟨rfl, rfl⟩; go_wp2_with fail)
            refine HT3.out.mono ?_
            rintro e w5 ⟨rfl, hb⟩
            have HB5 := Lib.hid (HB.out.trans (hb.mono HB.out.size))
            have HO5 := Lib.hid (own_below HO.out hb)
            unfold tV
            clear hb
            obtain ⟨W5, hW5⟩ : ∃ W5, W5 = w5.alloc (.cells #[.int .i64 t.1, .string t.2.1, .string t.2.2] 51) := ⟨_, rfl⟩
            have HXB5 : Hid (Below w5.heap.size w5 W5) := Lib.hid (by rw [hW5]; exact (Below.refl _ _).alloc (Nat.le_refl _) _)
            have HO6 := Lib.hid (own_below HO5.out HXB5.out)
            have HB6 := Lib.hid (HB5.out.trans (HXB5.out.mono HB5.out.size))
            have hX6 : W5.heap[w5.heap.size]? = some (.cells #[.int .i64 t.1, .string t.2.1, .string t.2.2] 51 (0, 0)) := by rw [hW5]; exact heap_alloc_new _ _
            have l0 : W5.cell? ⟨w5.heap.size, 0, none⟩ = some (.int .i64 t.1) := by simp [World.cell?, hX6]
            have l1 : W5.cell? ⟨w5.heap.size, 1, none⟩ = some (.string t.2.1) := by simp [World.cell?, hX6]
            have l2 : W5.cell? ⟨w5.heap.size, 2, none⟩ = some (.string t.2.2) := by simp [World.cell?, hX6]
            clear hX6
            have HXB : Hid (Below W5.heap.size W5 (W5.alloc (.cells #[.int .i64 t.1, .string t.2.1, .string t.2.2] 51))) := Lib.hid ((Below.refl _ _).alloc (Nat.le_refl _) _)
            have HX := Lib.hid (own_below HO6.out HXB.out)
            have HXC := Lib.hid (cells3 _ _ _ _ _ _ (heap_alloc_new W5 (.cells #[.int .i64 t.1, .string t.2.1, .string t.2.2] 51)))
            have HXS := Lib.hid (Nat.le_trans HB6.out.size HXB.out.size)
            go_upto_region 13 with fail
            rw [← hW5]
            clear hW5
            go_wp2_with (at_builtin; refine wpList_append_own_at _ rfl _ _ 47 rfl w.heap.size 51 i0 (.agg #[.int .i64 0, .string ⟨#[]⟩, .string ⟨#[]⟩]) 3 40 Try.underlying47 HJ.out.1 HJ.out.2.1 HJ.out.2.2.1 HJ.out.2.2.2 rfl (by decide) _ _ _ rfl HX.out ⟨W5.heap.size, 0, none⟩ 1 1 (t3 t) rfl rfl HXC.out (t3_one t) (by unfold maxLen; omega) (by omega) HXS.out ?_; intro v' V' hown' hgrow hnz hat; have HO' := Lib.hid hown'; have HGR := Lib.hid hgrow; clear hown' hgrow hnz hat)
            obtain ⟨p', cap', rfl, -⟩ := own_form2 HO'.out
            have HB7 : Hid (Below w.heap.size w V') := Lib.hid ((HB6.out.trans (HXB.out.mono HB6.out.size)).grown HGR.out HXS.out (fun q e => (HX.out.lt q e).1))
            have hlen : (T ++ [t]).length = nT + 1 := by rw [List.length_append, HNT.out]; rfl
            go_roundw
            case rel => exact ⟨V', T ++ [t], j', p', cap', rfl, by rw [hlen], rfl, by omega, hj'.2, by omega, Lib.hid (by rw [hlen, tcells_snoc]; exact HO'.out), Lib.hid (.inr ⟨by omega, HDT.out⟩), HB7⟩
            case measure => simp [intOf]; omega
      · have HMK := Lib.hid hmk
        have hm2 := hmk
        simp only [mkB, decide_eq_false_iff_not] at hm2
        have h35 : decide (lk s j = 35) = false := by simp only [decide_eq_false_iff_not]; omega
        have h46 : decide (lk s j = 46) = false := by simp only [decide_eq_false_iff_not]; omega
        have h91 : decide (lk s j = 91) = false := by simp only [decide_eq_false_iff_not]; omega
        rw [h35] at HI35
        rw [h46] at HI46
        rw [h91] at HI91
        clear hmk hm2 h35 h46 h91
        by_cases hji : j = i
        · subst hji
          have HE := Lib.hid (cr_none HR.out HMK.out)
          have q1 : decide ((j : Int) < (j : Int)) = false := by simp
          go_wp2_with fail
          refine HI35.out.mono ?_
          rintro e w' ⟨rfl, rfl⟩
          go_wp2_with fail
          refine HI46.out.mono ?_
          rintro e w' ⟨rfl, rfl⟩
          go_wp2_with fail
          refine HI91.out.mono ?_
          rintro e w' ⟨rfl, rfl⟩
          go_wp2
          go_ret3
          exact ⟨.inr ⟨j, _, rfl, HE.out⟩, HB.out⟩
        · have HD : Hid (Rdy s j R r (T.map te) ch) := Lib.hid (by rcases HR.out with h | h; exact absurd h.1 hji; exact h.2)
          have hij2 : i < j := by omega
          have q1 : decide ((i : Int) < (j : Int)) = true := by simp; omega
          clear hji
          go_wp2_with fail
          refine HI35.out.mono ?_
          rintro e w' ⟨rfl, rfl⟩
          go_wp2_with fail
          refine HI46.out.mono ?_
          rintro e w' ⟨rfl, rfl⟩
          go_wp2_with fail
          refine HI91.out.mono ?_
          rintro e w' ⟨rfl, rfl⟩
          go_wp2
          go_ret3
          exact ⟨.inl ⟨T, j, _, rfl, HO.out, HD.out, hij2, hjs, HMK.out⟩, HB.out⟩
  · rw [decide_eq_false h42] at HI42
    rcases Bool.eq_false_or_eq_true (bL (lk s i)) with hL | hL
    · have hlt : i < s.size := lk_lt (fun e => by rw [e] at hL; revert hL; decide)
      have HCN := Lib.hid (cmp_name HC.out hL)
      have hn1 : nm (s.extract i (i + 1)) = true := by rw [nm_one hlt, ← lk_in hlt]; exact hL
      have hz : (s.extract i (i + 1)).size ≤ 4000001 := by rw [size_ext (by omega)]; omega
      have hcut : ∀ W, Sem.run Try.prog (Instr.slice 9 (.string s) (some (.int .i64 (i : Int))) (some (.int .i64 ((i : Int) + 1))) none) W = .ok (.string (s.extract i (i + 1))) W := fun W => cut_str s i (i + 1) (by omega) (by omega) _ _ rfl (by omega) W
      have HNM1 := Lib.hid (fun (V : World) => HNMn.out (s.extract i (i + 1)) V hz)
      rw [hn1] at HNM1
      have k1 : (i : Int) < (s.size : Int) := by omega
      generalize s.extract i (i + 1) = T1 at hcut HNM1
      clear hn1 hz h42 hL
      cases hr : rnP s i with
      | error k =>
        rw [hr] at HCN HN9
        clear hr
        go_enter Try.func36, Try.ntmps36
        go_wp2_with fail
        rw [← hW0]
        clear hW0
        refine (HI42.out W0).mono ?_
        rintro e w' ⟨rfl, rfl⟩
        go_wp2_with fail
        refine (HNM1.out W0).mono ?_
        rintro e w' ⟨rfl, rfl⟩
        go_wp2_with fail
        refine (HN9.out W0).mono ?_
        rintro e w' ⟨⟨x, rfl⟩, rfl⟩
        go_wp2
        go_ret3
        exact ⟨.inr ⟨k, _, rfl, HCN.out⟩, HB0.out⟩
      | ok q =>
        obtain ⟨n, j⟩ := q
        have hj := rnP_lt hi hr
        rw [hr] at HCN HN9
        clear hr
        have HXB : Hid (Below W0.heap.size W0 (W0.alloc (.cells #[.int .i64 1, .string n, .string ⟨#[]⟩] 51))) := Lib.hid ((Below.refl _ _).alloc (Nat.le_refl _) _)
        have HX := Lib.hid (own_below HO0.out HXB.out)
        have HXC := Lib.hid (cells3 _ _ _ _ _ _ (heap_alloc_new W0 (.cells #[.int .i64 1, .string n, .string ⟨#[]⟩] 51)))
        have HXS := Lib.hid (Nat.le_trans HB0.out.size HXB.out.size)
        go_enter Try.func36, Try.ntmps36
        go_wp2_with fail
        rw [← hW0]
        clear hW0
        refine (HI42.out W0).mono ?_
        rintro e w' ⟨rfl, rfl⟩
        go_wp2_with fail
        refine (HNM1.out W0).mono ?_
        rintro e w' ⟨rfl, rfl⟩
        go_wp2_with fail
        refine (HN9.out W0).mono ?_
        rintro e w' ⟨rfl, rfl⟩
        go_wp2_with (at_builtin; refine wpList_append_own_at _ rfl _ _ 47 rfl w.heap.size 51 i0 (.agg #[.int .i64 0, .string ⟨#[]⟩, .string ⟨#[]⟩]) 3 40 Try.underlying47 HJ.out.1 HJ.out.2.1 HJ.out.2.2.1 HJ.out.2.2.2 rfl (by decide) _ _ _ rfl HX.out ⟨W0.heap.size, 0, none⟩ 1 1 (t3 (1, n, ⟨#[]⟩)) rfl rfl HXC.out (t3_one (1, n, ⟨#[]⟩)) (by unfold maxLen; omega) (by omega) HXS.out ?_; intro v' V' hown' hgrow hnz hat; have HO' := Lib.hid hown'; have HGR := Lib.hid hgrow; clear hown' hgrow hnz hat)
        obtain ⟨p', cap', rfl, -⟩ := own_form2 HO'.out
        have HB1 : Hid (Below w.heap.size w V') := Lib.hid ((HB0.out.trans (HXB.out.mono HB0.out.size)).grown HGR.out HXS.out (fun q e => (HX.out.lt q e).1))
        have HCR : Hid (CR s i j R r [(1, n, ⟨#[]⟩)] ch) := Lib.hid (.inr ⟨hj.1, HCN.out⟩)
        have HJJ := Lib.hid hj
        clear hj hcut k1 HXB HX HXC HXS HGR HNM1 HN9 HCN HI42
        rw [show (0 : Nat) + 1 = 1 from rfl]
        go_loopw [7, 8] (fun q7 q8 wr => ∃ (V : World) (T : List Tr) (j : Nat) (p : Option Addr) (cap : Nat), V = wr ∧ q7 = .slice p T.length cap ∧ q8 = .int .i64 j ∧ i ≤ j ∧ j ≤ s.size ∧ T.length ≤ j ∧ Hid (V.ownsRow w.heap.size 51 3 (.slice p T.length cap) T.length (tcells T)) ∧ Hid (CR s i j R r T ch) ∧ Hid (Below w.heap.size w V)) (fun _ q8 _ => s.size - (intOf q8).toNat)
        case atStart => exact ⟨V', [(1, n, ⟨#[]⟩)], j, p', cap', rfl, rfl, rfl, Nat.le_of_lt HJJ.out.1, HJJ.out.2, Nat.lt_of_le_of_lt (Nat.zero_le i) HJJ.out.1, Lib.hid (by have := HO'.out; simpa [tcells] using this), HCR, HB1⟩
        case round =>
          clear HO0 HCR HB0
          obtain ⟨V, T, j, p, cap, rfl, rfl, rfl, hij, hjs, hTj, HO, HR, HB⟩ := hrel
          have HI35 := Lib.hid (HI.out j 35 hjs (by decide) V)
          have HI46 := Lib.hid (HI.out j 46 hjs (by decide) V)
          have HI91 := Lib.hid (HI.out j 91 hjs (by decide) V)
          rcases Bool.eq_false_or_eq_true (mkB (lk s j)) with hmk | hmk
          · have HDT := Lib.hid (cr_test HR.out hmk)
            have HT3 := Lib.hid (HT.out j hmk V)
            have hle := fun t j' h => rtP_le (t := t) (j := j') hmk hjs h
            have hm2 := hmk
            simp only [mkB, decide_eq_true_eq] at hm2
            have h3 : (decide (lk s j = 35) = true) ∨ (decide (lk s j = 35) = false ∧ decide (lk s j = 46) = true) ∨ (decide (lk s j = 35) = false ∧ decide (lk s j = 46) = false ∧ decide (lk s j = 91) = true) := by simp only [decide_eq_true_eq, decide_eq_false_iff_not]; omega
            clear hmk hm2
            cases htp : rtP s j with
            | error k =>
              rw [htp] at HT3 HDT
              clear htp hle
              rcases h3 with h35 | ⟨h35, h46⟩ | ⟨h35, h46, h91⟩
              all_goals
                rw [h35] at HI35
                try rw [h46] at HI46
                try rw [h91] at HI91
                go_wp2_with fail
                refine HI35.out.mono ?_
                rintro e w' ⟨rfl, rfl⟩
                go_wp2_with fail
                try (refine HI46.out.mono ?_; rintro e w' ⟨rfl, rfl⟩; go_wp2_with fail)
                try (refine HI91.out.mono ?_; rintro e w' ⟨rfl, rfl⟩; go_wp2_with fail)
                refine HT3.out.mono ?_
                rintro e w5 ⟨⟨x, rfl⟩, hb⟩
                have HB5 := Lib.hid (HB.out.trans (hb.mono HB.out.size))
                unfold tV
                clear hb
                go_wp2
                go_ret3
                exact ⟨.inr ⟨k, _, rfl, HDT.out⟩, HB5.out.alloc HB5.out.size _⟩
            | ok pr =>
              obtain ⟨t, j'⟩ := pr
              have hj' := hle t j' htp
              rw [htp] at HT3 HDT
              clear htp hle
              obtain ⟨nT, hnT⟩ : ∃ nT, T.length = nT := ⟨_, rfl⟩
              have HNT := Lib.hid hnT
              rw [hnT] at HO hTj ⊢
              clear hnT
              rcases h3 with h35 | ⟨h35, h46⟩ | ⟨h35, h46, h91⟩
              all_goals
                rw [h35] at HI35
                try rw [h46] at HI46
                try rw [h91] at HI91
                go_wp2_with fail
                refine HI35.out.mono ?_
                rintro e w' ⟨rfl, rfl⟩
                go_wp2_with fail
                try (refine HI46.out.mono ?_; rintro e w' ⟨rfl, rfl⟩; go_wp2_with fail)
                try (refine HI91.out.mono ?_; rintro e w' ⟨rfl, rfl⟩; go_wp2_with fail)
                refine HT3.out.mono ?_
                rintro e w5 ⟨rfl, hb⟩
                have HB5 := Lib.hid (HB.out.trans (hb.mono HB.out.size))
                have HO5 := Lib.hid (own_below HO.out hb)
                unfold tV
                clear hb
                obtain ⟨W5, hW5⟩ : ∃ W5, W5 = w5.alloc (.cells #[.int .i64 t.1, .string t.2.1, .string t.2.2] 51) := ⟨_, rfl⟩
                have HXB5 : Hid (Below w5.heap.size w5 W5) := Lib.hid (by rw [hW5]; exact (Below.refl _ _).alloc (Nat.le_refl _) _)
                have HO6 := Lib.hid (own_below HO5.out HXB5.out)
                have HB6 := Lib.hid (HB5.out.trans (HXB5.out.mono HB5.out.size))
                have hX6 : W5.heap[w5.heap.size]? = some (.cells #[.int .i64 t.1, .string t.2.1, .string t.2.2] 51 (0, 0)) := by rw [hW5]; exact heap_alloc_new _ _
                have l0 : W5.cell? ⟨w5.heap.size, 0, none⟩ = some (.int .i64 t.1) := by simp [World.cell?, hX6]
                have l1 : W5.cell? ⟨w5.heap.size, 1, none⟩ = some (.string t.2.1) := by simp [World.cell?, hX6]
                have l2 : W5.cell? ⟨w5.heap.size, 2, none⟩ = some (.string t.2.2) := by simp [World.cell?, hX6]
                clear hX6
                have HXB : Hid (Below W5.heap.size W5 (W5.alloc (.cells #[.int .i64 t.1, .string t.2.1, .string t.2.2] 51))) := Lib.hid ((Below.refl _ _).alloc (Nat.le_refl _) _)
                have HX := Lib.hid (own_below HO6.out HXB.out)
                have HXC := Lib.hid (cells3 _ _ _ _ _ _ (heap_alloc_new W5 (.cells #[.int .i64 t.1, .string t.2.1, .string t.2.2] 51)))
                have HXS := Lib.hid (Nat.le_trans HB6.out.size HXB.out.size)
                go_upto_region 13 with fail
                rw [← hW5]
                clear hW5
                go_wp2_with (at_builtin; refine wpList_append_own_at _ rfl _ _ 47 rfl w.heap.size 51 i0 (.agg #[.int .i64 0, .string ⟨#[]⟩, .string ⟨#[]⟩]) 3 40 Try.underlying47 HJ.out.1 HJ.out.2.1 HJ.out.2.2.1 HJ.out.2.2.2 rfl (by decide) _ _ _ rfl HX.out ⟨W5.heap.size, 0, none⟩ 1 1 (t3 t) rfl rfl HXC.out (t3_one t) (by unfold maxLen; omega) (by omega) HXS.out ?_; intro v' V' hown' hgrow hnz hat; have HO' := Lib.hid hown'; have HGR := Lib.hid hgrow; clear hown' hgrow hnz hat)
                obtain ⟨p', cap', rfl, -⟩ := own_form2 HO'.out
                have HB7 : Hid (Below w.heap.size w V') := Lib.hid ((HB6.out.trans (HXB.out.mono HB6.out.size)).grown HGR.out HXS.out (fun q e => (HX.out.lt q e).1))
                have hlen : (T ++ [t]).length = nT + 1 := by rw [List.length_append, HNT.out]; rfl
                go_roundw
                case rel => exact ⟨V', T ++ [t], j', p', cap', rfl, by rw [hlen], rfl, by omega, hj'.2, by omega, Lib.hid (by rw [hlen, tcells_snoc]; exact HO'.out), Lib.hid (.inr ⟨by omega, HDT.out⟩), HB7⟩
                case measure => simp [intOf]; omega
          · have HMK := Lib.hid hmk
            have hm2 := hmk
            simp only [mkB, decide_eq_false_iff_not] at hm2
            have h35 : decide (lk s j = 35) = false := by simp only [decide_eq_false_iff_not]; omega
            have h46 : decide (lk s j = 46) = false := by simp only [decide_eq_false_iff_not]; omega
            have h91 : decide (lk s j = 91) = false := by simp only [decide_eq_false_iff_not]; omega
            rw [h35] at HI35
            rw [h46] at HI46
            rw [h91] at HI91
            clear hmk hm2 h35 h46 h91
            by_cases hji : j = i
            · subst hji
              have HE := Lib.hid (cr_none HR.out HMK.out)
              have q1 : decide ((j : Int) < (j : Int)) = false := by simp
              go_wp2_with fail
              refine HI35.out.mono ?_
              rintro e w' ⟨rfl, rfl⟩
              go_wp2_with fail
              refine HI46.out.mono ?_
              rintro e w' ⟨rfl, rfl⟩
              go_wp2_with fail
              refine HI91.out.mono ?_
              rintro e w' ⟨rfl, rfl⟩
              go_wp2
              go_ret3
              exact ⟨.inr ⟨j, _, rfl, HE.out⟩, HB.out⟩
            · have HD : Hid (Rdy s j R r (T.map te) ch) := Lib.hid (by rcases HR.out with h | h; exact absurd h.1 hji; exact h.2)
              have hij2 : i < j := by omega
              have q1 : decide ((i : Int) < (j : Int)) = true := by simp; omega
              clear hji
              go_wp2_with fail
              refine HI35.out.mono ?_
              rintro e w' ⟨rfl, rfl⟩
              go_wp2_with fail
              refine HI46.out.mono ?_
              rintro e w' ⟨rfl, rfl⟩
              go_wp2_with fail
              refine HI91.out.mono ?_
              rintro e w' ⟨rfl, rfl⟩
              go_wp2
              go_ret3
              exact ⟨.inl ⟨T, j, _, rfl, HO.out, HD.out, hij2, hjs, HMK.out⟩, HB.out⟩
    · have HCR : Hid (CR s i i R r [] ch) := Lib.hid (.inl ⟨rfl, rfl, h42, hL, HNB.out, HC.out⟩)
      have hcase : (i < s.size ∧ nm (s.extract i (i + 1)) = false) ∨ i = s.size := by
        by_cases hlt : i < s.size
        · exact .inl ⟨hlt, by rw [nm_one hlt, ← lk_in hlt]; exact hL⟩
        · exact .inr (by omega)
      clear h42 hL
      rcases hcase with ⟨hlt, hn1⟩ | he
      · have hz : (s.extract i (i + 1)).size ≤ 4000001 := by rw [size_ext (by omega)]; omega
        have hcut : ∀ W, Sem.run Try.prog (Instr.slice 9 (.string s) (some (.int .i64 (i : Int))) (some (.int .i64 ((i : Int) + 1))) none) W = .ok (.string (s.extract i (i + 1))) W := fun W => cut_str s i (i + 1) (by omega) (by omega) _ _ rfl (by omega) W
        have HNM1 := Lib.hid (fun (V : World) => HNMn.out (s.extract i (i + 1)) V hz)
        rw [hn1] at HNM1
        have k1 : (i : Int) < (s.size : Int) := by omega
        generalize s.extract i (i + 1) = T1 at hcut HNM1
        clear hn1 hz
        go_enter Try.func36, Try.ntmps36
        go_wp2_with fail
        rw [← hW0]
        clear hW0
        refine (HI42.out W0).mono ?_
        rintro e w' ⟨rfl, rfl⟩
        go_wp2_with fail
        refine (HNM1.out W0).mono ?_
        rintro e w' ⟨rfl, rfl⟩
        go_wp2_with fail
        go_loopw [7, 8] (fun q7 q8 wr => ∃ (V : World) (T : List Tr) (j : Nat) (p : Option Addr) (cap : Nat), V = wr ∧ q7 = .slice p T.length cap ∧ q8 = .int .i64 j ∧ i ≤ j ∧ j ≤ s.size ∧ T.length ≤ j ∧ Hid (V.ownsRow w.heap.size 51 3 (.slice p T.length cap) T.length (tcells T)) ∧ Hid (CR s i j R r T ch) ∧ Hid (Below w.heap.size w V)) (fun _ q8 _ => s.size - (intOf q8).toNat)
        case atStart => exact ⟨_, [], i, some ⟨w.heap.size, 0, none⟩, 0, rfl, rfl, rfl, Nat.le_refl _, hi, Nat.zero_le _, HO0, HCR, HB0⟩
        case round =>
          clear HO0 HCR HB0
          obtain ⟨V, T, j, p, cap, rfl, rfl, rfl, hij, hjs, hTj, HO, HR, HB⟩ := hrel
          have HI35 := Lib.hid (HI.out j 35 hjs (by decide) V)
          have HI46 := Lib.hid (HI.out j 46 hjs (by decide) V)
          have HI91 := Lib.hid (HI.out j 91 hjs (by decide) V)
          rcases Bool.eq_false_or_eq_true (mkB (lk s j)) with hmk | hmk
          · have HDT := Lib.hid (cr_test HR.out hmk)
            have HT3 := Lib.hid (HT.out j hmk V)
            have hle := fun t j' h => rtP_le (t := t) (j := j') hmk hjs h
            have hm2 := hmk
            simp only [mkB, decide_eq_true_eq] at hm2
            have h3 : (decide (lk s j = 35) = true) ∨ (decide (lk s j = 35) = false ∧ decide (lk s j = 46) = true) ∨ (decide (lk s j = 35) = false ∧ decide (lk s j = 46) = false ∧ decide (lk s j = 91) = true) := by simp only [decide_eq_true_eq, decide_eq_false_iff_not]; omega
            clear hmk hm2
            cases htp : rtP s j with
            | error k =>
              rw [htp] at HT3 HDT
              clear htp hle
              rcases h3 with h35 | ⟨h35, h46⟩ | ⟨h35, h46, h91⟩
              all_goals
                rw [h35] at HI35
                try rw [h46] at HI46
                try rw [h91] at HI91
                go_wp2_with fail
                refine HI35.out.mono ?_
                rintro e w' ⟨rfl, rfl⟩
                go_wp2_with fail
                try (refine HI46.out.mono ?_; rintro e w' ⟨rfl, rfl⟩; go_wp2_with fail)
                try (refine HI91.out.mono ?_; rintro e w' ⟨rfl, rfl⟩; go_wp2_with fail)
                refine HT3.out.mono ?_
                rintro e w5 ⟨⟨x, rfl⟩, hb⟩
                have HB5 := Lib.hid (HB.out.trans (hb.mono HB.out.size))
                unfold tV
                clear hb
                go_wp2
                go_ret3
                exact ⟨.inr ⟨k, _, rfl, HDT.out⟩, HB5.out.alloc HB5.out.size _⟩
            | ok pr =>
              obtain ⟨t, j'⟩ := pr
              have hj' := hle t j' htp
              rw [htp] at HT3 HDT
              clear htp hle
              obtain ⟨nT, hnT⟩ : ∃ nT, T.length = nT := ⟨_, rfl⟩
              have HNT := Lib.hid hnT
              rw [hnT] at HO hTj ⊢
              clear hnT
              rcases h3 with h35 | ⟨h35, h46⟩ | ⟨h35, h46, h91⟩
              all_goals
                rw [h35] at HI35
                try rw [h46] at HI46
                try rw [h91] at HI91
                go_wp2_with fail
                refine HI35.out.mono ?_
                rintro e w' ⟨rfl, rfl⟩
                go_wp2_with fail
                try (refine HI46.out.mono ?_; rintro e w' ⟨rfl, rfl⟩; go_wp2_with fail)
                try (refine HI91.out.mono ?_; rintro e w' ⟨rfl, rfl⟩; go_wp2_with fail)
                refine HT3.out.mono ?_
                rintro e w5 ⟨rfl, hb⟩
                have HB5 := Lib.hid (HB.out.trans (hb.mono HB.out.size))
                have HO5 := Lib.hid (own_below HO.out hb)
                unfold tV
                clear hb
                obtain ⟨W5, hW5⟩ : ∃ W5, W5 = w5.alloc (.cells #[.int .i64 t.1, .string t.2.1, .string t.2.2] 51) := ⟨_, rfl⟩
                have HXB5 : Hid (Below w5.heap.size w5 W5) := Lib.hid (by rw [hW5]; exact (Below.refl _ _).alloc (Nat.le_refl _) _)
                have HO6 := Lib.hid (own_below HO5.out HXB5.out)
                have HB6 := Lib.hid (HB5.out.trans (HXB5.out.mono HB5.out.size))
                have hX6 : W5.heap[w5.heap.size]? = some (.cells #[.int .i64 t.1, .string t.2.1, .string t.2.2] 51 (0, 0)) := by rw [hW5]; exact heap_alloc_new _ _
                have l0 : W5.cell? ⟨w5.heap.size, 0, none⟩ = some (.int .i64 t.1) := by simp [World.cell?, hX6]
                have l1 : W5.cell? ⟨w5.heap.size, 1, none⟩ = some (.string t.2.1) := by simp [World.cell?, hX6]
                have l2 : W5.cell? ⟨w5.heap.size, 2, none⟩ = some (.string t.2.2) := by simp [World.cell?, hX6]
                clear hX6
                have HXB : Hid (Below W5.heap.size W5 (W5.alloc (.cells #[.int .i64 t.1, .string t.2.1, .string t.2.2] 51))) := Lib.hid ((Below.refl _ _).alloc (Nat.le_refl _) _)
                have HX := Lib.hid (own_below HO6.out HXB.out)
                have HXC := Lib.hid (cells3 _ _ _ _ _ _ (heap_alloc_new W5 (.cells #[.int .i64 t.1, .string t.2.1, .string t.2.2] 51)))
                have HXS := Lib.hid (Nat.le_trans HB6.out.size HXB.out.size)
                go_upto_region 13 with fail
                rw [← hW5]
                clear hW5
                go_wp2_with (at_builtin; refine wpList_append_own_at _ rfl _ _ 47 rfl w.heap.size 51 i0 (.agg #[.int .i64 0, .string ⟨#[]⟩, .string ⟨#[]⟩]) 3 40 Try.underlying47 HJ.out.1 HJ.out.2.1 HJ.out.2.2.1 HJ.out.2.2.2 rfl (by decide) _ _ _ rfl HX.out ⟨W5.heap.size, 0, none⟩ 1 1 (t3 t) rfl rfl HXC.out (t3_one t) (by unfold maxLen; omega) (by omega) HXS.out ?_; intro v' V' hown' hgrow hnz hat; have HO' := Lib.hid hown'; have HGR := Lib.hid hgrow; clear hown' hgrow hnz hat)
                obtain ⟨p', cap', rfl, -⟩ := own_form2 HO'.out
                have HB7 : Hid (Below w.heap.size w V') := Lib.hid ((HB6.out.trans (HXB.out.mono HB6.out.size)).grown HGR.out HXS.out (fun q e => (HX.out.lt q e).1))
                have hlen : (T ++ [t]).length = nT + 1 := by rw [List.length_append, HNT.out]; rfl
                go_roundw
                case rel => exact ⟨V', T ++ [t], j', p', cap', rfl, by rw [hlen], rfl, by omega, hj'.2, by omega, Lib.hid (by rw [hlen, tcells_snoc]; exact HO'.out), Lib.hid (.inr ⟨by omega, HDT.out⟩), HB7⟩
                case measure => simp [intOf]; omega
          · have HMK := Lib.hid hmk
            have hm2 := hmk
            simp only [mkB, decide_eq_false_iff_not] at hm2
            have h35 : decide (lk s j = 35) = false := by simp only [decide_eq_false_iff_not]; omega
            have h46 : decide (lk s j = 46) = false := by simp only [decide_eq_false_iff_not]; omega
            have h91 : decide (lk s j = 91) = false := by simp only [decide_eq_false_iff_not]; omega
            rw [h35] at HI35
            rw [h46] at HI46
            rw [h91] at HI91
            clear hmk hm2 h35 h46 h91
            by_cases hji : j = i
            · subst hji
              have HE := Lib.hid (cr_none HR.out HMK.out)
              have q1 : decide ((j : Int) < (j : Int)) = false := by simp
              go_wp2_with fail
              refine HI35.out.mono ?_
              rintro e w' ⟨rfl, rfl⟩
              go_wp2_with fail
              refine HI46.out.mono ?_
              rintro e w' ⟨rfl, rfl⟩
              go_wp2_with fail
              refine HI91.out.mono ?_
              rintro e w' ⟨rfl, rfl⟩
              go_wp2
              go_ret3
              exact ⟨.inr ⟨j, _, rfl, HE.out⟩, HB.out⟩
            · have HD : Hid (Rdy s j R r (T.map te) ch) := Lib.hid (by rcases HR.out with h | h; exact absurd h.1 hji; exact h.2)
              have hij2 : i < j := by omega
              have q1 : decide ((i : Int) < (j : Int)) = true := by simp; omega
              clear hji
              go_wp2_with fail
              refine HI35.out.mono ?_
              rintro e w' ⟨rfl, rfl⟩
              go_wp2_with fail
              refine HI46.out.mono ?_
              rintro e w' ⟨rfl, rfl⟩
              go_wp2_with fail
              refine HI91.out.mono ?_
              rintro e w' ⟨rfl, rfl⟩
              go_wp2
              go_ret3
              exact ⟨.inl ⟨T, j, _, rfl, HO.out, HD.out, hij2, hjs, HMK.out⟩, HB.out⟩
      · have k1 : ((i : Nat) : Int) = (s.size : Int) := by omega
        have k2 : ¬ (i : Int) < (s.size : Int) := by omega
        clear k1 he
        go_enter Try.func36, Try.ntmps36
        go_wp2_with fail
        rw [← hW0]
        clear hW0
        refine (HI42.out W0).mono ?_
        rintro e w' ⟨rfl, rfl⟩
        go_wp2_with fail
        go_loopw [7, 8] (fun q7 q8 wr => ∃ (V : World) (T : List Tr) (j : Nat) (p : Option Addr) (cap : Nat), V = wr ∧ q7 = .slice p T.length cap ∧ q8 = .int .i64 j ∧ i ≤ j ∧ j ≤ s.size ∧ T.length ≤ j ∧ Hid (V.ownsRow w.heap.size 51 3 (.slice p T.length cap) T.length (tcells T)) ∧ Hid (CR s i j R r T ch) ∧ Hid (Below w.heap.size w V)) (fun _ q8 _ => s.size - (intOf q8).toNat)
        case atStart => exact ⟨_, [], i, some ⟨w.heap.size, 0, none⟩, 0, rfl, rfl, rfl, Nat.le_refl _, hi, Nat.zero_le _, HO0, HCR, HB0⟩
        case round =>
          clear HO0 HCR HB0
          obtain ⟨V, T, j, p, cap, rfl, rfl, rfl, hij, hjs, hTj, HO, HR, HB⟩ := hrel
          have HI35 := Lib.hid (HI.out j 35 hjs (by decide) V)
          have HI46 := Lib.hid (HI.out j 46 hjs (by decide) V)
          have HI91 := Lib.hid (HI.out j 91 hjs (by decide) V)
          rcases Bool.eq_false_or_eq_true (mkB (lk s j)) with hmk | hmk
          · exfalso
            simp only [mkB, decide_eq_true_eq] at hmk
            have := lk_lt (s := s) (i := j) (by omega)
            omega
          · have HMK := Lib.hid hmk
            have hm2 := hmk
            simp only [mkB, decide_eq_false_iff_not] at hm2
            have h35 : decide (lk s j = 35) = false := by simp only [decide_eq_false_iff_not]; omega
            have h46 : decide (lk s j = 46) = false := by simp only [decide_eq_false_iff_not]; omega
            have h91 : decide (lk s j = 91) = false := by simp only [decide_eq_false_iff_not]; omega
            rw [h35] at HI35
            rw [h46] at HI46
            rw [h91] at HI91
            clear hmk hm2 h35 h46 h91
            by_cases hji : j = i
            · subst hji
              have HE := Lib.hid (cr_none HR.out HMK.out)
              have q1 : decide ((j : Int) < (j : Int)) = false := by simp
              go_wp2_with fail
              refine HI35.out.mono ?_
              rintro e w' ⟨rfl, rfl⟩
              go_wp2_with fail
              refine HI46.out.mono ?_
              rintro e w' ⟨rfl, rfl⟩
              go_wp2_with fail
              refine HI91.out.mono ?_
              rintro e w' ⟨rfl, rfl⟩
              go_wp2
              go_ret3
              exact ⟨.inr ⟨j, _, rfl, HE.out⟩, HB.out⟩
            · have HD : Hid (Rdy s j R r (T.map te) ch) := Lib.hid (by rcases HR.out with h | h; exact absurd h.1 hji; exact h.2)
              have hij2 : i < j := by omega
              have q1 : decide ((i : Int) < (j : Int)) = true := by simp; omega
              clear hji
              go_wp2_with fail
              refine HI35.out.mono ?_
              rintro e w' ⟨rfl, rfl⟩
              go_wp2_with fail
              refine HI46.out.mono ?_
              rintro e w' ⟨rfl, rfl⟩
              go_wp2_with fail
              refine HI91.out.mono ?_
              rintro e w' ⟨rfl, rfl⟩
              go_wp2
              go_ret3
              exact ⟨.inl ⟨T, j, _, rfl, HO.out, HD.out, hij2, hjs, HMK.out⟩, HB.out⟩
end Go.Proofs.Ytcfkcifbojckcaa
