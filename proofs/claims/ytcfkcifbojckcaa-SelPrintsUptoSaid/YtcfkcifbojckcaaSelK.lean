/-
  The reader's row: the walk.
-/
import Derived.Test.YtcfkcifbojckcaaSelJ
namespace Go.Proofs.Ytcfkcifbojckcaa
open Go.ChangeShapes Go.WideShapes Go.ChangeAt Go.RowKit
open Go.PlainAid (bt)
open Sl (St Te Stp Mo tstep cstep fin isB isL isN)
set_option linter.unusedVariables false
set_option linter.unusedSimpArgs false

theorem cells2 (w : World) (g : Nat) (x y : Value) (t : TypeId) (h : w.heap[g]? = some (.cells #[x, y] t (0, 0))) : ∀ j u, [x, y][j]? = some u → w.cell? ((⟨g, 0, none⟩ : Addr).add j) = some u := by
  intro j u hu
  rw [add_plain, Nat.zero_add]
  match j, hu with
  | 0, hu => cases hu; simp [World.cell?, h]
  | 1, hu => cases hu; simp [World.cell?, h]
  | j + 2, hu => simp at hu
/-- A new row of one struct of two cells. -/
theorem own_new2 (w : World) (base : Nat) (hb : base ≤ w.heap.size) (x y : Value) (t : TypeId) (h1 : x.oneCell' = true) (h2 : y.oneCell' = true) : (w.alloc (.cells #[x, y] t)).ownsRow base t 2 (.slice (some ⟨w.heap.size, 0, none⟩) 1 1) 1 [x, y] :=
  ⟨rfl, .inr ⟨w.heap.size, 1, #[x, y], rfl, hb, heap_alloc_new _ _, Nat.le_refl _, by simp [maxLen], rfl, by simp [h1, h2]⟩⟩
set_option maxRecDepth 100000 in
set_option maxHeartbeats 4000000 in
theorem sel_row (b : Nat) (s : ByteArray) (i : Nat) (w : World) (R : List (List Stp)) (h : Rr w b s i) (hs : s.size ≤ 4000000) (hA : At s i ⟨R, [], [], false, .comp⟩) :
    Calls Try.prog 29 #[.pointer (some ⟨b, 0, none⟩)] w fun e w' => ((∃ (l : List Ms) (j : Nat) (v : Value), e = .returned v ∧ Rw w' w.heap.size v l ∧ Rr w' b s j ∧ RdR s j R (l.map stp) ∧ i < j ∧ j ≤ s.size) ∨ (∃ k, Mis e k ∧ Sl.parse (ls s) = .error k)) ∧ Gr b w w' := by
  have hi := hA.1
  have HL := Lib.hid (fun (k : Nat) (hk : k ≤ s.size) (V : World) (hV : Rr V b s k) => sel_look b s k V hV hk hs)
  have HS := Lib.hid (fun (k : Nat) (hk : k ≤ s.size) (V : World) (hV : Rr V b s k) => sel_blanks b s k V hV hk hs)
  have HC := Lib.hid (fun (k : Nat) (hk : k ≤ s.size) (V : World) (hV : Rr V b s k) (r : List Stp) (ch : Bool) (hc : Cmp s k R r ch) (hnb : bB (lk s k) = false) => sel_compound b s k V R r ch hV hk hs hc hnb)
  have HCm : Hid (Cmp s (sp s i) R [] false) := Lib.hid (by
    have k := hA.blanks (st1 := ⟨R, [], [], false, .comp⟩) (fun c hc => by simp [Sl.step, cstep, hc, St.to]) (fun c hc => by simp [Sl.step, cstep, hc, St.to])
    rw [ite_self] at k
    exact ⟨_, k, fun c _ => rfl, fun _ => rfl⟩)
  have h0 := sp_le s i hi
  have HNB := Lib.hid (sp_end s i hi)
  have HS0 := Lib.hid (HS.out i hi w h)
  have hbw := h.lt
  obtain ⟨i0, hi0, hz0, hz1, hz2⟩ := info_parts info_step
  have HJ := Lib.hid (And.intro hi0 (And.intro hz0 (And.intro hz1 hz2)))
  clear h hA hi0 hz0 hz1 hz2
  go_enter Try.func29, Try.ntmps29
  generalize sp s i = i1 at *
  go_wp2_with fail
  refine HS0.out.mono ?_
  rintro e w1 ⟨rfl, hr, hg⟩
  have HG1 := Lib.hid hg
  have HC1 := Lib.hid (HC.out i1 h0.2 w1 hr [] false HCm.out HNB.out)
  generalize decide (i < i1) = q0
  have hbw1 := Nat.lt_of_lt_of_le hbw hg.size
  clear hr hg
  go_wp2_with fail
  refine HC1.out.mono ?_
  rintro e w2 ⟨hcs, hg⟩
  have HG2 := Lib.hid (HG1.out.trans hg)
  clear hg
  rcases hcs with ⟨T, j, v, rfl, hT, hr, hd, hij, hjs, hmk⟩ | ⟨k, hmis, hpe⟩
  · obtain ⟨p, cap, rfl, -⟩ := own_form2 hT
    have HT2 := Lib.hid (own_mono hT HG1.out.size)
    have HR2 := Lib.hid hr
    have HD2 := Lib.hid hd
    have HMK := Lib.hid hmk
    clear hT hr hd hmk
    obtain ⟨n2, hn2⟩ : ∃ n2, T.length = n2 := ⟨_, rfl⟩
    have HXB : Hid (Below w2.heap.size w2 (w2.alloc (.cells #[.slice p n2 cap, .bool false] 37))) := Lib.hid ((Below.refl _ _).alloc (Nat.le_refl _) _)
    have HW0 : Hid (Rw (w2.alloc (.cells #[.slice p n2 cap, .bool false] 37)) w.heap.size (.slice (some ⟨w2.heap.size, 0, none⟩) 1 1) [((p, cap), (T, false))]) := Lib.hid (by
      refine ⟨?_, fun m hm => ?_⟩
      · show World.ownsRow _ _ _ _ _ _ [.slice p T.length cap, .bool false]
        rw [hn2]
        exact own_new2 w2 w.heap.size HG2.out.size _ _ _ rfl rfl
      · simp only [List.mem_singleton] at hm
        subst hm
        exact own_below HT2.out HXB.out)
    have HRa := Lib.hid (HR2.out.below HXB.out)
    have HGa := Lib.hid (HG2.out.trans (Gr.of HXB.out))
    have HDa : Hid (Rdy s j R [] (T.map te) false ∧ mkB (lk s j) = false ∧ ([((p, cap), (T, false))] : List Ms).map stp = [] ++ [⟨T.map te, false⟩]) := Lib.hid ⟨HD2.out, HMK.out, rfl⟩
    rw [hn2]
    clear hn2
    go_wp2_with fail
    generalize w2.alloc (.cells #[.slice p n2 cap, .bool false] 37) = Wa at *
    generalize w2.heap.size = ga at *
    go_loopw [3] (fun q wr => ∃ (V : World) (l : List Ms) (j : Nat) (r : List Stp) (T : List Te) (ch : Bool) (p : Option Addr) (cap : Nat), V = wr ∧ q = .slice p l.length cap ∧ i < j ∧ j ≤ s.size ∧ l.length ≤ j ∧ Hid (Rw V w.heap.size (.slice p l.length cap) l) ∧ Hid (Rr V b s j) ∧ Hid (Rdy s j R r T ch ∧ mkB (lk s j) = false ∧ l.map stp = r ++ [⟨T, ch⟩]) ∧ Hid (Gr b w V)) (fun _ wr => s.size - atOf b wr)
    case atStart => exact ⟨_, [((p, cap), (T, false))], j, [], T.map te, false, _, _, rfl, rfl, by omega, hjs, by simp; omega, HW0, HRa, HDa, HGa⟩
    case round =>
      clear HXB HW0 HRa HGa HDa HT2 HR2 HD2 HMK HG2 HC1 HG1 hij hjs
      obtain ⟨V, l, j, r, T, ch, p, cap, rfl, rfl, hij, hjs, hlj, HW, HR, HD, HG⟩ := hrel
      have HS1 := Lib.hid (HS.out j hjs V HR.out)
      have HAt := Lib.hid HR.out.atOf
      have h1 := sp_le s j hjs
      have HGT := Lib.hid (fun (hc : lk s (sp s j) = 62) => rdy_gt HD.out.1 hc)
      have HAP := Lib.hid (fun hj h62 h44 h1 => rdy_apart HD.out.1 hj h62 h44 h1)
      have HEN := Lib.hid (fun h62 hd => rdy_end HD.out.1 HD.out.2.1 h62 hd)
      have HNB1 := Lib.hid (sp_end s j hjs)
      generalize sp s j = j1 at *
      go_wp2_with fail
      refine HS1.out.mono ?_
      rintro e w3 ⟨rfl, hr, hg⟩
      have HR3 := Lib.hid hr
      have HG3 := Lib.hid (HG.out.trans hg)
      have HW3 := Lib.hid (HW.out.gr hbw hg)
      have HL3 := Lib.hid (HL.out j1 h1.2 w3 hr)
      clear hr hg
      go_wp2_with fail
      refine HL3.out.mono ?_
      rintro e w4 ⟨rfl, hb⟩
      have HR4 := Lib.hid (HR3.out.below hb)
      have HG4 := Lib.hid (HG3.out.trans (Gr.of hb))
      have HW4 := Lib.hid (HW3.out.below hb)
      clear hb
      have HCo0 := Lib.hid (fun (hnb : bB (lk s j1) = false) (hc : Cmp s j1 R (r ++ [⟨T, ch⟩]) false) => HC.out j1 h1.2 w4 HR4.out _ _ hc hnb)
      obtain ⟨c, hc⟩ : ∃ c, lk s j1 = c := ⟨_, rfl⟩
      rw [hc] at HGT HAP HEN HNB1 HCo0 ⊢
      have hlk := fun (e : c ≠ -1) => lk_lt (s := s) (i := j1) (by rw [hc]; exact e)
      clear hc
      by_cases h62 : c = 62
      · obtain ⟨hCm, hlt⟩ := HGT.out h62
        have HCm := Lib.hid hCm
        have h2 := sp_le s (j1 + 1) hlt
        have HNB2 := Lib.hid (sp_end s (j1 + 1) hlt)
        have q2 : (c == 62) = true := by simpa using h62
        obtain ⟨c0, c1, f0, f1⟩ := HR4.out.cells
        have hR5 : Rr (w4.setCell ⟨b, 1, none⟩ (.int .i64 ((j1 : Int) + 1))) b s (j1 + 1) := by have := HR4.out.set (j1 + 1); simpa using this
        have hg5 : Gr b w4 (w4.setCell ⟨b, 1, none⟩ (.int .i64 ((j1 : Int) + 1))) := Gr.set b 1 w4 _
        have HG5 := Lib.hid (HG4.out.trans hg5)
        have HW5 := Lib.hid (HW4.out.gr hbw hg5)
        have HS2 := Lib.hid (HS.out (j1 + 1) hlt _ hR5)
        clear hR5 hg5 h62 hCm HGT HAP HEN hlk
        generalize sp s (j1 + 1) = j2 at *
        generalize decide (j < j1) = q9
        go_wp2_with fail
        refine HS2.out.mono ?_
        rintro e w5 ⟨rfl, hr, hg⟩
        have HG8 := Lib.hid (HG5.out.trans hg)
        have HW8 := Lib.hid (HW5.out.gr hbw hg)
        have HCo := Lib.hid (HC.out j2 h2.2 w5 hr _ _ HCm.out HNB2.out)
        clear hr hg c0 c1 f0 f1
        generalize decide (j1 + 1 < j2) = q8
        go_wp2_with fail
        refine HCo.out.mono ?_
        rintro e w6 ⟨hcs, hg⟩
        have HG6 := Lib.hid (HG8.out.trans hg)
        have HW6 := Lib.hid (HW8.out.gr hbw hg)
        clear hg
        rcases hcs with ⟨T2, j', v2, rfl, hT2, hr2, hd2, hij2, hjs2, hmk2⟩ | ⟨k, hmis, hpe⟩
        · obtain ⟨p2, cap2, rfl, -⟩ := own_form2 hT2
          have HT6 := Lib.hid (own_mono hT2 HG8.out.size)
          have HR6 := Lib.hid hr2
          have HD6 := Lib.hid hd2
          have HMK6 := Lib.hid hmk2
          clear hT2 hr2 hd2 hmk2
          obtain ⟨n2, hn2⟩ : ∃ n2, T2.length = n2 := ⟨_, rfl⟩
          have HN2 := Lib.hid hn2
          rw [hn2] at HT6 ⊢
          clear hn2
          have HXB : Hid (Below w6.heap.size w6 (w6.alloc (.cells #[.slice p2 n2 cap2, .bool true] 37))) := Lib.hid ((Below.refl _ _).alloc (Nat.le_refl _) _)
          have HX := Lib.hid (own_below HW6.out.row HXB.out)
          have HXC := Lib.hid (cells2 _ _ _ _ _ (heap_alloc_new w6 (.cells #[.slice p2 n2 cap2, .bool true] 37)))
          have HXS := Lib.hid (Nat.le_trans HG6.out.size HXB.out.size)
          obtain ⟨nl, hnl⟩ : ∃ nl, l.length = nl := ⟨_, rfl⟩
          have HNL := Lib.hid hnl
          rw [hnl] at HX hlj ⊢
          clear hnl
          go_wp2_with (at_builtin; refine wpList_append_own_at _ rfl _ _ 33 rfl w.heap.size 37 i0 (.agg #[.slice none 0 0, .bool false]) 2 32 Try.underlying33 HJ.out.1 HJ.out.2.1 HJ.out.2.2.1 HJ.out.2.2.2 rfl (by decide) _ _ _ rfl HX.out ⟨w6.heap.size, 0, none⟩ 1 1 [.slice p2 n2 cap2, .bool true] rfl rfl HXC.out (by intro u hu; simp only [List.mem_cons, List.not_mem_nil, or_false] at hu; rcases hu with rfl | rfl <;> rfl) (by unfold maxLen; omega) (by omega) HXS.out ?_; intro v' V' hown' hgrow _ hat; have HO' := Lib.hid hown'; have HGR := Lib.hid hgrow; clear hown' hgrow hat)
          obtain ⟨p', cap', rfl, -⟩ := own_form2 HO'.out
          have HR9 : Hid (Rr V' b s j') := Lib.hid ((HR6.out.below HXB.out).grown HGR.out (own_apart HX.out (HR6.out.below HXB.out) (by decide)))
          have HG9 : Hid (Gr b w V') := Lib.hid ((HG6.out.trans (Gr.of HXB.out)).grown HGR.out (fun q e => (HX.out.lt q e).1))
          have hlen : (l ++ [((p2, cap2), (T2, true))]).length = nl + 1 := by rw [List.length_append, HNL.out]; rfl
          have HW9 : Hid (Rw V' w.heap.size (.slice p' (nl + 1) cap') (l ++ [((p2, cap2), (T2, true))])) := Lib.hid (by
            have hX := HW6.out.below HXB.out
            rw [HNL.out] at hX
            refine hX.more (m := ((p2, cap2), (T2, true))) ?_ ?_ HGR.out
            · show World.ownsRow _ _ _ _ (.slice p2 T2.length cap2) T2.length _
              rw [HN2.out]
              exact own_below HT6.out HXB.out
            · rw [HNL.out]
              have := HO'.out
              show World.ownsRow _ _ _ _ _ _ (_ ++ [.slice p2 T2.length cap2, .bool true])
              rw [HN2.out]
              exact this)
          have HD9 : Hid (Rdy s j' R (r ++ [⟨T, ch⟩]) (T2.map te) true ∧ mkB (lk s j') = false ∧ (l ++ [((p2, cap2), (T2, true))]).map stp = (r ++ [⟨T, ch⟩]) ++ [⟨T2.map te, true⟩]) := Lib.hid ⟨HD6.out, HMK6.out, by rw [List.map_append, HD.out.2.2]; rfl⟩
          go_roundw
          case rel => exact ⟨V', l ++ [((p2, cap2), (T2, true))], j', r ++ [⟨T, ch⟩], T2.map te, true, p', cap', rfl, by rw [hlen], by omega, hjs2, by omega, Lib.hid (by rw [hlen]; exact HW9.out), HR9, HD9, HG9⟩
          case measure =>
            rw [HAt.out, HR9.out.atOf]
            omega
        · have HPE := Lib.hid hpe
          unfold Mis at hmis
          subst hmis
          clear hpe
          go_wp2
          exact ⟨rfl, .inr ⟨k, rfl, HPE.out⟩, HG6.out⟩
      · have q2 : (c == 62) = false := by simpa using h62
        by_cases hB : j < j1 ∧ c ≠ 44 ∧ c ≠ -1
        · have HCo := Lib.hid (HCo0.out HNB1.out (HAP.out hB.1 h62 hB.2.1 hB.2.2))
          have hlt := hlk hB.2.2
          have q3 : decide (j < j1) = true := by simpa using hB.1
          have q4 : (c != 44) = true := by simpa using hB.2.1
          have q5 : (c != -1) = true := by simpa using hB.2.2
          have hjj := hB.1
          rw [q3]
          clear HGT HAP HEN hlk h62 hB q3
          go_wp2_with fail
          refine HCo.out.mono ?_
          rintro e w6 ⟨hcs, hg⟩
          have HG6 := Lib.hid (HG4.out.trans hg)
          have HW6 := Lib.hid (HW4.out.gr hbw hg)
          clear hg
          rcases hcs with ⟨T2, j', v2, rfl, hT2, hr2, hd2, hij2, hjs2, hmk2⟩ | ⟨k, hmis, hpe⟩
          · obtain ⟨p2, cap2, rfl, -⟩ := own_form2 hT2
            have HT6 := Lib.hid (own_mono hT2 HG4.out.size)
            have HR6 := Lib.hid hr2
            have HD6 := Lib.hid hd2
            have HMK6 := Lib.hid hmk2
            clear hT2 hr2 hd2 hmk2
            obtain ⟨n2, hn2⟩ : ∃ n2, T2.length = n2 := ⟨_, rfl⟩
            have HN2 := Lib.hid hn2
            rw [hn2] at HT6 ⊢
            clear hn2
            have HXB : Hid (Below w6.heap.size w6 (w6.alloc (.cells #[.slice p2 n2 cap2, .bool false] 37))) := Lib.hid ((Below.refl _ _).alloc (Nat.le_refl _) _)
            have HX := Lib.hid (own_below HW6.out.row HXB.out)
            have HXC := Lib.hid (cells2 _ _ _ _ _ (heap_alloc_new w6 (.cells #[.slice p2 n2 cap2, .bool false] 37)))
            have HXS := Lib.hid (Nat.le_trans HG6.out.size HXB.out.size)
            obtain ⟨nl, hnl⟩ : ∃ nl, l.length = nl := ⟨_, rfl⟩
            have HNL := Lib.hid hnl
            rw [hnl] at HX hlj ⊢
            clear hnl
            go_wp2_with (at_builtin; refine wpList_append_own_at _ rfl _ _ 33 rfl w.heap.size 37 i0 (.agg #[.slice none 0 0, .bool false]) 2 32 Try.underlying33 HJ.out.1 HJ.out.2.1 HJ.out.2.2.1 HJ.out.2.2.2 rfl (by decide) _ _ _ rfl HX.out ⟨w6.heap.size, 0, none⟩ 1 1 [.slice p2 n2 cap2, .bool false] rfl rfl HXC.out (by intro u hu; simp only [List.mem_cons, List.not_mem_nil, or_false] at hu; rcases hu with rfl | rfl <;> rfl) (by unfold maxLen; omega) (by omega) HXS.out ?_; intro v' V' hown' hgrow _ hat; have HO' := Lib.hid hown'; have HGR := Lib.hid hgrow; clear hown' hgrow hat)
            obtain ⟨p', cap', rfl, -⟩ := own_form2 HO'.out
            have HR9 : Hid (Rr V' b s j') := Lib.hid ((HR6.out.below HXB.out).grown HGR.out (own_apart HX.out (HR6.out.below HXB.out) (by decide)))
            have HG9 : Hid (Gr b w V') := Lib.hid ((HG6.out.trans (Gr.of HXB.out)).grown HGR.out (fun q e => (HX.out.lt q e).1))
            have hlen : (l ++ [((p2, cap2), (T2, false))]).length = nl + 1 := by rw [List.length_append, HNL.out]; rfl
            have HW9 : Hid (Rw V' w.heap.size (.slice p' (nl + 1) cap') (l ++ [((p2, cap2), (T2, false))])) := Lib.hid (by
              have hX := HW6.out.below HXB.out
              rw [HNL.out] at hX
              refine hX.more (m := ((p2, cap2), (T2, false))) ?_ ?_ HGR.out
              · show World.ownsRow _ _ _ _ (.slice p2 T2.length cap2) T2.length _
                rw [HN2.out]
                exact own_below HT6.out HXB.out
              · rw [HNL.out]
                have := HO'.out
                show World.ownsRow _ _ _ _ _ _ (_ ++ [.slice p2 T2.length cap2, .bool false])
                rw [HN2.out]
                exact this)
            have HD9 : Hid (Rdy s j' R (r ++ [⟨T, ch⟩]) (T2.map te) false ∧ mkB (lk s j') = false ∧ (l ++ [((p2, cap2), (T2, false))]).map stp = (r ++ [⟨T, ch⟩]) ++ [⟨T2.map te, false⟩]) := Lib.hid ⟨HD6.out, HMK6.out, by rw [List.map_append, HD.out.2.2]; rfl⟩
            go_roundw
            case rel => exact ⟨V', l ++ [((p2, cap2), (T2, false))], j', r ++ [⟨T, ch⟩], T2.map te, false, p', cap', rfl, by rw [hlen], by omega, hjs2, by omega, Lib.hid (by rw [hlen]; exact HW9.out), HR9, HD9, HG9⟩
            case measure =>
              rw [HAt.out, HR9.out.atOf]
              omega
          · have HPE := Lib.hid hpe
            unfold Mis at hmis
            subst hmis
            clear hpe
            go_wp2
            exact ⟨rfl, .inr ⟨k, rfl, HPE.out⟩, HG6.out⟩
        · have HRD := Lib.hid (HEN.out h62 hB)
          have hcase : decide (j < j1) = false ∨ (decide (j < j1) = true ∧ (c != 44) = false) ∨ (decide (j < j1) = true ∧ (c != 44) = true ∧ (c != -1) = false) := by
            by_cases a : j < j1
            · by_cases b4 : c = 44
              · exact .inr (.inl ⟨by simpa using a, by simpa using b4⟩)
              · by_cases b5 : c = -1
                · exact .inr (.inr ⟨by simpa using a, by simpa using b4, by simpa using b5⟩)
                · exact absurd ⟨a, b4, b5⟩ hB
            · exact .inl (by simpa using a)
          clear HGT HAP HEN hlk h62 hB
          rcases hcase with q3 | ⟨q3, q4⟩ | ⟨q3, q4, q5⟩
          all_goals
            rw [q3]
            clear q3
            go_wp2
            go_ret
            exact ⟨.inl ⟨l, j1, _, rfl, HW4.out, HR4.out, by rw [HD.out.2.2]; exact HRD.out, by omega, h1.2⟩, HG4.out⟩
  · have HPE := Lib.hid hpe
    unfold Mis at hmis
    subst hmis
    clear hpe
    go_wp2
    exact ⟨rfl, .inr ⟨k, rfl, HPE.out⟩, HG2.out⟩
end Go.Proofs.Ytcfkcifbojckcaa
