/-
  The reader's row: the walk.
-/
import Derived.Test.YtcndplnnighjkaaGreatDoorPG33
import Derived.Test.YtcndplnnighjkaaGreatDoorPG31
import Derived.Recover
import Derived.Laws.Pointers
namespace Go.Proofs.YtcndplnnighjkaaGreatDoor.Sx
open Go.ChangeShapes Go.WideShapes Go.ChangeAt Go.RowKit
open Go.PlainAid (bt)
open Sl (St Te Stp Mo tstep cstep fin isB isL isN)
set_option linter.unusedVariables false
set_option linter.unusedSimpArgs false
theorem cells2 (w : World) (g : Nat) (x y : Value) (t : TypeId) (h : w.heap[g]? = some (.cells #[x, y] t (0, 0))) : ∀ j u, [x, y][j]? = some u -> w.cell? ((⟨g, 0, none⟩ : Addr).add j) = some u := by
 intro j u hu
 rw [add_plain, Nat.zero_add]
 match j, hu with
 | 0, hu => cases hu; simp [World.cell?, h]
 | 1, hu => cases hu; simp [World.cell?, h]
 | j + 2, hu => simp at hu
theorem own_new2 (w : World) (base : Nat) (hb : base <= w.heap.size) (x y : Value) (t : TypeId) (h1 : x.oneCell' = true) (h2 : y.oneCell' = true) : (w.alloc (.cells #[x, y] t)).ownsRow base t 2 (.slice (some ⟨w.heap.size, 0, none⟩) 1 1) 1 [x, y] :=
 ⟨rfl, .inr ⟨w.heap.size, 1, #[x, y], rfl, hb, heap_alloc_new _ _, Nat.le_refl _, by simp [maxLen], rfl, by simp [h1, h2]⟩⟩
set_option maxRecDepth 100000 in
set_option maxHeartbeats 4000000 in
theorem sel_row (b : Nat) (s : ByteArray) (i : Nat) (w : World) (R : List (List Stp)) (h : Rr w b s i) (hs : s.size <= 4000000) (hA : At s i ⟨R, [], [], false, .comp⟩) :
 Calls Tryz.prog 133 #[.pointer (some ⟨b, 0, none⟩)] w fun e w' => ((∃ (l : List Ms) (j : Nat) (v : Value), e = .returned v /\ Rw w' w.heap.size v l /\ Rr w' b s j /\ RdR s j R (l.map stp) /\ i < j /\ j <= s.size) \/ (∃ k, Mis e k /\ Sl.parse (ls s) = .error k)) /\ Gr b w w' := by
 have hi := hA.1
 have HL := Lib.hid (fun (k : Nat) (hk : k <= s.size) (V : World) (hV : Rr V b s k) => sel_look b s k V hV hk hs)
 have HS := Lib.hid (fun (k : Nat) (hk : k <= s.size) (V : World) (hV : Rr V b s k) => sel_blanks b s k V hV hk hs)
 have HC := Lib.hid (fun (k : Nat) (hk : k <= s.size) (V : World) (hV : Rr V b s k) (r : List Stp) (ch : Bool) (hc : Cmp s k R r ch) (hnb : bB (lk s k) = false) => sel_compound b s k V R r ch hV hk hs hc hnb)
 have HCm : Hid (Cmp s (sp s i) R [] false) := Lib.hid (by
  have k := hA.blanks (st1 := ⟨R, [], [], false, .comp⟩) (fun c hc => by simp [Sl.step, cstep, hc, St.to]) (fun c hc => by simp [Sl.step, cstep, hc, St.to])
  rw [ite_self] at k
  exact ⟨_, k, fun c _ => rfl, fun _ => rfl⟩)
 have h0 := sp_le s i hi
 have HNB := Lib.hid (sp_end s i hi)
 have HS0 := Lib.hid (HS.out i hi w h)
 have hbw := h.lt
 obtain ⟨i0, hi0, hz0, hz1, hz2⟩ := info_parts info_step
 have HJ := Lib.hid (And.intro hi0 (And.intro hz0 (And.intro hz1 hz2)))
 clear h hA hi0 hz0 hz1 hz2
 go_enter Tryz.func133, Tryz.ntmps133
 generalize sp s i = i1 at *
 go_wp2_with fail
 refine HS0.out.mono ?_
 rintro e w1 ⟨rfl, hr, hg⟩
 have HG1 := Lib.hid hg
 have HC1 := Lib.hid (HC.out i1 h0.2 w1 hr [] false HCm.out HNB.out)
 generalize decide (i < i1) = q0
 have hbw1 := Nat.lt_of_lt_of_le hbw hg.size
 clear hr hg
 go_wp2_with fail
 refine HC1.out.mono ?_
 rintro e w2 ⟨hcs, hg⟩
 have HG2 := Lib.hid (HG1.out.trans hg)
 clear hg
 rcases hcs with ⟨T, j, v, rfl, hT, hr, hd, hij, hjs, hmk⟩ | ⟨k, hmis, hpe⟩
 · obtain ⟨p, cap, rfl, -⟩ := own_form2 hT
   have HT2 := Lib.hid (own_mono hT HG1.out.size)
   have HR2 := Lib.hid hr
   have HD2 := Lib.hid hd
   have HMK := Lib.hid hmk
   clear hT hr hd hmk
   obtain ⟨n2, hn2⟩ : ∃ n2, T.length = n2 := ⟨_, rfl⟩
   have HXB : Hid (Below w2.heap.size w2 (w2.alloc (.cells #[.slice p n2 cap, .bool false] 162))) := Lib.hid ((Below.refl _ _).alloc (Nat.le_refl _) _)
   have HW0 : Hid (Rw (w2.alloc (.cells #[.slice p n2 cap, .bool false] 162)) w.heap.size (.slice (some ⟨w2.heap.size, 0, none⟩) 1 1) [((p, cap), (T, false))]) := Lib.hid (by
    refine ⟨?_, fun m hm => ?_⟩
    · show World.ownsRow _ _ _ _ _ _ [.slice p T.length cap, .bool false]
      rw [hn2]
      exact own_new2 w2 w.heap.size HG2.out.size _ _ _ rfl rfl
    · simp only [List.mem_singleton] at hm
      subst hm
      exact own_below HT2.out HXB.out)
   have HRa := Lib.hid (HR2.out.below HXB.out)
   have HGa := Lib.hid (HG2.out.trans (Gr.of HXB.out))
   have HDa : Hid (Rdy s j R [] (T.map te) false /\ mkB (lk s j) = false /\ ([((p, cap), (T, false))] : List Ms).map stp = [] ++ [⟨T.map te, false⟩]) := Lib.hid ⟨HD2.out, HMK.out, rfl⟩
   rw [hn2]
   clear hn2
   go_wp2_with fail
   generalize w2.alloc (.cells #[.slice p n2 cap, .bool false] 162) = Wa at *
   generalize w2.heap.size = ga at *
   go_loopw [3] (fun q wr => ∃ (V : World) (l : List Ms) (j : Nat) (r : List Stp) (T : List Te) (ch : Bool) (p : Option Addr) (cap : Nat), V = wr /\ q = .slice p l.length cap /\ i < j /\ j <= s.size /\ l.length <= j /\ Hid (Rw V w.heap.size (.slice p l.length cap) l) /\ Hid (Rr V b s j) /\ Hid (Rdy s j R r T ch /\ mkB (lk s j) = false /\ l.map stp = r ++ [⟨T, ch⟩]) /\ Hid (Gr b w V)) (fun _ wr => s.size - atOf b wr)
   case atStart => exact ⟨_, [((p, cap), (T, false))], j, [], T.map te, false, _, _, rfl, rfl, by omega, hjs, by simp; omega, HW0, HRa, HDa, HGa⟩
   case round =>
    clear HXB HW0 HRa HGa HDa HT2 HR2 HD2 HMK HG2 HC1 HG1 hij hjs
    obtain ⟨V, l, j, r, T, ch, p, cap, rfl, rfl, hij, hjs, hlj, HW, HR, HD, HG⟩ := hrel
    have HS1 := Lib.hid (HS.out j hjs V HR.out)
    have HAt := Lib.hid HR.out.atOf
    have h1 := sp_le s j hjs
    have HGT := Lib.hid (fun (hc : lk s (sp s j) = 62) => rdy_gt HD.out.1 hc)
    have HAP := Lib.hid (fun hj h62 h44 h1 => rdy_apart HD.out.1 hj h62 h44 h1)
    have HEN := Lib.hid (fun h62 hd => rdy_end HD.out.1 HD.out.2.1 h62 hd)
    have HNB1 := Lib.hid (sp_end s j hjs)
    generalize sp s j = j1 at *
    go_wp2_with fail
    refine HS1.out.mono ?_
    rintro e w3 ⟨rfl, hr, hg⟩
    have HR3 := Lib.hid hr
    have HG3 := Lib.hid (HG.out.trans hg)
    have HW3 := Lib.hid (HW.out.gr hbw hg)
    have HL3 := Lib.hid (HL.out j1 h1.2 w3 hr)
    clear hr hg
    go_wp2_with fail
    refine HL3.out.mono ?_
    rintro e w4 ⟨rfl, hb⟩
    have HR4 := Lib.hid (HR3.out.below hb)
    have HG4 := Lib.hid (HG3.out.trans (Gr.of hb))
    have HW4 := Lib.hid (HW3.out.below hb)
    clear hb
    have HCo0 := Lib.hid (fun (hnb : bB (lk s j1) = false) (hc : Cmp s j1 R (r ++ [⟨T, ch⟩]) false) => HC.out j1 h1.2 w4 HR4.out _ _ hc hnb)
    obtain ⟨c, hc⟩ : ∃ c, lk s j1 = c := ⟨_, rfl⟩
    rw [hc] at HGT HAP HEN HNB1 HCo0 ⊢
    have hlk := fun (e : c ≠ -1) => lk_lt (s := s) (i := j1) (by rw [hc]; exact e)
    clear hc
    by_cases h62 : c = 62
    · obtain ⟨hCm, hlt⟩ := HGT.out h62
      have HCm := Lib.hid hCm
      have h2 := sp_le s (j1 + 1) hlt
      have HNB2 := Lib.hid (sp_end s (j1 + 1) hlt)
      have q2 : (c == 62) = true := by simpa using h62
      obtain ⟨c0, c1, f0, f1⟩ := HR4.out.cells
      have hR5 : Rr (w4.setCell ⟨b, 1, none⟩ (.int .i64 ((j1 : Int) + 1))) b s (j1 + 1) := by have := HR4.out.set (j1 + 1); simpa using this
      have hg5 : Gr b w4 (w4.setCell ⟨b, 1, none⟩ (.int .i64 ((j1 : Int) + 1))) := Gr.set b 1 w4 _
      have HG5 := Lib.hid (HG4.out.trans hg5)
      have HW5 := Lib.hid (HW4.out.gr hbw hg5)
      have HS2 := Lib.hid (HS.out (j1 + 1) hlt _ hR5)
      clear hR5 hg5 h62 hCm HGT HAP HEN hlk
      generalize sp s (j1 + 1) = j2 at *
      generalize decide (j < j1) = q9
      go_wp2_with fail
      refine HS2.out.mono ?_
      rintro e w5 ⟨rfl, hr, hg⟩
      have HG8 := Lib.hid (HG5.out.trans hg)
      have HW8 := Lib.hid (HW5.out.gr hbw hg)
      have HCo := Lib.hid (HC.out j2 h2.2 w5 hr _ _ HCm.out HNB2.out)
      clear hr hg c0 c1 f0 f1
      generalize decide (j1 + 1 < j2) = q8
      go_wp2_with fail
      refine HCo.out.mono ?_
      rintro e w6 ⟨hcs, hg⟩
      have HG6 := Lib.hid (HG8.out.trans hg)
      have HW6 := Lib.hid (HW8.out.gr hbw hg)
      clear hg
      rcases hcs with ⟨T2, j', v2, rfl, hT2, hr2, hd2, hij2, hjs2, hmk2⟩ | ⟨k, hmis, hpe⟩
      · obtain ⟨p2, cap2, rfl, -⟩ := own_form2 hT2
        have HT6 := Lib.hid (own_mono hT2 HG8.out.size)
        have HR6 := Lib.hid hr2
        have HD6 := Lib.hid hd2
        have HMK6 := Lib.hid hmk2
        clear hT2 hr2 hd2 hmk2
        obtain ⟨n2, hn2⟩ : ∃ n2, T2.length = n2 := ⟨_, rfl⟩
        have HN2 := Lib.hid hn2
        rw [hn2] at HT6 ⊢
        clear hn2
        have HXB : Hid (Below w6.heap.size w6 (w6.alloc (.cells #[.slice p2 n2 cap2, .bool true] 162))) := Lib.hid ((Below.refl _ _).alloc (Nat.le_refl _) _)
        have HX := Lib.hid (own_below HW6.out.row HXB.out)
        have HXC := Lib.hid (cells2 _ _ _ _ _ (heap_alloc_new w6 (.cells #[.slice p2 n2 cap2, .bool true] 162)))
        have HXS := Lib.hid (Nat.le_trans HG6.out.size HXB.out.size)
        obtain ⟨nl, hnl⟩ : ∃ nl, l.length = nl := ⟨_, rfl⟩
        have HNL := Lib.hid hnl
        rw [hnl] at HX hlj ⊢
        clear hnl
        go_wp2_with (at_builtin; refine wpList_append_own_at _ rfl _ _ 149 rfl w.heap.size 162 i0 (.agg #[.slice none 0 0, .bool false]) 2 32 Tryz.underlying149 HJ.out.1 HJ.out.2.1 HJ.out.2.2.1 HJ.out.2.2.2 rfl (by decide) _ _ _ rfl HX.out ⟨w6.heap.size, 0, none⟩ 1 1 [.slice p2 n2 cap2, .bool true] rfl rfl HXC.out (by intro u hu; simp only [List.mem_cons, List.not_mem_nil, or_false] at hu; rcases hu with rfl | rfl <;> rfl) (by unfold maxLen; omega) (by omega) HXS.out ?_; intro v' V' hown' hgrow _ hat; have HO' := Lib.hid hown'; have HGR := Lib.hid hgrow; clear hown' hgrow hat)
        obtain ⟨p', cap', rfl, -⟩ := own_form2 HO'.out
        have HR9 : Hid (Rr V' b s j') := Lib.hid ((HR6.out.below HXB.out).grown HGR.out (own_apart HX.out (HR6.out.below HXB.out) (by decide)))
        have HG9 : Hid (Gr b w V') := Lib.hid ((HG6.out.trans (Gr.of HXB.out)).grown HGR.out (fun q e => (HX.out.lt q e).1))
        have hlen : (l ++ [((p2, cap2), (T2, true))]).length = nl + 1 := by rw [List.length_append, HNL.out]; rfl
        have HW9 : Hid (Rw V' w.heap.size (.slice p' (nl + 1) cap') (l ++ [((p2, cap2), (T2, true))])) := Lib.hid (by
         have hX := HW6.out.below HXB.out
         rw [HNL.out] at hX
         refine hX.more (m := ((p2, cap2), (T2, true))) ?_ ?_ HGR.out
         · show World.ownsRow _ _ _ _ (.slice p2 T2.length cap2) T2.length _
           rw [HN2.out]
           exact own_below HT6.out HXB.out
         · rw [HNL.out]
           have := HO'.out
           show World.ownsRow _ _ _ _ _ _ (_ ++ [.slice p2 T2.length cap2, .bool true])
           rw [HN2.out]
           exact this)
        have HD9 : Hid (Rdy s j' R (r ++ [⟨T, ch⟩]) (T2.map te) true /\ mkB (lk s j') = false /\ (l ++ [((p2, cap2), (T2, true))]).map stp = (r ++ [⟨T, ch⟩]) ++ [⟨T2.map te, true⟩]) := Lib.hid ⟨HD6.out, HMK6.out, by rw [List.map_append, HD.out.2.2]; rfl⟩
        go_roundw
        case rel => exact ⟨V', l ++ [((p2, cap2), (T2, true))], j', r ++ [⟨T, ch⟩], T2.map te, true, p', cap', rfl, by rw [hlen], by omega, hjs2, by omega, Lib.hid (by rw [hlen]; exact HW9.out), HR9, HD9, HG9⟩
        case measure =>
         rw [HAt.out, HR9.out.atOf]
         omega
      · have HPE := Lib.hid hpe
        unfold Mis at hmis
        subst hmis
        clear hpe
        go_wp2
        exact ⟨rfl, .inr ⟨k, rfl, HPE.out⟩, HG6.out⟩
    · have q2 : (c == 62) = false := by simpa using h62
      by_cases hB : j < j1 /\ c ≠ 44 /\ c ≠ -1
      · have HCo := Lib.hid (HCo0.out HNB1.out (HAP.out hB.1 h62 hB.2.1 hB.2.2))
        have hlt := hlk hB.2.2
        have q3 : decide (j < j1) = true := by simpa using hB.1
        have q4 : (c != 44) = true := by simpa using hB.2.1
        have q5 : (c != -1) = true := by simpa using hB.2.2
        have hjj := hB.1
        rw [q3]
        clear HGT HAP HEN hlk h62 hB q3
        go_wp2_with fail
        refine HCo.out.mono ?_
        rintro e w6 ⟨hcs, hg⟩
        have HG6 := Lib.hid (HG4.out.trans hg)
        have HW6 := Lib.hid (HW4.out.gr hbw hg)
        clear hg
        rcases hcs with ⟨T2, j', v2, rfl, hT2, hr2, hd2, hij2, hjs2, hmk2⟩ | ⟨k, hmis, hpe⟩
        · obtain ⟨p2, cap2, rfl, -⟩ := own_form2 hT2
          have HT6 := Lib.hid (own_mono hT2 HG4.out.size)
          have HR6 := Lib.hid hr2
          have HD6 := Lib.hid hd2
          have HMK6 := Lib.hid hmk2
          clear hT2 hr2 hd2 hmk2
          obtain ⟨n2, hn2⟩ : ∃ n2, T2.length = n2 := ⟨_, rfl⟩
          have HN2 := Lib.hid hn2
          rw [hn2] at HT6 ⊢
          clear hn2
          have HXB : Hid (Below w6.heap.size w6 (w6.alloc (.cells #[.slice p2 n2 cap2, .bool false] 162))) := Lib.hid ((Below.refl _ _).alloc (Nat.le_refl _) _)
          have HX := Lib.hid (own_below HW6.out.row HXB.out)
          have HXC := Lib.hid (cells2 _ _ _ _ _ (heap_alloc_new w6 (.cells #[.slice p2 n2 cap2, .bool false] 162)))
          have HXS := Lib.hid (Nat.le_trans HG6.out.size HXB.out.size)
          obtain ⟨nl, hnl⟩ : ∃ nl, l.length = nl := ⟨_, rfl⟩
          have HNL := Lib.hid hnl
          rw [hnl] at HX hlj ⊢
          clear hnl
          go_wp2_with (at_builtin; refine wpList_append_own_at _ rfl _ _ 149 rfl w.heap.size 162 i0 (.agg #[.slice none 0 0, .bool false]) 2 32 Tryz.underlying149 HJ.out.1 HJ.out.2.1 HJ.out.2.2.1 HJ.out.2.2.2 rfl (by decide) _ _ _ rfl HX.out ⟨w6.heap.size, 0, none⟩ 1 1 [.slice p2 n2 cap2, .bool false] rfl rfl HXC.out (by intro u hu; simp only [List.mem_cons, List.not_mem_nil, or_false] at hu; rcases hu with rfl | rfl <;> rfl) (by unfold maxLen; omega) (by omega) HXS.out ?_; intro v' V' hown' hgrow _ hat; have HO' := Lib.hid hown'; have HGR := Lib.hid hgrow; clear hown' hgrow hat)
          obtain ⟨p', cap', rfl, -⟩ := own_form2 HO'.out
          have HR9 : Hid (Rr V' b s j') := Lib.hid ((HR6.out.below HXB.out).grown HGR.out (own_apart HX.out (HR6.out.below HXB.out) (by decide)))
          have HG9 : Hid (Gr b w V') := Lib.hid ((HG6.out.trans (Gr.of HXB.out)).grown HGR.out (fun q e => (HX.out.lt q e).1))
          have hlen : (l ++ [((p2, cap2), (T2, false))]).length = nl + 1 := by rw [List.length_append, HNL.out]; rfl
          have HW9 : Hid (Rw V' w.heap.size (.slice p' (nl + 1) cap') (l ++ [((p2, cap2), (T2, false))])) := Lib.hid (by
           have hX := HW6.out.below HXB.out
           rw [HNL.out] at hX
           refine hX.more (m := ((p2, cap2), (T2, false))) ?_ ?_ HGR.out
           · show World.ownsRow _ _ _ _ (.slice p2 T2.length cap2) T2.length _
             rw [HN2.out]
             exact own_below HT6.out HXB.out
           · rw [HNL.out]
             have := HO'.out
             show World.ownsRow _ _ _ _ _ _ (_ ++ [.slice p2 T2.length cap2, .bool false])
             rw [HN2.out]
             exact this)
          have HD9 : Hid (Rdy s j' R (r ++ [⟨T, ch⟩]) (T2.map te) false /\ mkB (lk s j') = false /\ (l ++ [((p2, cap2), (T2, false))]).map stp = (r ++ [⟨T, ch⟩]) ++ [⟨T2.map te, false⟩]) := Lib.hid ⟨HD6.out, HMK6.out, by rw [List.map_append, HD.out.2.2]; rfl⟩
          go_roundw
          case rel => exact ⟨V', l ++ [((p2, cap2), (T2, false))], j', r ++ [⟨T, ch⟩], T2.map te, false, p', cap', rfl, by rw [hlen], by omega, hjs2, by omega, Lib.hid (by rw [hlen]; exact HW9.out), HR9, HD9, HG9⟩
          case measure =>
           rw [HAt.out, HR9.out.atOf]
           omega
        · have HPE := Lib.hid hpe
          unfold Mis at hmis
          subst hmis
          clear hpe
          go_wp2
          exact ⟨rfl, .inr ⟨k, rfl, HPE.out⟩, HG6.out⟩
      · have HRD := Lib.hid (HEN.out h62 hB)
        have hcase : decide (j < j1) = false \/ (decide (j < j1) = true /\ (c != 44) = false) \/ (decide (j < j1) = true /\ (c != 44) = true /\ (c != -1) = false) := by
         by_cases a : j < j1
         · by_cases b4 : c = 44
           · exact .inr (.inl ⟨by simpa using a, by simpa using b4⟩)
           · by_cases b5 : c = -1
             · exact .inr (.inr ⟨by simpa using a, by simpa using b4, by simpa using b5⟩)
             · exact absurd ⟨a, b4, b5⟩ hB
         · exact .inl (by simpa using a)
        clear HGT HAP HEN hlk h62 hB
        rcases hcase with q3 | ⟨q3, q4⟩ | ⟨q3, q4, q5⟩
        all_goals
         rw [q3]
         clear q3
         go_wp2
         go_ret
         exact ⟨.inl ⟨l, j1, _, rfl, HW4.out, HR4.out, by rw [HD.out.2.2]; exact HRD.out, by omega, h1.2⟩, HG4.out⟩
 · have HPE := Lib.hid hpe
   unfold Mis at hmis
   subst hmis
   clear hpe
   go_wp2
   exact ⟨rfl, .inr ⟨k, rfl, HPE.out⟩, HG2.out⟩
end Go.Proofs.YtcndplnnighjkaaGreatDoor.Sx
namespace Go.Proofs.YtcndplnnighjkaaGreatDoor.Sx
open Go.ChangeShapes Go.WideShapes Go.ChangeAt Go.RowKit
open Go.PlainAid (bt)
open Sl (St Te Stp Mo tstep cstep fin isB isL isN)
set_option linter.unusedVariables false
set_option linter.unusedSimpArgs false
abbrev Mr := (Option Addr × Nat) × List Ms
def r1 (m : Mr) : Value := .slice m.1.1 m.2.length m.1.2
def rcells (x : List Mr) : List Value := x.map r1
def rws (x : List Mr) : List (List Stp) := x.map (fun m => m.2.map stp)
theorem info_row : (Tryz.prog.info? 149).map (fun i => (i.zero, i.size, i.bytes)) = some (some (.slice none 0 0), 1, 24) := by kernel_rfl
structure Sr (w : World) (base : Nat) (v : Value) (x : List Mr) : Prop where
 row : w.ownsRow base 149 1 v x.length (rcells x)
 sub : ∀ m ∈ x, Rw w base (.slice m.1.1 m.2.length m.1.2) m.2
theorem Sr.below {w w' : World} {base : Nat} {v : Value} {x : List Mr} (h : Sr w base v x) (hb : Below w.heap.size w w') : Sr w' base v x := ⟨own_below h.row hb, fun m hm => (h.sub m hm).below hb⟩
theorem Sr.gr {w w' : World} {base b : Nat} {v : Value} {x : List Mr} (h : Sr w base v x) (hb : b < base) (hg : Gr b w w') : Sr w' base v x := ⟨own_gr h.row hb hg, fun m hm => (h.sub m hm).gr hb hg⟩
theorem Sr.mono {w : World} {base base' : Nat} {v : Value} {x : List Mr} (h : Sr w base v x) (hb : base' <= base) : Sr w base' v x := ⟨own_mono h.row hb, fun m hm => (h.sub m hm).mono hb⟩
theorem Rw.kept {w w' : World} {base base2 : Nat} {v v2 : Value} {l : List Ms} {x : List Mr} (h : Rw w base v l) (hr : w.ownsRow base2 149 1 v2 x.length (rcells x)) (hg : w.grownBy w' v2.ownBlock) : Rw w' base v l :=
 ⟨h.row.kept hg (own_apart2 h.row hr (by decide)), fun m hm => (h.sub m hm).kept hg (own_apart2 (h.sub m hm) hr (by decide))⟩
theorem Sr.more {w w' : World} {base : Nat} {v v' : Value} {x : List Mr} {m : Mr} (h : Sr w base v x) (ht : Rw w base (.slice m.1.1 m.2.length m.1.2) m.2) (hr : w'.ownsRow base 149 1 v' (x.length + 1) (rcells x ++ [r1 m])) (hg : w.grownBy w' v.ownBlock) : Sr w' base v' (x ++ [m]) := by
 refine ⟨by rw [List.length_append, rcells, List.map_append]; exact hr, fun y hy => ?_⟩
 rw [List.mem_append, List.mem_singleton] at hy
 rcases hy with hy | rfl
 · exact (h.sub y hy).kept h.row hg
 · exact ht.kept h.row hg
theorem own_new1 (w : World) (base : Nat) (hb : base <= w.heap.size) (x : Value) (t : TypeId) (h1 : x.oneCell' = true) : (w.alloc (.cells #[x] t)).ownsRow base t 1 (.slice (some ⟨w.heap.size, 0, none⟩) 1 1) 1 [x] :=
 ⟨rfl, .inr ⟨w.heap.size, 1, #[x], rfl, hb, heap_alloc_new _ _, Nat.le_refl _, by simp [maxLen], rfl, by simp [h1]⟩⟩
theorem cells1 (w : World) (g : Nat) (x : Value) (t : TypeId) (h : w.heap[g]? = some (.cells #[x] t (0, 0))) : ∀ j u, [x][j]? = some u -> w.cell? ((⟨g, 0, none⟩ : Addr).add j) = some u := by
 intro j u hu
 rw [add_plain, Nat.zero_add]
 match j, hu with
 | 0, hu => cases hu; simp [World.cell?, h]
 | j + 1, hu => simp at hu
theorem rdr_comma {s : ByteArray} {j : Nat} {R : List (List Stp)} {rw : List Stp} (h : RdR s j R rw) (hc : lk s j = 44) : At s (j + 1) ⟨R ++ [rw], [], [], false, .comp⟩ := by
 obtain ⟨st, h1, h2, h3⟩ := h
 exact h1.step (lk_byte (c := 44) hc) (by rw [h3 44 (lk_byte (c := 44) hc)]; rfl)
theorem rdr_end {s : ByteArray} {j : Nat} {R : List (List Stp)} {rw : List Stp} (h : RdR s j R rw) (hc : lk s j = -1) : Sl.parse (ls s) = .ok (R ++ [rw]) := by
 obtain ⟨st, h1, h2, h3⟩ := h
 have hj : j = s.size := by
  rcases Nat.lt_or_ge j s.size with hlt | hge
  · obtain ⟨c, -, e⟩ := lk_get hlt
    omega
  · exact Nat.le_antisymm h1.1 hge
 subst hj
 exact h1.done h2
theorem rdr_not {s : ByteArray} {j : Nat} {R : List (List Stp)} {rw : List Stp} (h : RdR s j R rw) (hc : lk s j ≠ -1) (h44 : lk s j ≠ 44) : Sl.parse (ls s) = .error j := by
 obtain ⟨st, h1, h2, h3⟩ := h
 refine h1.stop (fun c hc' => ?_) (fun e => absurd (lk_lt hc) (by omega))
 have : c ≠ 44 := by rintro rfl; exact h44 (lk_some hc').1
 rw [h3 c hc', if_neg this]
set_option maxRecDepth 100000 in
set_option maxHeartbeats 4000000 in
theorem sel_selector (b : Nat) (s : ByteArray) (w : World) (h : Rr w b s 0) (hs : s.size <= 4000000) :
 Calls Tryz.prog 112 #[.pointer (some ⟨b, 0, none⟩)] w fun e w' => ((∃ (x : List Mr) (v : Value), e = .returned v /\ Sr w' w.heap.size v x /\ Sl.parse (ls s) = .ok (rws x)) \/ (∃ k, Mis e k /\ Sl.parse (ls s) = .error k)) /\ Gr b w w' := by
 have HL := Lib.hid (fun (k : Nat) (hk : k <= s.size) (V : World) (hV : Rr V b s k) => sel_look b s k V hV hk hs)
 have HT := Lib.hid (fun (k : Nat) (hk : k <= s.size) (V : World) (hV : Rr V b s k) => sel_take b s k 44 V hV hk hs (by decide))
 have HW := Lib.hid (fun (k : Nat) (V : World) (hV : Rr V b s k) (R : List (List Stp)) (hA : At s k ⟨R, [], [], false, .comp⟩) => sel_row b s k V R hV hs hA)
 have HW0 := Lib.hid (HW.out 0 w h [] (At.zero s))
 have hbw := h.lt
 obtain ⟨i0, hi0, hz0, hz1, hz2⟩ := info_parts info_row
 have HJ := Lib.hid (And.intro hi0 (And.intro hz0 (And.intro hz1 hz2)))
 clear h hi0 hz0 hz1 hz2
 go_enter Tryz.func112, Tryz.ntmps112
 go_wp2_with fail
 refine HW0.out.mono ?_
 rintro e w1 ⟨hcs, hg⟩
 have HG1 := Lib.hid hg
 clear hg
 rcases hcs with ⟨l, j, v, rfl, hw, hr, hd, hij, hjs⟩ | ⟨k, hmis, hpe⟩
 · obtain ⟨p, cap, rfl, -⟩ := own_form2 hw.row
   have HXB : Hid (Below w1.heap.size w1 (w1.alloc (.cells #[.slice p l.length cap] 149))) := Lib.hid ((Below.refl _ _).alloc (Nat.le_refl _) _)
   have HS0 : Hid (Sr (w1.alloc (.cells #[.slice p l.length cap] 149)) w.heap.size (.slice (some ⟨w1.heap.size, 0, none⟩) 1 1) [((p, cap), l)]) := Lib.hid (by
    refine ⟨own_new1 w1 w.heap.size HG1.out.size _ _ rfl, fun m hm => ?_⟩
    simp only [List.mem_singleton] at hm
    subst hm
    exact hw.below HXB.out)
   have HRa := Lib.hid (hr.below HXB.out)
   have HGa := Lib.hid (HG1.out.trans (Gr.of HXB.out))
   have HDa : Hid (∃ R rw, RdR s j R rw /\ rws [((p, cap), l)] = R ++ [rw]) := Lib.hid ⟨_, _, hd, rfl⟩
   clear hw hr hd
   obtain ⟨n0, hn0⟩ : ∃ n0, l.length = n0 := ⟨_, rfl⟩
   rw [hn0] at HXB HS0 HRa HGa ⊢
   clear hn0
   go_wp2_with fail
   generalize w1.alloc (.cells #[.slice p n0 cap] 149) = Wa at *
   generalize w1.heap.size = ga at *
   go_loopw [3] (fun q wr => ∃ (V : World) (x : List Mr) (j : Nat) (p : Option Addr) (cap : Nat), V = wr /\ q = .slice p x.length cap /\ j <= s.size /\ x.length <= j /\ Hid (Sr V w.heap.size (.slice p x.length cap) x) /\ Hid (Rr V b s j) /\ Hid (∃ R rw, RdR s j R rw /\ rws x = R ++ [rw]) /\ Hid (Gr b w V)) (fun _ wr => s.size - atOf b wr)
   case atStart => exact ⟨_, [((p, cap), l)], j, _, _, rfl, rfl, hjs, by simp; omega, HS0, HRa, HDa, HGa⟩
   case round =>
    clear HXB HS0 HRa HGa HDa hij hjs HG1
    obtain ⟨V, x, j, p, cap, rfl, rfl, hjs, hxj, HS, HR, HD, HG⟩ := hrel
    have HL1 := Lib.hid (HL.out j hjs V HR.out)
    have HAt := Lib.hid HR.out.atOf
    go_wp2_with fail
    refine HL1.out.mono ?_
    rintro e w3 ⟨rfl, hb⟩
    have HR3 := Lib.hid (HR.out.below hb)
    have HG3 := Lib.hid (HG.out.trans (Gr.of hb))
    have HS3 := Lib.hid (HS.out.below hb)
    have HT3 := Lib.hid (HT.out j hjs w3 HR3.out)
    clear hb
    by_cases h1 : lk s j = -1
    · have HPE : Hid (Sl.parse (ls s) = .ok (rws x)) := Lib.hid (by
       obtain ⟨R, rw, hd, e⟩ := HD.out
       rw [e]
       exact rdr_end hd h1)
      have q1 : (lk s j != -1) = false := by simpa using h1
      generalize lk s j = c at *
      clear h1
      go_wp2
      go_ret
      exact ⟨.inl ⟨x, _, rfl, HS3.out, HPE.out⟩, HG3.out⟩
    · have q1 : (lk s j != -1) = true := by simpa using h1
      by_cases h44 : lk s j = 44
      · obtain ⟨R, rw', hd, e⟩ := HD.out
        have HA := Lib.hid (rdr_comma hd h44)
        have HE := Lib.hid e
        simp only [if_pos h44] at HT3
        have hlt := lk_lt h1
        generalize lk s j = c at *
        clear h1 h44 hd e HD
        go_wp2_with fail
        refine HT3.out.mono ?_
        rintro e w4 ⟨⟨rfl, hr⟩, hg⟩
        have HG4 := Lib.hid (HG3.out.trans hg)
        have HS4 := Lib.hid (HS3.out.gr hbw hg)
        have HW4 := Lib.hid (HW.out (j + 1) w4 hr _ HA.out)
        clear hr hg
        go_wp2_with fail
        refine HW4.out.mono ?_
        rintro e w6 ⟨hcs, hg⟩
        have HG6 := Lib.hid (HG4.out.trans hg)
        have HS6 := Lib.hid (HS4.out.gr hbw hg)
        clear hg
        rcases hcs with ⟨l2, j', v2, rfl, hw2, hr2, hd2, hij2, hjs2⟩ | ⟨k, hmis, hpe⟩
        · obtain ⟨p2, cap2, rfl, -⟩ := own_form2 hw2.row
          have HW6 := Lib.hid (hw2.mono HG4.out.size)
          have HR6 := Lib.hid hr2
          have HD6 := Lib.hid hd2
          clear hw2 hr2 hd2
          obtain ⟨n2, hn2⟩ : ∃ n2, l2.length = n2 := ⟨_, rfl⟩
          have HN2 := Lib.hid hn2
          rw [hn2] at HW6 ⊢
          clear hn2
          have HXB : Hid (Below w6.heap.size w6 (w6.alloc (.cells #[.slice p2 n2 cap2] 149))) := Lib.hid ((Below.refl _ _).alloc (Nat.le_refl _) _)
          have HX := Lib.hid (own_below HS6.out.row HXB.out)
          have HXC := Lib.hid (cells1 _ _ _ _ (heap_alloc_new w6 (.cells #[.slice p2 n2 cap2] 149)))
          have HXS := Lib.hid (Nat.le_trans HG6.out.size HXB.out.size)
          obtain ⟨nl, hnl⟩ : ∃ nl, x.length = nl := ⟨_, rfl⟩
          have HNL := Lib.hid hnl
          rw [hnl] at HX hxj ⊢
          clear hnl
          go_wp2_with (at_builtin; refine wpList_append_own_at _ rfl _ _ 102 rfl w.heap.size 149 i0 (.slice none 0 0) 1 24 Tryz.underlying102 HJ.out.1 HJ.out.2.1 HJ.out.2.2.1 HJ.out.2.2.2 rfl (by decide) _ _ _ rfl HX.out ⟨w6.heap.size, 0, none⟩ 1 1 [.slice p2 n2 cap2] rfl rfl HXC.out (by intro u hu; simp only [List.mem_cons, List.not_mem_nil, or_false] at hu; subst hu; rfl) (by unfold maxLen; omega) (by omega) HXS.out ?_; intro v' V' hown' hgrow _ hat; have HO' := Lib.hid hown'; have HGR := Lib.hid hgrow; clear hown' hgrow hat)
          obtain ⟨p', cap', rfl, -⟩ := own_form2 HO'.out
          have HR9 : Hid (Rr V' b s j') := Lib.hid ((HR6.out.below HXB.out).grown HGR.out (own_apart HX.out (HR6.out.below HXB.out) (by decide)))
          have HG9 : Hid (Gr b w V') := Lib.hid ((HG6.out.trans (Gr.of HXB.out)).grown HGR.out (fun q e => (HX.out.lt q e).1))
          have hlen : (x ++ [((p2, cap2), l2)]).length = nl + 1 := by rw [List.length_append, HNL.out]; rfl
          have HS9 : Hid (Sr V' w.heap.size (.slice p' (nl + 1) cap') (x ++ [((p2, cap2), l2)])) := Lib.hid (by
           have hX := HS6.out.below HXB.out
           rw [HNL.out] at hX
           refine hX.more (m := ((p2, cap2), l2)) ?_ ?_ HGR.out
           · show Rw _ _ (.slice p2 l2.length cap2) l2
             rw [HN2.out]
             exact HW6.out.below HXB.out
           · rw [HNL.out]
             have := HO'.out
             show World.ownsRow _ _ _ _ _ _ (_ ++ [.slice p2 l2.length cap2])
             rw [HN2.out]
             exact this)
          have HD9 : Hid (∃ R rw, RdR s j' R rw /\ rws (x ++ [((p2, cap2), l2)]) = R ++ [rw]) := Lib.hid ⟨_, _, HD6.out, by rw [rws, List.map_append]; rw [rws] at HE; rw [HE.out]; rfl⟩
          go_roundw
          case rel => exact ⟨V', x ++ [((p2, cap2), l2)], j', p', cap', rfl, by rw [hlen], hjs2, by omega, Lib.hid (by rw [hlen]; exact HS9.out), HR9, HD9, HG9⟩
          case measure =>
           rw [HAt.out, HR9.out.atOf]
           omega
        · have HPE := Lib.hid hpe
          unfold Mis at hmis
          subst hmis
          clear hpe
          go_wp2
          exact ⟨rfl, .inr ⟨k, rfl, HPE.out⟩, HG6.out⟩
      · have HPE : Hid (Sl.parse (ls s) = .error j) := Lib.hid (by
         obtain ⟨R, rw, hd, e⟩ := HD.out
         exact rdr_not hd h1 h44)
        simp only [if_neg h44] at HT3
        generalize lk s j = c at *
        clear h1 h44
        go_wp2_with fail
        refine HT3.out.mono ?_
        rintro e w4 ⟨he, hg⟩
        unfold Mis at he
        subst he
        have HG4 := Lib.hid (HG3.out.trans hg)
        clear hg
        go_wp2
        exact ⟨rfl, .inr ⟨j, rfl, HPE.out⟩, HG4.out⟩
 · have HPE := Lib.hid hpe
   unfold Mis at hmis
   subst hmis
   clear hpe
   go_wp2
   exact ⟨rfl, .inr ⟨k, rfl, HPE.out⟩, HG1.out⟩
end Go.Proofs.YtcndplnnighjkaaGreatDoor.Sx
namespace Go.Proofs.YtcndplnnighjkaaGreatDoor.Sx
open Go.ChangeShapes Go.WideShapes Go.ChangeAt Go.RowKit
open Go.PlainAid (bt)
set_option linter.unusedVariables false
set_option linter.unusedSimpArgs false
theorem parse_idle (p q : Addr) (w : World) :
 CallsD Tryz.prog 111 #[.pointer (some p), .pointer (some q)] .returning w fun e u' w' => e = .returned (.tuple #[]) /\ u' = .returning /\ w' = w := by
 refine callsD_of_wpS Tryz.func111 rfl fun c₀ cs hu => ?_
 apply wpS_seq
 apply wpS_region
 simp [wpOpsS, go_sem, recoverD, hu, Tryz.ntmps111, Exit.thenS]
 apply wpS_seq
 apply wpS_region
 simp [wpOpsS, go_sem, recoverD, hu, Tryz.ntmps111, Exit.thenS]
 refine wpS_cond (t := false) (by simp [Act.eval, Array.replicate]) ?_
 simp only [Bool.false_eq_true, if_false]
 refine wpS_of_wp (wp_skip ?_)
 cases c₀
 simp_all [bodyPostS, results, Tryz.results111]
theorem parse_caught (p q : Addr) (k x y : Int) (w : World) (hp : w.cell? p = some (.int .i64 x)) (fp : w.frozen? p = false) (hq : w.cell? q = some (.int .i64 y)) (fq : w.frozen? q = false) (hne : p ≠ q) :
 CallsD Tryz.prog 111 #[.pointer (some p), .pointer (some q)] (.panicking [{ v := .iface 130 (.int .i64 k), recovered := false }]) w fun e u' w' => e = .returned (.tuple #[]) /\ u' = .panicking [{ v := .iface 130 (.int .i64 k), recovered := true }] /\ w' = (w.setCell p (.int .i64 k)).setCell q (.int .i64 90) := by
 refine callsD_of_wpS Tryz.func111 rfl fun c₀ cs hu => ?_
 apply wpS_seq
 apply wpS_region
 simp [wpOpsS, go_sem, recoverD, hu, Tryz.ntmps111, Exit.thenS]
 apply wpS_seq
 apply wpS_region
 simp [wpOpsS, go_sem, recoverD, hu, Tryz.ntmps111, Exit.thenS]
 refine wpS_cond (t := true) (by simp [Act.eval, Array.replicate]) ?_
 simp only [if_true]
 apply wpS_region
 have hq2 : (w.setCell p (.int .i64 k)).cell? q = some (.int .i64 y) := by
  rw [World.cell?_setCell_other _ _ _ _ (by first | exact hne | exact fun e => hne e.symm)]; exact hq
 have hta : ∀ W, Sem.run Tryz.prog (Instr.typeAssert (.iface 130 (.int .i64 k)) 20 130 false) W = .ok (.int .i64 k) W := fun W => by kernel_rfl
 have fq2 : (w.setCell p (.int .i64 k)).frozen? q = false := by rw [World.frozen?_setCell]; exact fq
 simp [wpOpsS, go_sem, hta, hp, fp, hq2, fq2, bodyPostS, results, Tryz.results111]
theorem two_cells {w : World} {g : Nat} {x y : Value} {t t' : TypeId} (b0 : w.heap[g]? = some (.cells #[x] t (0, 0))) (b1 : w.heap[g + 1]? = some (.cells #[y] t' (0, 0))) (u v : Value) :
 ((w.setCell ⟨g, 0, none⟩ u).setCell ⟨g + 1, 0, none⟩ v).cell? ⟨g, 0, none⟩ = some u /\ ((w.setCell ⟨g, 0, none⟩ u).setCell ⟨g + 1, 0, none⟩ v).cell? ⟨g + 1, 0, none⟩ = some v := by
 constructor <;> simp [World.setCell, World.cell?, Array.getElem?_modify, b0, b1]
def PRes (s : ByteArray) (w : World) (e : Ending) (w' : World) : Prop :=
 ((∃ (x : List Mr) (v : Value), e = .returned (.tuple #[v, .int .i64 0, .int .i64 0]) /\ Sr w' w.heap.size v x /\ Sl.parse (ls s) = .ok (rws x)) \/ (∃ k : Nat, e = .returned (.tuple #[.slice none 0 0, .int .i64 k, .int .i64 90]) /\ Sl.parse (ls s) = .error k)) /\ Below w.heap.size w w'
set_option maxRecDepth 100000 in
set_option maxHeartbeats 4000000 in
theorem sel_parse (s : ByteArray) (w : World) (hs : s.size <= 4000000) : Calls Tryz.prog 68 #[.string s] w (PRes s w) := by
 have hmf : ∀ (fn : Fn) (first cap : Array Value) (w : World), (Instr.makeFunc fn first cap).run Tryz.prog w = .ok (.func fn first cap) w := fun _ _ _ _ => rfl
 obtain ⟨W0, hW0⟩ : ∃ W0, W0 = ((w.alloc (.cells #[.int .i64 0] 3)).alloc (.cells #[.int .i64 0] 29)).alloc (.cells #[.string s, .int .i64 0] 132) := ⟨_, rfl⟩
 have HB0 : Hid (Below w.heap.size w W0) := Lib.hid (by rw [hW0]; exact (((Below.refl _ _).alloc (Nat.le_refl _) _).alloc (by simp) _).alloc (by simp; omega) _)
 have hX0 : W0.heap[w.heap.size]? = some (.cells #[.int .i64 0] 3 (0, 0)) := by
  rw [hW0]
  exact (Below.heap_alloc _ _ _ (by simp; omega)).trans ((Below.heap_alloc _ _ _ (by simp)).trans (heap_alloc_new w _))
 have hX1 : W0.heap[w.heap.size + 1]? = some (.cells #[.int .i64 0] 29 (0, 0)) := by
  rw [hW0]
  refine (Below.heap_alloc _ _ _ (by simp)).trans ?_
  have := heap_alloc_new (w.alloc (.cells #[.int .i64 0] 3)) (.cells #[.int .i64 0] 29)
  rwa [World.size_alloc] at this
 have hR0 : Rr W0 (w.heap.size + 1 + 1) s 0 := by
  unfold Rr
  rw [hW0]
  have := heap_alloc_new ((w.alloc (.cells #[.int .i64 0] 3)).alloc (.cells #[.int .i64 0] 29)) (.cells #[.string s, .int .i64 0] 132)
  simp only [World.size_alloc] at this
  exact this
 have HX0 := Lib.hid hX0
 have HX1 := Lib.hid hX1
 have hsz : W0.heap.size = w.heap.size + 1 + 1 + 1 := by rw [hW0]; simp
 have HSZ := Lib.hid hsz
 have HS := Lib.hid (sel_selector (w.heap.size + 1 + 1) s W0 hR0 hs)
 have HId := Lib.hid (fun (p q : Addr) (V : World) => parse_idle p q V)
 have HCa := Lib.hid (fun (p q : Addr) (k x y : Int) (V : World) h1 h2 h3 h4 h5 => parse_caught p q k x y V h1 h2 h3 h4 h5)
 clear hX0 hX1 hR0 hsz
 go_enter_defers Tryz.func68, Tryz.ntmps68
 go_wp2_with fail
 rw [<- hW0]
 clear hW0
 refine HS.out.mono ?_
 rintro e w1 ⟨hcs, hg⟩
 have b0 : w1.heap[w.heap.size]? = some (.cells #[.int .i64 0] 3 (0, 0)) := (hg.block _ (lt_block HX0.out) (by simp; omega)).trans HX0.out
 have b1 : w1.heap[w.heap.size + 1]? = some (.cells #[.int .i64 0] 29 (0, 0)) := (hg.block _ (lt_block HX1.out) (by simp)).trans HX1.out
 have HB1 : Hid (Below w.heap.size w w1) := Lib.hid (HB0.out.trans (hg.below (by omega) (by rw [HSZ.out]; omega)))
 have c0 : w1.cell? ⟨w.heap.size, 0, none⟩ = some (.int .i64 0) := by simp [World.cell?, b0]
 have c1 : w1.cell? ⟨w.heap.size + 1, 0, none⟩ = some (.int .i64 0) := by simp [World.cell?, b1]
 have f0 : w1.frozen? ⟨w.heap.size, 0, none⟩ = false := by simp [World.frozen?, b0]
 have f1 : w1.frozen? ⟨w.heap.size + 1, 0, none⟩ = false := by simp [World.frozen?, b1]
 have HC2 := Lib.hid (fun (u v : Value) => two_cells b0 b1 u v)
 clear b0 b1 hg
 have hne : (⟨w.heap.size, 0, none⟩ : Addr) ≠ ⟨w.heap.size + 1, 0, none⟩ := by simp
 have hne2 : (⟨w.heap.size + 1, 0, none⟩ : Addr) ≠ ⟨w.heap.size, 0, none⟩ := by simp
 rcases hcs with ⟨x, v, rfl, hS, hp⟩ | ⟨k, hm, hp⟩
 · have HP := Lib.hid hp
   have HSx : Hid (Sr ((w1.setCell ⟨w.heap.size, 0, none⟩ (.int .i64 0)).setCell ⟨w.heap.size + 1, 0, none⟩ (.int .i64 0)) w.heap.size v x) := Lib.hid (((hS.gr (b := w.heap.size) (by rw [HSZ.out]; omega) (Gr.set _ 0 _ _)).gr (b := w.heap.size + 1) (by rw [HSZ.out]; omega) (Gr.set _ 0 _ _)).mono (show w.heap.size <= W0.heap.size by rw [HSZ.out]; omega))
   clear hS hp
   go_wp2_with fail
   refine leaves_cons (f := 111) (args := #[.pointer (some ⟨w.heap.size, 0, none⟩), .pointer (some ⟨w.heap.size + 1, 0, none⟩)]) (by simp) (by simp [go_sem]) ?_
   refine (HId.out _ _ _).mono ?_
   rintro e u' w'' ⟨rfl, rfl, rfl⟩
   obtain ⟨z0, z1⟩ := HC2.out (.int .i64 0) (.int .i64 0)
   simp [Leaves, settle, results, Tryz.results68, go_sem, z0, z1]
   exact ⟨.inl ⟨x, v, rfl, HSx.out, HP.out⟩, (HB1.out.setCell (p := ⟨w.heap.size, 0, none⟩) (by simp) _).setCell (p := ⟨w.heap.size + 1, 0, none⟩) (by simp) _⟩
 · have HP := Lib.hid hp
   unfold Mis at hm
   subst hm
   clear hp
   go_wp2_with fail
   refine leaves_cons (f := 111) (args := #[.pointer (some ⟨w.heap.size, 0, none⟩), .pointer (some ⟨w.heap.size + 1, 0, none⟩)]) (by simp) (by simp [go_sem]) ?_
   refine (HCa.out _ _ k 0 0 _ c0 f0 c1 f1 hne).mono ?_
   rintro e u' w'' ⟨rfl, rfl, rfl⟩
   obtain ⟨z0, z1⟩ := HC2.out (.int .i64 k) (.int .i64 90)
   simp [Leaves, settle, results, Tryz.results68, go_sem, z0, z1]
   exact ⟨.inr ⟨k, rfl, HP.out⟩, (HB1.out.setCell (p := ⟨w.heap.size, 0, none⟩) (by simp) _).setCell (p := ⟨w.heap.size + 1, 0, none⟩) (by simp) _⟩
end Go.Proofs.YtcndplnnighjkaaGreatDoor.Sx
namespace Go.Proofs.YtcndplnnighjkaaGreatDoor.Sx
open Go.ChangeShapes Go.WideShapes Go.ChangeAt Go.RowKit
open Go.PlainAid (bt)
set_option linter.unusedVariables false
set_option linter.unusedSimpArgs false
def TR (w : World) (A : Option Addr) (T : List Tr) : Prop := ∀ i t, T[i]? = some t -> ∃ g off, A = some ⟨g, off, none⟩ /\ g < w.heap.size /\ w.cell? ⟨g, off + i * 3, none⟩ = some (.int .i64 t.1) /\ w.cell? ⟨g, off + i * 3 + 1, none⟩ = some (.string t.2.1) /\ w.cell? ⟨g, off + i * 3 + 2, none⟩ = some (.string t.2.2)
theorem TR.below {w w' : World} {A : Option Addr} {T : List Tr} (h : TR w A T) (hb : Below w.heap.size w w') : TR w' A T := fun i t hi => by
 obtain ⟨g, off, hA, hg, h1, h2, h3⟩ := h i t hi
 exact ⟨g, off, hA, Nat.lt_of_lt_of_le hg hb.size, (hb.cell hg).trans h1, (hb.cell hg).trans h2, (hb.cell hg).trans h3⟩
def MR (w : World) (A : Option Addr) (l : List Ms) : Prop := ∀ i m, l[i]? = some m -> ∃ g off, A = some ⟨g, off, none⟩ /\ g < w.heap.size /\ w.cell? ⟨g, off + i * 2, none⟩ = some (.slice m.1.1 m.2.1.length m.1.2) /\ w.cell? ⟨g, off + i * 2 + 1, none⟩ = some (.bool m.2.2) /\ TR w m.1.1 m.2.1
theorem MR.below {w w' : World} {A : Option Addr} {l : List Ms} (h : MR w A l) (hb : Below w.heap.size w w') : MR w' A l := fun i t hi => by
 obtain ⟨g, off, hA, hg, h1, h2, h3⟩ := h i t hi
 exact ⟨g, off, hA, Nat.lt_of_lt_of_le hg hb.size, (hb.cell hg).trans h1, (hb.cell hg).trans h2, h3.below hb⟩
def XR (w : World) (A : Option Addr) (x : List Mr) : Prop := ∀ i m, x[i]? = some m -> ∃ g off, A = some ⟨g, off, none⟩ /\ g < w.heap.size /\ w.cell? ⟨g, off + i, none⟩ = some (r1 m) /\ MR w m.1.1 m.2
theorem XR.below {w w' : World} {A : Option Addr} {x : List Mr} (h : XR w A x) (hb : Below w.heap.size w w') : XR w' A x := fun i t hi => by
 obtain ⟨g, off, hA, hg, h1, h3⟩ := h i t hi
 exact ⟨g, off, hA, Nat.lt_of_lt_of_le hg hb.size, (hb.cell hg).trans h1, h3.below hb⟩
theorem tcells_at : ∀ {T : List Tr} {i : Nat} {t : Tr}, T[i]? = some t -> (tcells T)[i * 3]? = some (.int .i64 t.1) /\ (tcells T)[i * 3 + 1]? = some (.string t.2.1) /\ (tcells T)[i * 3 + 2]? = some (.string t.2.2)
 | a :: l, 0, t, h => by cases h; simp [tcells, t3]
 | a :: l, i + 1, t, h => by
   have := tcells_at (T := l) (i := i) (t := t) (by simpa using h)
   have e : tcells (a :: l) = t3 a ++ tcells l := by simp [tcells]
   have e3 : (t3 a).length = 3 := rfl
   rw [e, List.getElem?_append_right (by omega), List.getElem?_append_right (by omega), List.getElem?_append_right (by omega), e3, show (i + 1) * 3 - 3 = i * 3 by omega, show (i + 1) * 3 + 1 - 3 = i * 3 + 1 by omega, show (i + 1) * 3 + 2 - 3 = i * 3 + 2 by omega]
   exact this
theorem scells_at : ∀ {l : List Ms} {i : Nat} {m : Ms}, l[i]? = some m -> (scells l)[i * 2]? = some (.slice m.1.1 m.2.1.length m.1.2) /\ (scells l)[i * 2 + 1]? = some (.bool m.2.2)
 | a :: l, 0, t, h => by cases h; simp [scells, s2]
 | a :: l, i + 1, t, h => by
   have := scells_at (l := l) (i := i) (m := t) (by simpa using h)
   have e : scells (a :: l) = s2 a ++ scells l := by simp [scells]
   have e3 : (s2 a).length = 2 := rfl
   rw [e, List.getElem?_append_right (by omega), List.getElem?_append_right (by omega), e3, show (i + 1) * 2 - 2 = i * 2 by omega, show (i + 1) * 2 + 1 - 2 = i * 2 + 1 by omega]
   exact this
theorem tr_of {w : World} {base : Nat} {A : Option Addr} {c : Nat} {T : List Tr} (h : w.ownsRow base 171 3 (.slice A T.length c) T.length (tcells T)) : TR w A T := by
 intro i t hi
 have hlt : i < T.length := (List.getElem?_eq_some_iff.1 hi).1
 rcases h.2 with ⟨-, h'⟩ | ⟨g, cap, cur, hv, hb, hg, h1, h2, -⟩
 · omega
 · cases hv
   obtain ⟨e1, e2, e3⟩ := tcells_at hi
   refine ⟨g, 0, rfl, lt_block hg, ?_, ?_, ?_⟩
   · have := h.cells rfl _ _ e1; rw [<- this, add_plain]
   · have := h.cells rfl _ _ e2; rw [<- this, add_plain]; congr 2
   · have := h.cells rfl _ _ e3; rw [<- this, add_plain]; congr 2
theorem mr_of {w : World} {base : Nat} {A : Option Addr} {c : Nat} {l : List Ms} (h : Rw w base (.slice A l.length c) l) : MR w A l := by
 intro i m hi
 have hlt : i < l.length := (List.getElem?_eq_some_iff.1 hi).1
 rcases h.row.2 with ⟨-, h'⟩ | ⟨g, cap, cur, hv, hb, hg, h1, h2, -⟩
 · omega
 · cases hv
   obtain ⟨e1, e2⟩ := scells_at hi
   refine ⟨g, 0, rfl, lt_block hg, ?_, ?_, tr_of (h.sub m (List.mem_of_getElem? hi))⟩
   · have := h.row.cells rfl _ _ e1; rw [<- this, add_plain]
   · have := h.row.cells rfl _ _ e2; rw [<- this, add_plain]; congr 2
theorem xr_of {w : World} {base : Nat} {v : Value} {x : List Mr} (h : Sr w base v x) : ∃ A c, v = .slice A x.length c /\ XR w A x := by
 obtain ⟨A, c, rfl, -⟩ := own_form2 h.row
 refine ⟨A, c, rfl, fun i m hi => ?_⟩
 have hlt : i < x.length := (List.getElem?_eq_some_iff.1 hi).1
 rcases h.row.2 with ⟨-, h'⟩ | ⟨g, cap, cur, hv, hb, hg, h1, h2, -⟩
 · omega
 · cases hv
   have e1 : (rcells x)[i]? = some (r1 m) := by simp [rcells, hi]
   refine ⟨g, 0, rfl, lt_block hg, ?_, mr_of (h.sub m (List.mem_of_getElem? hi))⟩
   have := h.row.cells rfl _ _ e1
   rw [<- this, add_plain]
end Go.Proofs.YtcndplnnighjkaaGreatDoor.Sx
