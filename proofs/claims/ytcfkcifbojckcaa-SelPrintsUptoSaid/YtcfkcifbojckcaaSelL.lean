/-
  The reader's selector.
-/
import Derived.Test.YtcfkcifbojckcaaSelK
namespace Go.Proofs.Ytcfkcifbojckcaa
open Go.ChangeShapes Go.WideShapes Go.ChangeAt Go.RowKit
open Go.PlainAid (bt)
open Sl (St Te Stp Mo tstep cstep fin isB isL isN)
set_option linter.unusedVariables false
set_option linter.unusedSimpArgs false

/-- A row: where its steps lie, and what they are. -/
abbrev Mr := (Option Addr × Nat) × List Ms
def r1 (m : Mr) : Value := .slice m.1.1 m.2.length m.1.2
def rcells (x : List Mr) : List Value := x.map r1
def rws (x : List Mr) : List (List Stp) := x.map (fun m => m.2.map stp)
theorem info_row : (Try.prog.info? 33).map (fun i => (i.zero, i.size, i.bytes)) = some (some (.slice none 0 0), 1, 24) := by kernel_rfl
/-- A selector of one's own. -/
structure Sr (w : World) (base : Nat) (v : Value) (x : List Mr) : Prop where
  row : w.ownsRow base 33 1 v x.length (rcells x)
  sub : ∀ m ∈ x, Rw w base (.slice m.1.1 m.2.length m.1.2) m.2
theorem Sr.below {w w' : World} {base : Nat} {v : Value} {x : List Mr} (h : Sr w base v x) (hb : Below w.heap.size w w') : Sr w' base v x := ⟨own_below h.row hb, fun m hm => (h.sub m hm).below hb⟩
theorem Sr.gr {w w' : World} {base b : Nat} {v : Value} {x : List Mr} (h : Sr w base v x) (hb : b < base) (hg : Gr b w w') : Sr w' base v x := ⟨own_gr h.row hb hg, fun m hm => (h.sub m hm).gr hb hg⟩
theorem Sr.mono {w : World} {base base' : Nat} {v : Value} {x : List Mr} (h : Sr w base v x) (hb : base' ≤ base) : Sr w base' v x := ⟨own_mono h.row hb, fun m hm => (h.sub m hm).mono hb⟩
theorem Rw.kept {w w' : World} {base base2 : Nat} {v v2 : Value} {l : List Ms} {x : List Mr} (h : Rw w base v l) (hr : w.ownsRow base2 33 1 v2 x.length (rcells x)) (hg : w.grownBy w' v2.ownBlock) : Rw w' base v l :=
  ⟨h.row.kept hg (own_apart2 h.row hr (by decide)), fun m hm => (h.sub m hm).kept hg (own_apart2 (h.sub m hm) hr (by decide))⟩
theorem Sr.more {w w' : World} {base : Nat} {v v' : Value} {x : List Mr} {m : Mr} (h : Sr w base v x) (ht : Rw w base (.slice m.1.1 m.2.length m.1.2) m.2) (hr : w'.ownsRow base 33 1 v' (x.length + 1) (rcells x ++ [r1 m])) (hg : w.grownBy w' v.ownBlock) : Sr w' base v' (x ++ [m]) := by
  refine ⟨by rw [List.length_append, rcells, List.map_append]; exact hr, fun y hy => ?_⟩
  rw [List.mem_append, List.mem_singleton] at hy
  rcases hy with hy | rfl
  · exact (h.sub y hy).kept h.row hg
  · exact ht.kept h.row hg
theorem own_new1 (w : World) (base : Nat) (hb : base ≤ w.heap.size) (x : Value) (t : TypeId) (h1 : x.oneCell' = true) : (w.alloc (.cells #[x] t)).ownsRow base t 1 (.slice (some ⟨w.heap.size, 0, none⟩) 1 1) 1 [x] :=
  ⟨rfl, .inr ⟨w.heap.size, 1, #[x], rfl, hb, heap_alloc_new _ _, Nat.le_refl _, by simp [maxLen], rfl, by simp [h1]⟩⟩
theorem cells1 (w : World) (g : Nat) (x : Value) (t : TypeId) (h : w.heap[g]? = some (.cells #[x] t (0, 0))) : ∀ j u, [x][j]? = some u → w.cell? ((⟨g, 0, none⟩ : Addr).add j) = some u := by
  intro j u hu
  rw [add_plain, Nat.zero_add]
  match j, hu with
  | 0, hu => cases hu; simp [World.cell?, h]
  | j + 1, hu => simp at hu
theorem rdr_comma {s : ByteArray} {j : Nat} {R : List (List Stp)} {rw : List Stp} (h : RdR s j R rw) (hc : lk s j = 44) : At s (j + 1) ⟨R ++ [rw], [], [], false, .comp⟩ := by
  obtain ⟨st, h1, h2, h3⟩ := h
  exact h1.step (lk_byte (c := 44) hc) (by rw [h3 44 (lk_byte (c := 44) hc)]; rfl)
theorem rdr_end {s : ByteArray} {j : Nat} {R : List (List Stp)} {rw : List Stp} (h : RdR s j R rw) (hc : lk s j = -1) : Sl.parse (ls s) = .ok (R ++ [rw]) := by
  obtain ⟨st, h1, h2, h3⟩ := h
  have hj : j = s.size := by
    rcases Nat.lt_or_ge j s.size with hlt | hge
    · obtain ⟨c, -, e⟩ := lk_get hlt
      omega
    · exact Nat.le_antisymm h1.1 hge
  subst hj
  exact h1.done h2
theorem rdr_not {s : ByteArray} {j : Nat} {R : List (List Stp)} {rw : List Stp} (h : RdR s j R rw) (hc : lk s j ≠ -1) (h44 : lk s j ≠ 44) : Sl.parse (ls s) = .error j := by
  obtain ⟨st, h1, h2, h3⟩ := h
  refine h1.stop (fun c hc' => ?_) (fun e => absurd (lk_lt hc) (by omega))
  have : c ≠ 44 := by rintro rfl; exact h44 (lk_some hc').1
  rw [h3 c hc', if_neg this]
set_option maxRecDepth 100000 in
set_option maxHeartbeats 4000000 in
theorem sel_selector (b : Nat) (s : ByteArray) (w : World) (h : Rr w b s 0) (hs : s.size ≤ 4000000) :
    Calls Try.prog 17 #[.pointer (some ⟨b, 0, none⟩)] w fun e w' => ((∃ (x : List Mr) (v : Value), e = .returned v ∧ Sr w' w.heap.size v x ∧ Sl.parse (ls s) = .ok (rws x)) ∨ (∃ k, Mis e k ∧ Sl.parse (ls s) = .error k)) ∧ Gr b w w' := by
  have HL := Lib.hid (fun (k : Nat) (hk : k ≤ s.size) (V : World) (hV : Rr V b s k) => sel_look b s k V hV hk hs)
  have HT := Lib.hid (fun (k : Nat) (hk : k ≤ s.size) (V : World) (hV : Rr V b s k) => sel_take b s k 44 V hV hk hs (by decide))
  have HW := Lib.hid (fun (k : Nat) (V : World) (hV : Rr V b s k) (R : List (List Stp)) (hA : At s k ⟨R, [], [], false, .comp⟩) => sel_row b s k V R hV hs hA)
  have HW0 := Lib.hid (HW.out 0 w h [] (At.zero s))
  have hbw := h.lt
  obtain ⟨i0, hi0, hz0, hz1, hz2⟩ := info_parts info_row
  have HJ := Lib.hid (And.intro hi0 (And.intro hz0 (And.intro hz1 hz2)))
  clear h hi0 hz0 hz1 hz2
  go_enter Try.func17, Try.ntmps17
  go_wp2_with fail
  refine HW0.out.mono ?_
  rintro e w1 ⟨hcs, hg⟩
  have HG1 := Lib.hid hg
  clear hg
  rcases hcs with ⟨l, j, v, rfl, hw, hr, hd, hij, hjs⟩ | ⟨k, hmis, hpe⟩
  · obtain ⟨p, cap, rfl, -⟩ := own_form2 hw.row
    have HXB : Hid (Below w1.heap.size w1 (w1.alloc (.cells #[.slice p l.length cap] 33))) := Lib.hid ((Below.refl _ _).alloc (Nat.le_refl _) _)
    have HS0 : Hid (Sr (w1.alloc (.cells #[.slice p l.length cap] 33)) w.heap.size (.slice (some ⟨w1.heap.size, 0, none⟩) 1 1) [((p, cap), l)]) := Lib.hid (by
      refine ⟨own_new1 w1 w.heap.size HG1.out.size _ _ rfl, fun m hm => ?_⟩
      simp only [List.mem_singleton] at hm
      subst hm
      exact hw.below HXB.out)
    have HRa := Lib.hid (hr.below HXB.out)
    have HGa := Lib.hid (HG1.out.trans (Gr.of HXB.out))
    have HDa : Hid (∃ R rw, RdR s j R rw ∧ rws [((p, cap), l)] = R ++ [rw]) := Lib.hid ⟨_, _, hd, rfl⟩
    clear hw hr hd
    obtain ⟨n0, hn0⟩ : ∃ n0, l.length = n0 := ⟨_, rfl⟩
    rw [hn0] at HXB HS0 HRa HGa ⊢
    clear hn0
    go_wp2_with fail
    generalize w1.alloc (.cells #[.slice p n0 cap] 33) = Wa at *
    generalize w1.heap.size = ga at *
    go_loopw [3] (fun q wr => ∃ (V : World) (x : List Mr) (j : Nat) (p : Option Addr) (cap : Nat), V = wr ∧ q = .slice p x.length cap ∧ j ≤ s.size ∧ x.length ≤ j ∧ Hid (Sr V w.heap.size (.slice p x.length cap) x) ∧ Hid (Rr V b s j) ∧ Hid (∃ R rw, RdR s j R rw ∧ rws x = R ++ [rw]) ∧ Hid (Gr b w V)) (fun _ wr => s.size - atOf b wr)
    case atStart => exact ⟨_, [((p, cap), l)], j, _, _, rfl, rfl, hjs, by simp; omega, HS0, HRa, HDa, HGa⟩
    case round =>
      clear HXB HS0 HRa HGa HDa hij hjs HG1
      obtain ⟨V, x, j, p, cap, rfl, rfl, hjs, hxj, HS, HR, HD, HG⟩ := hrel
      have HL1 := Lib.hid (HL.out j hjs V HR.out)
      have HAt := Lib.hid HR.out.atOf
      go_wp2_with fail
      refine HL1.out.mono ?_
      rintro e w3 ⟨rfl, hb⟩
      have HR3 := Lib.hid (HR.out.below hb)
      have HG3 := Lib.hid (HG.out.trans (Gr.of hb))
      have HS3 := Lib.hid (HS.out.below hb)
      have HT3 := Lib.hid (HT.out j hjs w3 HR3.out)
      clear hb
      by_cases h1 : lk s j = -1
      · have HPE : Hid (Sl.parse (ls s) = .ok (rws x)) := Lib.hid (by
          obtain ⟨R, rw, hd, e⟩ := HD.out
          rw [e]
          exact rdr_end hd h1)
        have q1 : (lk s j != -1) = false := by simpa using h1
        generalize lk s j = c at *
        clear h1
        go_wp2
        go_ret
        exact ⟨.inl ⟨x, _, rfl, HS3.out, HPE.out⟩, HG3.out⟩
      · have q1 : (lk s j != -1) = true := by simpa using h1
        by_cases h44 : lk s j = 44
        · obtain ⟨R, rw', hd, e⟩ := HD.out
          have HA := Lib.hid (rdr_comma hd h44)
          have HE := Lib.hid e
          simp only [if_pos h44] at HT3
          have hlt := lk_lt h1
          generalize lk s j = c at *
          clear h1 h44 hd e HD
          go_wp2_with fail
          refine HT3.out.mono ?_
          rintro e w4 ⟨⟨rfl, hr⟩, hg⟩
          have HG4 := Lib.hid (HG3.out.trans hg)
          have HS4 := Lib.hid (HS3.out.gr hbw hg)
          have HW4 := Lib.hid (HW.out (j + 1) w4 hr _ HA.out)
          clear hr hg
          go_wp2_with fail
          refine HW4.out.mono ?_
          rintro e w6 ⟨hcs, hg⟩
          have HG6 := Lib.hid (HG4.out.trans hg)
          have HS6 := Lib.hid (HS4.out.gr hbw hg)
          clear hg
          rcases hcs with ⟨l2, j', v2, rfl, hw2, hr2, hd2, hij2, hjs2⟩ | ⟨k, hmis, hpe⟩
          · obtain ⟨p2, cap2, rfl, -⟩ := own_form2 hw2.row
            have HW6 := Lib.hid (hw2.mono HG4.out.size)
            have HR6 := Lib.hid hr2
            have HD6 := Lib.hid hd2
            clear hw2 hr2 hd2
            obtain ⟨n2, hn2⟩ : ∃ n2, l2.length = n2 := ⟨_, rfl⟩
            have HN2 := Lib.hid hn2
            rw [hn2] at HW6 ⊢
            clear hn2
            have HXB : Hid (Below w6.heap.size w6 (w6.alloc (.cells #[.slice p2 n2 cap2] 33))) := Lib.hid ((Below.refl _ _).alloc (Nat.le_refl _) _)
            have HX := Lib.hid (own_below HS6.out.row HXB.out)
            have HXC := Lib.hid (cells1 _ _ _ _ (heap_alloc_new w6 (.cells #[.slice p2 n2 cap2] 33)))
            have HXS := Lib.hid (Nat.le_trans HG6.out.size HXB.out.size)
            obtain ⟨nl, hnl⟩ : ∃ nl, x.length = nl := ⟨_, rfl⟩
            have HNL := Lib.hid hnl
            rw [hnl] at HX hxj ⊢
            clear hnl
            go_wp2_with (at_builtin; refine wpList_append_own_at _ rfl _ _ 23 rfl w.heap.size 33 i0 (.slice none 0 0) 1 24 Try.underlying23 HJ.out.1 HJ.out.2.1 HJ.out.2.2.1 HJ.out.2.2.2 rfl (by decide) _ _ _ rfl HX.out ⟨w6.heap.size, 0, none⟩ 1 1 [.slice p2 n2 cap2] rfl rfl HXC.out (by intro u hu; simp only [List.mem_cons, List.not_mem_nil, or_false] at hu; subst hu; rfl) (by unfold maxLen; omega) (by omega) HXS.out ?_; intro v' V' hown' hgrow _ hat; have HO' := Lib.hid hown'; have HGR := Lib.hid hgrow; clear hown' hgrow hat)
            obtain ⟨p', cap', rfl, -⟩ := own_form2 HO'.out
            have HR9 : Hid (Rr V' b s j') := Lib.hid ((HR6.out.below HXB.out).grown HGR.out (own_apart HX.out (HR6.out.below HXB.out) (by decide)))
            have HG9 : Hid (Gr b w V') := Lib.hid ((HG6.out.trans (Gr.of HXB.out)).grown HGR.out (fun q e => (HX.out.lt q e).1))
            have hlen : (x ++ [((p2, cap2), l2)]).length = nl + 1 := by rw [List.length_append, HNL.out]; rfl
            have HS9 : Hid (Sr V' w.heap.size (.slice p' (nl + 1) cap') (x ++ [((p2, cap2), l2)])) := Lib.hid (by
              have hX := HS6.out.below HXB.out
              rw [HNL.out] at hX
              refine hX.more (m := ((p2, cap2), l2)) ?_ ?_ HGR.out
              · show Rw _ _ (.slice p2 l2.length cap2) l2
                rw [HN2.out]
                exact HW6.out.below HXB.out
              · rw [HNL.out]
                have := HO'.out
                show World.ownsRow _ _ _ _ _ _ (_ ++ [.slice p2 l2.length cap2])
                rw [HN2.out]
                exact this)
            have HD9 : Hid (∃ R rw, RdR s j' R rw ∧ rws (x ++ [((p2, cap2), l2)]) = R ++ [rw]) := Lib.hid ⟨_, _, HD6.out, by rw [rws, List.map_append]; rw [rws] at HE; rw [HE.out]; rfl⟩
            go_roundw
            case rel => exact ⟨V', x ++ [((p2, cap2), l2)], j', p', cap', rfl, by rw [hlen], hjs2, by omega, Lib.hid (by rw [hlen]; exact HS9.out), HR9, HD9, HG9⟩
            case measure =>
              rw [HAt.out, HR9.out.atOf]
              omega
          · have HPE := Lib.hid hpe
            unfold Mis at hmis
            subst hmis
            clear hpe
            go_wp2
            exact ⟨rfl, .inr ⟨k, rfl, HPE.out⟩, HG6.out⟩
        · have HPE : Hid (Sl.parse (ls s) = .error j) := Lib.hid (by
            obtain ⟨R, rw, hd, e⟩ := HD.out
            exact rdr_not hd h1 h44)
          simp only [if_neg h44] at HT3
          generalize lk s j = c at *
          clear h1 h44
          go_wp2_with fail
          refine HT3.out.mono ?_
          rintro e w4 ⟨he, hg⟩
          unfold Mis at he
          subst he
          have HG4 := Lib.hid (HG3.out.trans hg)
          clear hg
          go_wp2
          exact ⟨rfl, .inr ⟨j, rfl, HPE.out⟩, HG4.out⟩
  · have HPE := Lib.hid hpe
    unfold Mis at hmis
    subst hmis
    clear hpe
    go_wp2
    exact ⟨rfl, .inr ⟨k, rfl, HPE.out⟩, HG1.out⟩
end Go.Proofs.Ytcfkcifbojckcaa
