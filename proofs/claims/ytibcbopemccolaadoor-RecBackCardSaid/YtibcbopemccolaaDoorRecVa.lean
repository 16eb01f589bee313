/-
  The law RecTexts: of words just one text of a length is told.
-/
import Derived.Test.YtibcbopemccolaaDoorRecSh
import Derived.Test.YtibcbopemccolaaDoorRecT
namespace Go.Proofs.YtibcbopemccolaaDoor
open Go.ChangeShapes Go.WideShapes Go.ChangeAt Go.RowKit
open Rm
set_option linter.unusedVariables false
set_option linter.unusedSimpArgs false

theorem wds_u64 (s : Wd) : U64 (wds s) := fun x hx => by
  unfold wds W at hx
  obtain ⟨i, -, rfl⟩ := List.mem_map.1 hx
  exact ⟨num_nonneg _, by have := num_lt8 (piece s i) (piece_le s i); omega⟩
theorem str_nil_iff (t : Wd) : str t = ⟨#[]⟩ ↔ t = [] := ⟨fun h => str_inj h, fun h => by rw [h]; rfl⟩
set_option maxRecDepth 100000 in
set_option maxHeartbeats 2000000 in
theorem texts_law (s : Wd) (n : Int) (w : World) (hT : BT w) (hs : s.length ≤ 9223372036854775807) (hn0 : -9223372036854775808 ≤ n) (hn1 : n ≤ 9223372036854775807) :
    Calls Tryd.prog 8 #[.string (str s), .int .i64 n] w fun e w' => e = .returned (.bool true) ∧ Below w.heap.size w w' := by
  have hsz : (str s).size = s.length := str_size _
  by_cases h300 : s.length ≤ 300
  · have h300' : ¬ (300 : Int) < (s.length : Int) := by omega
    have HSh := Lib.hid (shown_any w hT)
    have HT := Lib.hid hT
    clear hT
    go_enter Tryd.func8, Tryd.ntmps8
    go_wp2_with fail
    refine HSh.out.mono ?_
    rintro e w1 ⟨rfl, hb⟩
    have HB1 := Lib.hid hb
    have HWd := Lib.hid (words_any s w1 (by omega) (HT.out.below hb))
    clear hb HSh
    go_wp2_with fail
    refine HWd.out.mono ?_
    rintro e w2 ⟨v, rfl, ho, hb⟩
    obtain ⟨p2, c2, rfl, -, -, -⟩ := own_form ho
    have HB2 := Lib.hid (HB1.out.trans (hb.mono HB1.out.size))
    have hwl : (wds s).length = nw s.length := wds_length _
    have hnw : nw s.length ≤ 38 := by unfold nw; omega
    have HLV := Lib.hid (LV.of_own ho)
    have HTx := Lib.hid (text_any p2 (wds s).length c2 (wds s) n w2 HLV.out rfl (by omega) (wds_u64 s) (HT.out.below HB2.out))
    clear ho hb HWd
    rw [hwl] at HTx ⊢
    have hnwv : (nw s.length : Int) = ((s.length : Int) + 7) / 8 := by unfold nw; omega
    cases ht : txt (wds s) n with
    | none =>
      have hT0 : Hid (Calls Tryd.prog 20 #[.slice p2 (nw s.length) c2, .int .i64 n] w2 fun e w' => e = .returned (.tuple #[.string ⟨#[]⟩, .bool false]) ∧ Below w2.heap.size w2 w') := Lib.hid (by have := HTx.out; rw [ht] at this; exact this)
      clear HTx
      have hlt : 0 ≤ n → n ≤ 1000 → (n + 7) / 8 = (nw s.length : Int) → n < s.length := fun h0 h1 h2 => by
        by_cases h : n < (s.length : Int)
        · exact h
        · obtain ⟨m, rfl⟩ := Int.eq_ofNat_of_zero_le h0
          have := txt_long (s := s) (n := m) (by omega) (by unfold nw at h2 ⊢; omega)
          rw [ht] at this
          cases this
      have HLT := Lib.hid hlt
      clear hlt ht
      generalize nw s.length = q at *
      go_wp2_with fail
      refine hT0.out.mono ?_
      rintro e w3 ⟨rfl, hb⟩
      have HB3 := Lib.hid (HB2.out.trans (hb.mono HB2.out.size))
      clear hb hT0
      by_cases h0 : n < 0
      · go_wp2
        go_ret
        exact ⟨ret_bool (by simp), HB3.out⟩
      by_cases h1 : n ≤ 1000
      · by_cases h2 : (n + 7) / 8 = (q : Int)
        · have hlt := HLT.out (by omega) h1 h2
          go_wp2
          go_ret
          exact ⟨ret_bool (by simp; try omega), HB3.out⟩
        · go_wp2
          go_ret
          exact ⟨ret_bool (by simp; try omega), HB3.out⟩
      · by_cases h3 : n ≤ 9223372036854775800
        · have h2 : ¬ (n + 7) / 8 = (q : Int) := by omega
          go_wp2
          go_ret
          exact ⟨ret_bool (by simp; try omega), HB3.out⟩
        · have h4 : n = 9223372036854775801 ∨ n = 9223372036854775802 ∨ n = 9223372036854775803 ∨ n = 9223372036854775804 ∨ n = 9223372036854775805 ∨ n = 9223372036854775806 ∨ n = 9223372036854775807 := by omega
          have hq : ¬ (-1152921504606846975 : Int) = (q : Int) := by omega
          have hq2 : ¬ (-1152921504606846976 : Int) = (q : Int) := by omega
          rcases h4 with rfl | rfl | rfl | rfl | rfl | rfl | rfl <;>
            (go_wp2 <;> (go_ret; exact ⟨ret_bool (by simp <;> omega), HB3.out⟩))
    | some t =>
      obtain ⟨h1, h2⟩ := txt_iff.1 ht
      subst h2
      have hT0 : Hid (Calls Tryd.prog 20 #[.slice p2 (nw s.length) c2, .int .i64 (t.length : Int)] w2 fun e w' => e = .returned (.tuple #[.string (str t), .bool true]) ∧ Below w2.heap.size w2 w') := Lib.hid (by have := HTx.out; rw [ht] at this; exact this)
      have hq : nw t.length = nw s.length := by have := congrArg List.length h1; rwa [wds_length, wds_length] at this
      have htl : t.length ≤ 304 := by unfold nw at hq hnw; omega
      have htq : ((t.length : Int) + 7) / 8 = (nw s.length : Int) := by rw [← hq]; unfold nw; omega
      have htz : (str t).size = t.length := str_size _
      have hwt : (wds t).length = nw s.length := by rw [wds_length, hq]
      have H1 := Lib.hid h1
      have HWT := Lib.hid hwt
      have HWL := Lib.hid hwl
      clear HTx ht h1 hq hwt hwl hnwv
      generalize nw s.length = q at *
      go_wp2_with fail
      refine hT0.out.mono ?_
      rintro e w3 ⟨rfl, hb⟩
      have HB3 := Lib.hid (HB2.out.trans (hb.mono HB2.out.size))
      have HLV3 := Lib.hid (HLV.out.below hb)
      have HWd := Lib.hid (words_any t w3 (by omega) (HT.out.below HB3.out))
      clear hb hT0
      go_wp2_with fail
      refine HWd.out.mono ?_
      rintro e w4 ⟨v, rfl, ho, hb⟩
      obtain ⟨p4, c4, rfl, -, -, -⟩ := own_form ho
      have HB4 := Lib.hid (HB3.out.trans (hb.mono HB3.out.size))
      have HHa := Lib.hid (handles_any p4 p2 (wds t).length q c4 c2 (wds t) (wds s) w4 (LV.of_own ho) (HLV3.out.below hb) rfl HWL.out (by have := HWT.out; omega) (by omega))
      rw [H1.out, decide_eq_true rfl, HWL.out] at HHa
      rw [HWT.out]
      clear ho hb
      go_wp2_with fail
      refine HHa.out.mono ?_
      rintro e w5 ⟨rfl, hb⟩
      have HB5 := Lib.hid (HB4.out.trans (hb.mono HB4.out.size))
      clear hb
      go_wp2
      go_ret
      exact ⟨ret_bool (by first | rfl | simp), HB5.out⟩
  · have h300' : (300 : Int) < (s.length : Int) := by omega
    have HSh := Lib.hid (shown_any w hT)
    clear hT
    go_enter Tryd.func8, Tryd.ntmps8
    go_wp2_with fail
    refine HSh.out.mono ?_
    rintro e w1 ⟨rfl, hb⟩
    go_wp2
    go_ret
    exact ⟨ret_bool (by first | rfl | simp), hb⟩
theorem texts_open {H : Type} {enc : TypeId × Value → H} {W : World} {base : Nat} (hm : BT W) {v0 v1 : Value} {d0 d1 : DataW H} {p0 p1 : List MemPlace}
    (o0 : Value.okWide Tryd.prog W .any base 9 v0) (o1 : Value.okWide Tryd.prog W .any base 3 v1)
    (h0 : DataW.Trod enc Tryd.prog W 0 (fun _ => true) true 9 v0 d0 p0) (h1 : DataW.Trod enc Tryd.prog W 0 (fun _ => true) true 3 v1 d1 p1)
    (l0 : ∀ x ∈ p0, x.block < W.heap.size) (l1 : ∀ x ∈ p1, x.block < W.heap.size) :
    Calls Tryd.prog 8 #[v0, v1] W fun e w' => e = .returned (.bool true) ∧ Below W.heap.size W w' := by
  obtain ⟨s, rfl, hs⟩ := s_open o0 h0
  obtain ⟨n, rfl, hn0, hn1⟩ := n_open o1 h1
  exact texts_law s n W hm hs hn0 hn1
end Go.Proofs.YtibcbopemccolaaDoor
