/-
  The law RecWords: the words of a text, and which text words are.
-/
import Derived.Test.YtibcbopemccolaaDoorRecVa
import Derived.Test.YtibcbopemccolaaDoorRecRb
namespace Go.Proofs.YtibcbopemccolaaDoor
open Go.ChangeShapes Go.WideShapes Go.ChangeAt Go.RowKit
open Rm
set_option linter.unusedVariables false
set_option linter.unusedSimpArgs false

set_option maxRecDepth 100000 in
set_option maxHeartbeats 2000000 in
theorem words_law (A : Option Addr) (m c : Nat) (s : Wd) (l : List Int) (n : Int) (w : World) (hT : BT w) (hs : s.length ≤ 9223372036854775807) (hA : LV w A (gvs l)) (hl : l.length = m) (hmc : m ≤ c) (hc : c ≤ maxLen) (hU : U64 l) :
    Calls Tryd.prog 5 #[.string (str s), .slice A m c, .int .i64 n] w fun e w' => e = .returned (.bool true) ∧ Below w.heap.size w w' := by
  have hsz : (str s).size = s.length := str_size _
  unfold maxLen at hc
  have HSh := Lib.hid (shown_any w hT)
  by_cases h300 : s.length ≤ 300
  · have h300' : ¬ (300 : Int) < (s.length : Int) := by omega
    by_cases h60 : m ≤ 60
    · have h60' : ¬ (60 : Int) < (m : Int) := by omega
      have HT := Lib.hid hT
      have HA := Lib.hid hA
      have HL := Lib.hid hl
      have HU := Lib.hid hU
      clear hT hA hl hU
      go_enter Tryd.func5, Tryd.ntmps5
      go_wp2_with fail
      refine HSh.out.mono ?_
      rintro e w1 ⟨rfl, hb⟩
      have HB1 := Lib.hid hb
      have HTx := Lib.hid (text_any A m c l n w1 (HA.out.below hb) HL.out (by omega) HU.out (HT.out.below hb))
      clear hb HSh
      go_wp2_with fail
      refine HTx.out.mono ?_
      rintro e w2 ⟨rfl, hb⟩
      have HB2 := Lib.hid (HB1.out.trans (hb.mono HB1.out.size))
      have HTr := Lib.hid (rtext_any A m c l n w2 (HA.out.below HB2.out) HL.out (by omega) HU.out)
      clear hb HTx
      go_wp2_with fail
      refine HTr.out.mono ?_
      rintro e w3 ⟨rfl, hb⟩
      have HB3 := Lib.hid (HB2.out.trans (hb.mono HB2.out.size))
      have HWd := Lib.hid (words_any s w3 (by omega) (HT.out.below HB3.out))
      clear hb HTr
      generalize str ((txt l n).getD []) = T1
      generalize (txt l n).isSome = T2
      go_wp2_with fail
      refine HWd.out.mono ?_
      rintro e w4 ⟨v, rfl, ho, hb⟩
      obtain ⟨p4, c4, rfl, -, -, -⟩ := own_form ho
      have HB4 := Lib.hid (HB3.out.trans (hb.mono HB3.out.size))
      have hwl : (wds s).length = nw s.length := wds_length _
      have hnw : nw s.length ≤ 38 := by unfold nw; omega
      have HLV := Lib.hid (LV.of_own ho)
      have HTb : Hid (Calls Tryd.prog 20 #[.slice p4 (nw s.length) c4, .int .i64 (s.length : Int)] w4 fun e w' => e = .returned (.tuple #[.string (str s), .bool true]) ∧ Below w4.heap.size w4 w') := Lib.hid (by
        have := text_any p4 (nw s.length) c4 (wds s) s.length w4 HLV.out hwl (by omega) (wds_u64 s) (HT.out.below HB4.out)
        rw [txt_wds] at this
        exact this)
      clear ho hb HWd
      rw [hwl]
      have HWL := Lib.hid hwl
      clear hwl
      generalize nw s.length = q at *
      go_wp2_with fail
      refine HTb.out.mono ?_
      rintro e w5 ⟨rfl, hb⟩
      have HB5 := Lib.hid (HB4.out.trans (hb.mono HB4.out.size))
      have HLV5 := Lib.hid (HLV.out.below hb)
      have HWr := Lib.hid (rwords_any s w5 (by omega))
      clear hb HTb
      go_wp2_with fail
      refine HWr.out.mono ?_
      rintro e w6 ⟨v, rfl, ho, hb⟩
      obtain ⟨p6, c6, rfl, -, -, -⟩ := own_form ho
      have HB6 := Lib.hid (HB5.out.trans (hb.mono HB5.out.size))
      have HHa := Lib.hid (handles_any p4 p6 q (wds s).length c4 c6 (wds s) (wds s) w6 (HLV5.out.below hb) (LV.of_own ho) HWL.out rfl (by omega) (by have := HWL.out; omega))
      rw [decide_eq_true rfl, HWL.out] at HHa
      rw [HWL.out]
      clear ho hb
      go_wp2_with fail
      refine HHa.out.mono ?_
      rintro e w7 ⟨rfl, hb⟩
      have HB7 := Lib.hid (HB6.out.trans (hb.mono HB6.out.size))
      clear hb
      go_wp2
      go_ret
      exact ⟨ret_bool (by first | rfl | simp), HB7.out⟩
    · have h60' : (60 : Int) < (m : Int) := by omega
      clear hT
      go_enter Tryd.func5, Tryd.ntmps5
      go_wp2_with fail
      refine HSh.out.mono ?_
      rintro e w1 ⟨rfl, hb⟩
      go_wp2
      go_ret
      exact ⟨ret_bool (by first | rfl | simp), hb⟩
  · have h300' : (300 : Int) < (s.length : Int) := by omega
    clear hT
    go_enter Tryd.func5, Tryd.ntmps5
    go_wp2_with fail
    refine HSh.out.mono ?_
    rintro e w1 ⟨rfl, hb⟩
    go_wp2
    go_ret
    exact ⟨ret_bool (by first | rfl | simp), hb⟩
theorem words_open {H : Type} {enc : TypeId × Value → H} {W : World} {base : Nat} (hm : BT W) {v0 v1 v2 : Value} {d0 d1 d2 : DataW H} {p0 p1 p2 : List MemPlace}
    (o0 : Value.okWide Tryd.prog W .any base 9 v0) (o1 : Value.okWide Tryd.prog W .any base 28 v1) (o2 : Value.okWide Tryd.prog W .any base 3 v2)
    (h0 : DataW.Trod enc Tryd.prog W 0 (fun _ => true) true 9 v0 d0 p0) (h1 : DataW.Trod enc Tryd.prog W 0 (fun _ => true) true 28 v1 d1 p1) (h2 : DataW.Trod enc Tryd.prog W 0 (fun _ => true) true 3 v2 d2 p2)
    (l0 : ∀ x ∈ p0, x.block < W.heap.size) (l1 : ∀ x ∈ p1, x.block < W.heap.size) (l2 : ∀ x ∈ p2, x.block < W.heap.size) :
    Calls Tryd.prog 5 #[v0, v1, v2] W fun e w' => e = .returned (.bool true) ∧ Below W.heap.size W w' := by
  obtain ⟨s, rfl, hs⟩ := s_open o0 h0
  obtain ⟨A, m, c, l, rfl, hmc, hc, hl, hA, hU, -⟩ := gs_open o1 h1 l1
  obtain ⟨n, rfl, hn0, hn1⟩ := n_open o2 h2
  exact words_law A m c s l n W hm hs hA hl hmc hc hU
end Go.Proofs.YtibcbopemccolaaDoor
