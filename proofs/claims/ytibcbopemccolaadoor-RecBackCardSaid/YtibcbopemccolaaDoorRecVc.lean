/-
  The law RecLong: how many words a node has, and two of them.
-/
import Derived.Test.YtibcbopemccolaaDoorRecSh
import Derived.Test.YtibcbopemccolaaDoorRecT
namespace Go.Proofs.YtibcbopemccolaaDoor
open Go.ChangeShapes Go.WideShapes Go.ChangeAt Go.RowKit
open Rm
set_option linter.unusedVariables false
set_option linter.unusedSimpArgs false

theorem may_bdd {r : Rc} (h : MayR r) : bdd r = true := by
  obtain ⟨h1, h2, h3, h4, h5, h6, h7, h8, h9, h10, h11⟩ := h
  exact decide_eq_true ⟨fun a ha => by have := h9 a ha; omega, by omega, by omega, by omega⟩
theorem P_len0 (r : Rc) : (P r 0).length = 2 + (lens r.attrs).length + nw r.name.length + nw r.text.length := by
  rw [P_zero, List.length_append, List.length_append, List.length_append, wds_length, wds_length]; simp
theorem P_lenS (r : Rc) {k : Nat} (h : k < r.attrs.length) : (P r (k + 1)).length = (P r k).length + nw r.attrs[k].length := by
  rw [P_succ r h, List.length_append, wds_length]
theorem P_len_le {r : Rc} (h : MayR r) : ∀ k, k ≤ r.attrs.length → (P r k).length ≤ 20 + 8 * k
  | 0, _ => by
    rw [P_len0]
    obtain ⟨h1, h2, h3, h4, h5, h6, h7, h8, h9, h10, h11⟩ := h
    have e3 : nw r.name.length ≤ 8 := nw8 (by omega)
    have e4 : nw r.text.length ≤ 8 := nw8 (by omega)
    have := lens_le r.attrs
    omega
  | k + 1, hk => by
    rw [P_lenS r (by omega)]
    have := P_len_le h k (by omega)
    have h60 := h.2.2.2.2.2.2.2.2.1 r.attrs[k] (List.getElem_mem _)
    have : nw r.attrs[k].length ≤ 8 := nw8 (by omega)
    omega
set_option maxRecDepth 100000 in
set_option maxHeartbeats 2000000 in
theorem long_law (r : Rc) (A : Option Addr) (c : Nat) (w : World) (hT : BT w) (hA : LV w A (svs r.attrs)) (hr : RcB r) :
    Calls Tryd.prog 6 #[.agg (rcs r A c)] w fun e w' => e = .returned (.bool true) ∧ Below w.heap.size w w' := by
  obtain ⟨W, hW⟩ : ∃ W, W = w.alloc (.cells (rcs r A c) 27) := ⟨_, rfl⟩
  have HW : Hid (Below w.heap.size w W ∧ W.heap[w.heap.size]? = some (.cells (rcs r A c) 27 (0, 0)) ∧ w.heap.size < W.heap.size) := Lib.hid (by subst hW; exact ⟨(Below.refl _ w).alloc (Nat.le_refl _) _, heap_new _ _, by simp⟩)
  have HA := Lib.hid (hA.below HW.out.1)
  have HT := Lib.hid (hT.below HW.out.1)
  have HR := Lib.hid hr
  have HPk := Lib.hid (pack_any r A c W HA.out hr HT.out)
  clear hA hT hr
  go_enter Tryd.func6, Tryd.ntmps6
  go_upto_region 1 with fail
  rw [← hW]
  clear hW
  obtain ⟨x0, x1, x2, x3, x4, x5, x6⟩ := block7 HW.out.2.1
  go_wp2_with fail
  clear x0 x1 x2 x3 x4 x5 x6
  refine HPk.out.mono ?_
  rintro e w1 (⟨hm, rfl, hb⟩ | ⟨hm, p, cp, rfl, ho, hb⟩)
  · have HB1 := Lib.hid (HW.out.1.trans (hb.mono HW.out.1.size))
    have HK : Hid (w1.heap[w.heap.size]? = some (.cells (rcs r A c) 27 (0, 0))) := Lib.hid ((hb.block _ HW.out.2.2).trans HW.out.2.1)
    have HBd := Lib.hid (bounded_any r A c w1 (HA.out.below hb) HR.out)
    have HT1 := Lib.hid (HT.out.below hb)
    clear hb HPk
    obtain ⟨x0, x1, x2, x3, x4, x5, x6⟩ := block7 HK.out
    cases hbd : bdd r
    · rw [hbd] at HBd
      go_wp2_with fail
      refine HBd.out.mono ?_
      rintro e w2 ⟨rfl, hb⟩
      have HB2 := Lib.hid (HB1.out.trans (hb.mono HB1.out.size))
      have HSh := Lib.hid (shown_any w2 (HT1.out.below hb))
      clear hb
      go_wp2_with fail
      refine HSh.out.mono ?_
      rintro e w3 ⟨rfl, hb⟩
      have HB3 := Lib.hid (HB2.out.trans (hb.mono HB2.out.size))
      clear hb
      go_wp2
      go_ret
      exact ⟨ret_bool (by first | rfl | simp), HB3.out⟩
    · rw [hbd] at HBd
      go_wp2_with fail
      refine HBd.out.mono ?_
      rintro e w2 ⟨rfl, hb⟩
      have HB2 := Lib.hid (HB1.out.trans (hb.mono HB1.out.size))
      have HSh := Lib.hid (shown_any w2 (HT1.out.below hb))
      clear hb
      go_wp2_with fail
      refine HSh.out.mono ?_
      rintro e w3 ⟨rfl, hb⟩
      have HB3 := Lib.hid (HB2.out.trans (hb.mono HB2.out.size))
      clear hb
      go_wp2
      go_ret
      exact ⟨ret_bool (by first | rfl | simp), HB3.out⟩
  · have hmr := mayB_true hm
    have HM := Lib.hid hmr
    have HB1 := Lib.hid (HW.out.1.trans (hb.mono HW.out.1.size))
    have HK : Hid (w1.heap[w.heap.size]? = some (.cells (rcs r A c) 27 (0, 0)) ∧ w.heap.size < w1.heap.size) := Lib.hid ⟨(hb.block _ HW.out.2.2).trans HW.out.2.1, Nat.lt_of_lt_of_le HW.out.2.2 hb.size⟩
    have HLV1 := Lib.hid (HA.out.below hb)
    have HBd := Lib.hid (bounded_any r A c w1 HLV1.out HR.out)
    rw [may_bdd hmr] at HBd
    have HT1 := Lib.hid (HT.out.below hb)
    have h2p : 2 ≤ (pk r).length := by unfold pk P; simp
    obtain ⟨g, rfl, hg0, hg1⟩ := own_some ho (by omega)
    have hcell : ∀ j u, (gvs (pk r))[j]? = some u → w1.cell? ⟨g, j, none⟩ = some u := fun j u hu => by
      have := ho.cells rfl j u hu
      rwa [add_plain, Nat.zero_add] at this
    have HC : Hid (w1.cell? ⟨g, 0, none⟩ = some (.int .u64 (headR r)) ∧ w1.cell? ⟨g, 1, none⟩ = some (.int .u64 r.root) ∧ g < w1.heap.size) := Lib.hid ⟨hcell 0 _ rfl, hcell 1 _ rfl, hg1⟩
    have HPL := Lib.hid (P_len_le hmr)
    have hpl : (pk r).length ≤ 1000 := pk_len hmr
    clear hb HPk hcell ho hm hg0 hg1
    obtain ⟨x0, x1, x2, x3, x4, x5, x6⟩ := block7 HK.out.1
    go_wp2_with fail
    refine HBd.out.mono ?_
    clear x0 x1 x2 x3 x4 x5 x6
    rintro e w2 ⟨rfl, hb⟩
    have HB2 := Lib.hid (HB1.out.trans (hb.mono HB1.out.size))
    have HSh := Lib.hid (shown_any w2 (HT1.out.below hb))
    have HY2 := Lib.hid hb
    clear hb HBd
    go_wp2_with fail
    refine HSh.out.mono ?_
    rintro e w3 ⟨rfl, hb⟩
    have HY3 := Lib.hid (HY2.out.trans (hb.mono HY2.out.size))
    have HB3 := Lib.hid (HB2.out.trans (hb.mono HB2.out.size))
    have HK3 : Hid (w3.heap[w.heap.size]? = some (.cells (rcs r A c) 27 (0, 0))) := Lib.hid ((HY3.out.block _ HK.out.2).trans HK.out.1)
    have HLV3 := Lib.hid (HLV1.out.below HY3.out)
    have HC3 : Hid (w3.cell? ⟨g, 0, none⟩ = some (.int .u64 (headR r)) ∧ w3.cell? ⟨g, 1, none⟩ = some (.int .u64 r.root)) := Lib.hid ⟨bcell HY3.out HC.out.2.2 HC.out.1, bcell HY3.out HC.out.2.2 HC.out.2.1⟩
    clear hb HSh HY2 HC HLV1 HK HT1
    obtain ⟨x0, x1, x2, x3, x4, x5, x6⟩ := block7 HK3.out
    have hn : (str r.name).size = r.name.length := str_size _
    have ht : (str r.text).size = r.text.length := str_size _
    have hn20 : r.name.length ≤ 20 := hmr.2.2.2.2.1
    have ht60 : r.text.length ≤ 60 := hmr.2.2.2.2.2.1
    have ha16 : r.attrs.length ≤ 16 := hmr.2.2.2.2.2.2.2.1
    have HP0 : Hid (((P r 0).length : Int) = 2 + ((r.name.length : Int) + 7) / 8 + ((r.text.length : Int) + 7) / 8 + (if 0 < r.attrs.length then 2 else 0)) := Lib.hid (by
      rw [P_len0]
      have e : (lens r.attrs).length = if 0 < r.attrs.length then 2 else 0 := by
        by_cases h : r.attrs = []
        · rw [lens_none h, h]; rfl
        · rw [lens_some h, if_pos (by rcases Nat.eq_zero_or_pos r.attrs.length with h0 | h0; exact absurd (List.eq_nil_of_length_eq_zero h0) h; exact h0)]; rfl
      rw [e]
      unfold nw
      split <;> omega)
    have hkd := (headR_parts hmr).1
    have HKd := Lib.hid hkd
    have hk0 : 0 ≤ r.kind := hmr.1
    have hk3 : r.kind ≤ 3 := hmr.2.1
    have hh0 : 0 ≤ headR r := by obtain ⟨h1, h2, h3, h4, h5, h6, h7, h8, h9, h10, h11⟩ := hmr; unfold headR; omega
    have hh1 : headR r ≤ 18446744073709551615 := by obtain ⟨h1, h2, h3, h4, h5, h6, h7, h8, h9, h10, h11⟩ := hmr; unfold headR; omega
    clear hmr hkd
    have e0 : ((P r 0).length : Int) = 2 + ((r.name.length : Int) + 7) / 8 + ((r.text.length : Int) + 7) / 8 + (if 0 < r.attrs.length then 2 else 0) := HP0.out
    generalize hN : ((P r 0).length : Int) = N0 at *
    by_cases hat : 0 < r.attrs.length
    · have hat' : (0 : Int) < (r.attrs.length : Int) := by omega
      rw [if_pos hat] at e0
      go_wp2_with fail
      go_loopw [5, 6] (fun N i wr => ∃ k : Nat, k ≤ r.attrs.length ∧ i = .int .i64 k ∧ N = .int .i64 ((P r k).length : Int) ∧ wr = w3) (fun _ i _ => r.attrs.length - (intOf i).toNat)
      case atStart => exact ⟨0, Nat.zero_le _, rfl, by first | rfl | omega | (congr 1; omega) | (rw [hN]; congr 1; omega) | (rw [hN, e0]; rfl) | (rw [hN, e0]), rfl⟩
      case round =>
        obtain ⟨k, hk, rfl, rfl, rfl⟩ := hrel
        have hpk := HPL.out k hk
        by_cases hlt : k < r.attrs.length
        · obtain ⟨g2, o2, rfl, hg2, hc2⟩ := sat HLV3.out hlt
          have hsz : (str r.attrs[k]).size = r.attrs[k].length := str_size _
          have h60 : r.attrs[k].length ≤ 60 := HM.out.2.2.2.2.2.2.2.2.1 _ (List.getElem_mem hlt)
          have HPS : Hid (((P r (k + 1)).length : Int) = ((P r k).length : Int) + ((r.attrs[k].length : Int) + 7) / 8) := Lib.hid (by rw [P_lenS r hlt]; unfold nw; omega)
          generalize r.attrs[k] = a at *
          generalize (P r k).length = Nk at *
          go_wp2
          go_roundw
          case rel => exact ⟨k + 1, by omega, by go_num, by rw [HPS.out], by first | rfl | trivial⟩
          case measure => simp [intOf]; omega
        · obtain rfl : k = r.attrs.length := by omega
          obtain ⟨c0, c1⟩ := HC3.out
          have hkd : (headR r % 4 == r.kind) = true := by rw [HKd.out]; simp
          have hkd2 : decide (headR r % 4 = r.kind) = true := by rw [HKd.out]; simp
          have hpk : (pk r).length = (P r r.attrs.length).length := rfl
          have h2M : 2 ≤ (P r r.attrs.length).length := h2p
          have hplM : (P r r.attrs.length).length ≤ 1000 := hpl
          rw [hpk]
          clear hpk h2p hpl
          generalize (P r r.attrs.length).length = M at *
          have hM1 : (1 : Int) < (M : Int) := by omega
          have hM0 : (0 : Int) < (M : Int) := by omega
          go_wp2_with fail
          go_quiet (fail)
          go_wp2
          go_ret
          exact ⟨ret_bool (by first | rfl | simp), by first | exact HB3.out | exact HB3.out.drewN _ | exact bdrewN HB3.out _⟩
    · have hat' : ¬ (0 : Int) < (r.attrs.length : Int) := by omega
      rw [if_neg hat] at e0
      go_wp2_with fail
      go_loopw [5, 6] (fun N i wr => ∃ k : Nat, k ≤ r.attrs.length ∧ i = .int .i64 k ∧ N = .int .i64 ((P r k).length : Int) ∧ wr = w3) (fun _ i _ => r.attrs.length - (intOf i).toNat)
      case atStart => exact ⟨0, Nat.zero_le _, rfl, by first | rfl | omega | (congr 1; omega) | (rw [hN]; congr 1; omega) | (rw [hN, e0]; rfl) | (rw [hN, e0]), rfl⟩
      case round =>
        obtain ⟨k, hk, rfl, rfl, rfl⟩ := hrel
        have hpk := HPL.out k hk
        by_cases hlt : k < r.attrs.length
        · omega
        · obtain rfl : k = r.attrs.length := by omega
          obtain ⟨c0, c1⟩ := HC3.out
          have hkd : (headR r % 4 == r.kind) = true := by rw [HKd.out]; simp
          have hkd2 : decide (headR r % 4 = r.kind) = true := by rw [HKd.out]; simp
          have hpk : (pk r).length = (P r r.attrs.length).length := rfl
          have h2M : 2 ≤ (P r r.attrs.length).length := h2p
          have hplM : (P r r.attrs.length).length ≤ 1000 := hpl
          rw [hpk]
          clear hpk h2p hpl
          generalize (P r r.attrs.length).length = M at *
          have hM1 : (1 : Int) < (M : Int) := by omega
          have hM0 : (0 : Int) < (M : Int) := by omega
          go_wp2_with fail
          go_quiet (fail)
          go_wp2
          go_ret
          exact ⟨ret_bool (by first | rfl | simp), by first | exact HB3.out | exact HB3.out.drewN _ | exact bdrewN HB3.out _⟩
theorem long_open {H : Type} {enc : TypeId × Value → H} {W : World} {base : Nat} (hm : BT W) {v0 : Value} {d0 : DataW H} {p0 : List MemPlace}
    (o0 : Value.okWide Tryd.prog W .any base 27 v0) (h0 : DataW.Trod enc Tryd.prog W 0 (fun _ => true) true 27 v0 d0 p0) (l0 : ∀ x ∈ p0, x.block < W.heap.size) :
    Calls Tryd.prog 6 #[v0] W fun e w' => e = .returned (.bool true) ∧ Below W.heap.size W w' := by
  obtain ⟨r, A, c, rfl, hA, hr⟩ := rec_open o0 h0 l0
  exact long_law r A c W hm hA hr
end Go.Proofs.YtibcbopemccolaaDoor
