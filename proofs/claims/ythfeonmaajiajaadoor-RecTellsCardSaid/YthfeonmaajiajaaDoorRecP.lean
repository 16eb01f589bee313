/-
  Unpack: the words' rec, if they are the Pack of one; else none.
-/
import Derived.Test.YthfeonmaajiajaaDoorRecK
import Derived.Test.YthfeonmaajiajaaDoorRecO
namespace Go.Proofs.YthfeonmaajiajaaDoor
open Go.ChangeShapes Go.WideShapes Go.ChangeAt Go.RowKit
open Rm
set_option linter.unusedVariables false
set_option linter.unusedSimpArgs false

/-- The zero rec. -/
def zR : Rc := ⟨0, 0, [], [], [], 0, 0⟩
/-- What Unpack tells. -/
def GivesUn (l : List Int) (w : World) (e : Ending) (w' : World) : Prop :=
  ∃ (r : Rc) (A : Option Addr) (c : Nat) (er : Int), e = .returned (.tuple #[.agg (rcs r A c), .int .i64 er]) ∧ LV w' A (svs r.attrs) ∧ Below w.heap.size w w' ∧ ((er = 0 ∧ MayR r ∧ pk r = l) ∨ (er = 4 ∧ r = zR ∧ A = none ∧ c = 0 ∧ ¬ ∃ q, MayR q ∧ pk q = l))
theorem flat_len (a : List Wd) (h : ∀ x ∈ a, x.length ≤ 60) : (a.flatMap wds).length ≤ 8 * a.length := by
  induction a with
  | nil => simp
  | cons x a ih =>
    rw [List.flatMap_cons, List.length_append, wds_length, List.length_cons]
    have h1 := ih (fun y hy => h y (List.mem_cons_of_mem _ hy))
    have h2 : nw x.length ≤ 8 := nw8 (by have := h x List.mem_cons_self; omega)
    omega
theorem pk_len {r : Rc} (h : MayR r) : (pk r).length ≤ 1000 := by
  obtain ⟨h1, h2, h3, h4, h5, h6, h7, h8, h9, h10, h11⟩ := h
  unfold pk P
  have e1 := flat_len r.attrs h9
  have e2 := lens_le r.attrs
  have e3 : nw r.name.length ≤ 8 := nw8 (by omega)
  have e4 : nw r.text.length ≤ 8 := nw8 (by omega)
  rw [List.take_length, List.length_cons, List.length_cons, List.length_append, List.length_append, List.length_append, wds_length, wds_length]
  omega
theorem mayB_true {r : Rc} (h : mayB r = true) : MayR r := by unfold mayB at h; exact of_decide_eq_true h
theorem mayB_false {r : Rc} (h : mayB r = false) : ¬ MayR r := by unfold mayB at h; exact of_decide_eq_false h
theorem set7 {b : Nat} {w X : World} (h : Below b w X) (v0 v1 v2 v3 v4 v5 v6 : Value) : Below b w (((((((X.setCell ⟨b, 0, none⟩ v0).setCell ⟨b, 1, none⟩ v1).setCell ⟨b, 2, none⟩ v2).setCell ⟨b, 3, none⟩ v3).setCell ⟨b, 4, none⟩ v4).setCell ⟨b, 5, none⟩ v5).setCell ⟨b, 6, none⟩ v6) :=
  ((((((h.setCell (p := ⟨b, 0, none⟩) (Nat.le_refl _) _).setCell (p := ⟨b, 1, none⟩) (Nat.le_refl _) _).setCell (p := ⟨b, 2, none⟩) (Nat.le_refl _) _).setCell (p := ⟨b, 3, none⟩) (Nat.le_refl _) _).setCell (p := ⟨b, 4, none⟩) (Nat.le_refl _) _).setCell (p := ⟨b, 5, none⟩) (Nat.le_refl _) _).setCell (p := ⟨b, 6, none⟩) (Nat.le_refl _) _
set_option maxRecDepth 100000 in
set_option maxHeartbeats 400000 in
theorem unpack_any (A : Option Addr) (n c : Nat) (l : List Int) (w : World) (hA : LV w A (gvs l)) (hl : l.length = n) (hnc : n ≤ c) (hc : c ≤ maxLen) (hn : n ≤ 1000000) (hlo : ∀ a, A = some a → a.block < w.heap.size) (hU : U64 l) (hT : BT w) :
    Calls Tryd.prog 9 #[.slice A n c] w (GivesUn l w) := by
  obtain ⟨W, hW⟩ : ∃ W, W = w.alloc (.cells zrec 27) := ⟨_, rfl⟩
  have HW : Hid (Below w.heap.size w W ∧ W.heap[w.heap.size]? = some (.cells zrec 27 (0, 0))) := Lib.hid (by subst hW; exact ⟨(Below.refl _ w).alloc (Nat.le_refl _) _, heap_new _ _⟩)
  have hsW : w.heap.size < W.heap.size := by subst hW; simp
  have HR := Lib.hid (read_any A n c l W (hA.below HW.out.1) hl hnc hc (fun a e => Nat.lt_trans (hlo a e) hsW) hU (hT.below HW.out.1))
  have HA := Lib.hid hA
  have HL := Lib.hid hl
  have HT := Lib.hid hT
  clear hA hl hnc hc hlo hU hT
  go_enter Tryd.func9, Tryd.ntmps9
  go_upto_region 1 with fail
  rw [← hW]
  clear hW
  go_wp2_with fail
  refine HR.out.mono ?_
  rintro e w1 ⟨r, p, cp, rfl, hLV, hRB, hq, hpb, hb⟩
  have HLV := Lib.hid hLV
  have HRB := Lib.hid hRB
  have HQ := Lib.hid hq
  have HB1 := Lib.hid hb
  have HPb := Lib.hid hpb
  clear hLV hRB hq hb hpb HR
  obtain ⟨W2, hW2⟩ : ∃ W2, W2 = w1.alloc (.cells (rcs r p cp) 27) := ⟨_, rfl⟩
  have HX : Hid (Below W.heap.size W W2 ∧ W2.heap[w1.heap.size]? = some (.cells (rcs r p cp) 27 (0, 0)) ∧ W.heap.size ≤ w1.heap.size ∧ w1.heap.size < W2.heap.size) := Lib.hid (by subst hW2; exact ⟨HB1.out.alloc HB1.out.size _, heap_new _ _, HB1.out.size, by simp⟩)
  have HLV2 : Hid (LV W2 p (svs r.attrs)) := Lib.hid (by subst hW2; exact HLV.out.below ((Below.refl _ _).alloc (Nat.le_refl _) _))
  go_upto_region 2 with fail
  rw [← hW2]
  clear hW2
  have HPk := Lib.hid (pack_any r p cp W2 HLV2.out HRB.out (HT.out.below (HW.out.1.trans (HX.out.1.mono HW.out.1.size))))
  obtain ⟨hx0, hx1, hx2, hx3⟩ := HX.out
  have HX0 := Lib.hid (HW.out.1.trans (hx0.mono HW.out.1.size))
  obtain ⟨x0, x1, x2, x3, x4, x5, x6⟩ := block7 hx1
  clear hx0 hx1
  go_wp2_with fail
  refine HPk.out.mono ?_
  clear x0 x1 x2 x3 x4 x5 x6
  rintro e w3 (⟨hm, rfl, hb⟩ | ⟨hm, pp, pc, rfl, ho, hb⟩)
  · have HM := Lib.hid hm
    have HB3 : Hid (Below w.heap.size w w3) := Lib.hid (HX0.out.trans (hb.mono (by omega)))
    have HK : Hid (w3.heap[w1.heap.size]? = some (.cells (rcs r p cp) 27 (0, 0)) ∧ w3.heap[w.heap.size]? = some (.cells zrec 27 (0, 0))) := Lib.hid ⟨(hb.block _ hx3).trans HX.out.2.1, ((HX.out.1.trans (hb.mono (by omega))).block _ hsW).trans HW.out.2⟩
    clear hm hb HPk
    obtain ⟨u0, u1, u2, u3, u4, u5, u6⟩ := block7 HK.out.2
    have z0 := block_frozen HK.out.2 0
    have z1 := block_frozen HK.out.2 1
    have z2 := block_frozen HK.out.2 2
    have z3 := block_frozen HK.out.2 3
    have z4 := block_frozen HK.out.2 4
    have z5 := block_frozen HK.out.2 5
    have z6 := block_frozen HK.out.2 6
    go_wp2_with fail
    refine bodyPost_ret (v := .tuple #[.agg (rcs zR none 0), .int .i64 4]) (by simp [results, Tryd.results9, go_sem, u0, u1, u2, u3, u4, u5, u6, zR, str]) rfl ?_
    exact ⟨zR, none, 0, 4, rfl, LV.nil _ _, set7 HB3.out _ _ _ _ _ _ _, .inr ⟨rfl, rfl, rfl, rfl, fun ⟨q, h1, h2⟩ => mayB_false HM.out (HQ.out q h1 h2 ▸ h1)⟩⟩
  · have HM := Lib.hid (mayB_true hm)
    have hkl : (pk r).length ≤ 1000 := pk_len HM.out
    have HB3 : Hid (Below w.heap.size w w3) := Lib.hid (HX0.out.trans (hb.mono (by omega)))
    have hs3 := hb.size
    have HK : Hid (w3.heap[w1.heap.size]? = some (.cells (rcs r p cp) 27 (0, 0)) ∧ w3.heap[w.heap.size]? = some (.cells zrec 27 (0, 0))) := Lib.hid ⟨(hb.block _ hx3).trans HX.out.2.1, ((HX.out.1.trans (hb.mono (by omega))).block _ hsW).trans HW.out.2⟩
    have HEq := Lib.hid (equal_any pp A (pk r).length n pc c (pk r) l w3 (LV.of_own ho) (HA.out.below HB3.out) rfl HL.out (by omega) hn)
    have HLV3 : Hid (LV w3 p (svs r.attrs)) := Lib.hid (HLV2.out.below hb)
    clear hm hb HPk ho
    rcases Bool.eq_false_or_eq_true (decide (pk r = l)) with hd | hd
    · have HD := Lib.hid (of_decide_eq_true hd)
      rw [hd] at HEq
      clear hd
      go_wp2_with fail
      refine HEq.out.mono ?_
      rintro e w4 ⟨rfl, hb4⟩
      have HB4 := Lib.hid (HB3.out.trans (hb4.mono HB3.out.size))
      have HK4 : Hid (w4.heap[w1.heap.size]? = some (.cells (rcs r p cp) 27 (0, 0)) ∧ w4.heap[w.heap.size]? = some (.cells zrec 27 (0, 0))) := Lib.hid ⟨(hb4.block _ (by omega)).trans HK.out.1, (hb4.block _ (by omega)).trans HK.out.2⟩
      have HLV4 : Hid (LV w4 p (svs r.attrs)) := Lib.hid (HLV3.out.below hb4)
      clear hb4 HK HLV3 HB3
      have HK := HK4
      obtain ⟨x0, x1, x2, x3, x4, x5, x6⟩ := block7 HK.out.1
      obtain ⟨u0, u1, u2, u3, u4, u5, u6⟩ := block7 HK.out.2
      have z0 := block_frozen HK.out.2 0
      have z1 := block_frozen HK.out.2 1
      have z2 := block_frozen HK.out.2 2
      have z3 := block_frozen HK.out.2 3
      have z4 := block_frozen HK.out.2 4
      have z5 := block_frozen HK.out.2 5
      have z6 := block_frozen HK.out.2 6
      go_wp2_with fail
      refine bodyPost_ret (v := .tuple #[.agg (rcs r p cp), .int .i64 0]) (by simp [results, Tryd.results9, go_sem, u0, u1, u2, u3, u4, u5, u6]) rfl ?_
      have hq : ∀ a, p = some a → a.block ≠ w.heap.size := fun a e => by have := HPb.out a e; omega
      exact ⟨r, p, cp, 0, rfl, ((((((HLV4.out.setO hq).setO hq).setO hq).setO hq).setO hq).setO hq).setO hq, set7 HB4.out _ _ _ _ _ _ _, .inl ⟨rfl, HM.out, HD.out⟩⟩
    · have HD := Lib.hid (of_decide_eq_false hd)
      rw [hd] at HEq
      clear hd
      go_wp2_with fail
      refine HEq.out.mono ?_
      rintro e w4 ⟨rfl, hb4⟩
      have HB4 := Lib.hid (HB3.out.trans (hb4.mono HB3.out.size))
      have HK4 : Hid (w4.heap[w1.heap.size]? = some (.cells (rcs r p cp) 27 (0, 0)) ∧ w4.heap[w.heap.size]? = some (.cells zrec 27 (0, 0))) := Lib.hid ⟨(hb4.block _ (by omega)).trans HK.out.1, (hb4.block _ (by omega)).trans HK.out.2⟩
      clear hb4 HK HLV3 HB3
      have HK := HK4
      obtain ⟨u0, u1, u2, u3, u4, u5, u6⟩ := block7 HK.out.2
      have z0 := block_frozen HK.out.2 0
      have z1 := block_frozen HK.out.2 1
      have z2 := block_frozen HK.out.2 2
      have z3 := block_frozen HK.out.2 3
      have z4 := block_frozen HK.out.2 4
      have z5 := block_frozen HK.out.2 5
      have z6 := block_frozen HK.out.2 6
      go_wp2_with fail
      refine bodyPost_ret (v := .tuple #[.agg (rcs zR none 0), .int .i64 4]) (by simp [results, Tryd.results9, go_sem, u0, u1, u2, u3, u4, u5, u6, zR, str]) rfl ?_
      exact ⟨zR, none, 0, 4, rfl, LV.nil _ _, set7 HB4.out _ _ _ _ _ _ _, .inr ⟨rfl, rfl, rfl, rfl, fun ⟨q, h1, h2⟩ => HD.out (HQ.out q h1 h2 ▸ h2)⟩⟩
end Go.Proofs.YthfeonmaajiajaaDoor
