/-
  The closure of Change: the handle for a chunk.
-/
import Derived.Test.YtbldjlkofaiikaaVecI
namespace Go.Proofs.Ytbldjlkofaiikaa
open Go.ChangeShapes Go.WideShapes Go.ChangeAt Go.RowKit
set_option linter.unusedVariables false
set_option linter.unusedSimpArgs false

theorem PB.below {w w' : World} {k g B cc : Nat} {vg vu vf : Value} {p : Pl} (h : PB w k g B cc vg vu vf p) (hb : Below w.heap.size w w') : PB w' k g B cc vg vu vf p := ⟨(hb.block k (lt_of_block h.blk)).trans h.blk, h.pa.below hb⟩
/-- What the closure comes to. -/
def GivesP (k g B cc : Nat) (v0 : Value) (p : Pl) (o : Option (Pl × Int)) (w : World) (en : Ending) (w' : World) : Prop :=
  (o = none ∧ GivesB k g B cc v0 p 0 2 w en w') ∨ (∃ q x, o = some (q, x) ∧ GivesB k g B cc v0 q x 0 w en w')
theorem fresh_up {k g B cc : Nat} {v0 : Value} {q : Pl} {w w1 w' : World} (h : ∃ vg vu vf, PB w' k g B cc vg vu vf q ∧ Fresh v0 vg w1) (hs : w.heap.size ≤ w1.heap.size) : ∃ vg vu vf, PB w' k g B cc vg vu vf q ∧ Fresh v0 vg w := by
  obtain ⟨a, b, c, h1, h2⟩ := h
  exact ⟨a, b, c, h1, fun r hr => h2 r (by omega)⟩
theorem place_take {p : Pl} {h : Int} {c : List Int} (hn : ¬ (h ≠ 0 ∧ p.at h = c)) : p.place h c = match p.st.free.getLast? with | none => none | some i => some (p.tk i.toNat c, hd i (p.st.gens.getD i.toNat 0)) := by
  unfold Pl.place
  rw [if_neg hn]
  cases p.st.free.getLast? <;> rfl
/-- take, at a pool that may be. -/
theorem take_pk (k g B cc : Nat) (h : Int) (c : List Int) (vg vu vf : Value) (p : Pl) (n : Nat) (G : Int) (w : World) (hP : PB w k g B cc vg vu vf p) (hK : PK n G p) (hG : G ≤ 1099511627775) (hBk : B ≤ k) (hn : ¬ (h ≠ 0 ∧ p.at h = c)) :
    Calls Try.prog 41 #[.pointer (some ⟨k, 0, none⟩), cval c] w (GivesP k g B cc vg p (p.place h c) w) := by
  rw [place_take hn]
  by_cases hf : p.st.free = []
  · refine (take_no k g B cc c vg vu vf p n G w hP hK.ok hf).mono fun e w' hw => ?_
    rw [hf]
    exact .inl ⟨rfl, hw⟩
  · obtain ⟨fr, i, hfr, hi⟩ := hK.ok.last hf
    refine (take_yes k g B cc c vg vu vf p n i fr G w hP hK.ok hG hfr hi hK.len hBk).mono fun e w' hw => ?_
    rw [hfr, List.getLast?_concat]
    exact .inr ⟨_, _, rfl, hw⟩

set_option maxRecDepth 100000 in
set_option maxHeartbeats 2000000 in
theorem place_any (l m ko k g B cc b : Nat) (c : List Int) (old : List (List Int)) (vo vg vu vf : Value) (p : Pl) (n : Nat) (G : Int) (w : World) (ho : w.heap[ko]? = some (.cells #[vo] 77 (0, 0))) (hR : RR w b vo old) (hol : old.length ≤ 1000) (hll : l ≤ 1000) (hm : m ≤ 1000)
    (hrl : ∀ r ∈ old, r.length ≤ 1000) (hP : PB w k g B cc vg vu vf p) (hK : PK n G p) (hG : G ≤ 1099511627775) (hBk : B ≤ k) (hx : atR old l m ≠ 0 → 0 ≤ atR old l m ∧ atR old l m ≤ 18446744073709551615 ∧ ix (atR old l m) < n) :
    Calls Try.prog 38 #[.int .i64 l, .int .i64 m, cval c, .pointer (some ⟨ko, 0, none⟩), .pointer (some ⟨k, 0, none⟩)] w (GivesP k g B cc vg p (p.place (atR old l m) c) w) := by
  have hsm := hK.ok.small
  have HO : Hid (w.cell? ⟨ko, 0, none⟩ = some vo) := Lib.hid (by simp [World.cell?, ho])
  have hko := lt_of_block ho
  have hk := lt_of_block hP.blk
  obtain ⟨W, hW⟩ : ∃ W, W = w.alloc (.cells #[.int .i64 c.length, .int .u64 (it c 0), .int .u64 (it c 1), .int .u64 (it c 2), .int .u64 (it c 3)] 83) := ⟨_, rfl⟩
  have HBW : Hid (Below w.heap.size w W) := Lib.hid (by rw [hW]; exact (Below.refl _ w).alloc (Nat.le_refl _) _)
  have HXW : Hid (W.heap[w.heap.size]? = some (.cells #[.int .i64 c.length, .int .u64 (it c 0), .int .u64 (it c 1), .int .u64 (it c 2), .int .u64 (it c 3)] 83 (0, 0))) := Lib.hid (by rw [hW]; exact heap_alloc_new _ _)
  have HRW := Lib.hid (hR.below HBW.out)
  have HPW := Lib.hid (hP.below HBW.out)
  have HAT := Lib.hid (fun w' (h : RR w' b vo old) => at_in l m old vo b w' h hol hll hm hrl)
  have HK := Lib.hid hK
  have HX := Lib.hid hx
  have cW : W.cell? ⟨ko, 0, none⟩ = some vo := (HBW.out.cell (p := ⟨ko, 0, none⟩) hko).trans HO.out
  have HTK := Lib.hid (fun (w' : World) (hB : Below W.heap.size W w') (hn : ¬ (atR old l m ≠ 0 ∧ p.at (atR old l m) = c)) => take_pk k g B cc (atR old l m) c vg vu vf p n G w' (HPW.out.below hB) hK hG hBk hn)
  clear ho hR hP hK hx
  generalize hh : atR old l m = h at *
  have HE : Hid (p.holds h c = decide (p.at h = c)) := Lib.hid rfl
  have HPL : Hid (h ≠ 0 → p.at h = c → p.place h c = some (p, h)) := Lib.hid (fun a b => by unfold Pl.place; rw [if_pos ⟨a, b⟩])
  unfold cval
  go_enter Try.func38, Try.ntmps38
  go_upto_region 1 with fail
  rw [← hW]
  have hWs : W.heap.size = w.heap.size + 1 := by rw [hW]; simp
  clear hW
  obtain ⟨⟨b0, b1, b2, b3, b4⟩, -⟩ := block5 HXW.out
  obtain ⟨x0, x1, x2, x3, -⟩ := block4 HPW.out.blk
  go_wp2_with fail
  refine (HAT.out W HRW.out).mono ?_
  rintro e w1 ⟨rfl, rfl⟩
  by_cases hz : h = 0
  · subst hz
    go_wp2_with fail
    refine (HTK.out W (Below.refl _ _) (fun hc => hc.1 rfl)).mono ?_
    rintro e w2 (⟨ho, rfl, hpb, hbut⟩ | ⟨q, x, ho, rfl, hpb, hbut⟩)
    · have HQ := Lib.hid (And.intro ho (And.intro (fresh_up (w := w) hpb HBW.out.size) ((But.of_below HBW.out).trans hbut)))
      clear ho hpb hbut
      go_wp2
      go_ret2
      exact .inl ⟨HQ.out.1, rfl, HQ.out.2.1, HQ.out.2.2⟩
    · have HQ := Lib.hid (And.intro ho (And.intro (fresh_up (w := w) hpb HBW.out.size) ((But.of_below HBW.out).trans hbut)))
      clear ho hpb hbut
      go_wp2
      go_ret2
      exact .inr ⟨q, x, HQ.out.1, rfl, HQ.out.2.1, HQ.out.2.2⟩
  · have hz' : (h != 0) = true := by simp [hz]
    have HXX := Lib.hid (HX.out hz)
    have hHO := holds_any h c vg vu vf (.slice (some ⟨g, 0, none⟩) p.ch.length cc) p B W HPW.out.pa HXX.out.1 HXX.out.2.1 (by rw [HK.out.len]; exact HXX.out.2.2) (by rw [HK.out.len]; omega) (HK.out.at h).1
    unfold cval at hHO
    have HHO := Lib.hid hHO
    clear hHO
    go_wp2_with fail
    refine HHO.out.mono ?_
    rintro e w1 ⟨rfl, hb1⟩
    have HB1 := Lib.hid hb1
    have cX := (hb1.cell (p := ⟨w.heap.size, 0, none⟩) (by show w.heap.size < _; omega)).trans b0
    have cX1 := (hb1.cell (p := ⟨w.heap.size, 1, none⟩) (by show w.heap.size < _; omega)).trans b1
    have cX2 := (hb1.cell (p := ⟨w.heap.size, 2, none⟩) (by show w.heap.size < _; omega)).trans b2
    have cX3 := (hb1.cell (p := ⟨w.heap.size, 3, none⟩) (by show w.heap.size < _; omega)).trans b3
    have cX4 := (hb1.cell (p := ⟨w.heap.size, 4, none⟩) (by show w.heap.size < _; omega)).trans b4
    clear hb1
    rw [HE.out]
    by_cases hc : p.at h = c
    · have HC := Lib.hid hc
      rw [decide_eq_true hc]
      clear hc
      go_wp2
      go_ret2
      exact .inr ⟨p, h, HPL.out hz HC.out, rfl, ⟨vg, vu, vf, HPW.out.below HB1.out, fun r _ h => h⟩, But.of_below (HBW.out.trans (HB1.out.mono (by omega)))⟩
    · have HC := Lib.hid hc
      rw [decide_eq_false hc]
      clear hc
      go_wp2_with fail
      refine (HTK.out w1 HB1.out (fun hc => HC.out hc.2)).mono ?_
      rintro e w2 (⟨ho, rfl, hpb, hbut⟩ | ⟨q, x, ho, rfl, hpb, hbut⟩)
      · have HQ := Lib.hid (And.intro ho (And.intro (fresh_up (w := w) hpb (Nat.le_trans HBW.out.size HB1.out.size)) ((But.of_below (HBW.out.trans (HB1.out.mono (by omega)))).trans hbut)))
        clear ho hpb hbut
        go_wp2
        go_ret2
        exact .inl ⟨HQ.out.1, rfl, HQ.out.2.1, HQ.out.2.2⟩
      · have HQ := Lib.hid (And.intro ho (And.intro (fresh_up (w := w) hpb (Nat.le_trans HBW.out.size HB1.out.size)) ((But.of_below (HBW.out.trans (HB1.out.mono (by omega)))).trans hbut)))
        clear ho hpb hbut
        go_wp2
        go_ret2
        exact .inr ⟨q, x, HQ.out.1, rfl, HQ.out.2.1, HQ.out.2.2⟩
end Go.Proofs.Ytbldjlkofaiikaa
