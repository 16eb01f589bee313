/-
  The law RecApart: unlike nodes have unlike words.
-/
import Derived.Test.YtibcbopemccolaaDoorRecSh
import Derived.Test.YtibcbopemccolaaDoorRecT
import Derived.Test.YtibcbopemccolaaDoorRecSa
import Derived.Test.YtibcbopemccolaaDoorRecVc
namespace Go.Proofs.YtibcbopemccolaaDoor
open Go.ChangeShapes Go.WideShapes Go.ChangeAt Go.RowKit
open Rm
set_option linter.unusedVariables false
set_option linter.unusedSimpArgs false

/-- Where the law stands: both nodes lie in their boxes, and nothing below z is turned. -/
structure AP (w z : World) (a : Rc) (A : Option Addr) (ca : Nat) (b : Rc) (B : Option Addr) (cb : Nat) (X : World) : Prop where
  ka : X.heap[w.heap.size]? = some (.cells (rcs a A ca) 27 (0, 0))
  kb : X.heap[w.heap.size + 1]? = some (.cells (rcs b B cb) 27 (0, 0))
  sz : w.heap.size + 1 < X.heap.size
  be : Below w.heap.size w X
  la : LV X A (svs a.attrs)
  lb : LV X B (svs b.attrs)
  bz : Below z.heap.size z X
theorem AP.step {w z : World} {a b : Rc} {A B : Option Addr} {ca cb : Nat} {X Y : World} (h : AP w z a A ca b B cb X) (hb : Below X.heap.size X Y) : AP w z a A ca b B cb Y :=
  ⟨(hb.block _ (Nat.lt_of_succ_lt h.sz)).trans h.ka, (hb.block _ h.sz).trans h.kb, Nat.lt_of_lt_of_le h.sz hb.size, h.be.trans (hb.mono h.be.size), h.la.below hb, h.lb.below hb, h.bz.trans (hb.mono h.bz.size)⟩
theorem AP.drew {w z : World} {a b : Rc} {A B : Option Addr} {ca cb : Nat} {X : World} (h : AP w z a A ca b B cb X) : AP w z a A ca b B cb X.drew := h.step (Below.refl _ X).drew
theorem AP.at_ {w z z' : World} {a b : Rc} {A B : Option Addr} {ca cb : Nat} {X : World} (h : AP w z a A ca b B cb X) (hz : Below z'.heap.size z' X) : AP w z' a A ca b B cb X := ⟨h.ka, h.kb, h.sz, h.be, h.la, h.lb, hz⟩
theorem AP.conj {w z : World} {a b : Rc} {A B : Option Addr} {ca cb : Nat} {X : World} (h : AP w z a A ca b B cb X) :
    X.cell? ⟨w.heap.size, 0, none⟩ = some (.int .i64 a.kind) ∧ X.cell? ⟨w.heap.size, 1, none⟩ = some (.int .i64 a.par) ∧ X.cell? ⟨w.heap.size, 2, none⟩ = some (.string (str a.name)) ∧ X.cell? ⟨w.heap.size, 3, none⟩ = some (.string (str a.text)) ∧ X.cell? ⟨w.heap.size, 4, none⟩ = some (.slice A a.attrs.length ca) ∧ X.cell? ⟨w.heap.size, 5, none⟩ = some (.int .u64 a.root) ∧ X.cell? ⟨w.heap.size, 6, none⟩ = some (.int .i64 a.size) ∧ X.cell? ⟨w.heap.size + 1, 0, none⟩ = some (.int .i64 b.kind) ∧ X.cell? ⟨w.heap.size + 1, 1, none⟩ = some (.int .i64 b.par) ∧ X.cell? ⟨w.heap.size + 1, 2, none⟩ = some (.string (str b.name)) ∧ X.cell? ⟨w.heap.size + 1, 3, none⟩ = some (.string (str b.text)) ∧ X.cell? ⟨w.heap.size + 1, 4, none⟩ = some (.slice B b.attrs.length cb) ∧ X.cell? ⟨w.heap.size + 1, 5, none⟩ = some (.int .u64 b.root) ∧ X.cell? ⟨w.heap.size + 1, 6, none⟩ = some (.int .i64 b.size) :=
  ⟨block_cell h.ka rfl, block_cell h.ka rfl, block_cell h.ka rfl, block_cell h.ka rfl, block_cell h.ka rfl, block_cell h.ka rfl, block_cell h.ka rfl, block_cell h.kb rfl, block_cell h.kb rfl, block_cell h.kb rfl, block_cell h.kb rfl, block_cell h.kb rfl, block_cell h.kb rfl, block_cell h.kb rfl⟩
set_option maxRecDepth 100000 in
set_option maxHeartbeats 2000000 in
theorem apart_law (a b : Rc) (A B : Option Addr) (ca cb : Nat) (w : World) (hT : BT w) (hA : LV w A (svs a.attrs)) (ha : RcB a) (hB : LV w B (svs b.attrs)) (hb : RcB b) :
    Calls Tryd.prog 7 #[.agg (rcs a A ca), .agg (rcs b B cb)] w fun e w' => e = .returned (.bool true) ∧ Below w.heap.size w w' := by
  obtain ⟨W, hW⟩ : ∃ W, W = (w.alloc (.cells (rcs a A ca) 27)).alloc (.cells (rcs b B cb) 27) := ⟨_, rfl⟩
  have F : Hid (AP w w a A ca b B cb W) := Lib.hid (by
    have hbw : Below w.heap.size w W := by subst hW; exact ((Below.refl _ w).alloc (Nat.le_refl _) _).alloc (by simp) _
    refine ⟨?_, ?_, by subst hW; simp, hbw, hA.below hbw, hB.below hbw, hbw⟩
    · subst hW; rw [heap_old _ _ (by simp)]; exact heap_new _ _
    · subst hW; have := heap_new (w.alloc (.cells (rcs a A ca) 27)) (.cells (rcs b B cb) 27); simpa using this)
  have HT := Lib.hid hT
  have HRa := Lib.hid ha
  have HRb := Lib.hid hb
  have hla := ha.a0
  have hlb := hb.a0
  clear hT hA ha hB hb
  go_enter Tryd.func7, Tryd.ntmps7
  go_upto_region 1 with fail
  rw [← hW]
  clear hW
  have H4 := Lib.hid (fun (X : World) (hx : AP w w a A ca b B cb X) => bounded_any a A ca X hx.la HRa.out)
  cases hb4 : bdd a
  · rw [hb4] at H4
    obtain ⟨x0, x1, x2, x3, x4, x5, x6, y0, y1, y2, y3, y4, y5, y6⟩ := F.out.conj
    go_wp2_with fail
    clear x0 x1 x2 x3 x4 x5 x6 y0 y1 y2 y3 y4 y5 y6
    refine (H4.out _ F.out).mono ?_
    rintro e v1 ⟨rfl, hb⟩
    have F2 : Hid (AP w w a A ca b B cb v1) := Lib.hid (F.out.step hb)
    clear hb F
    have F := F2
    clear F2
    clear hb4 H4
    obtain ⟨x0, x1, x2, x3, x4, x5, x6, y0, y1, y2, y3, y4, y5, y6⟩ := F.out.conj
    go_wp2_with fail
    clear x0 x1 x2 x3 x4 x5 x6 y0 y1 y2 y3 y4 y5 y6
    refine (shown_any _ (HT.out.below F.out.be)).mono ?_
    rintro e v2 ⟨rfl, hb⟩
    have F2 : Hid (AP w w a A ca b B cb v2) := Lib.hid (F.out.step hb)
    clear hb F
    have F := F2
    clear F2
    go_wp2
    go_ret
    exact ⟨ret_bool (by first | rfl | simp), F.out.be⟩
  · rw [hb4] at H4
    obtain ⟨x0, x1, x2, x3, x4, x5, x6, y0, y1, y2, y3, y4, y5, y6⟩ := F.out.conj
    go_wp2_with fail
    clear x0 x1 x2 x3 x4 x5 x6 y0 y1 y2 y3 y4 y5 y6
    refine (H4.out _ F.out).mono ?_
    rintro e v3 ⟨rfl, hb⟩
    have F2 : Hid (AP w w a A ca b B cb v3) := Lib.hid (F.out.step hb)
    clear hb F
    have F := F2
    clear F2
    clear hb4 H4
    have H3 := Lib.hid (fun (X : World) (hx : AP w w a A ca b B cb X) => bounded_any b B cb X hx.lb HRb.out)
    cases hb3 : bdd b
    · rw [hb3] at H3
      obtain ⟨x0, x1, x2, x3, x4, x5, x6, y0, y1, y2, y3, y4, y5, y6⟩ := F.out.conj
      go_wp2_with fail
      clear x0 x1 x2 x3 x4 x5 x6 y0 y1 y2 y3 y4 y5 y6
      refine (H3.out _ F.out).mono ?_
      rintro e v4 ⟨rfl, hb⟩
      have F2 : Hid (AP w w a A ca b B cb v4) := Lib.hid (F.out.step hb)
      clear hb F
      have F := F2
      clear F2
      clear hb3 H3
      obtain ⟨x0, x1, x2, x3, x4, x5, x6, y0, y1, y2, y3, y4, y5, y6⟩ := F.out.conj
      go_wp2_with fail
      clear x0 x1 x2 x3 x4 x5 x6 y0 y1 y2 y3 y4 y5 y6
      refine (shown_any _ (HT.out.below F.out.be)).mono ?_
      rintro e v5 ⟨rfl, hb⟩
      have F2 : Hid (AP w w a A ca b B cb v5) := Lib.hid (F.out.step hb)
      clear hb F
      have F := F2
      clear F2
      go_wp2
      go_ret
      exact ⟨ret_bool (by first | rfl | simp), F.out.be⟩
    · rw [hb3] at H3
      obtain ⟨x0, x1, x2, x3, x4, x5, x6, y0, y1, y2, y3, y4, y5, y6⟩ := F.out.conj
      go_wp2_with fail
      clear x0 x1 x2 x3 x4 x5 x6 y0 y1 y2 y3 y4 y5 y6
      refine (H3.out _ F.out).mono ?_
      rintro e v6 ⟨rfl, hb⟩
      have F2 : Hid (AP w w a A ca b B cb v6) := Lib.hid (F.out.step hb)
      clear hb F
      have F := F2
      clear F2
      clear hb3 H3
      have H2 := Lib.hid (fun (X : World) (hx : AP w w a A ca b B cb X) => may_any a A ca X hx.la HRa.out)
      cases hb2 : mayB a
      · rw [hb2] at H2
        obtain ⟨x0, x1, x2, x3, x4, x5, x6, y0, y1, y2, y3, y4, y5, y6⟩ := F.out.conj
        go_wp2_with fail
        clear x0 x1 x2 x3 x4 x5 x6 y0 y1 y2 y3 y4 y5 y6
        refine (H2.out _ F.out).mono ?_
        rintro e v7 ⟨rfl, hb⟩
        have F2 : Hid (AP w w a A ca b B cb v7) := Lib.hid (F.out.step hb)
        clear hb F
        have F := F2
        clear F2
        have HMafalse := Lib.hid hb2
        clear hb2 H2
        obtain ⟨x0, x1, x2, x3, x4, x5, x6, y0, y1, y2, y3, y4, y5, y6⟩ := F.out.conj
        go_wp2_with fail
        clear x0 x1 x2 x3 x4 x5 x6 y0 y1 y2 y3 y4 y5 y6
        refine (shown_any _ (HT.out.below F.out.be)).mono ?_
        rintro e v8 ⟨rfl, hb⟩
        have F2 : Hid (AP w w a A ca b B cb v8) := Lib.hid (F.out.step hb)
        clear hb F
        have F := F2
        clear F2
        go_wp2
        go_ret
        exact ⟨ret_bool (by first | rfl | simp), F.out.be⟩
      · rw [hb2] at H2
        obtain ⟨x0, x1, x2, x3, x4, x5, x6, y0, y1, y2, y3, y4, y5, y6⟩ := F.out.conj
        go_wp2_with fail
        clear x0 x1 x2 x3 x4 x5 x6 y0 y1 y2 y3 y4 y5 y6
        refine (H2.out _ F.out).mono ?_
        rintro e v9 ⟨rfl, hb⟩
        have F2 : Hid (AP w w a A ca b B cb v9) := Lib.hid (F.out.step hb)
        clear hb F
        have F := F2
        clear F2
        have HMatrue := Lib.hid hb2
        clear hb2 H2
        have H1 := Lib.hid (fun (X : World) (hx : AP w w a A ca b B cb X) => may_any b B cb X hx.lb HRb.out)
        cases hb1 : mayB b
        · rw [hb1] at H1
          obtain ⟨x0, x1, x2, x3, x4, x5, x6, y0, y1, y2, y3, y4, y5, y6⟩ := F.out.conj
          go_wp2_with fail
          clear x0 x1 x2 x3 x4 x5 x6 y0 y1 y2 y3 y4 y5 y6
          refine (H1.out _ F.out).mono ?_
          rintro e v10 ⟨rfl, hb⟩
          have F2 : Hid (AP w w a A ca b B cb v10) := Lib.hid (F.out.step hb)
          clear hb F
          have F := F2
          clear F2
          have HMbfalse := Lib.hid hb1
          clear hb1 H1
          obtain ⟨x0, x1, x2, x3, x4, x5, x6, y0, y1, y2, y3, y4, y5, y6⟩ := F.out.conj
          go_wp2_with fail
          clear x0 x1 x2 x3 x4 x5 x6 y0 y1 y2 y3 y4 y5 y6
          refine (shown_any _ (HT.out.below F.out.be)).mono ?_
          rintro e v11 ⟨rfl, hb⟩
          have F2 : Hid (AP w w a A ca b B cb v11) := Lib.hid (F.out.step hb)
          clear hb F
          have F := F2
          clear F2
          go_wp2
          go_ret
          exact ⟨ret_bool (by first | rfl | simp), F.out.be⟩
        · rw [hb1] at H1
          obtain ⟨x0, x1, x2, x3, x4, x5, x6, y0, y1, y2, y3, y4, y5, y6⟩ := F.out.conj
          go_wp2_with fail
          clear x0 x1 x2 x3 x4 x5 x6 y0 y1 y2 y3 y4 y5 y6
          refine (H1.out _ F.out).mono ?_
          rintro e v12 ⟨rfl, hb⟩
          have F2 : Hid (AP w w a A ca b B cb v12) := Lib.hid (F.out.step hb)
          clear hb F
          have F := F2
          clear F2
          have HMbtrue := Lib.hid hb1
          clear hb1 H1
          obtain ⟨x0, x1, x2, x3, x4, x5, x6, y0, y1, y2, y3, y4, y5, y6⟩ := F.out.conj
          go_wp2_with fail
          clear x0 x1 x2 x3 x4 x5 x6 y0 y1 y2 y3 y4 y5 y6
          refine (shown_any _ (HT.out.below F.out.be)).mono ?_
          rintro e v13 ⟨rfl, hb⟩
          have F2 : Hid (AP w w a A ca b B cb v13) := Lib.hid (F.out.step hb)
          clear hb F
          have F := F2
          clear F2
          have hma := mayB_true HMatrue.out
          have hmb := mayB_true HMbtrue.out
          have HMa := Lib.hid hma
          have HMb := Lib.hid hmb
          have hpa := pk_len hma
          have hpb := pk_len hmb
          clear hma hmb
          obtain ⟨x0, x1, x2, x3, x4, x5, x6, y0, y1, y2, y3, y4, y5, y6⟩ := F.out.conj
          go_wp2_with fail
          clear x0 x1 x2 x3 x4 x5 x6 y0 y1 y2 y3 y4 y5 y6
          refine (pack_any a A ca _ F.out.la HRa.out (HT.out.below F.out.be)).mono ?_
          rintro e za (⟨hm, -, -⟩ | ⟨-, p, cp, rfl, ho, hb⟩)
          · exact absurd HMa.out (mayB_false hm)
          have HLa := Lib.hid (LV.of_own ho)
          have F2 : Hid (AP w w a A ca b B cb za) := Lib.hid (F.out.step hb)
          clear hb F ho
          have F := F2
          clear F2
          obtain ⟨x0, x1, x2, x3, x4, x5, x6, y0, y1, y2, y3, y4, y5, y6⟩ := F.out.conj
          go_wp2_with fail
          clear x0 x1 x2 x3 x4 x5 x6 y0 y1 y2 y3 y4 y5 y6
          refine (pack_any b B cb _ F.out.lb HRb.out (HT.out.below F.out.be)).mono ?_
          rintro e zb (⟨hm, -, -⟩ | ⟨-, q, cq, rfl, ho, hb⟩)
          · exact absurd HMb.out (mayB_false hm)
          have HLb := Lib.hid (LV.of_own ho)
          have HLa2 := Lib.hid (HLa.out.below hb)
          have F2 : Hid (AP w zb a A ca b B cb zb) := Lib.hid ((F.out.step hb).at_ (Below.refl _ _))
          clear hb F ho HLa
          have F := F2
          clear F2
          have HEQ : Hid (decide (pk a = pk b) = sameB a b) := Lib.hid (by
            rw [Bool.eq_iff_iff, decide_eq_true_iff, sameB_iff]
            exact ⟨fun h => pk_inj HMa.out HMb.out h, fun h => by rw [h]⟩)
          have HHa := Lib.hid (fun (Y : World) (hY : AP w zb a A ca b B cb Y) => handles_any p q (pk a).length (pk b).length cp cq (pk a) (pk b) Y (HLa2.out.below hY.bz) (HLb.out.below hY.bz) rfl rfl (by omega) (by omega))
          have HSm := Lib.hid (fun (Y : World) (hY : AP w zb a A ca b B cb Y) => same_any a b A B ca cb Y hY.la hY.lb hla hlb)
          rw [HEQ.out] at HHa
          clear HEQ HLa2 HLb HMa HMb HMatrue HMbtrue
          cases hβ : sameB a b
          · rw [hβ] at HHa HSm
            clear hβ
            obtain ⟨x0, x1, x2, x3, x4, x5, x6, y0, y1, y2, y3, y4, y5, y6⟩ := F.out.conj
            go_wp2_with fail
            go_region_held3 (fun w' => w'.cell? ⟨w.heap.size, 0, none⟩ = some (.int .i64 a.kind) ∧ w'.cell? ⟨w.heap.size, 1, none⟩ = some (.int .i64 a.par) ∧ w'.cell? ⟨w.heap.size, 2, none⟩ = some (.string (str a.name)) ∧ w'.cell? ⟨w.heap.size, 3, none⟩ = some (.string (str a.text)) ∧ w'.cell? ⟨w.heap.size, 4, none⟩ = some (.slice A a.attrs.length ca) ∧ w'.cell? ⟨w.heap.size, 5, none⟩ = some (.int .u64 a.root) ∧ w'.cell? ⟨w.heap.size, 6, none⟩ = some (.int .i64 a.size) ∧ w'.cell? ⟨w.heap.size + 1, 0, none⟩ = some (.int .i64 b.kind) ∧ w'.cell? ⟨w.heap.size + 1, 1, none⟩ = some (.int .i64 b.par) ∧ w'.cell? ⟨w.heap.size + 1, 2, none⟩ = some (.string (str b.name)) ∧ w'.cell? ⟨w.heap.size + 1, 3, none⟩ = some (.string (str b.text)) ∧ w'.cell? ⟨w.heap.size + 1, 4, none⟩ = some (.slice B b.attrs.length cb) ∧ w'.cell? ⟨w.heap.size + 1, 5, none⟩ = some (.int .u64 b.root) ∧ w'.cell? ⟨w.heap.size + 1, 6, none⟩ = some (.int .i64 b.size))
              (first
                | with_reducible exact F.out.conj
                | with_reducible exact F.out.drew.conj)
              (first
                | (go_at_call 18
                   first | with_reducible refine (HHa.out _ F.out).mono ?_ | with_reducible refine (HHa.out _ F.out.drew).mono ?_
                   rintro e wy ⟨rfl, hb⟩
                   have F2 : Hid (AP w zb a A ca b B cb wy) := Lib.hid (by first | with_reducible exact F.out.step hb | with_reducible exact F.out.drew.step hb)
                   clear hb F
                   have F := F2
                   clear F2)
                | (go_at_call 19
                   first | with_reducible refine (HSm.out _ F.out).mono ?_ | with_reducible refine (HSm.out _ F.out.drew).mono ?_
                   rintro e wy ⟨rfl, hb⟩
                   have F2 : Hid (AP w zb a A ca b B cb wy) := Lib.hid (by first | with_reducible exact F.out.step hb | with_reducible exact F.out.drew.step hb)
                   clear hb F
                   have F := F2
                   clear F2)
                | (go_at_call 13
                   with_reducible refine (its_any a A ca _).mono ?_
                   rintro e wy ⟨rfl, hb⟩
                   have F2 : Hid (AP w zb a A ca b B cb wy) := Lib.hid (by first | with_reducible exact F.out.step hb | with_reducible exact F.out.drew.step hb)
                   clear hb F
                   have F := F2
                   clear F2)
                | (go_at_call 13
                   with_reducible refine (its_any b B cb _).mono ?_
                   rintro e wy ⟨rfl, hb⟩
                   have F2 : Hid (AP w zb a A ca b B cb wy) := Lib.hid (by first | with_reducible exact F.out.step hb | with_reducible exact F.out.drew.step hb)
                   clear hb F
                   have F := F2
                   clear F2))
            all_goals
              go_wp2
              go_ret
              exact ⟨ret_bool (by first | rfl | simp), by first | exact F.out.be | exact F.out.drew.be⟩
          · rw [hβ] at HHa HSm
            clear hβ
            obtain ⟨x0, x1, x2, x3, x4, x5, x6, y0, y1, y2, y3, y4, y5, y6⟩ := F.out.conj
            go_wp2_with fail
            go_region_held3 (fun w' => w'.cell? ⟨w.heap.size, 0, none⟩ = some (.int .i64 a.kind) ∧ w'.cell? ⟨w.heap.size, 1, none⟩ = some (.int .i64 a.par) ∧ w'.cell? ⟨w.heap.size, 2, none⟩ = some (.string (str a.name)) ∧ w'.cell? ⟨w.heap.size, 3, none⟩ = some (.string (str a.text)) ∧ w'.cell? ⟨w.heap.size, 4, none⟩ = some (.slice A a.attrs.length ca) ∧ w'.cell? ⟨w.heap.size, 5, none⟩ = some (.int .u64 a.root) ∧ w'.cell? ⟨w.heap.size, 6, none⟩ = some (.int .i64 a.size) ∧ w'.cell? ⟨w.heap.size + 1, 0, none⟩ = some (.int .i64 b.kind) ∧ w'.cell? ⟨w.heap.size + 1, 1, none⟩ = some (.int .i64 b.par) ∧ w'.cell? ⟨w.heap.size + 1, 2, none⟩ = some (.string (str b.name)) ∧ w'.cell? ⟨w.heap.size + 1, 3, none⟩ = some (.string (str b.text)) ∧ w'.cell? ⟨w.heap.size + 1, 4, none⟩ = some (.slice B b.attrs.length cb) ∧ w'.cell? ⟨w.heap.size + 1, 5, none⟩ = some (.int .u64 b.root) ∧ w'.cell? ⟨w.heap.size + 1, 6, none⟩ = some (.int .i64 b.size))
              (first
                | with_reducible exact F.out.conj
                | with_reducible exact F.out.drew.conj)
              (first
                | (go_at_call 18
                   first | with_reducible refine (HHa.out _ F.out).mono ?_ | with_reducible refine (HHa.out _ F.out.drew).mono ?_
                   rintro e wy ⟨rfl, hb⟩
                   have F2 : Hid (AP w zb a A ca b B cb wy) := Lib.hid (by first | with_reducible exact F.out.step hb | with_reducible exact F.out.drew.step hb)
                   clear hb F
                   have F := F2
                   clear F2)
                | (go_at_call 19
                   first | with_reducible refine (HSm.out _ F.out).mono ?_ | with_reducible refine (HSm.out _ F.out.drew).mono ?_
                   rintro e wy ⟨rfl, hb⟩
                   have F2 : Hid (AP w zb a A ca b B cb wy) := Lib.hid (by first | with_reducible exact F.out.step hb | with_reducible exact F.out.drew.step hb)
                   clear hb F
                   have F := F2
                   clear F2)
                | (go_at_call 13
                   with_reducible refine (its_any a A ca _).mono ?_
                   rintro e wy ⟨rfl, hb⟩
                   have F2 : Hid (AP w zb a A ca b B cb wy) := Lib.hid (by first | with_reducible exact F.out.step hb | with_reducible exact F.out.drew.step hb)
                   clear hb F
                   have F := F2
                   clear F2)
                | (go_at_call 13
                   with_reducible refine (its_any b B cb _).mono ?_
                   rintro e wy ⟨rfl, hb⟩
                   have F2 : Hid (AP w zb a A ca b B cb wy) := Lib.hid (by first | with_reducible exact F.out.step hb | with_reducible exact F.out.drew.step hb)
                   clear hb F
                   have F := F2
                   clear F2))
            all_goals
              go_wp2
              go_ret
              exact ⟨ret_bool (by first | rfl | simp), by first | exact F.out.be | exact F.out.drew.be⟩
theorem apart_open {H : Type} {enc : TypeId × Value → H} {W : World} {base : Nat} (hm : BT W) {v0 v1 : Value} {d0 d1 : DataW H} {p0 p1 : List MemPlace}
    (o0 : Value.okWide Tryd.prog W .any base 27 v0) (o1 : Value.okWide Tryd.prog W .any base 27 v1)
    (h0 : DataW.Trod enc Tryd.prog W 0 (fun _ => true) true 27 v0 d0 p0) (h1 : DataW.Trod enc Tryd.prog W 0 (fun _ => true) true 27 v1 d1 p1)
    (l0 : ∀ x ∈ p0, x.block < W.heap.size) (l1 : ∀ x ∈ p1, x.block < W.heap.size) :
    Calls Tryd.prog 7 #[v0, v1] W fun e w' => e = .returned (.bool true) ∧ Below W.heap.size W w' := by
  obtain ⟨a, A, ca, rfl, hA, ha⟩ := rec_open o0 h0 l0
  obtain ⟨b, B, cb, rfl, hB, hb⟩ := rec_open o1 h1 l1
  exact apart_law a b A B ca cb W hm hA ha hB hb
end Go.Proofs.YtibcbopemccolaaDoor
