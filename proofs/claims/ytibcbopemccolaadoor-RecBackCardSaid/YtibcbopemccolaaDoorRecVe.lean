/-
  The law RecBack: what is packed is unpacked to the same, and what is unpacked packed.
-/
import Derived.Test.YtibcbopemccolaaDoorRecSh
import Derived.Test.YtibcbopemccolaaDoorRecT
import Derived.Test.YtibcbopemccolaaDoorRecSa
import Derived.Test.YtibcbopemccolaaDoorRecVc
import Derived.Test.YtibcbopemccolaaDoorRecVa
namespace Go.Proofs.YtibcbopemccolaaDoor
open Go.ChangeShapes Go.WideShapes Go.ChangeAt Go.RowKit
open Rm
set_option linter.unusedVariables false
set_option linter.unusedSimpArgs false

theorem pk_u64 {r : Rc} (h : MayR r) (h0 : 0 ≤ r.root) (h1 : r.root ≤ 18446744073709551615) : U64 (pk r) := by
  obtain ⟨a1, a2, a3, a4, a5, a6, a7, a8, a9, a10, a11⟩ := h
  have hh : 0 ≤ headR r ∧ headR r ≤ 18446744073709551615 := by unfold headR; omega
  have hl : U64 (lens r.attrs) := by
    by_cases h : r.attrs = []
    · rw [lens_none h]; intro x hx; cases hx
    · rw [lens_some h]
      have b1 : ∀ x ∈ la (r.attrs.take 8), x < 64 := la_lt (fun x hx => a9 x (List.mem_of_mem_take hx))
      have b2 : ∀ x ∈ la (r.attrs.drop 8), x < 64 := la_lt (fun x hx => a9 x (List.mem_of_mem_drop hx))
      have c1 := six_lt8 b1 (by simp [la]; omega)
      have c2 := six_lt8 b2 (by simp [la]; omega)
      have d1 := six_nonneg (la (r.attrs.take 8))
      have d2 := six_nonneg (la (r.attrs.drop 8))
      intro x hx
      rcases List.mem_cons.1 hx with rfl | hx
      · exact ⟨d1, by omega⟩
      · rcases List.mem_cons.1 hx with rfl | hx
        · exact ⟨d2, by omega⟩
        · cases hx
  intro x hx
  unfold pk P at hx
  rw [List.take_length] at hx
  rcases List.mem_cons.1 hx with rfl | hx
  · exact hh
  rcases List.mem_cons.1 hx with rfl | hx
  · exact ⟨h0, h1⟩
  rcases List.mem_append.1 hx with hx | hx
  · exact hl x hx
  rcases List.mem_append.1 hx with hx | hx
  · exact wds_u64 _ x hx
  rcases List.mem_append.1 hx with hx | hx
  · exact wds_u64 _ x hx
  obtain ⟨s, -, hs⟩ := List.mem_flatMap.1 hx
  exact wds_u64 _ x hs
theorem rcb_of_may {r : Rc} (h : MayR r) (hu : U64 (pk r)) : RcB r := by
  have hr := hu r.root (by unfold pk P; simp)
  obtain ⟨a1, a2, a3, a4, a5, a6, a7, a8, a9, a10, a11⟩ := h
  exact ⟨⟨by omega, by omega⟩, ⟨by omega, by omega⟩, by omega, by omega, by omega, fun a ha => by have := a9 a ha; omega, hr, ⟨by omega, by omega⟩⟩
/-- Where the law stands: the node lies in its box. -/
structure BP (w : World) (r : Rc) (A : Option Addr) (ca : Nat) (L : Option Addr) (l : List Int) (X : World) : Prop where
  ka : X.heap[w.heap.size]? = some (.cells (rcs r A ca) 27 (0, 0))
  sz : w.heap.size < X.heap.size
  be : Below w.heap.size w X
  la : LV X A (svs r.attrs)
  ll : LV X L (gvs l)
theorem BP.step {w : World} {r : Rc} {A : Option Addr} {ca : Nat} {L : Option Addr} {l : List Int} {X Y : World} (h : BP w r A ca L l X) (hb : Below X.heap.size X Y) : BP w r A ca L l Y :=
  ⟨(hb.block _ h.sz).trans h.ka, Nat.lt_of_lt_of_le h.sz hb.size, h.be.trans (hb.mono h.be.size), h.la.below hb, h.ll.below hb⟩
theorem BP.conj {w : World} {r : Rc} {A : Option Addr} {ca : Nat} {L : Option Addr} {l : List Int} {X : World} (h : BP w r A ca L l X) :
    X.cell? ⟨w.heap.size, 0, none⟩ = some (.int .i64 r.kind) ∧ X.cell? ⟨w.heap.size, 1, none⟩ = some (.int .i64 r.par) ∧ X.cell? ⟨w.heap.size, 2, none⟩ = some (.string (str r.name)) ∧ X.cell? ⟨w.heap.size, 3, none⟩ = some (.string (str r.text)) ∧ X.cell? ⟨w.heap.size, 4, none⟩ = some (.slice A r.attrs.length ca) ∧ X.cell? ⟨w.heap.size, 5, none⟩ = some (.int .u64 r.root) ∧ X.cell? ⟨w.heap.size, 6, none⟩ = some (.int .i64 r.size) :=
  ⟨block_cell h.ka rfl, block_cell h.ka rfl, block_cell h.ka rfl, block_cell h.ka rfl, block_cell h.ka rfl, block_cell h.ka rfl, block_cell h.ka rfl⟩
/-- The same, and what was unpacked in a second box. -/
structure BQ (w : World) (r : Rc) (A : Option Addr) (ca : Nat) (L : Option Addr) (l : List Int) (K : Nat) (B : Option Addr) (cb : Nat) (X : World) : Prop where
  p : BP w r A ca L l X
  kb : X.heap[K]? = some (.cells (rcs r B cb) 27 (0, 0))
  sk : K < X.heap.size
  lb : LV X B (svs r.attrs)
theorem BQ.step {w : World} {r : Rc} {A : Option Addr} {ca : Nat} {L : Option Addr} {l : List Int} {K : Nat} {B : Option Addr} {cb : Nat} {X Y : World} (h : BQ w r A ca L l K B cb X) (hb : Below X.heap.size X Y) : BQ w r A ca L l K B cb Y :=
  ⟨h.p.step hb, (hb.block _ h.sk).trans h.kb, Nat.lt_of_lt_of_le h.sk hb.size, h.lb.below hb⟩
theorem BQ.drew {w : World} {r : Rc} {A : Option Addr} {ca : Nat} {L : Option Addr} {l : List Int} {K : Nat} {B : Option Addr} {cb : Nat} {X : World} (h : BQ w r A ca L l K B cb X) : BQ w r A ca L l K B cb X.drew := h.step (Below.refl _ X).drew
theorem BQ.conj {w : World} {r : Rc} {A : Option Addr} {ca : Nat} {L : Option Addr} {l : List Int} {K : Nat} {B : Option Addr} {cb : Nat} {X : World} (h : BQ w r A ca L l K B cb X) :
    X.cell? ⟨w.heap.size, 0, none⟩ = some (.int .i64 r.kind) ∧ X.cell? ⟨w.heap.size, 1, none⟩ = some (.int .i64 r.par) ∧ X.cell? ⟨w.heap.size, 2, none⟩ = some (.string (str r.name)) ∧ X.cell? ⟨w.heap.size, 3, none⟩ = some (.string (str r.text)) ∧ X.cell? ⟨w.heap.size, 4, none⟩ = some (.slice A r.attrs.length ca) ∧ X.cell? ⟨w.heap.size, 5, none⟩ = some (.int .u64 r.root) ∧ X.cell? ⟨w.heap.size, 6, none⟩ = some (.int .i64 r.size) ∧ X.cell? ⟨K, 0, none⟩ = some (.int .i64 r.kind) ∧ X.cell? ⟨K, 1, none⟩ = some (.int .i64 r.par) ∧ X.cell? ⟨K, 2, none⟩ = some (.string (str r.name)) ∧ X.cell? ⟨K, 3, none⟩ = some (.string (str r.text)) ∧ X.cell? ⟨K, 4, none⟩ = some (.slice B r.attrs.length cb) ∧ X.cell? ⟨K, 5, none⟩ = some (.int .u64 r.root) ∧ X.cell? ⟨K, 6, none⟩ = some (.int .i64 r.size) :=
  ⟨block_cell h.p.ka rfl, block_cell h.p.ka rfl, block_cell h.p.ka rfl, block_cell h.p.ka rfl, block_cell h.p.ka rfl, block_cell h.p.ka rfl, block_cell h.p.ka rfl, block_cell h.kb rfl, block_cell h.kb rfl, block_cell h.kb rfl, block_cell h.kb rfl, block_cell h.kb rfl, block_cell h.kb rfl, block_cell h.kb rfl⟩
theorem zR_str : rcs zR none 0 = zrec := rfl
set_option maxRecDepth 100000 in
set_option maxHeartbeats 2000000 in
theorem back_law (r : Rc) (A : Option Addr) (ca : Nat) (L : Option Addr) (m cL : Nat) (l : List Int) (w : World) (hT : BT w) (hA : LV w A (svs r.attrs)) (hr : RcB r) (hL : LV w L (gvs l)) (hl : l.length = m) (hmc : m ≤ cL) (hc : cL ≤ maxLen) (hU : U64 l) (hlo : ∀ a, L = some a → a.block < w.heap.size) :
    Calls Tryd.prog 4 #[.agg (rcs r A ca), .slice L m cL] w fun e w' => e = .returned (.bool true) ∧ Below w.heap.size w w' := by
  obtain ⟨W, hW⟩ : ∃ W, W = w.alloc (.cells (rcs r A ca) 27) := ⟨_, rfl⟩
  have F : Hid (BP w r A ca L l W) := Lib.hid (by
    have hbw : Below w.heap.size w W := by subst hW; exact (Below.refl _ w).alloc (Nat.le_refl _) _
    exact ⟨by subst hW; exact heap_new _ _, by subst hW; simp, hbw, hA.below hbw, hL.below hbw⟩)
  have HT := Lib.hid hT
  have HRr := Lib.hid hr
  have hla := hr.a0
  have HLl := Lib.hid hl
  have HU := Lib.hid hU
  have HLO := Lib.hid (fun (X : World) (hx : BP w r A ca L l X) (a : Addr) (e : L = some a) => Nat.lt_of_lt_of_le (hlo a e) hx.be.size)
  have HCC := Lib.hid hc
  unfold maxLen at hc
  clear hT hA hr hL hl hU hlo
  go_enter Tryd.func4, Tryd.ntmps4
  go_upto_region 1 with fail
  rw [← hW]
  clear hW
  have HBd := Lib.hid (fun (X : World) (hx : BP w r A ca L l X) => bounded_any r A ca X hx.la HRr.out)
  cases hbd : bdd r
  · rw [hbd] at HBd
    obtain ⟨x0, x1, x2, x3, x4, x5, x6⟩ := F.out.conj
    go_wp2_with fail
    clear x0 x1 x2 x3 x4 x5 x6
    refine (HBd.out _ F.out).mono ?_
    rintro e v1 ⟨rfl, hb⟩
    have F2 : Hid (BP w r A ca L l v1) := Lib.hid (F.out.step hb)
    clear hb F
    have F := F2
    clear F2
    clear HBd hbd
    obtain ⟨x0, x1, x2, x3, x4, x5, x6⟩ := F.out.conj
    go_wp2_with fail
    clear x0 x1 x2 x3 x4 x5 x6
    refine (shown_any _ (HT.out.below F.out.be)).mono ?_
    rintro e v2 ⟨rfl, hb⟩
    have F2 : Hid (BP w r A ca L l v2) := Lib.hid (F.out.step hb)
    clear hb F
    have F := F2
    clear F2
    go_wp2
    go_ret
    exact ⟨ret_bool (by first | rfl | simp), F.out.be⟩
  · rw [hbd] at HBd
    by_cases h200 : m ≤ 200
    · have h200' : ¬ (200 : Int) < (m : Int) := by omega
      obtain ⟨x0, x1, x2, x3, x4, x5, x6⟩ := F.out.conj
      go_wp2_with fail
      clear x0 x1 x2 x3 x4 x5 x6
      refine (HBd.out _ F.out).mono ?_
      rintro e v3 ⟨rfl, hb⟩
      have F2 : Hid (BP w r A ca L l v3) := Lib.hid (F.out.step hb)
      clear hb F
      have F := F2
      clear F2
      clear HBd hbd
      obtain ⟨x0, x1, x2, x3, x4, x5, x6⟩ := F.out.conj
      go_wp2_with fail
      clear x0 x1 x2 x3 x4 x5 x6
      refine (shown_any _ (HT.out.below F.out.be)).mono ?_
      rintro e v4 ⟨rfl, hb⟩
      have F2 : Hid (BP w r A ca L l v4) := Lib.hid (F.out.step hb)
      clear hb F
      have F := F2
      clear F2
      obtain ⟨x0, x1, x2, x3, x4, x5, x6⟩ := F.out.conj
      go_wp2_with fail
      clear x0 x1 x2 x3 x4 x5 x6
      refine (pack_any r A ca _ F.out.la HRr.out (HT.out.below F.out.be)).mono ?_
      rintro e za (⟨hm, rfl, hb⟩ | ⟨hm, p, cp, rfl, ho, hb⟩)
      · have F2 : Hid (BP w r A ca L l za) := Lib.hid (F.out.step hb)
        clear hb F hm
        have F := F2
        clear F2
        obtain ⟨x0, x1, x2, x3, x4, x5, x6⟩ := F.out.conj
        go_wp2_with fail
        clear x0 x1 x2 x3 x4 x5 x6
        refine (unpack_any L m cL l _ F.out.ll HLl.out hmc HCC.out (by omega) (HLO.out _ F.out) HU.out (HT.out.below F.out.be)).mono ?_
        rintro e v ⟨r3, A3, c3, er, rfl, hLV, hb, (⟨rfl, hm, hp⟩ | ⟨rfl, rfl, rfl, rfl, hno⟩)⟩
        · have HM3 := Lib.hid hm
          have HP3 := Lib.hid hp
          have HR3 := Lib.hid (rcb_of_may hm (by rw [hp]; exact HU.out))
          obtain ⟨Y, hY⟩ : ∃ Y, Y = v.alloc (.cells (rcs r3 A3 c3) 27) := ⟨_, rfl⟩
          have hbY : Below v.heap.size v Y := by subst hY; exact (Below.refl _ v).alloc (Nat.le_refl _) _
          have F2 : Hid (BP w r A ca L l Y) := Lib.hid ((F.out.step hb).step hbY)
          have HK : Hid (Y.heap[v.heap.size]? = some (.cells (rcs r3 A3 c3) 27 (0, 0)) ∧ LV Y A3 (svs r3.attrs)) := Lib.hid ⟨by subst hY; exact heap_new _ _, hLV.below hbY⟩
          clear hb F hm hp hLV hbY
          have F := F2
          clear F2
          go_upto_region 9 with fail
          rw [← hY]
          clear hY
          obtain ⟨y0, y1, y2, y3, y4, y5, y6⟩ := block7 HK.out.1
          go_wp2_with fail
          clear y0 y1 y2 y3 y4 y5 y6
          refine (pack_any r3 A3 c3 _ HK.out.2 HR3.out (HT.out.below F.out.be)).mono ?_
          rintro e zb (⟨hm, -, -⟩ | ⟨-, q, cq, rfl, ho, hb⟩)
          · exact absurd HM3.out (mayB_false hm)
          have hp3 := pk_len HM3.out
          have HHa := Lib.hid (handles_any q L (pk r3).length m cq cL (pk r3) l zb (LV.of_own ho) (F.out.ll.below hb) rfl HLl.out (by omega) (by omega))
          rw [decide_eq_true HP3.out] at HHa
          have F2 : Hid (BP w r A ca L l zb) := Lib.hid (F.out.step hb)
          clear hb F ho HK
          have F := F2
          clear F2
          go_wp2_with fail
          refine HHa.out.mono ?_
          rintro e v5 ⟨rfl, hb⟩
          have F2 : Hid (BP w r A ca L l v5) := Lib.hid (F.out.step hb)
          clear hb F
          have F := F2
          clear F2
          go_wp2
          go_ret
          exact ⟨ret_bool (by first | rfl | simp), F.out.be⟩
        · obtain ⟨Y, hY⟩ : ∃ Y, Y = v.alloc (.cells zrec 27) := ⟨_, rfl⟩
          have hbY : Below v.heap.size v Y := by subst hY; exact (Below.refl _ v).alloc (Nat.le_refl _) _
          have F2 : Hid (BP w r A ca L l Y) := Lib.hid ((F.out.step hb).step hbY)
          have HK : Hid (Y.heap[v.heap.size]? = some (.cells zrec 27 (0, 0))) := Lib.hid (by subst hY; exact heap_new _ _)
          clear hb F hLV hbY hno
          have F := F2
          clear F2
          rw [zR_str]
          go_upto_region 9 with fail
          rw [← hY]
          clear hY
          have HIt : Hid (∀ X, Calls Tryd.prog 13 #[.agg zrec] X fun e w' => e = .returned (.agg zrec) ∧ Below X.heap.size X w') := Lib.hid (fun X => its_any zR none 0 X)
          have HSm : Hid (∀ X, Calls Tryd.prog 19 #[.agg zrec, .agg zrec] X fun e w' => e = .returned (.bool true) ∧ Below X.heap.size X w') := Lib.hid (fun X => by
            have := same_any zR zR none none 0 0 X (LV.nil _ _) (LV.nil _ _) (by decide) (by decide)
            rw [sameB_iff.2 rfl] at this
            exact this)
          obtain ⟨y0, y1, y2, y3, y4, y5, y6⟩ := block7 HK.out
          go_wp2_with fail
          clear y0 y1 y2 y3 y4 y5 y6
          refine (HIt.out _).mono ?_
          rintro e v6 ⟨rfl, hb⟩
          have F2 : Hid (BP w r A ca L l v6) := Lib.hid (F.out.step hb)
          clear hb F
          have F := F2
          clear F2
          go_wp2_with fail
          refine (HSm.out _).mono ?_
          rintro e v7 ⟨rfl, hb⟩
          have F2 : Hid (BP w r A ca L l v7) := Lib.hid (F.out.step hb)
          clear hb F
          have F := F2
          clear F2
          go_wp2
          go_ret
          exact ⟨ret_bool (by first | rfl | simp), F.out.be⟩
      · have hmr := mayB_true hm
        have HM := Lib.hid hmr
        have hpl := pk_len hmr
        have h2p : 2 ≤ (pk r).length := by unfold pk P; simp
        have F2 : Hid (BP w r A ca L l za) := Lib.hid (F.out.step hb)
        obtain ⟨_, _, ecc, h7c, hcm, -⟩ := own_form ho
        cases ecc
        have HUn := Lib.hid (unpack_any p (pk r).length cp (pk r) za (LV.of_own ho) rfl h7c hcm (by omega) (fun a e => by obtain ⟨g, e2, hg0, hg1⟩ := own_some ho (by omega); rw [e2] at e; cases e; exact hg1) (pk_u64 hmr HRr.out.r0.1 HRr.out.r0.2) (HT.out.below F2.out.be))
        clear hb F ho hm hmr h7c hcm
        have F := F2
        clear F2
        go_wp2_with fail
        refine HUn.out.mono ?_
        rintro e v ⟨r2, A2, c2, er, rfl, hLV, hb, (⟨rfl, hm, hp⟩ | ⟨-, -, -, -, hno⟩)⟩
        rotate_left
        · exact absurd ⟨r, HM.out, rfl⟩ hno
        obtain rfl := pk_inj hm HM.out hp
        obtain ⟨Y, hY⟩ : ∃ Y, Y = v.alloc (.cells (rcs r2 A2 c2) 27) := ⟨_, rfl⟩
        have hbY : Below v.heap.size v Y := by subst hY; exact (Below.refl _ v).alloc (Nat.le_refl _) _
        have F2 : Hid (BQ w r2 A ca L l v.heap.size A2 c2 Y) := Lib.hid ⟨(F.out.step hb).step hbY, by subst hY; exact heap_new _ _, by subst hY; simp, hLV.below hbY⟩
        clear hb F hm hp hLV hbY HUn
        have F := F2
        clear F2
        go_upto_region 6 with fail
        rw [← hY]
        clear hY
        obtain ⟨K, hK⟩ : ∃ K, K = v.heap.size := ⟨_, rfl⟩
        rw [← hK] at F ⊢
        clear hK
        have HSm := Lib.hid (fun (X : World) (hx : BQ w r2 A ca L l K A2 c2 X) => same_any r2 r2 A A2 ca c2 X hx.p.la hx.lb hla hla)
        rw [sameB_iff.2 rfl] at HSm
        obtain ⟨x0, x1, x2, x3, x4, x5, x6, y0, y1, y2, y3, y4, y5, y6⟩ := F.out.conj
        go_cut [47] from 38 to 47 (fun b X => b = .bool false ∧ Hid (BP w r2 A ca L l X))
        case first =>
          go_region_held3 (fun w' => w'.cell? ⟨w.heap.size, 0, none⟩ = some (.int .i64 r2.kind) ∧ w'.cell? ⟨w.heap.size, 1, none⟩ = some (.int .i64 r2.par) ∧ w'.cell? ⟨w.heap.size, 2, none⟩ = some (.string (str r2.name)) ∧ w'.cell? ⟨w.heap.size, 3, none⟩ = some (.string (str r2.text)) ∧ w'.cell? ⟨w.heap.size, 4, none⟩ = some (.slice A r2.attrs.length ca) ∧ w'.cell? ⟨w.heap.size, 5, none⟩ = some (.int .u64 r2.root) ∧ w'.cell? ⟨w.heap.size, 6, none⟩ = some (.int .i64 r2.size) ∧ w'.cell? ⟨K, 0, none⟩ = some (.int .i64 r2.kind) ∧ w'.cell? ⟨K, 1, none⟩ = some (.int .i64 r2.par) ∧ w'.cell? ⟨K, 2, none⟩ = some (.string (str r2.name)) ∧ w'.cell? ⟨K, 3, none⟩ = some (.string (str r2.text)) ∧ w'.cell? ⟨K, 4, none⟩ = some (.slice A2 r2.attrs.length c2) ∧ w'.cell? ⟨K, 5, none⟩ = some (.int .u64 r2.root) ∧ w'.cell? ⟨K, 6, none⟩ = some (.int .i64 r2.size))
            (first
              | with_reducible exact F.out.conj
              | with_reducible exact F.out.drew.conj)
            (first
              | (go_at_call 19
                 first | with_reducible refine (HSm.out _ F.out).mono ?_ | with_reducible refine (HSm.out _ F.out.drew).mono ?_
                 rintro e wy ⟨rfl, hb⟩
                 have F2 : Hid (BQ w r2 A ca L l K A2 c2 wy) := Lib.hid (by first | with_reducible exact F.out.step hb | with_reducible exact F.out.drew.step hb)
                 clear hb F
                 have F := F2
                 clear F2)
              | (go_at_call 13
                 with_reducible refine (its_any r2 A ca _).mono ?_
                 rintro e wy ⟨rfl, hb⟩
                 have F2 : Hid (BQ w r2 A ca L l K A2 c2 wy) := Lib.hid (by first | with_reducible exact F.out.step hb | with_reducible exact F.out.drew.step hb)
                 clear hb F
                 have F := F2
                 clear F2)
              | (go_at_call 13
                 with_reducible refine (its_any r2 A2 c2 _).mono ?_
                 rintro e wy ⟨rfl, hb⟩
                 have F2 : Hid (BQ w r2 A ca L l K A2 c2 wy) := Lib.hid (by first | with_reducible exact F.out.step hb | with_reducible exact F.out.drew.step hb)
                 clear hb F
                 have F := F2
                 clear F2))
          all_goals
            go_wp2
            go_meet
            exact ⟨by first | rfl | simp, Lib.hid (by first | exact F.out.p | exact F.out.drew.p)⟩
        case rest =>
          obtain ⟨rfl, F2⟩ := hcut
          clear x0 x1 x2 x3 x4 x5 x6 y0 y1 y2 y3 y4 y5 y6 F HSm
          have F := F2
          clear F2
          obtain ⟨x0, x1, x2, x3, x4, x5, x6⟩ := F.out.conj
          go_wp2_with fail
          clear x0 x1 x2 x3 x4 x5 x6
          refine (unpack_any L m cL l _ F.out.ll HLl.out hmc HCC.out (by omega) (HLO.out _ F.out) HU.out (HT.out.below F.out.be)).mono ?_
          rintro e v ⟨r3, A3, c3, er, rfl, hLV, hb, (⟨rfl, hm, hp⟩ | ⟨rfl, rfl, rfl, rfl, hno⟩)⟩
          · have HM3 := Lib.hid hm
            have HP3 := Lib.hid hp
            have HR3 := Lib.hid (rcb_of_may hm (by rw [hp]; exact HU.out))
            obtain ⟨Y, hY⟩ : ∃ Y, Y = v.alloc (.cells (rcs r3 A3 c3) 27) := ⟨_, rfl⟩
            have hbY : Below v.heap.size v Y := by subst hY; exact (Below.refl _ v).alloc (Nat.le_refl _) _
            have F2 : Hid (BP w r2 A ca L l Y) := Lib.hid ((F.out.step hb).step hbY)
            have HK : Hid (Y.heap[v.heap.size]? = some (.cells (rcs r3 A3 c3) 27 (0, 0)) ∧ LV Y A3 (svs r3.attrs)) := Lib.hid ⟨by subst hY; exact heap_new _ _, hLV.below hbY⟩
            clear hb F hm hp hLV hbY
            have F := F2
            clear F2
            go_upto_region 9 with fail
            rw [← hY]
            clear hY
            obtain ⟨y0, y1, y2, y3, y4, y5, y6⟩ := block7 HK.out.1
            go_wp2_with fail
            clear y0 y1 y2 y3 y4 y5 y6
            refine (pack_any r3 A3 c3 _ HK.out.2 HR3.out (HT.out.below F.out.be)).mono ?_
            rintro e zb (⟨hm, -, -⟩ | ⟨-, q, cq, rfl, ho, hb⟩)
            · exact absurd HM3.out (mayB_false hm)
            have hp3 := pk_len HM3.out
            have HHa := Lib.hid (handles_any q L (pk r3).length m cq cL (pk r3) l zb (LV.of_own ho) (F.out.ll.below hb) rfl HLl.out (by omega) (by omega))
            rw [decide_eq_true HP3.out] at HHa
            have F2 : Hid (BP w r2 A ca L l zb) := Lib.hid (F.out.step hb)
            clear hb F ho HK
            have F := F2
            clear F2
            go_wp2_with fail
            refine HHa.out.mono ?_
            rintro e v8 ⟨rfl, hb⟩
            have F2 : Hid (BP w r2 A ca L l v8) := Lib.hid (F.out.step hb)
            clear hb F
            have F := F2
            clear F2
            go_wp2
            go_ret
            exact ⟨ret_bool (by first | rfl | simp), F.out.be⟩
          · obtain ⟨Y, hY⟩ : ∃ Y, Y = v.alloc (.cells zrec 27) := ⟨_, rfl⟩
            have hbY : Below v.heap.size v Y := by subst hY; exact (Below.refl _ v).alloc (Nat.le_refl _) _
            have F2 : Hid (BP w r2 A ca L l Y) := Lib.hid ((F.out.step hb).step hbY)
            have HK : Hid (Y.heap[v.heap.size]? = some (.cells zrec 27 (0, 0))) := Lib.hid (by subst hY; exact heap_new _ _)
            clear hb F hLV hbY hno
            have F := F2
            clear F2
            rw [zR_str]
            go_upto_region 9 with fail
            rw [← hY]
            clear hY
            have HIt : Hid (∀ X, Calls Tryd.prog 13 #[.agg zrec] X fun e w' => e = .returned (.agg zrec) ∧ Below X.heap.size X w') := Lib.hid (fun X => its_any zR none 0 X)
            have HSm : Hid (∀ X, Calls Tryd.prog 19 #[.agg zrec, .agg zrec] X fun e w' => e = .returned (.bool true) ∧ Below X.heap.size X w') := Lib.hid (fun X => by
              have := same_any zR zR none none 0 0 X (LV.nil _ _) (LV.nil _ _) (by decide) (by decide)
              rw [sameB_iff.2 rfl] at this
              exact this)
            obtain ⟨y0, y1, y2, y3, y4, y5, y6⟩ := block7 HK.out
            go_wp2_with fail
            clear y0 y1 y2 y3 y4 y5 y6
            refine (HIt.out _).mono ?_
            rintro e v9 ⟨rfl, hb⟩
            have F2 : Hid (BP w r2 A ca L l v9) := Lib.hid (F.out.step hb)
            clear hb F
            have F := F2
            clear F2
            go_wp2_with fail
            refine (HSm.out _).mono ?_
            rintro e v10 ⟨rfl, hb⟩
            have F2 : Hid (BP w r2 A ca L l v10) := Lib.hid (F.out.step hb)
            clear hb F
            have F := F2
            clear F2
            go_wp2
            go_ret
            exact ⟨ret_bool (by first | rfl | simp), F.out.be⟩
    · have h200' : (200 : Int) < (m : Int) := by omega
      obtain ⟨x0, x1, x2, x3, x4, x5, x6⟩ := F.out.conj
      go_wp2_with fail
      clear x0 x1 x2 x3 x4 x5 x6
      refine (HBd.out _ F.out).mono ?_
      rintro e v11 ⟨rfl, hb⟩
      have F2 : Hid (BP w r A ca L l v11) := Lib.hid (F.out.step hb)
      clear hb F
      have F := F2
      clear F2
      clear HBd hbd
      obtain ⟨x0, x1, x2, x3, x4, x5, x6⟩ := F.out.conj
      go_wp2_with fail
      clear x0 x1 x2 x3 x4 x5 x6
      refine (shown_any _ (HT.out.below F.out.be)).mono ?_
      rintro e v12 ⟨rfl, hb⟩
      have F2 : Hid (BP w r A ca L l v12) := Lib.hid (F.out.step hb)
      clear hb F
      have F := F2
      clear F2
      go_wp2
      go_ret
      exact ⟨ret_bool (by first | rfl | simp), F.out.be⟩
theorem back_open {H : Type} {enc : TypeId × Value → H} {W : World} {base : Nat} (hm : BT W) {v0 v1 : Value} {d0 d1 : DataW H} {p0 p1 : List MemPlace}
    (o0 : Value.okWide Tryd.prog W .any base 27 v0) (o1 : Value.okWide Tryd.prog W .any base 28 v1)
    (h0 : DataW.Trod enc Tryd.prog W 0 (fun _ => true) true 27 v0 d0 p0) (h1 : DataW.Trod enc Tryd.prog W 0 (fun _ => true) true 28 v1 d1 p1)
    (l0 : ∀ x ∈ p0, x.block < W.heap.size) (l1 : ∀ x ∈ p1, x.block < W.heap.size) :
    Calls Tryd.prog 4 #[v0, v1] W fun e w' => e = .returned (.bool true) ∧ Below W.heap.size W w' := by
  obtain ⟨r, A, ca, rfl, hA, hr⟩ := rec_open o0 h0 l0
  obtain ⟨L, m, cL, l, rfl, hmc, hc, hl, hL, hU, hlo⟩ := gs_open o1 h1 l1
  exact back_law r A ca L m cL l W hm hA hr hL hl hmc hc hU hlo
end Go.Proofs.YtibcbopemccolaaDoor
