/-
  The law RecTells: whether a node may be, its words, and which node words are, is the document's.
-/
import Derived.Test.YthfeonmaajiajaaDoorRecSh
import Derived.Test.YthfeonmaajiajaaDoorRecT
import Derived.Test.YthfeonmaajiajaaDoorRecSa
import Derived.Test.YthfeonmaajiajaaDoorRecSg
import Derived.Test.YthfeonmaajiajaaDoorRecS
namespace Go.Proofs.YthfeonmaajiajaaDoor
open Go.ChangeShapes Go.WideShapes Go.ChangeAt Go.RowKit
open Rm
set_option linter.unusedVariables false
set_option linter.unusedSimpArgs false

theorem wds_u64 (s : Wd) : U64 (wds s) := fun x hx => by
  unfold wds W at hx
  obtain ⟨i, -, rfl⟩ := List.mem_map.1 hx
  exact ⟨num_nonneg _, by have := num_lt8 (piece s i) (piece_le s i); omega⟩
theorem pk_u64 {r : Rc} (h : MayR r) (h0 : 0 ≤ r.root) (h1 : r.root ≤ 18446744073709551615) : U64 (pk r) := by
  obtain ⟨a1, a2, a3, a4, a5, a6, a7, a8, a9, a10, a11⟩ := h
  have hh : 0 ≤ headR r ∧ headR r ≤ 18446744073709551615 := by unfold headR; omega
  have hl : U64 (lens r.attrs) := by
    by_cases h : r.attrs = []
    · rw [lens_none h]; intro x hx; cases hx
    · rw [lens_some h]
      have b1 : ∀ x ∈ la (r.attrs.take 8), x < 64 := la_lt (fun x hx => a9 x (List.mem_of_mem_take hx))
      have b2 : ∀ x ∈ la (r.attrs.drop 8), x < 64 := la_lt (fun x hx => a9 x (List.mem_of_mem_drop hx))
      have c1 := six_lt8 b1 (by simp [la]; omega)
      have c2 := six_lt8 b2 (by simp [la]; omega)
      have d1 := six_nonneg (la (r.attrs.take 8))
      have d2 := six_nonneg (la (r.attrs.drop 8))
      intro x hx
      rcases List.mem_cons.1 hx with rfl | hx
      · exact ⟨d1, by omega⟩
      · rcases List.mem_cons.1 hx with rfl | hx
        · exact ⟨d2, by omega⟩
        · cases hx
  intro x hx
  unfold pk P at hx
  rw [List.take_length] at hx
  rcases List.mem_cons.1 hx with rfl | hx
  · exact hh
  rcases List.mem_cons.1 hx with rfl | hx
  · exact ⟨h0, h1⟩
  rcases List.mem_append.1 hx with hx | hx
  · exact hl x hx
  rcases List.mem_append.1 hx with hx | hx
  · exact wds_u64 _ x hx
  rcases List.mem_append.1 hx with hx | hx
  · exact wds_u64 _ x hx
  obtain ⟨s, -, hs⟩ := List.mem_flatMap.1 hx
  exact wds_u64 _ x hs
theorem rcb_of_may {r : Rc} (h : MayR r) (hu : U64 (pk r)) : RcB r := by
  have hr := hu r.root (by unfold pk P; simp)
  obtain ⟨a1, a2, a3, a4, a5, a6, a7, a8, a9, a10, a11⟩ := h
  exact ⟨⟨by omega, by omega⟩, ⟨by omega, by omega⟩, by omega, by omega, by omega, fun a ha => by have := a9 a ha; omega, hr, ⟨by omega, by omega⟩⟩
/-- Where the law stands: the node lies in its box. -/
structure BP (w : World) (r : Rc) (A : Option Addr) (ca : Nat) (L : Option Addr) (l : List Int) (X : World) : Prop where
  ka : X.heap[w.heap.size]? = some (.cells (rcs r A ca) 27 (0, 0))
  sz : w.heap.size < X.heap.size
  be : Below w.heap.size w X
  la : LV X A (svs r.attrs)
  ll : LV X L (gvs l)
theorem BP.step {w : World} {r : Rc} {A : Option Addr} {ca : Nat} {L : Option Addr} {l : List Int} {X Y : World} (h : BP w r A ca L l X) (hb : Below X.heap.size X Y) : BP w r A ca L l Y :=
  ⟨(hb.block _ h.sz).trans h.ka, Nat.lt_of_lt_of_le h.sz hb.size, h.be.trans (hb.mono h.be.size), h.la.below hb, h.ll.below hb⟩
theorem BP.conj {w : World} {r : Rc} {A : Option Addr} {ca : Nat} {L : Option Addr} {l : List Int} {X : World} (h : BP w r A ca L l X) :
    X.cell? ⟨w.heap.size, 0, none⟩ = some (.int .i64 r.kind) ∧ X.cell? ⟨w.heap.size, 1, none⟩ = some (.int .i64 r.par) ∧ X.cell? ⟨w.heap.size, 2, none⟩ = some (.string (str r.name)) ∧ X.cell? ⟨w.heap.size, 3, none⟩ = some (.string (str r.text)) ∧ X.cell? ⟨w.heap.size, 4, none⟩ = some (.slice A r.attrs.length ca) ∧ X.cell? ⟨w.heap.size, 5, none⟩ = some (.int .u64 r.root) ∧ X.cell? ⟨w.heap.size, 6, none⟩ = some (.int .i64 r.size) :=
  ⟨block_cell h.ka rfl, block_cell h.ka rfl, block_cell h.ka rfl, block_cell h.ka rfl, block_cell h.ka rfl, block_cell h.ka rfl, block_cell h.ka rfl⟩
/-- Where the law stands in the end: three nodes in their boxes, the words of the first one twice. -/
structure BT7 (w : World) (r : Rc) (A : Option Addr) (ca : Nat) (L : Option Addr) (l : List Int) (p q : Option Addr) (a : List Int) (K1 K2 : Nat) (s : Rc) (B : Option Addr) (cb : Nat) (D : Option Addr) (cd : Nat) (X : World) : Prop where
  bp : BP w r A ca L l X
  lp : LV X p (gvs a)
  lq : LV X q (gvs a)
  k1 : X.heap[K1]? = some (.cells (rcs s B cb) 27 (0, 0))
  k2 : X.heap[K2]? = some (.cells (rcs s D cd) 37 (0, 0))
  l1 : LV X B (svs s.attrs)
  l2 : LV X D (svs s.attrs)
theorem BT7.step {w : World} {r : Rc} {A : Option Addr} {ca : Nat} {L : Option Addr} {l : List Int} {p q : Option Addr} {a : List Int} {K1 K2 : Nat} {s : Rc} {B : Option Addr} {cb : Nat} {D : Option Addr} {cd : Nat} {X Y : World} (h : BT7 w r A ca L l p q a K1 K2 s B cb D cd X) (hb : Below X.heap.size X Y) : BT7 w r A ca L l p q a K1 K2 s B cb D cd Y :=
  ⟨h.bp.step hb, h.lp.below hb, h.lq.below hb, (hb.block _ (lt_of_block h.k1)).trans h.k1, (hb.block _ (lt_of_block h.k2)).trans h.k2, h.l1.below hb, h.l2.below hb⟩
theorem BT7.drew {w : World} {r : Rc} {A : Option Addr} {ca : Nat} {L : Option Addr} {l : List Int} {p q : Option Addr} {a : List Int} {K1 K2 : Nat} {s : Rc} {B : Option Addr} {cb : Nat} {D : Option Addr} {cd : Nat} {X : World} (h : BT7 w r A ca L l p q a K1 K2 s B cb D cd X) : BT7 w r A ca L l p q a K1 K2 s B cb D cd X.drew := h.step (Below.refl _ X).drew
theorem BT7.conj {w : World} {r : Rc} {A : Option Addr} {ca : Nat} {L : Option Addr} {l : List Int} {p q : Option Addr} {a : List Int} {K1 K2 : Nat} {s : Rc} {B : Option Addr} {cb : Nat} {D : Option Addr} {cd : Nat} {X : World} (h : BT7 w r A ca L l p q a K1 K2 s B cb D cd X) :
    X.cell? ⟨w.heap.size, 0, none⟩ = some (.int .i64 r.kind) ∧ X.cell? ⟨w.heap.size, 1, none⟩ = some (.int .i64 r.par) ∧ X.cell? ⟨w.heap.size, 2, none⟩ = some (.string (str r.name)) ∧ X.cell? ⟨w.heap.size, 3, none⟩ = some (.string (str r.text)) ∧ X.cell? ⟨w.heap.size, 4, none⟩ = some (.slice A r.attrs.length ca) ∧ X.cell? ⟨w.heap.size, 5, none⟩ = some (.int .u64 r.root) ∧ X.cell? ⟨w.heap.size, 6, none⟩ = some (.int .i64 r.size) ∧ X.cell? ⟨K1, 0, none⟩ = some (.int .i64 s.kind) ∧ X.cell? ⟨K1, 1, none⟩ = some (.int .i64 s.par) ∧ X.cell? ⟨K1, 2, none⟩ = some (.string (str s.name)) ∧ X.cell? ⟨K1, 3, none⟩ = some (.string (str s.text)) ∧ X.cell? ⟨K1, 4, none⟩ = some (.slice B s.attrs.length cb) ∧ X.cell? ⟨K1, 5, none⟩ = some (.int .u64 s.root) ∧ X.cell? ⟨K1, 6, none⟩ = some (.int .i64 s.size) ∧ X.cell? ⟨K2, 0, none⟩ = some (.int .i64 s.kind) ∧ X.cell? ⟨K2, 1, none⟩ = some (.int .i64 s.par) ∧ X.cell? ⟨K2, 2, none⟩ = some (.string (str s.name)) ∧ X.cell? ⟨K2, 3, none⟩ = some (.string (str s.text)) ∧ X.cell? ⟨K2, 4, none⟩ = some (.slice D s.attrs.length cd) ∧ X.cell? ⟨K2, 5, none⟩ = some (.int .u64 s.root) ∧ X.cell? ⟨K2, 6, none⟩ = some (.int .i64 s.size) :=
  ⟨block_cell h.bp.ka rfl, block_cell h.bp.ka rfl, block_cell h.bp.ka rfl, block_cell h.bp.ka rfl, block_cell h.bp.ka rfl, block_cell h.bp.ka rfl, block_cell h.bp.ka rfl, block_cell h.k1 rfl, block_cell h.k1 rfl, block_cell h.k1 rfl, block_cell h.k1 rfl, block_cell h.k1 rfl, block_cell h.k1 rfl, block_cell h.k1 rfl, block_cell h.k2 rfl, block_cell h.k2 rfl, block_cell h.k2 rfl, block_cell h.k2 rfl, block_cell h.k2 rfl, block_cell h.k2 rfl, block_cell h.k2 rfl⟩
theorem zR_str : rcs zR none 0 = zrec := rfl
theorem lowB {w : World} {r : Rc} {A : Option Addr} {ca : Nat} {L : Option Addr} {l : List Int} {X Y : World} (h : Below X.heap.size X Y) (_ : BP w r A ca L l X) : Below X.heap.size X Y := h
/-- Texts that came in. -/
theorem attrs_openC {H : Type} {enc : TypeId × Value → H} {W : World} {n : Nat} {v : Value} {d : DataW H} {ps : List MemPlace}
    (hf : DataW.trod enc Tryd.prog W 0 (fun _ => true) true n 22 [v] = some (d, ps)) (hlt : ∀ x ∈ ps, x.block < W.heap.size) :
    ∃ (A : Option Addr) (cap : Nat) (ls : List Wd), v = .slice A ls.length cap ∧ ls.length ≤ 9223372036854775807 ∧ ls.length ≤ cap ∧ LV W A (svs ls) ∧ ∀ x ∈ ls, x.length ≤ 9223372036854775807 := by
  rcases open_strings Tryd.underlying22 Tryd.underlying9 cells_str hf with ⟨hcs, hx⟩ | ⟨a, len, cap, ss, hcs, _, hl, hm, hz, hx, hcell, hws⟩
  · obtain rfl : v = .slice none 0 0 := by simpa using hcs
    exact ⟨none, 0, [], rfl, by simp, by simp, LV.nil _ _, by simp⟩
  · obtain rfl : v = .slice (some a) len cap := by simpa using hcs
    simp only [Prod.mk.injEq] at hx
    obtain ⟨rfl, rfl⟩ := hx
    simp only [if_true] at hz
    unfold maxLen at hm hws
    have hlen : ((ss.take len).map (fun s => s.data.toList)).length = len := by simp; omega
    refine ⟨some a, cap, (ss.take len).map (fun s => s.data.toList), by rw [hlen], by rw [hlen]; omega, by rw [hlen]; exact hl, fun h0 => ?_, fun x hx => ?_⟩
    · have h0' : 0 < len := by simp [svs] at h0; omega
      obtain ⟨b, off, spot⟩ := a
      have hspot : spot = none := by simpa [Addr.add] using World.cell?_spot (hcell 0 (by omega))
      subst hspot
      refine ⟨b, off, rfl, hlt (.cell b off) (MemPlace.mem_row.2 ⟨0, by omega, by simp⟩), fun j u hu => ?_⟩
      obtain ⟨hj, e⟩ := List.getElem?_eq_some_iff.1 hu
      have hj2 : j < len := by simp [svs] at hj; omega
      rw [← add_plain, hcell j (by omega), ← e]
      simp [svs, List.getD, List.getElem?_eq_getElem (show j < ss.length by omega), str_eq]
    · obtain ⟨s, hs, rfl⟩ := List.mem_map.1 hx
      have := hws s (List.mem_of_mem_take hs)
      have e : s.data.toList.length = s.size := by rw [← str_size, str_eq]
      omega
/-- A node that came in. -/
theorem rec_openC {H : Type} {enc : TypeId × Value → H} {W : World} {base : Nat} {v : Value} {d : DataW H} {ps : List MemPlace} (hv : Value.okWide Tryd.prog W .any base 27 v)
    (h : DataW.Trod enc Tryd.prog W 0 (fun _ => true) true 27 v d ps) (hlt : ∀ x ∈ ps, x.block < W.heap.size) : ∃ (r : Rc) (A : Option Addr) (c : Nat), v = .agg (rcs r A c) ∧ LV W A (svs r.attrs) ∧ RcB r ∧ r.attrs.length ≤ c := by
  obtain ⟨cs, rfl, hs⟩ := okWide_struct under_rec hv
  rw [cells_rec] at hs
  obtain ⟨fuel, h2⟩ := h
  obtain ⟨l⟩ := cs
  match l, hs with
  | [y0, y1, y2, y3, y4, y5, y6], _ =>
        obtain ⟨n0, d0, p0, t0, s0⟩ := struct_field under_rec h2 0 fRec0 cells_int (v := y0) rfl
        obtain ⟨n1, d1, p1, t1, s1⟩ := struct_field under_rec h2 1 fRec1 cells_int (v := y1) rfl
        obtain ⟨n2, d2, p2, t2, s2⟩ := struct_field under_rec h2 2 fRec2 cells_str (v := y2) rfl
        obtain ⟨n3, d3, p3, t3, s3⟩ := struct_field under_rec h2 3 fRec3 cells_str (v := y3) rfl
        obtain ⟨n4, d4, p4, t4, s4⟩ := struct_field under_rec h2 4 fRec4 cells_ss (v := y4) rfl
        obtain ⟨n5, d5, p5, t5, s5⟩ := struct_fieldN under_rec h2 5 fRec5 cells_vec
        obtain ⟨m0, b0, q0, u0, r0⟩ := struct_field under_vec t5 0 fVec0 cells_u64 (v := y5) rfl
        obtain ⟨m1, b1, q1, u1, r1⟩ := struct_field under_vec t5 1 fVec1 cells_int (v := y6) rfl
        obtain ⟨x0, e0, -, w0⟩ := DataW.trod_int Tryd.underlying3 t0
        obtain ⟨x1, e1, -, w1⟩ := DataW.trod_int Tryd.underlying3 t1
        obtain ⟨x2, e2, -, w2⟩ := DataW.trod_string Tryd.underlying9 t2
        obtain ⟨x3, e3, -, w3⟩ := DataW.trod_string Tryd.underlying9 t3
        obtain ⟨A, cap, ls, rfl, hl1, hlc, hl2, hl3⟩ := attrs_openC t4 (fun y hy => hlt y (s4 y hy))
        obtain ⟨x5, e5, -, w5⟩ := DataW.trod_int Tryd.underlying23 u0
        obtain ⟨x6, e6, -, w6⟩ := DataW.trod_int Tryd.underlying3 u1
        cases e0
        cases e1
        cases e2
        cases e3
        cases e5
        cases e6
        have z2 : x2.data.toList.length = x2.size := by rw [← str_size, str_eq]
        have z3 : x3.data.toList.length = x3.size := by rw [← str_size, str_eq]
        have v2 : x2.size ≤ 9223372036854775807 := w2
        have v3 : x3.size ≤ 9223372036854775807 := w3
        exact ⟨⟨x0, x1, x2.data.toList, x3.data.toList, ls, x5, x6⟩, A, cap, by simp [rcs, str_eq], hl2, ⟨i64_wf w0, i64_wf w1, by show x2.data.toList.length ≤ _; omega, by show x3.data.toList.length ≤ _; omega, hl1, hl3, u64_wf w5, i64_wf w6⟩, hlc⟩
theorem hand7 {w : World} {r : Rc} {A : Option Addr} {ca : Nat} {L : Option Addr} {l : List Int} {p q : Option Addr} {a : List Int} {K1 K2 : Nat} {s : Rc} {B : Option Addr} {cb : Nat} {D : Option Addr} {cd : Nat} {n c c' : Nat} (hn : a.length = n) (h : n ≤ 1000) (X : World) (hx : BT7 w r A ca L l p q a K1 K2 s B cb D cd X) :
    Calls Tryd.prog 13 #[.slice p n c, .slice q n c'] X fun e w' => e = .returned (.bool true) ∧ Below X.heap.size X w' := by
  have := handles_any p q n n c c' a a X hx.lp hx.lq hn hn (by omega) (by omega)
  rwa [decide_eq_true rfl] at this
set_option maxRecDepth 100000 in
set_option maxHeartbeats 8000000 in
theorem tells_law (r : Rc) (A : Option Addr) (ca : Nat) (L : Option Addr) (m cL : Nat) (l : List Int) (w : World) (hT : BT w) (hA : LV w A (svs r.attrs)) (hr : RcB r) (hca : r.attrs.length ≤ ca) (hL : LV w L (gvs l)) (hl : l.length = m) (hmc : m ≤ cL) (hc : cL ≤ maxLen) (hU : U64 l) (hlo : ∀ a, L = some a → a.block < w.heap.size) :
    Calls Tryd.prog 3 #[.agg (rcs r A ca), .slice L m cL] w fun e w' => e = .returned (.bool true) ∧ Below w.heap.size w w' := by
  obtain ⟨W, hW⟩ : ∃ W, W = w.alloc (.cells (rcs r A ca) 27) := ⟨_, rfl⟩
  have F : Hid (BP w r A ca L l W) := Lib.hid (by
    have hbw : Below w.heap.size w W := by subst hW; exact (Below.refl _ w).alloc (Nat.le_refl _) _
    exact ⟨by subst hW; exact heap_new _ _, by subst hW; simp, hbw, hA.below hbw, hL.below hbw⟩)
  have HT := Lib.hid hT
  have HRr := Lib.hid hr
  have hla := hr.a0
  have HCa := Lib.hid hca
  have HLl := Lib.hid hl
  have HU := Lib.hid hU
  have HMc := Lib.hid hmc
  have HLO := Lib.hid (fun (X : World) (hx : BP w r A ca L l X) (a : Addr) (e : L = some a) => Nat.lt_of_lt_of_le (hlo a e) hx.be.size)
  have HLOw := Lib.hid hlo
  have HCC := Lib.hid hc
  unfold maxLen at hc
  clear hT hA hr hL hl hU hlo hca
  go_enter Tryd.func3, Tryd.ntmps3
  go_upto_region 1 with fail
  rw [← hW]
  clear hW
  have HBd := Lib.hid (fun (X : World) (hx : BP w r A ca L l X) => bounded_any r A ca X hx.la HRr.out)
  cases hbd : bdd r
  · rw [hbd] at HBd
    obtain ⟨x0, x1, x2, x3, x4, x5, x6⟩ := F.out.conj
    go_wp2_with fail
    clear x0 x1 x2 x3 x4 x5 x6
    refine (HBd.out _ F.out).mono ?_
    rintro e v1 ⟨rfl, hb⟩
    have F2 : Hid (BP w r A ca L l v1) := Lib.hid (F.out.step hb)
    clear hb F
    have F := F2
    clear F2
    clear HBd hbd
    go_wp2_with fail
    refine (shown_any _ (HT.out.below F.out.be)).mono ?_
    rintro e v2 ⟨rfl, hb⟩
    have F2 : Hid (BP w r A ca L l v2) := Lib.hid (F.out.step hb)
    clear hb F
    have F := F2
    clear F2
    go_wp2
    go_ret
    exact ⟨ret_bool (by first | rfl | simp), F.out.be⟩
  · rw [hbd] at HBd
    by_cases h200 : m ≤ 200
    · have h200' : ¬ (200 : Int) < (m : Int) := by omega
      obtain ⟨x0, x1, x2, x3, x4, x5, x6⟩ := F.out.conj
      go_wp2_with fail
      clear x0 x1 x2 x3 x4 x5 x6
      refine (HBd.out _ F.out).mono ?_
      rintro e v3 ⟨rfl, hb⟩
      have F2 : Hid (BP w r A ca L l v3) := Lib.hid (F.out.step hb)
      clear hb F
      have F := F2
      clear F2
      clear HBd hbd
      go_wp2_with fail
      refine (shown_any _ (HT.out.below F.out.be)).mono ?_
      rintro e v4 ⟨rfl, hb⟩
      have F2 : Hid (BP w r A ca L l v4) := Lib.hid (F.out.step hb)
      clear hb F
      have F := F2
      clear F2
      obtain ⟨x0, x1, x2, x3, x4, x5, x6⟩ := F.out.conj
      go_wp2_with fail
      clear x0 x1 x2 x3 x4 x5 x6
      refine (pack_any r A ca _ F.out.la HRr.out (HT.out.below F.out.be)).mono ?_
      rintro e za (⟨hm, rfl, hb⟩ | ⟨hm, p, cp, rfl, ho, hb⟩)
      · have HM := Lib.hid hm
        have F2 : Hid (BP w r A ca L l za) := Lib.hid (F.out.step hb)
        clear hb F
        have F := F2
        clear F2
        obtain ⟨x0, x1, x2, x3, x4, x5, x6⟩ := F.out.conj
        go_wp2_with fail
        clear x0 x1 x2 x3 x4 x5 x6
        refine (its_any r A ca _).mono ?_
        rintro e zi ⟨rfl, hb⟩
        have F2 : Hid (BP w r A ca L l zi) := Lib.hid (F.out.step hb)
        clear hb F
        have F := F2
        clear F2
        go_wp2_with fail
        refine (rpack_any r A ca _ F.out.la HRr.out HCa.out).mono ?_
        rintro e zb (⟨-, rfl, hb⟩ | ⟨hm2, -⟩)
        rotate_left
        · rw [hm] at hm2; cases hm2
        have F2 : Hid (BP w r A ca L l zb) := Lib.hid (F.out.step hb)
        clear hb F
        have F := F2
        clear F2
        clear hm
        have LP : Hid (LV zb none (gvs [])) := Lib.hid (LV.nil _ _)
        have LQ : Hid (LV zb none (gvs [])) := Lib.hid (LV.nil _ _)
        have HN : Hid (([] : List Int).length = 0) := Lib.hid rfl
        go_wp2_with fail
        refine (unpack_any L m cL l _ F.out.ll HLl.out HMc.out HCC.out (by omega) (HLO.out _ F.out) HU.out (HT.out.below F.out.be)).mono ?_
        rintro e v ⟨r3, A3, c3, er, rfl, hLV, hb, (⟨rfl, hm3, hp3⟩ | ⟨rfl, rfl, rfl, rfl, hno⟩)⟩
        · obtain ⟨Y, hY⟩ : ∃ Y, Y = v.alloc (.cells (rcs r3 A3 c3) 27) := ⟨_, rfl⟩
          have hbY : Below v.heap.size v Y := by subst hY; exact (Below.refl _ v).alloc (Nat.le_refl _) _
          have LP2 := Lib.hid ((LP.out.below (lowB hb F.out)).below hbY)
          have LQ2 := Lib.hid ((LQ.out.below (lowB hb F.out)).below hbY)
          have F2 : Hid (BP w r A ca L l Y) := Lib.hid ((F.out.step hb).step hbY)
          have HK1 : Hid (Y.heap[v.heap.size]? = some (.cells (rcs r3 A3 c3) 27 (0, 0)) ∧ LV Y A3 (svs r3.attrs)) := Lib.hid ⟨by subst hY; exact heap_new _ _, hLV.below hbY⟩
          clear hb F hLV hbY LP LQ
          have F := F2
          have LP := LP2
          have LQ := LQ2
          clear F2 LP2 LQ2
          go_upto_region 6 with fail
          rw [← hY]
          clear hY
          generalize v.heap.size = K1 at *
          go_wp2_with fail
          refine (runpack_any L m cL l _ F.out.ll HLl.out HMc.out HCC.out (by omega) (HLO.out _ F.out) HU.out).mono ?_
          rintro e v' ⟨r4, A4, c4, er4, rfl, hLV, hb, (⟨rfl, hm4, hp4⟩ | ⟨rfl, rfl, rfl, rfl, hno4⟩)⟩
          rotate_left
          · exact absurd ⟨_, hm3, hp3⟩ hno4
          obtain rfl := pk_inj hm4 hm3 (hp4.trans hp3.symm)
          have HSa : Hid (r4.attrs.length ≤ 9223372036854775807) := Lib.hid (by have := hm4.2.2.2.2.2.2.2.1; omega)
          clear hm3 hp3 hm4 hp4
          obtain ⟨Y2, hY2⟩ : ∃ Y2, Y2 = v'.alloc (.cells (rcs r4 A4 c4) 37) := ⟨_, rfl⟩
          have hbY : Below v'.heap.size v' Y2 := by subst hY2; exact (Below.refl _ v').alloc (Nat.le_refl _) _
          have F2 : Hid (BT7 w r A ca L l none none [] K1 v'.heap.size r4 A3 c3 A4 c4 Y2) := Lib.hid (by
            have h1 := lowB hb F.out
            have g1 := (h1.block _ (lt_of_block HK1.out.1)).trans HK1.out.1
            exact ⟨(F.out.step hb).step hbY, (LP.out.below h1).below hbY, (LQ.out.below h1).below hbY, (hbY.block _ (lt_of_block g1)).trans g1, by subst hY2; exact heap_new _ _, (HK1.out.2.below h1).below hbY, hLV.below hbY⟩)
          clear hb F hLV hbY LP LQ HK1
          have F := F2
          clear F2
          go_upto_region 7 with fail
          rw [← hY2]
          clear hY2
          generalize v'.heap.size = K2 at *
          have HMy : Hid (∀ X, BT7 w r A ca L l none none [] K1 K2 r4 A3 c3 A4 c4 X → Calls Tryd.prog 11 #[.agg (rcs r A ca)] X fun e w' => e = .returned (.bool false) ∧ Below X.heap.size X w') := Lib.hid (fun X hx => by have := may_any r A ca X hx.bp.la HRr.out; rwa [HM.out] at this)
          have HMr : Hid (∀ X, BT7 w r A ca L l none none [] K1 K2 r4 A3 c3 A4 c4 X → Calls Tryd.prog 12 #[.agg (rcs r A ca)] X fun e w' => e = .returned (.bool false) ∧ Below X.heap.size X w') := Lib.hid (fun X hx => by have := rmay_any r A ca X hx.bp.la HRr.out; rwa [HM.out] at this)
          have HHa := Lib.hid (fun (X : World) (hx : BT7 w r A ca L l none none [] K1 K2 r4 A3 c3 A4 c4 X) => hand7 (c := 0) (c' := 0) HN.out (by omega) X hx)
          have HSm : Hid (∀ X, BT7 w r A ca L l none none [] K1 K2 r4 A3 c3 A4 c4 X → Calls Tryd.prog 14 #[.agg (rcs r4 A3 c3), .agg (rcs r4 A4 c4)] X fun e w' => e = .returned (.bool true) ∧ Below X.heap.size X w') := Lib.hid (fun X hx => by
            have := same_any r4 r4 A3 A4 c3 c4 X hx.l1 hx.l2 HSa.out HSa.out
            rwa [sameB_iff.2 rfl] at this)
          obtain ⟨x0, x1, x2, x3, x4, x5, x6, y0, y1, y2, y3, y4, y5, y6, z0, z1, z2, z3, z4, z5, z6⟩ := F.out.conj
          go_region_held3 (fun w' => w'.cell? ⟨w.heap.size, 0, none⟩ = some (.int .i64 r.kind) ∧ w'.cell? ⟨w.heap.size, 1, none⟩ = some (.int .i64 r.par) ∧ w'.cell? ⟨w.heap.size, 2, none⟩ = some (.string (str r.name)) ∧ w'.cell? ⟨w.heap.size, 3, none⟩ = some (.string (str r.text)) ∧ w'.cell? ⟨w.heap.size, 4, none⟩ = some (.slice A r.attrs.length ca) ∧ w'.cell? ⟨w.heap.size, 5, none⟩ = some (.int .u64 r.root) ∧ w'.cell? ⟨w.heap.size, 6, none⟩ = some (.int .i64 r.size) ∧ w'.cell? ⟨K1, 0, none⟩ = some (.int .i64 r4.kind) ∧ w'.cell? ⟨K1, 1, none⟩ = some (.int .i64 r4.par) ∧ w'.cell? ⟨K1, 2, none⟩ = some (.string (str r4.name)) ∧ w'.cell? ⟨K1, 3, none⟩ = some (.string (str r4.text)) ∧ w'.cell? ⟨K1, 4, none⟩ = some (.slice A3 r4.attrs.length c3) ∧ w'.cell? ⟨K1, 5, none⟩ = some (.int .u64 r4.root) ∧ w'.cell? ⟨K1, 6, none⟩ = some (.int .i64 r4.size) ∧ w'.cell? ⟨K2, 0, none⟩ = some (.int .i64 r4.kind) ∧ w'.cell? ⟨K2, 1, none⟩ = some (.int .i64 r4.par) ∧ w'.cell? ⟨K2, 2, none⟩ = some (.string (str r4.name)) ∧ w'.cell? ⟨K2, 3, none⟩ = some (.string (str r4.text)) ∧ w'.cell? ⟨K2, 4, none⟩ = some (.slice A4 r4.attrs.length c4) ∧ w'.cell? ⟨K2, 5, none⟩ = some (.int .u64 r4.root) ∧ w'.cell? ⟨K2, 6, none⟩ = some (.int .i64 r4.size))
            (first
              | with_reducible exact F.out.conj
              | with_reducible exact F.out.drew.conj)
            (first
              | (go_at_call 11
                 first | with_reducible refine (HMy.out _ F.out).mono ?_ | with_reducible refine (HMy.out _ F.out.drew).mono ?_
                 rintro e wy ⟨rfl, hb⟩
                 have F2 : Hid (BT7 w r A ca L l none none [] K1 K2 r4 A3 c3 A4 c4 wy) := Lib.hid (by first | with_reducible exact F.out.step hb | with_reducible exact F.out.drew.step hb)
                 clear hb F
                 have F := F2
                 clear F2)
              | (go_at_call 12
                 first | with_reducible refine (HMr.out _ F.out).mono ?_ | with_reducible refine (HMr.out _ F.out.drew).mono ?_
                 rintro e wy ⟨rfl, hb⟩
                 have F2 : Hid (BT7 w r A ca L l none none [] K1 K2 r4 A3 c3 A4 c4 wy) := Lib.hid (by first | with_reducible exact F.out.step hb | with_reducible exact F.out.drew.step hb)
                 clear hb F
                 have F := F2
                 clear F2)
              | (go_at_call 13
                 first | with_reducible refine (HHa.out _ F.out).mono ?_ | with_reducible refine (HHa.out _ F.out.drew).mono ?_
                 rintro e wy ⟨rfl, hb⟩
                 have F2 : Hid (BT7 w r A ca L l none none [] K1 K2 r4 A3 c3 A4 c4 wy) := Lib.hid (by first | with_reducible exact F.out.step hb | with_reducible exact F.out.drew.step hb)
                 clear hb F
                 have F := F2
                 clear F2)
              | (go_at_call 14
                 first | with_reducible refine (HSm.out _ F.out).mono ?_ | with_reducible refine (HSm.out _ F.out.drew).mono ?_
                 rintro e wy ⟨rfl, hb⟩
                 have F2 : Hid (BT7 w r A ca L l none none [] K1 K2 r4 A3 c3 A4 c4 wy) := Lib.hid (by first | with_reducible exact F.out.step hb | with_reducible exact F.out.drew.step hb)
                 clear hb F
                 have F := F2
                 clear F2)
              | (go_at_call 8
                 with_reducible refine (its_any r A ca _).mono ?_
                 rintro e wy ⟨rfl, hb⟩
                 have F2 : Hid (BT7 w r A ca L l none none [] K1 K2 r4 A3 c3 A4 c4 wy) := Lib.hid (by first | with_reducible exact F.out.step hb | with_reducible exact F.out.drew.step hb)
                 clear hb F
                 have F := F2
                 clear F2)
              | (go_at_call 8
                 with_reducible refine (its_any r4 A3 c3 _).mono ?_
                 rintro e wy ⟨rfl, hb⟩
                 have F2 : Hid (BT7 w r A ca L l none none [] K1 K2 r4 A3 c3 A4 c4 wy) := Lib.hid (by first | with_reducible exact F.out.step hb | with_reducible exact F.out.drew.step hb)
                 clear hb F
                 have F := F2
                 clear F2))
          all_goals
            go_wp2
            go_ret
            exact ⟨ret_bool (by first | rfl | simp), F.out.bp.be⟩
        · obtain ⟨Y, hY⟩ : ∃ Y, Y = v.alloc (.cells zrec 27) := ⟨_, rfl⟩
          have hbY : Below v.heap.size v Y := by subst hY; exact (Below.refl _ v).alloc (Nat.le_refl _) _
          have LP2 := Lib.hid ((LP.out.below (lowB hb F.out)).below hbY)
          have LQ2 := Lib.hid ((LQ.out.below (lowB hb F.out)).below hbY)
          have F2 : Hid (BP w r A ca L l Y) := Lib.hid ((F.out.step hb).step hbY)
          have HK1 : Hid (Y.heap[v.heap.size]? = some (.cells (rcs zR none 0) 27 (0, 0)) ∧ LV Y none (svs zR.attrs)) := Lib.hid ⟨by subst hY; exact heap_new _ _, hLV.below hbY⟩
          clear hb F hLV hbY LP LQ
          have F := F2
          have LP := LP2
          have LQ := LQ2
          clear F2 LP2 LQ2
          rw [zR_str]
          go_upto_region 6 with fail
          rw [← hY]
          clear hY
          generalize v.heap.size = K1 at *
          go_wp2_with fail
          refine (runpack_any L m cL l _ F.out.ll HLl.out HMc.out HCC.out (by omega) (HLO.out _ F.out) HU.out).mono ?_
          rintro e v' ⟨r4, A4, c4, er4, rfl, hLV, hb, (⟨rfl, hm4, hp4⟩ | ⟨rfl, rfl, rfl, rfl, hno4⟩)⟩
          · exact absurd ⟨_, hm4, hp4⟩ hno
          have HSa : Hid (zR.attrs.length ≤ 9223372036854775807) := Lib.hid (by decide)
          clear hno hno4
          obtain ⟨Y2, hY2⟩ : ∃ Y2, Y2 = v'.alloc (.cells zrec 37) := ⟨_, rfl⟩
          have hbY : Below v'.heap.size v' Y2 := by subst hY2; exact (Below.refl _ v').alloc (Nat.le_refl _) _
          have F2 : Hid (BT7 w r A ca L l none none [] K1 v'.heap.size zR none 0 none 0 Y2) := Lib.hid (by
            have h1 := lowB hb F.out
            have g1 := (h1.block _ (lt_of_block HK1.out.1)).trans HK1.out.1
            exact ⟨(F.out.step hb).step hbY, (LP.out.below h1).below hbY, (LQ.out.below h1).below hbY, (hbY.block _ (lt_of_block g1)).trans g1, by subst hY2; exact heap_new _ _, (HK1.out.2.below h1).below hbY, hLV.below hbY⟩)
          clear hb F hLV hbY LP LQ HK1
          have F := F2
          clear F2
          rw [zR_str]
          go_upto_region 7 with fail
          rw [← hY2]
          clear hY2
          generalize v'.heap.size = K2 at *
          have HMy : Hid (∀ X, BT7 w r A ca L l none none [] K1 K2 zR none 0 none 0 X → Calls Tryd.prog 11 #[.agg (rcs r A ca)] X fun e w' => e = .returned (.bool false) ∧ Below X.heap.size X w') := Lib.hid (fun X hx => by have := may_any r A ca X hx.bp.la HRr.out; rwa [HM.out] at this)
          have HMr : Hid (∀ X, BT7 w r A ca L l none none [] K1 K2 zR none 0 none 0 X → Calls Tryd.prog 12 #[.agg (rcs r A ca)] X fun e w' => e = .returned (.bool false) ∧ Below X.heap.size X w') := Lib.hid (fun X hx => by have := rmay_any r A ca X hx.bp.la HRr.out; rwa [HM.out] at this)
          have HHa := Lib.hid (fun (X : World) (hx : BT7 w r A ca L l none none [] K1 K2 zR none 0 none 0 X) => hand7 (c := 0) (c' := 0) HN.out (by omega) X hx)
          have HSm : Hid (∀ X, BT7 w r A ca L l none none [] K1 K2 zR none 0 none 0 X → Calls Tryd.prog 14 #[.agg (rcs zR none 0), .agg (rcs zR none 0)] X fun e w' => e = .returned (.bool true) ∧ Below X.heap.size X w') := Lib.hid (fun X hx => by
            have := same_any zR zR none none 0 0 X hx.l1 hx.l2 HSa.out HSa.out
            rwa [sameB_iff.2 rfl] at this)
          obtain ⟨x0, x1, x2, x3, x4, x5, x6, y0, y1, y2, y3, y4, y5, y6, z0, z1, z2, z3, z4, z5, z6⟩ := F.out.conj
          go_region_held3 (fun w' => w'.cell? ⟨w.heap.size, 0, none⟩ = some (.int .i64 r.kind) ∧ w'.cell? ⟨w.heap.size, 1, none⟩ = some (.int .i64 r.par) ∧ w'.cell? ⟨w.heap.size, 2, none⟩ = some (.string (str r.name)) ∧ w'.cell? ⟨w.heap.size, 3, none⟩ = some (.string (str r.text)) ∧ w'.cell? ⟨w.heap.size, 4, none⟩ = some (.slice A r.attrs.length ca) ∧ w'.cell? ⟨w.heap.size, 5, none⟩ = some (.int .u64 r.root) ∧ w'.cell? ⟨w.heap.size, 6, none⟩ = some (.int .i64 r.size) ∧ w'.cell? ⟨K1, 0, none⟩ = some (.int .i64 zR.kind) ∧ w'.cell? ⟨K1, 1, none⟩ = some (.int .i64 zR.par) ∧ w'.cell? ⟨K1, 2, none⟩ = some (.string (str zR.name)) ∧ w'.cell? ⟨K1, 3, none⟩ = some (.string (str zR.text)) ∧ w'.cell? ⟨K1, 4, none⟩ = some (.slice none zR.attrs.length 0) ∧ w'.cell? ⟨K1, 5, none⟩ = some (.int .u64 zR.root) ∧ w'.cell? ⟨K1, 6, none⟩ = some (.int .i64 zR.size) ∧ w'.cell? ⟨K2, 0, none⟩ = some (.int .i64 zR.kind) ∧ w'.cell? ⟨K2, 1, none⟩ = some (.int .i64 zR.par) ∧ w'.cell? ⟨K2, 2, none⟩ = some (.string (str zR.name)) ∧ w'.cell? ⟨K2, 3, none⟩ = some (.string (str zR.text)) ∧ w'.cell? ⟨K2, 4, none⟩ = some (.slice none zR.attrs.length 0) ∧ w'.cell? ⟨K2, 5, none⟩ = some (.int .u64 zR.root) ∧ w'.cell? ⟨K2, 6, none⟩ = some (.int .i64 zR.size))
            (first
              | with_reducible exact F.out.conj
              | with_reducible exact F.out.drew.conj)
            (first
              | (go_at_call 11
                 first | with_reducible refine (HMy.out _ F.out).mono ?_ | with_reducible refine (HMy.out _ F.out.drew).mono ?_
                 rintro e wy ⟨rfl, hb⟩
                 have F2 : Hid (BT7 w r A ca L l none none [] K1 K2 zR none 0 none 0 wy) := Lib.hid (by first | with_reducible exact F.out.step hb | with_reducible exact F.out.drew.step hb)
                 clear hb F
                 have F := F2
                 clear F2)
              | (go_at_call 12
                 first | with_reducible refine (HMr.out _ F.out).mono ?_ | with_reducible refine (HMr.out _ F.out.drew).mono ?_
                 rintro e wy ⟨rfl, hb⟩
                 have F2 : Hid (BT7 w r A ca L l none none [] K1 K2 zR none 0 none 0 wy) := Lib.hid (by first | with_reducible exact F.out.step hb | with_reducible exact F.out.drew.step hb)
                 clear hb F
                 have F := F2
                 clear F2)
              | (go_at_call 13
                 first | with_reducible refine (HHa.out _ F.out).mono ?_ | with_reducible refine (HHa.out _ F.out.drew).mono ?_
                 rintro e wy ⟨rfl, hb⟩
                 have F2 : Hid (BT7 w r A ca L l none none [] K1 K2 zR none 0 none 0 wy) := Lib.hid (by first | with_reducible exact F.out.step hb | with_reducible exact F.out.drew.step hb)
                 clear hb F
                 have F := F2
                 clear F2)
              | (go_at_call 14
                 first | with_reducible refine (HSm.out _ F.out).mono ?_ | with_reducible refine (HSm.out _ F.out.drew).mono ?_
                 rintro e wy ⟨rfl, hb⟩
                 have F2 : Hid (BT7 w r A ca L l none none [] K1 K2 zR none 0 none 0 wy) := Lib.hid (by first | with_reducible exact F.out.step hb | with_reducible exact F.out.drew.step hb)
                 clear hb F
                 have F := F2
                 clear F2)
              | (go_at_call 8
                 with_reducible refine (its_any r A ca _).mono ?_
                 rintro e wy ⟨rfl, hb⟩
                 have F2 : Hid (BT7 w r A ca L l none none [] K1 K2 zR none 0 none 0 wy) := Lib.hid (by first | with_reducible exact F.out.step hb | with_reducible exact F.out.drew.step hb)
                 clear hb F
                 have F := F2
                 clear F2)
              | (go_at_call 8
                 with_reducible refine (its_any zR none 0 _).mono ?_
                 rintro e wy ⟨rfl, hb⟩
                 have F2 : Hid (BT7 w r A ca L l none none [] K1 K2 zR none 0 none 0 wy) := Lib.hid (by first | with_reducible exact F.out.step hb | with_reducible exact F.out.drew.step hb)
                 clear hb F
                 have F := F2
                 clear F2))
          all_goals
            go_wp2
            go_ret
            exact ⟨ret_bool (by first | rfl | simp), F.out.bp.be⟩
      · have HM := Lib.hid hm
        have hpl := pk_len (mayB_true hm)
        have LP0 := Lib.hid (LV.of_own ho)
        have hb0 := Lib.hid hb
        have F2 : Hid (BP w r A ca L l za) := Lib.hid (F.out.step hb)
        clear hb F
        have F := F2
        clear F2
        obtain ⟨x0, x1, x2, x3, x4, x5, x6⟩ := F.out.conj
        go_wp2_with fail
        clear x0 x1 x2 x3 x4 x5 x6
        refine (its_any r A ca _).mono ?_
        rintro e zi ⟨rfl, hb⟩
        have LP0 := Lib.hid (LP0.out.below (lowB hb F.out))
        have F2 : Hid (BP w r A ca L l zi) := Lib.hid (F.out.step hb)
        clear hb F
        have F := F2
        clear F2
        go_wp2_with fail
        refine (rpack_any r A ca _ F.out.la HRr.out HCa.out).mono ?_
        rintro e zb (⟨hm2, -⟩ | ⟨-, q, cq, rfl, ho2, hb⟩)
        · rw [hm] at hm2; cases hm2
        have LP := Lib.hid (LP0.out.below (lowB hb F.out))
        have F2 : Hid (BP w r A ca L l zb) := Lib.hid (F.out.step hb)
        clear hb F
        have F := F2
        clear F2
        clear ho LP0 hb0
        have LQ := Lib.hid (LV.of_own ho2)
        clear hm ho2
        generalize hpa : pk r = a at *
        clear hpa
        obtain ⟨n, hn⟩ : ∃ n, a.length = n := ⟨_, rfl⟩
        have HN := Lib.hid hn
        rw [hn] at hpl ⊢
        clear hn
        go_wp2_with fail
        refine (unpack_any L m cL l _ F.out.ll HLl.out HMc.out HCC.out (by omega) (HLO.out _ F.out) HU.out (HT.out.below F.out.be)).mono ?_
        rintro e v ⟨r3, A3, c3, er, rfl, hLV, hb, (⟨rfl, hm3, hp3⟩ | ⟨rfl, rfl, rfl, rfl, hno⟩)⟩
        · obtain ⟨Y, hY⟩ : ∃ Y, Y = v.alloc (.cells (rcs r3 A3 c3) 27) := ⟨_, rfl⟩
          have hbY : Below v.heap.size v Y := by subst hY; exact (Below.refl _ v).alloc (Nat.le_refl _) _
          have LP2 := Lib.hid ((LP.out.below (lowB hb F.out)).below hbY)
          have LQ2 := Lib.hid ((LQ.out.below (lowB hb F.out)).below hbY)
          have F2 : Hid (BP w r A ca L l Y) := Lib.hid ((F.out.step hb).step hbY)
          have HK1 : Hid (Y.heap[v.heap.size]? = some (.cells (rcs r3 A3 c3) 27 (0, 0)) ∧ LV Y A3 (svs r3.attrs)) := Lib.hid ⟨by subst hY; exact heap_new _ _, hLV.below hbY⟩
          clear hb F hLV hbY LP LQ
          have F := F2
          have LP := LP2
          have LQ := LQ2
          clear F2 LP2 LQ2
          go_upto_region 6 with fail
          rw [← hY]
          clear hY
          generalize v.heap.size = K1 at *
          go_wp2_with fail
          refine (runpack_any L m cL l _ F.out.ll HLl.out HMc.out HCC.out (by omega) (HLO.out _ F.out) HU.out).mono ?_
          rintro e v' ⟨r4, A4, c4, er4, rfl, hLV, hb, (⟨rfl, hm4, hp4⟩ | ⟨rfl, rfl, rfl, rfl, hno4⟩)⟩
          rotate_left
          · exact absurd ⟨_, hm3, hp3⟩ hno4
          obtain rfl := pk_inj hm4 hm3 (hp4.trans hp3.symm)
          have HSa : Hid (r4.attrs.length ≤ 9223372036854775807) := Lib.hid (by have := hm4.2.2.2.2.2.2.2.1; omega)
          clear hm3 hp3 hm4 hp4
          obtain ⟨Y2, hY2⟩ : ∃ Y2, Y2 = v'.alloc (.cells (rcs r4 A4 c4) 37) := ⟨_, rfl⟩
          have hbY : Below v'.heap.size v' Y2 := by subst hY2; exact (Below.refl _ v').alloc (Nat.le_refl _) _
          have F2 : Hid (BT7 w r A ca L l p q a K1 v'.heap.size r4 A3 c3 A4 c4 Y2) := Lib.hid (by
            have h1 := lowB hb F.out
            have g1 := (h1.block _ (lt_of_block HK1.out.1)).trans HK1.out.1
            exact ⟨(F.out.step hb).step hbY, (LP.out.below h1).below hbY, (LQ.out.below h1).below hbY, (hbY.block _ (lt_of_block g1)).trans g1, by subst hY2; exact heap_new _ _, (HK1.out.2.below h1).below hbY, hLV.below hbY⟩)
          clear hb F hLV hbY LP LQ HK1
          have F := F2
          clear F2
          go_upto_region 7 with fail
          rw [← hY2]
          clear hY2
          generalize v'.heap.size = K2 at *
          have HMy : Hid (∀ X, BT7 w r A ca L l p q a K1 K2 r4 A3 c3 A4 c4 X → Calls Tryd.prog 11 #[.agg (rcs r A ca)] X fun e w' => e = .returned (.bool true) ∧ Below X.heap.size X w') := Lib.hid (fun X hx => by have := may_any r A ca X hx.bp.la HRr.out; rwa [HM.out] at this)
          have HMr : Hid (∀ X, BT7 w r A ca L l p q a K1 K2 r4 A3 c3 A4 c4 X → Calls Tryd.prog 12 #[.agg (rcs r A ca)] X fun e w' => e = .returned (.bool true) ∧ Below X.heap.size X w') := Lib.hid (fun X hx => by have := rmay_any r A ca X hx.bp.la HRr.out; rwa [HM.out] at this)
          have HHa := Lib.hid (fun (X : World) (hx : BT7 w r A ca L l p q a K1 K2 r4 A3 c3 A4 c4 X) => hand7 (c := cp) (c' := cq) HN.out (by omega) X hx)
          have HSm : Hid (∀ X, BT7 w r A ca L l p q a K1 K2 r4 A3 c3 A4 c4 X → Calls Tryd.prog 14 #[.agg (rcs r4 A3 c3), .agg (rcs r4 A4 c4)] X fun e w' => e = .returned (.bool true) ∧ Below X.heap.size X w') := Lib.hid (fun X hx => by
            have := same_any r4 r4 A3 A4 c3 c4 X hx.l1 hx.l2 HSa.out HSa.out
            rwa [sameB_iff.2 rfl] at this)
          obtain ⟨x0, x1, x2, x3, x4, x5, x6, y0, y1, y2, y3, y4, y5, y6, z0, z1, z2, z3, z4, z5, z6⟩ := F.out.conj
          go_region_held3 (fun w' => w'.cell? ⟨w.heap.size, 0, none⟩ = some (.int .i64 r.kind) ∧ w'.cell? ⟨w.heap.size, 1, none⟩ = some (.int .i64 r.par) ∧ w'.cell? ⟨w.heap.size, 2, none⟩ = some (.string (str r.name)) ∧ w'.cell? ⟨w.heap.size, 3, none⟩ = some (.string (str r.text)) ∧ w'.cell? ⟨w.heap.size, 4, none⟩ = some (.slice A r.attrs.length ca) ∧ w'.cell? ⟨w.heap.size, 5, none⟩ = some (.int .u64 r.root) ∧ w'.cell? ⟨w.heap.size, 6, none⟩ = some (.int .i64 r.size) ∧ w'.cell? ⟨K1, 0, none⟩ = some (.int .i64 r4.kind) ∧ w'.cell? ⟨K1, 1, none⟩ = some (.int .i64 r4.par) ∧ w'.cell? ⟨K1, 2, none⟩ = some (.string (str r4.name)) ∧ w'.cell? ⟨K1, 3, none⟩ = some (.string (str r4.text)) ∧ w'.cell? ⟨K1, 4, none⟩ = some (.slice A3 r4.attrs.length c3) ∧ w'.cell? ⟨K1, 5, none⟩ = some (.int .u64 r4.root) ∧ w'.cell? ⟨K1, 6, none⟩ = some (.int .i64 r4.size) ∧ w'.cell? ⟨K2, 0, none⟩ = some (.int .i64 r4.kind) ∧ w'.cell? ⟨K2, 1, none⟩ = some (.int .i64 r4.par) ∧ w'.cell? ⟨K2, 2, none⟩ = some (.string (str r4.name)) ∧ w'.cell? ⟨K2, 3, none⟩ = some (.string (str r4.text)) ∧ w'.cell? ⟨K2, 4, none⟩ = some (.slice A4 r4.attrs.length c4) ∧ w'.cell? ⟨K2, 5, none⟩ = some (.int .u64 r4.root) ∧ w'.cell? ⟨K2, 6, none⟩ = some (.int .i64 r4.size))
            (first
              | with_reducible exact F.out.conj
              | with_reducible exact F.out.drew.conj)
            (first
              | (go_at_call 11
                 first | with_reducible refine (HMy.out _ F.out).mono ?_ | with_reducible refine (HMy.out _ F.out.drew).mono ?_
                 rintro e wy ⟨rfl, hb⟩
                 have F2 : Hid (BT7 w r A ca L l p q a K1 K2 r4 A3 c3 A4 c4 wy) := Lib.hid (by first | with_reducible exact F.out.step hb | with_reducible exact F.out.drew.step hb)
                 clear hb F
                 have F := F2
                 clear F2)
              | (go_at_call 12
                 first | with_reducible refine (HMr.out _ F.out).mono ?_ | with_reducible refine (HMr.out _ F.out.drew).mono ?_
                 rintro e wy ⟨rfl, hb⟩
                 have F2 : Hid (BT7 w r A ca L l p q a K1 K2 r4 A3 c3 A4 c4 wy) := Lib.hid (by first | with_reducible exact F.out.step hb | with_reducible exact F.out.drew.step hb)
                 clear hb F
                 have F := F2
                 clear F2)
              | (go_at_call 13
                 first | with_reducible refine (HHa.out _ F.out).mono ?_ | with_reducible refine (HHa.out _ F.out.drew).mono ?_
                 rintro e wy ⟨rfl, hb⟩
                 have F2 : Hid (BT7 w r A ca L l p q a K1 K2 r4 A3 c3 A4 c4 wy) := Lib.hid (by first | with_reducible exact F.out.step hb | with_reducible exact F.out.drew.step hb)
                 clear hb F
                 have F := F2
                 clear F2)
              | (go_at_call 14
                 first | with_reducible refine (HSm.out _ F.out).mono ?_ | with_reducible refine (HSm.out _ F.out.drew).mono ?_
                 rintro e wy ⟨rfl, hb⟩
                 have F2 : Hid (BT7 w r A ca L l p q a K1 K2 r4 A3 c3 A4 c4 wy) := Lib.hid (by first | with_reducible exact F.out.step hb | with_reducible exact F.out.drew.step hb)
                 clear hb F
                 have F := F2
                 clear F2)
              | (go_at_call 8
                 with_reducible refine (its_any r A ca _).mono ?_
                 rintro e wy ⟨rfl, hb⟩
                 have F2 : Hid (BT7 w r A ca L l p q a K1 K2 r4 A3 c3 A4 c4 wy) := Lib.hid (by first | with_reducible exact F.out.step hb | with_reducible exact F.out.drew.step hb)
                 clear hb F
                 have F := F2
                 clear F2)
              | (go_at_call 8
                 with_reducible refine (its_any r4 A3 c3 _).mono ?_
                 rintro e wy ⟨rfl, hb⟩
                 have F2 : Hid (BT7 w r A ca L l p q a K1 K2 r4 A3 c3 A4 c4 wy) := Lib.hid (by first | with_reducible exact F.out.step hb | with_reducible exact F.out.drew.step hb)
                 clear hb F
                 have F := F2
                 clear F2))
          all_goals
            go_wp2
            go_ret
            exact ⟨ret_bool (by first | rfl | simp), F.out.bp.be⟩
        · obtain ⟨Y, hY⟩ : ∃ Y, Y = v.alloc (.cells zrec 27) := ⟨_, rfl⟩
          have hbY : Below v.heap.size v Y := by subst hY; exact (Below.refl _ v).alloc (Nat.le_refl _) _
          have LP2 := Lib.hid ((LP.out.below (lowB hb F.out)).below hbY)
          have LQ2 := Lib.hid ((LQ.out.below (lowB hb F.out)).below hbY)
          have F2 : Hid (BP w r A ca L l Y) := Lib.hid ((F.out.step hb).step hbY)
          have HK1 : Hid (Y.heap[v.heap.size]? = some (.cells (rcs zR none 0) 27 (0, 0)) ∧ LV Y none (svs zR.attrs)) := Lib.hid ⟨by subst hY; exact heap_new _ _, hLV.below hbY⟩
          clear hb F hLV hbY LP LQ
          have F := F2
          have LP := LP2
          have LQ := LQ2
          clear F2 LP2 LQ2
          rw [zR_str]
          go_upto_region 6 with fail
          rw [← hY]
          clear hY
          generalize v.heap.size = K1 at *
          go_wp2_with fail
          refine (runpack_any L m cL l _ F.out.ll HLl.out HMc.out HCC.out (by omega) (HLO.out _ F.out) HU.out).mono ?_
          rintro e v' ⟨r4, A4, c4, er4, rfl, hLV, hb, (⟨rfl, hm4, hp4⟩ | ⟨rfl, rfl, rfl, rfl, hno4⟩)⟩
          · exact absurd ⟨_, hm4, hp4⟩ hno
          have HSa : Hid (zR.attrs.length ≤ 9223372036854775807) := Lib.hid (by decide)
          clear hno hno4
          obtain ⟨Y2, hY2⟩ : ∃ Y2, Y2 = v'.alloc (.cells zrec 37) := ⟨_, rfl⟩
          have hbY : Below v'.heap.size v' Y2 := by subst hY2; exact (Below.refl _ v').alloc (Nat.le_refl _) _
          have F2 : Hid (BT7 w r A ca L l p q a K1 v'.heap.size zR none 0 none 0 Y2) := Lib.hid (by
            have h1 := lowB hb F.out
            have g1 := (h1.block _ (lt_of_block HK1.out.1)).trans HK1.out.1
            exact ⟨(F.out.step hb).step hbY, (LP.out.below h1).below hbY, (LQ.out.below h1).below hbY, (hbY.block _ (lt_of_block g1)).trans g1, by subst hY2; exact heap_new _ _, (HK1.out.2.below h1).below hbY, hLV.below hbY⟩)
          clear hb F hLV hbY LP LQ HK1
          have F := F2
          clear F2
          rw [zR_str]
          go_upto_region 7 with fail
          rw [← hY2]
          clear hY2
          generalize v'.heap.size = K2 at *
          have HMy : Hid (∀ X, BT7 w r A ca L l p q a K1 K2 zR none 0 none 0 X → Calls Tryd.prog 11 #[.agg (rcs r A ca)] X fun e w' => e = .returned (.bool true) ∧ Below X.heap.size X w') := Lib.hid (fun X hx => by have := may_any r A ca X hx.bp.la HRr.out; rwa [HM.out] at this)
          have HMr : Hid (∀ X, BT7 w r A ca L l p q a K1 K2 zR none 0 none 0 X → Calls Tryd.prog 12 #[.agg (rcs r A ca)] X fun e w' => e = .returned (.bool true) ∧ Below X.heap.size X w') := Lib.hid (fun X hx => by have := rmay_any r A ca X hx.bp.la HRr.out; rwa [HM.out] at this)
          have HHa := Lib.hid (fun (X : World) (hx : BT7 w r A ca L l p q a K1 K2 zR none 0 none 0 X) => hand7 (c := cp) (c' := cq) HN.out (by omega) X hx)
          have HSm : Hid (∀ X, BT7 w r A ca L l p q a K1 K2 zR none 0 none 0 X → Calls Tryd.prog 14 #[.agg (rcs zR none 0), .agg (rcs zR none 0)] X fun e w' => e = .returned (.bool true) ∧ Below X.heap.size X w') := Lib.hid (fun X hx => by
            have := same_any zR zR none none 0 0 X hx.l1 hx.l2 HSa.out HSa.out
            rwa [sameB_iff.2 rfl] at this)
          obtain ⟨x0, x1, x2, x3, x4, x5, x6, y0, y1, y2, y3, y4, y5, y6, z0, z1, z2, z3, z4, z5, z6⟩ := F.out.conj
          go_region_held3 (fun w' => w'.cell? ⟨w.heap.size, 0, none⟩ = some (.int .i64 r.kind) ∧ w'.cell? ⟨w.heap.size, 1, none⟩ = some (.int .i64 r.par) ∧ w'.cell? ⟨w.heap.size, 2, none⟩ = some (.string (str r.name)) ∧ w'.cell? ⟨w.heap.size, 3, none⟩ = some (.string (str r.text)) ∧ w'.cell? ⟨w.heap.size, 4, none⟩ = some (.slice A r.attrs.length ca) ∧ w'.cell? ⟨w.heap.size, 5, none⟩ = some (.int .u64 r.root) ∧ w'.cell? ⟨w.heap.size, 6, none⟩ = some (.int .i64 r.size) ∧ w'.cell? ⟨K1, 0, none⟩ = some (.int .i64 zR.kind) ∧ w'.cell? ⟨K1, 1, none⟩ = some (.int .i64 zR.par) ∧ w'.cell? ⟨K1, 2, none⟩ = some (.string (str zR.name)) ∧ w'.cell? ⟨K1, 3, none⟩ = some (.string (str zR.text)) ∧ w'.cell? ⟨K1, 4, none⟩ = some (.slice none zR.attrs.length 0) ∧ w'.cell? ⟨K1, 5, none⟩ = some (.int .u64 zR.root) ∧ w'.cell? ⟨K1, 6, none⟩ = some (.int .i64 zR.size) ∧ w'.cell? ⟨K2, 0, none⟩ = some (.int .i64 zR.kind) ∧ w'.cell? ⟨K2, 1, none⟩ = some (.int .i64 zR.par) ∧ w'.cell? ⟨K2, 2, none⟩ = some (.string (str zR.name)) ∧ w'.cell? ⟨K2, 3, none⟩ = some (.string (str zR.text)) ∧ w'.cell? ⟨K2, 4, none⟩ = some (.slice none zR.attrs.length 0) ∧ w'.cell? ⟨K2, 5, none⟩ = some (.int .u64 zR.root) ∧ w'.cell? ⟨K2, 6, none⟩ = some (.int .i64 zR.size))
            (first
              | with_reducible exact F.out.conj
              | with_reducible exact F.out.drew.conj)
            (first
              | (go_at_call 11
                 first | with_reducible refine (HMy.out _ F.out).mono ?_ | with_reducible refine (HMy.out _ F.out.drew).mono ?_
                 rintro e wy ⟨rfl, hb⟩
                 have F2 : Hid (BT7 w r A ca L l p q a K1 K2 zR none 0 none 0 wy) := Lib.hid (by first | with_reducible exact F.out.step hb | with_reducible exact F.out.drew.step hb)
                 clear hb F
                 have F := F2
                 clear F2)
              | (go_at_call 12
                 first | with_reducible refine (HMr.out _ F.out).mono ?_ | with_reducible refine (HMr.out _ F.out.drew).mono ?_
                 rintro e wy ⟨rfl, hb⟩
                 have F2 : Hid (BT7 w r A ca L l p q a K1 K2 zR none 0 none 0 wy) := Lib.hid (by first | with_reducible exact F.out.step hb | with_reducible exact F.out.drew.step hb)
                 clear hb F
                 have F := F2
                 clear F2)
              | (go_at_call 13
                 first | with_reducible refine (HHa.out _ F.out).mono ?_ | with_reducible refine (HHa.out _ F.out.drew).mono ?_
                 rintro e wy ⟨rfl, hb⟩
                 have F2 : Hid (BT7 w r A ca L l p q a K1 K2 zR none 0 none 0 wy) := Lib.hid (by first | with_reducible exact F.out.step hb | with_reducible exact F.out.drew.step hb)
                 clear hb F
                 have F := F2
                 clear F2)
              | (go_at_call 14
                 first | with_reducible refine (HSm.out _ F.out).mono ?_ | with_reducible refine (HSm.out _ F.out.drew).mono ?_
                 rintro e wy ⟨rfl, hb⟩
                 have F2 : Hid (BT7 w r A ca L l p q a K1 K2 zR none 0 none 0 wy) := Lib.hid (by first | with_reducible exact F.out.step hb | with_reducible exact F.out.drew.step hb)
                 clear hb F
                 have F := F2
                 clear F2)
              | (go_at_call 8
                 with_reducible refine (its_any r A ca _).mono ?_
                 rintro e wy ⟨rfl, hb⟩
                 have F2 : Hid (BT7 w r A ca L l p q a K1 K2 zR none 0 none 0 wy) := Lib.hid (by first | with_reducible exact F.out.step hb | with_reducible exact F.out.drew.step hb)
                 clear hb F
                 have F := F2
                 clear F2)
              | (go_at_call 8
                 with_reducible refine (its_any zR none 0 _).mono ?_
                 rintro e wy ⟨rfl, hb⟩
                 have F2 : Hid (BT7 w r A ca L l p q a K1 K2 zR none 0 none 0 wy) := Lib.hid (by first | with_reducible exact F.out.step hb | with_reducible exact F.out.drew.step hb)
                 clear hb F
                 have F := F2
                 clear F2))
          all_goals
            go_wp2
            go_ret
            exact ⟨ret_bool (by first | rfl | simp), F.out.bp.be⟩
    · have h200' : (200 : Int) < (m : Int) := by omega
      obtain ⟨x0, x1, x2, x3, x4, x5, x6⟩ := F.out.conj
      go_wp2_with fail
      clear x0 x1 x2 x3 x4 x5 x6
      refine (HBd.out _ F.out).mono ?_
      rintro e v11 ⟨rfl, hb⟩
      have F2 : Hid (BP w r A ca L l v11) := Lib.hid (F.out.step hb)
      clear hb F
      have F := F2
      clear F2
      clear HBd hbd
      go_wp2_with fail
      refine (shown_any _ (HT.out.below F.out.be)).mono ?_
      rintro e v12 ⟨rfl, hb⟩
      have F2 : Hid (BP w r A ca L l v12) := Lib.hid (F.out.step hb)
      clear hb F
      have F := F2
      clear F2
      go_wp2
      go_ret
      exact ⟨ret_bool (by first | rfl | simp), F.out.be⟩
theorem tells_open {H : Type} {enc : TypeId × Value → H} {W : World} {base : Nat} (hm : BT W) {v0 v1 : Value} {d0 d1 : DataW H} {p0 p1 : List MemPlace}
    (o0 : Value.okWide Tryd.prog W .any base 27 v0) (o1 : Value.okWide Tryd.prog W .any base 28 v1)
    (h0 : DataW.Trod enc Tryd.prog W 0 (fun _ => true) true 27 v0 d0 p0) (h1 : DataW.Trod enc Tryd.prog W 0 (fun _ => true) true 28 v1 d1 p1)
    (l0 : ∀ x ∈ p0, x.block < W.heap.size) (l1 : ∀ x ∈ p1, x.block < W.heap.size) :
    Calls Tryd.prog 3 #[v0, v1] W fun e w' => e = .returned (.bool true) ∧ Below W.heap.size W w' := by
  obtain ⟨r, A, ca, rfl, hA, hr, hca⟩ := rec_openC o0 h0 l0
  obtain ⟨L, m, cL, l, rfl, hmc, hc, hl, hL, hU, hlo⟩ := gs_open o1 h1 l1
  exact tells_law r A ca L m cL l W hm hA hr hca hL hl hmc hc hU hlo
end Go.Proofs.YthfeonmaajiajaaDoor
