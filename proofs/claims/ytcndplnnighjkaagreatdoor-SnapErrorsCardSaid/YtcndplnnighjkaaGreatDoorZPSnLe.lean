/-
  The law SnapErrors: with an error nothing else is told, but the place of a selector's; what is no kind of query is ErrArg.
-/
import Derived.Test.YtcndplnnighjkaaGreatDoorPG52
namespace Go.Proofs.YtcndplnnighjkaaGreatDoor.Sn
open Go.ChangeShapes Go.WideShapes Go.ChangeAt Go.RowKit
open Sx (ls)
set_option linter.unusedVariables false
set_option linter.unusedSimpArgs false
set_option maxRecDepth 100000 in
set_option maxHeartbeats 16000000 in
theorem errors_law (A : Option Addr) (l : List Ops.Po) (c : Nat) (k x b mx : Int) (t : ByteArray) (hb64 : I64 b) (w : World) (hL : Ops.OL w A l) (hl : l.length <= 9223372036854775807) (hK : Ops.KT w) (hmx : w.cell? ⟨1, 0, none⟩ = some (.int .i64 mx)) :
 Calls Tryz.prog 4 #[.slice A l.length c, .agg #[.int .i64 k, .int .i64 x, .int .i64 b, .string t]] w (GivesV (.bool true) w) := by
 have hg0 : 1 < w.heap.size := World.block_lt_of_cell? _ _ hmx
 have HC := Lib.hid (fun (V : World) (hb : Below w.heap.size w V) => (⟨hL.below hb, hK.below hb, (hb.cell (p := ⟨1, 0, none⟩) hg0).trans hmx⟩ : Ops.OL V A l /\ Ops.KT V /\ V.cell? ⟨1, 0, none⟩ = some (.int .i64 mx)))
 obtain ⟨W, hW⟩ : ∃ W, W = w.alloc (.cells #[.int .i64 k, .int .i64 x, .int .i64 b, .string t] 34) := ⟨_, rfl⟩
 have HW : Hid (Below w.heap.size w W /\ W.heap[w.heap.size]? = some (.cells #[.int .i64 k, .int .i64 x, .int .i64 b, .string t] 34 (0, 0)) /\ W.heap.size = w.heap.size + 1) := Lib.hid (by
  rw [hW]
  exact ⟨(Below.refl _ _).alloc (Nat.le_refl _) _, heap_alloc_new _ _, by simp⟩)
 have HB0 := Lib.hid (bounded13 A l c W (HC.out W HW.out.1).1 hl)
 have HUp : Hid (∀ V, Below W.heap.size W V -> Below w.heap.size w V) := Lib.hid (fun V hb => HW.out.1.trans (hb.mono HW.out.1.size))
 have HS := Lib.hid (fun (V : World) (hb : Below W.heap.size W V) => shown13 mx V (HC.out V (HUp.out V hb)).2.1 (HC.out V (HUp.out V hb)).2.2)
 have HG := Lib.hid (fun (V : World) (hb : Below W.heap.size W V) (h : l.length <= 150) => grown13 A l c V (HC.out V (HUp.out V hb)).1 (by omega) (HC.out V (HUp.out V hb)).2.1)
 have HOf := Lib.hid (fun (V : World) (hb : Below W.heap.size W V) (Af : Option Addr) (G : List Mn) (cf : Nat) (hF : FR V Af G) (hm : mayB G = true) (ht : t.size <= 1000) => of_any Af G cf k x b mx t V hF hm hb64 ht (HC.out V (HUp.out V hb)).2.2)
 have HLE : Hid (bdO l = true -> l.length <= 150) := Lib.hid (fun h => by
  unfold bdO at h
  rw [Bool.and_eq_true, decide_eq_true_eq] at h
  exact h.2)
 have HQ : Hid (∀ V, Below W.heap.size W V -> V.cell? ⟨w.heap.size, 0, none⟩ = some (.int .i64 k) /\ V.cell? ⟨w.heap.size, 1, none⟩ = some (.int .i64 x) /\ V.cell? ⟨w.heap.size, 2, none⟩ = some (.int .i64 b) /\ V.cell? ⟨w.heap.size, 3, none⟩ = some (.string t)) := Lib.hid (fun V hb => b4 ((hb.block _ (lt_of_block HW.out.2.1)).trans HW.out.2.1))
 obtain ⟨nl, hnn⟩ : ∃ n, l.length = n := ⟨_, rfl⟩
 rw [hnn] at HB0 HG HLE hl ⊢
 clear hL hK hnn hmx hg0 HC
 generalize bdO l = BL at *
 go_enter Tryz.func4, Tryz.ntmps4
 go_upto_region 1 with fail
 rw [<- hW]
 clear hW
 obtain ⟨x0, x1, x2, x3⟩ := HQ.out W (Below.refl _ _)
 go_wp2_with fail
 refine HB0.out.mono ?_
 rintro e w' ⟨rfl, hw⟩
 obtain rfl := hw.symm
 cases BL with
 | false =>
   go_wp2_with fail
   refine (HS.out _ (Below.refl _ _)).mono ?_
   rintro e w1 ⟨rfl, hb⟩
   have HB := Lib.hid (HUp.out _ hb)
   clear hb
   go_wp2
   go_ret
   exact ⟨rfl, HB.out⟩
 | true =>
 have hln := HLE.out rfl
 by_cases hsz : t.size <= 100
 case neg =>
  have q1 : decide ((100 : Int) < (t.size : Int)) = true := by simp; omega
  go_wp2_with fail
  refine (HS.out _ (Below.refl _ _)).mono ?_
  rintro e w1 ⟨rfl, hb⟩
  have HB := Lib.hid (HUp.out _ hb)
  clear hb
  go_wp2
  go_ret
  exact ⟨rfl, HB.out⟩
 have q1 : decide ((100 : Int) < (t.size : Int)) = false := by simp; omega
 go_wp2_with fail
 refine (HS.out _ (Below.refl _ _)).mono ?_
 rintro e w2 ⟨rfl, hb⟩
 have HB2 := Lib.hid hb
 have HG2 := Lib.hid (fun (V : World) (hb2 : Below w2.heap.size w2 V) => HG.out V (hb.trans (hb2.mono hb.size)) hln)
 have HQ2 := Lib.hid (fun (V : World) (hb2 : Below w2.heap.size w2 V) => HQ.out V (hb.trans (hb2.mono hb.size)))
 have HO2 := Lib.hid (fun (V : World) (hb2 : Below w2.heap.size w2 V) => HOf.out V (hb.trans (hb2.mono hb.size)))
 clear hb HG HOf HS HB0 HLE x0 x1 x2 x3 hl hln
 go_upto_region 3 with fail
 obtain ⟨x0, x1, x2, x3⟩ := HQ2.out w2 (Below.refl _ _)
 go_cut [5] from 20 to 24 (fun p wx => ∃ (k5 B : Nat) (v : Value) (G : List Mn), p = .pointer (some ⟨k5, 0, none⟩) /\ mayB G = true /\ AR1 w2.heap.size w2 wx k5 B v (ansP G k x b t).l (ansP G k x b t).s (ansP G k x b t).e)
 case first =>
  go_region_held3 (fun V => V.cell? ⟨w.heap.size, 0, none⟩ = some (.int .i64 k) /\ V.cell? ⟨w.heap.size, 1, none⟩ = some (.int .i64 x) /\ V.cell? ⟨w.heap.size, 2, none⟩ = some (.int .i64 b) /\ V.cell? ⟨w.heap.size, 3, none⟩ = some (.string t))
   ((refine HQ2.out _ ?_
     repeat' (first
      | with_reducible exact HBo.out
      | with_reducible exact HBg.out
      | with_reducible exact Below.refl _ _
      | with_reducible refine alloc' ?_ _
      | with_reducible refine Below.drew ?_
      | ((with_reducible refine Below.setCell ?_ ?_ _); rotate_left; focus (first | (show _ <= _; omega) | (show _ <= _; simp; omega) | (show _ <= _; simp; done))))))
   (first
     | (go_at_call 8
        refine (HG2.out _ (by repeat' (first | with_reducible exact Below.refl _ _ | with_reducible refine alloc' ?_ _ | with_reducible refine Below.drew ?_))).mono ?_
        rintro e wg ⟨Af, G, cf, rfl, hF, hm, hlk, hb⟩
        have HBg : Hid (Below w2.heap.size w2 wg) := Lib.hid (Below.trans (by repeat' (first | with_reducible exact Below.refl _ _ | with_reducible refine alloc' ?_ _ | with_reducible refine Below.drew ?_)) (hb.mono (by first | (show _ <= _; simp; done) | (show _ <= _; simp; omega))))
        have hzg := HBg.out.size
        have HM := Lib.hid hm
        have HO3 := Lib.hid (fun (V : World) (hb2 : Below wg.heap.size wg V) => HO2.out V (HBg.out.trans (hb2.mono HBg.out.size)) Af G cf (hF.below hb2) hm (by omega))
        first
         | (have HT : Hid (wg.heap[w2.heap.size]? = some (.cells #[.slice none 0 0, .string ⟨#[]⟩, .int .i64 0] 31 (0, 0))) := Lib.hid ((hb.block _ (lt_of_block (heap_alloc_new _ _))).trans (heap_alloc_new _ _)))
         | skip
        generalize G.length = gn at *
        clear hF hm hlk hb)
     | (go_at_call 9
        refine (HO3.out _ (by repeat' (first | with_reducible exact Below.refl _ _ | with_reducible refine alloc' ?_ _ | with_reducible refine Below.drew ?_))).mono ?_
        rintro e wo ⟨v, rfl, hv, hb⟩
        have HBo : Hid (Below w2.heap.size w2 wo) := Lib.hid (Below.trans (by repeat' (first | with_reducible exact HBg.out | with_reducible refine alloc' ?_ _ | with_reducible refine Below.drew ?_)) (hb.mono (by have := HBg.out.size; first | (show _ <= _; omega) | (show _ <= _; simp; omega))))
        have HV := Lib.hid hv
        obtain ⟨pv, cv, rfl, -⟩ := own_form2 hv
        first
         | (have HT2 : Hid (wo.heap[w2.heap.size]? = some (.cells #[.slice none 0 0, .string ⟨#[]⟩, .int .i64 0] 31 (0, 0))) := Lib.hid ((hb.block _ (lt_of_block HT.out)).trans HT.out); obtain ⟨d0, d1, d2⟩ := b3 HT2.out; have z0 := bfz HT2.out 0; have z1 := bfz HT2.out 1; have z2 := bfz HT2.out 2)
         | (have HT2 : Hid (wo.heap[wg.heap.size]? = some (.cells #[.slice none 0 0, .string ⟨#[]⟩, .int .i64 0] 31 (0, 0))) := Lib.hid ((hb.block _ (lt_of_block (heap_alloc_new _ _))).trans (heap_alloc_new _ _)); obtain ⟨d0, d1, d2⟩ := b3 HT2.out; have z0 := bfz HT2.out 0; have z1 := bfz HT2.out 1; have z2 := bfz HT2.out 2)
         | skip
        clear hv hb))
  all_goals
   go_wp2
   go_meet
   first
    | with_reducible exact ⟨_, _, _, _, rfl, HM.out, anB _ _ HV.out HBo.out HT2.out (by first | omega | (simp; done) | (simp; omega))⟩
    | with_reducible exact ⟨_, _, _, _, rfl, HM.out, anA _ _ HV.out HBo.out HBo.out.size⟩
 case rest =>
  obtain ⟨k5, B, v, G, rfl, hm, HT, HV, HBx⟩ := hcut
  obtain ⟨hE, hE2⟩ := ans_err G k x b t
  generalize ansP G k x b t = a at *
  obtain ⟨pv, cv, rfl, -⟩ := own_form2 HV.out
  have HBf := Lib.hid (HUp.out _ (HB2.out.trans (HBx.out.mono HB2.out.size)))
  have HE := Lib.hid hE
  have HE2 := Lib.hid hE2
  obtain ⟨al, sx, ae⟩ := a
  simp only [] at HE HE2
  obtain ⟨y0, y1, y2⟩ := b3 HT.out
  obtain ⟨u0, u1, u2, u3⟩ := HQ2.out wc HBx.out
  obtain ⟨nl5, hnl5⟩ : ∃ z, al.length = z := ⟨_, rfl⟩
  have HNL := Lib.hid hnl5
  simp only [hnl5] at y0
  clear hE hE2 hnl5 x0 x1 x2 x3 HQ2 HG2 HO2 hm HV HT HB2
  have hb1 : (ae == 1) = (decide (k < 1) || decide (9 < k)) := by
   rw [Bool.eq_iff_iff]
   simp only [beq_iff_eq, Bool.or_eq_true, decide_eq_true_eq]
   rw [HE.out]
   omega
  have HBQ := Lib.hid hb1
  clear hb1
  have hcs : (decide (k < 1) = true /\ (ae == 1) = true) \/ (decide (k < 1) = false /\ decide (9 < k) = true /\ (ae == 1) = true) \/ (decide (k < 1) = false /\ decide (9 < k) = false /\ (ae == 1) = false) := by
   rw [HBQ.out]
   cases decide (k < 1) <;> cases decide (9 < k) <;> simp
  rcases hcs with ⟨hk1, t1⟩ | ⟨hk1, hk9, t1⟩ | ⟨hk1, hk9, t1⟩
  all_goals
   go_upto_region 6 with fail
   by_cases h0 : ae = 0
   · have t0 : (ae == 0) = true := by rw [h0]; rfl
     clear h0
     go_wp2
     go_ret
     exact ⟨rfl, HBf.out⟩
   · have t0 : (ae == 0) = false := by rw [beq_eq_false_iff_ne]; exact h0
     rcases HE2.out with h | ⟨hs, ⟨hl0, hne⟩ | ⟨hl1, h90, hk8⟩⟩
     · exact absurd h h0
     · have t9 : (ae != 90) = true := by rw [bne_iff_ne]; exact hne
       have hz : nl5 = 0 := by rw [<- HNL.out, hl0]; rfl
       subst hz
       subst hs
       clear h0 hne hl0
       go_wp2
       go_ret
       exact ⟨rfl, HBf.out⟩
     · have hz : nl5 = 1 := by rw [<- HNL.out]; exact hl1
       subst hz
       subst hs
       subst h90
       subst hk8
       clear h0 hl1
       go_wp2
       go_ret
       exact ⟨rfl, HBf.out⟩
set_option maxRecDepth 100000 in
theorem errors_true {H : Type} {enc : TypeId × Value -> H} {W : World} {base : Nat} {v0 : Value} {d0 : DataW H} {p0 : List MemPlace} {v1 : Value} {d1 : DataW H} {p1 : List MemPlace} (hm : ∃ mx, W.cell? ⟨1, 0, none⟩ = some (.int .i64 mx)) (hK : Ops.KT W) (o0 : Value.okWide Tryz.prog W .any base 22 v0) (o1 : Value.okWide Tryz.prog W .any base 34 v1)
 (h0 : DataW.Trod enc Tryz.prog W 0 (fun _ => true) true 22 v0 d0 p0) (h1 : DataW.Trod enc Tryz.prog W 0 (fun _ => true) true 34 v1 d1 p1)
 (l0 : ∀ x ∈ p0, x.block < W.heap.size) (l1 : ∀ x ∈ p1, x.block < W.heap.size) :
 Calls Tryz.prog 4 #[v0, v1] W fun e W' => e = .returned (.bool true) /\ Below W.heap.size W W' := by
 obtain ⟨mx, hmx⟩ := hm
 obtain ⟨A, cap, l, rfl, e1, e2, hL, -⟩ := Ops.ol_open o0 h0 l0
 obtain ⟨q, rfl, hq⟩ := q_open o1 h1
 exact errors_law A l cap q.k q.x q.b mx q.t hq W hL (Nat.le_trans e1 e2) hK hmx
end Go.Proofs.YtcndplnnighjkaaGreatDoor.Sn
