/-
  The law SnapOne: what a selector of an id finds first is what is asked for by that id.
-/
import Derived.Test.YtcndplnnighjkaaGreatDoorPG52
namespace Go.Proofs.YtcndplnnighjkaaGreatDoor.Sn
open Go.ChangeShapes Go.WideShapes Go.ChangeAt Go.RowKit
open Sx (ls)
set_option linter.unusedVariables false
set_option linter.unusedSimpArgs false
set_option maxRecDepth 100000 in
set_option maxHeartbeats 16000000 in
theorem one_law (A : Option Addr) (l : List Ops.Po) (c : Nat) (mx : Int) (t : ByteArray) (hts : t.size <= 9223372036854775807) (w : World) (hL : Ops.OL w A l) (hl : l.length <= 9223372036854775807) (hK : Ops.KT w) (hmx : w.cell? ⟨1, 0, none⟩ = some (.int .i64 mx)) :
 Calls Tryz.prog 5 #[.slice A l.length c, .string t] w (GivesV (.bool true) w) := by
 have hg0 : 1 < w.heap.size := World.block_lt_of_cell? _ _ hmx
 have HC := Lib.hid (fun (V : World) (hb : Below w.heap.size w V) => (⟨hL.below hb, hK.below hb, (hb.cell (p := ⟨1, 0, none⟩) hg0).trans hmx⟩ : Ops.OL V A l /\ Ops.KT V /\ V.cell? ⟨1, 0, none⟩ = some (.int .i64 mx)))
 have HB0 := Lib.hid (bounded13 A l c w hL hl)
 have HN := Lib.hid (fun (V : World) => Sx.rname_any t V hts)
 have HS := Lib.hid (fun (V : World) (hb : Below w.heap.size w V) => shown13 mx V (HC.out V hb).2.1 (HC.out V hb).2.2)
 have HG := Lib.hid (fun (V : World) (hb : Below w.heap.size w V) (h : l.length <= 150) => grown13 A l c V (HC.out V hb).1 (by omega) (HC.out V hb).2.1)
 have HLE : Hid (bdO l = true -> l.length <= 150) := Lib.hid (fun h => by
  unfold bdO at h
  rw [Bool.and_eq_true, decide_eq_true_eq] at h
  exact h.2)
 have HNk : Hid (Sx.nm t = true -> Sl.nameOk (ls t) = true /\ t.size <= 20) := Lib.hid (fun h => by
  rw [Sx.nm_ok] at h
  refine ⟨h, ?_⟩
  have := (Sl.nameOk_all h).1
  rwa [Sx.ls_len] at this)
 obtain ⟨nl, hnn⟩ : ∃ n, l.length = n := ⟨_, rfl⟩
 rw [hnn] at HB0 HG HLE hl ⊢
 clear hL hK hnn hmx hg0 hts
 generalize bdO l = BL at *
 generalize Sx.nm t = BN at *
 go_enter Tryz.func5, Tryz.ntmps5
 go_wp2_with fail
 refine HB0.out.mono ?_
 rintro e w' ⟨rfl, hw⟩
 obtain rfl := hw.symm
 cases BL with
 | false =>
   go_wp2_with fail
   refine (HS.out _ (Below.refl _ _)).mono ?_
   rintro e w1 ⟨rfl, hb⟩
   have HB := Lib.hid hb
   clear hb
   go_wp2
   go_ret
   exact ⟨rfl, HB.out⟩
 | true =>
 have hln := HLE.out rfl
 go_wp2_with fail
 refine (HN.out w).mono ?_
 rintro e w' ⟨rfl, hw⟩
 obtain rfl := hw.symm
 cases BN with
 | false =>
   go_wp2_with fail
   refine (HS.out _ (Below.refl _ _)).mono ?_
   rintro e w1 ⟨rfl, hb⟩
   have HB := Lib.hid hb
   clear hb
   go_wp2
   go_ret
   exact ⟨rfl, HB.out⟩
 | true =>
 obtain ⟨hok, hsz⟩ := HNk.out rfl
 go_wp2_with fail
 refine (HS.out _ (Below.refl _ _)).mono ?_
 rintro e w2 ⟨rfl, hb⟩
 have HB2 := Lib.hid hb
 have HG2 := Lib.hid (HG.out w2 hb hln)
 have HC2 := Lib.hid (fun (V : World) (hb2 : Below w2.heap.size w2 V) => (HC.out V (hb.trans (hb2.mono hb.size))).2.2)
 clear hb HG HS HB0 HLE HN HNk HC hl hln
 go_wp2_with fail
 refine HG2.out.mono ?_
 rintro e w3 ⟨Af, G, cf, rfl, hF, hm, hlk, hb⟩
 have HB3 := Lib.hid (HB2.out.trans (hb.mono HB2.out.size))
 have z2 : (⟨#[35]⟩ ++ t : ByteArray).size = 1 + t.size := by rw [ByteArray.size_append]; rfl
 have HO7 := Lib.hid (fun (V : World) (hb2 : Below w3.heap.size w3 V) => of_any Af G cf 7 0 0 mx t V (hF.below hb2) hm (by unfold I64; omega) (by omega) (HC2.out V (hb.trans (hb2.mono hb.size))))
 have HO8 := Lib.hid (fun (V : World) (hb2 : Below w3.heap.size w3 V) => of_any Af G cf 8 0 0 mx (⟨#[35]⟩ ++ t) V (hF.below hb2) hm (by unfold I64; omega) (by omega) (HC2.out V (hb.trans (hb2.mono hb.size))))
 obtain ⟨L, hL8, hcs, hL1⟩ := ans_id hm hok
 rw [hL8] at HO8
 generalize ansP G 7 0 0 t = a7 at *
 generalize G.length = n at *
 clear hF hm hlk hb HG2 HC2 hok hL8
 go_wp2_with fail
 refine (HO7.out w3 (Below.refl _ _)).mono ?_
 rintro e w4 ⟨v4, rfl, hi, hb⟩
 have HA4 := Lib.hid (anA (b := w3.heap.size) (w := w3) a7.s a7.e hi hb hb.size)
 obtain ⟨p4, c4, rfl, -⟩ := own_form2 hi
 obtain ⟨W4, hW4⟩ : ∃ W4, W4 = w4.alloc (.cells #[.slice p4 a7.l.length c4, .string a7.s, .int .i64 a7.e] 31) := ⟨_, rfl⟩
 rw [<- hW4] at HA4
 obtain ⟨k4, hk4⟩ : ∃ k, w4.heap.size = k := ⟨_, rfl⟩
 rw [hk4] at HA4
 have HK4 := Lib.hid hk4
 have HB4 := Lib.hid HA4.out.2.2.out
 clear hi hb hk4
 go_upto_region 5 with fail
 rw [<- hW4, HK4.out]
 clear hW4 HK4
 go_wp2_with fail
 refine (HO8.out W4 HB4.out).mono ?_
 rintro e w5 ⟨v5, rfl, hi, hb⟩
 have HA5 := Lib.hid (anA (b := w3.heap.size) (w := w3) (numsA L).s (numsA L).e hi (HB4.out.trans (hb.mono HB4.out.size)) (Nat.le_trans HB4.out.size hb.size))
 have HA45 := Lib.hid (HA4.out.below (hb.alloc hb.size (.cells #[v5, .string (numsA L).s, .int .i64 (numsA L).e] 31)) HB4.out.size)
 obtain ⟨p5, c5, rfl, -⟩ := own_form2 hi
 obtain ⟨W5, hW5⟩ : ∃ W5, W5 = w5.alloc (.cells #[.slice p5 (numsA L).l.length c5, .string (numsA L).s, .int .i64 (numsA L).e] 31) := ⟨_, rfl⟩
 rw [<- hW5] at HA5 HA45
 obtain ⟨k5, hk5⟩ : ∃ k, w5.heap.size = k := ⟨_, rfl⟩
 rw [hk5] at HA5
 have HK5 := Lib.hid hk5
 have HB5 := Lib.hid HA5.out.2.2.out
 clear hi hb hk5
 go_upto_region 6 with fail
 rw [<- hW5, HK5.out]
 clear hW5 HK5 HA4
 have HBF := Lib.hid (HB3.out.trans (HB5.out.mono HB3.out.size))
 rcases hcs with ⟨rfl, rfl⟩ | ⟨kk, rr, rfl, rfl⟩
 · obtain ⟨x0, x1, x2⟩ := b3 HA45.out.1.out
   obtain ⟨y0, y1, y2⟩ := b3 HA5.out.1.out
   replace x0 : W5.cell? ⟨k4, 0, none⟩ = some (.slice p4 0 c4) := x0
   replace x2 : W5.cell? ⟨k4, 2, none⟩ = some (.int .i64 3) := x2
   replace y0 : W5.cell? ⟨k5, 0, none⟩ = some (.slice p5 0 c5) := y0
   replace y2 : W5.cell? ⟨k5, 2, none⟩ = some (.int .i64 0) := y2
   clear HA45 HA5 x1 y1
   go_upto_region 8 with fail
   go_wp2_with fail
   go_quiet (fail)
   go_wp2
   go_ret
   exact ⟨rfl, below_drewN HBF.out _⟩
 · obtain ⟨x0, x1, x2⟩ := b3 HA45.out.1.out
   obtain ⟨y0, y1, y2⟩ := b3 HA5.out.1.out
   obtain ⟨nr, hnr⟩ : ∃ z, rr.length = z := ⟨_, rfl⟩
   replace x0 : W5.cell? ⟨k4, 0, none⟩ = some (.slice p4 1 c4) := x0
   replace x2 : W5.cell? ⟨k4, 2, none⟩ = some (.int .i64 0) := x2
   replace y0 : W5.cell? ⟨k5, 0, none⟩ = some (.slice p5 (nr + 1 : Nat) c5) := by rw [<- hnr]; exact y0
   replace y2 : W5.cell? ⟨k5, 2, none⟩ = some (.int .i64 0) := y2
   obtain ⟨g4, o4, e4, hg4, q4⟩ := own_ir2 (l := [kk]) HA45.out.2.1.out 0 (by simp)
   obtain ⟨g5, o5, e5, hg5, q5⟩ := own_ir2 (l := kk :: rr) HA5.out.2.1.out 0 (by simp)
   subst e4
   subst e5
   replace q4 : W5.cell? ⟨g4, o4, none⟩ = some (.int .i64 kk) := q4
   replace q5 : W5.cell? ⟨g5, o5, none⟩ = some (.int .i64 kk) := q5
   have hd : decide ((0 : Int) < ((nr + 1 : Nat) : Int)) = true := by rw [decide_eq_true_eq]; omega
   have hi1 : ((0 : Int) < ((nr + 1 : Nat) : Int)) := by omega
   clear HA45 HA5 x1 y1 hnr hg4 hg5
   have m1 : (kk == kk) = true := by simp
   have hdn : decide (0 < nr + 1) = true := by simp
   have hn1 : 0 < nr + 1 := by omega
   generalize nr + 1 = nn at *
   go_upto_region 8 with fail
   go_wp2_with fail
   go_quiet (fail)
   go_wp2
   go_ret
   exact ⟨rfl, below_drewN HBF.out _⟩
set_option maxRecDepth 100000 in
theorem one_true {H : Type} {enc : TypeId × Value -> H} {W : World} {base : Nat} {v0 : Value} {d0 : DataW H} {p0 : List MemPlace} {v1 : Value} {d1 : DataW H} {p1 : List MemPlace} (hm : ∃ mx, W.cell? ⟨1, 0, none⟩ = some (.int .i64 mx)) (hK : Ops.KT W) (o0 : Value.okWide Tryz.prog W .any base 22 v0) (o1 : Value.okWide Tryz.prog W .any base 9 v1)
 (h0 : DataW.Trod enc Tryz.prog W 0 (fun _ => true) true 22 v0 d0 p0) (h1 : DataW.Trod enc Tryz.prog W 0 (fun _ => true) true 9 v1 d1 p1)
 (l0 : ∀ x ∈ p0, x.block < W.heap.size) (l1 : ∀ x ∈ p1, x.block < W.heap.size) :
 Calls Tryz.prog 5 #[v0, v1] W fun e W' => e = .returned (.bool true) /\ Below W.heap.size W W' := by
 obtain ⟨mx, hmx⟩ := hm
 obtain ⟨A, cap, l, rfl, e1, e2, hL, -⟩ := Ops.ol_open o0 h0 l0
 obtain ⟨t, rfl, rfl, rfl, w3⟩ := Go.ChangeMaps.open_string Tryz.underlying9 o1 h1
 exact one_law A l cap mx t (by unfold maxLen at *; omega) W hL (Nat.le_trans e1 e2) hK hmx
end Go.Proofs.YtcndplnnighjkaaGreatDoor.Sn
