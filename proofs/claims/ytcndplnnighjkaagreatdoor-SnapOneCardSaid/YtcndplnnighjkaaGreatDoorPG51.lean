/-
  Package snap: what each query asks. (Generated: gen/gen_snb.py.)
-/
import Derived.Test.YtcndplnnighjkaaGreatDoorPG50
import Derived.Test.YtcndplnnighjkaaGreatDoorPG27
import Derived.Test.YtcndplnnighjkaaGreatDoorPG25
import Derived.Test.YtcndplnnighjkaaGreatDoorPG04
namespace Go.Proofs.YtcndplnnighjkaaGreatDoor.Sn
open Go.ChangeShapes Go.WideShapes Go.ChangeAt Go.RowKit Go.MapKept
open Sx (Tr Ms Mr TR MR XR tV r1 ls te stp rws cx cl cx_iff)
open Fi (isP isP_cx isP_like Xs)
set_option linter.unusedVariables false
set_option linter.unusedSimpArgs false
structure QW (w : World) (k x b : Int) (t : ByteArray) (W : World) : Prop where
 be : Below w.heap.size w W
 sz : w.heap.size + 2 <= W.heap.size
 q : W.heap[w.heap.size]? = some (.cells #[.int .i64 k, .int .i64 x, .int .i64 b, .string t] 34 (0, 0))
 a : W.heap[w.heap.size + 1]? = some (.cells #[.slice none 0 0, .string ⟨#[]⟩, .int .i64 0] 31 (0, 0))
theorem QW.mk2 (w : World) (k x b : Int) (t : ByteArray) : QW w k x b t ((w.alloc (.cells #[.int .i64 k, .int .i64 x, .int .i64 b, .string t] 34)).alloc (.cells #[.slice none 0 0, .string ⟨#[]⟩, .int .i64 0] 31)) :=
 ⟨((Below.refl _ _).alloc (Nat.le_refl _) _).alloc (by simp) _, by simp, hn0 _ _ _, hn1 _ _ _⟩
theorem QW.below {w W V : World} {k x b : Int} {t : ByteArray} (h : QW w k x b t W) (hb : Below W.heap.size W V) : QW w k x b t V :=
 ⟨h.be.trans (hb.mono h.be.size), Nat.le_trans h.sz hb.size, (hb.block _ (lt_of_block h.q)).trans h.q, (hb.block _ (lt_of_block h.a)).trans h.a⟩
theorem QW.fin {w W : World} {k x b : Int} {t : ByteArray} (h : QW w k x b t W) {B : Nat} {v : Value} {l : List Int} (hv : NR W B v l) (hB : w.heap.size <= B) (y z : Value) : NR (sA W (w.heap.size + 1) v y z) w.heap.size v l /\ Below w.heap.size w (sA W (w.heap.size + 1) v y z) :=
 sA_all (own_mono hv hB) h.a (by omega) h.be v y z
def GivesLE (p : List Int × Int) (w : World) (e : Ending) (w' : World) : Prop := ∃ v, e = .returned (.tuple #[v, .int .i64 p.2]) /\ NR w' w.heap.size v p.1 /\ Below w.heap.size w w'
def lsA (p : List Int × Int) : An := if p.2 = 0 then numsA p.1 else errA p.2
theorem numbers_any (b : Nat) (v : Value) (p : List Int × Int) (w : World) (h : NR w b v p.1) (hb : b <= w.heap.size) : Calls Tryz.prog 31 #[v, .int .i64 p.2] w (GivesA b (lsA p) w) := by
 obtain ⟨l, x⟩ := p
 by_cases hx : x = 0
 · subst hx
   exact numbers_ok b v l w h
 · have e : lsA (l, x) = errA x := by unfold lsA; rw [if_neg hx]
   rw [e]
   exact (numbers_no v x w hx).mono fun e w' h => h.mono hb
theorem not_isB {G : List Mn} {x : Int} (h : isB G x = false) : ¬ (0 <= x /\ x < G.length) := by rw [isB, decide_eq_false_iff_not] at h; exact h
theorem nr_nat {w : World} {b : Nat} {v : Value} {l : List Nat} (h : w.ownsRow b 3 1 v l.length (ivN l)) : NR w b v (l.map Int.ofNat) := by
 show w.ownsRow b 3 1 v (l.map Int.ofNat).length (ivs (l.map Int.ofNat))
 rw [List.length_map]
 exact h
theorem kidsS (A : Option Addr) (G : List Mn) (c : Nat) (x : Int) (w : World) (hF : FR w A G) (hm : mayB G = true) : Calls Tryz.prog 32 #[.slice A G.length c, .int .i64 x] w (GivesLE (if isB G x = true then (kidsOf G x.toNat, 0) else ([], 70)) w) := by
 cases h : isB G x with
 | false => exact (wkids_none A G c x w hF hm (not_isB h)).mono fun e w' ⟨he, hb⟩ => ⟨_, he, World.ownsRow_nil _ _ _ _, hb⟩
 | true =>
   obtain ⟨i, rfl, hi⟩ := isB_nat h
   refine (wkids_any A G c i w hF hm hi).mono ?_
   rintro e w' ⟨v, rfl, hv, hb⟩
   exact ⟨v, rfl, hv, hb⟩
theorem orderS (A : Option Addr) (G : List Mn) (c : Nat) (x : Int) (w : World) (hF : FR w A G) (hm : mayB G = true) : Calls Tryz.prog 36 #[.slice A G.length c, .int .i64 x] w (GivesLE (if isB G x = true then ((ord G x.toNat).map Int.ofNat, 0) else ([], 70)) w) := by
 cases h : isB G x with
 | false => exact (worder_none A G c x w hF hm (not_isB h)).mono fun e w' ⟨he, hb⟩ => ⟨_, he, World.ownsRow_nil _ _ _ _, hb⟩
 | true =>
   obtain ⟨i, rfl, hi⟩ := isB_nat h
   refine (worder_any A G c i w hF hm hi).mono ?_
   rintro e w' ⟨v, rfl, hv, hb⟩
   exact ⟨v, rfl, nr_nat hv, hb⟩
theorem contentS (A : Option Addr) (G : List Mn) (c : Nat) (x : Int) (w : World) (hF : FR w A G) (hm : mayB G = true) : Calls Tryz.prog 39 #[.slice A G.length c, .int .i64 x] w fun e w' => e = .returned (.tuple #[.string (if isB G x = true then (⟨(cont G x.toNat).toArray⟩, 0) else ((⟨#[]⟩, 70) : ByteArray × Int)).1, .int .i64 (if isB G x = true then (⟨(cont G x.toNat).toArray⟩, 0) else ((⟨#[]⟩, 70) : ByteArray × Int)).2]) /\ Below w.heap.size w w' := by
 cases h : isB G x with
 | false => exact wcontent_none A G c x w hF hm (not_isB h)
 | true =>
   obtain ⟨i, rfl, hi⟩ := isB_nat h
   exact wcontent_any A G c i w hF hm hi
theorem attrS (A : Option Addr) (G : List Mn) (c : Nat) (x : Int) (t : ByteArray) (w : World) (hF : FR w A G) (hm : mayB G = true) : Calls Tryz.prog 41 #[.slice A G.length c, .int .i64 x, .string t] w fun e w' => e = .returned (.tuple #[.string (if isB G x = true then attrP G x.toNat t else ((⟨#[]⟩, 70) : ByteArray × Int)).1, .int .i64 (if isB G x = true then attrP G x.toNat t else ((⟨#[]⟩, 70) : ByteArray × Int)).2]) /\ Below w.heap.size w w' := by
 cases h : isB G x with
 | false => exact wattr_none A G c x t w hF hm (not_isB h)
 | true =>
   obtain ⟨i, rfl, hi⟩ := isB_nat h
   have := wattr_any A G c i t w hF hm hi
   rw [<- attrP_at hi] at this
   exact this
set_option maxHeartbeats 1000000 in
theorem ask1_any (A : Option Addr) (G : List Mn) (c : Nat) (x b : Int) (t : ByteArray) (w : World) (hF : FR w A G) (hm : mayB G = true) : Calls Tryz.prog 27 #[.slice A G.length c, .agg #[.int .i64 1, .int .i64 x, .int .i64 b, .string t]] w (GivesA w.heap.size (ansP G 1 x b t) w) := by
 obtain ⟨W, hW⟩ : ∃ W, W = (w.alloc (.cells #[.int .i64 1, .int .i64 x, .int .i64 b, .string t] 34)).alloc (.cells #[.slice none 0 0, .string ⟨#[]⟩, .int .i64 0] 31) := ⟨_, rfl⟩
 have HW : Hid (QW w 1 x b t W) := Lib.hid (by rw [hW]; exact QW.mk2 w 1 x b t)
 have HC := Lib.hid (wparent_any A G c x W (hF.below HW.out.be) hm)
 have e : ansP G 1 x b t = oneA (upP G x) := by simp [ansP]
 rw [e]
 clear e hF hm
 obtain ⟨⟨u0, y0⟩, hp⟩ : ∃ p, upP G x = p := ⟨_, rfl⟩
 rw [hp] at HC ⊢
 clear hp
 generalize G.length = n at *
 have hBe := Lib.hid HW.out.be
 go_enter Tryz.func27, Tryz.ntmps27
 go_upto_region 1 with fail
 rw [<- hW]
 clear hW
 obtain ⟨x0, x1, x2, x3⟩ := b4 HW.out.q
 go_wp2_with fail
 refine HC.out.mono ?_
 rintro e w1 ⟨rfl, hb⟩
 have HQ1 := Lib.hid (HW.out.below hb)
 clear hb x0 x1 x2 x3
 go_wp2_with fail
 refine (number_any u0 y0 w1).mono ?_
 generalize oneA (u0, y0) = a at *
 rintro e w2 ⟨u, rfl, hi, hb⟩
 have HQ2 := Lib.hid (HQ1.out.below hb)
 obtain ⟨p, c2, rfl, -⟩ := own_form2 hi
 have HR := Lib.hid (HQ2.out.fin hi (by have := HQ1.out.be.size; omega) (.string a.s) (.int .i64 a.e))
 obtain ⟨d0, d1, d2⟩ := b3 HQ2.out.a
 have z0 := bfz HQ2.out.a 0
 have z1 := bfz HQ2.out.a 1
 have z2 := bfz HQ2.out.a 2
 obtain ⟨nl, hnl⟩ : ∃ z, a.l.length = z := ⟨_, rfl⟩
 rw [hnl] at HR ⊢
 clear hi hb hnl
 go_wp2
 refine bodyPost_ret (v := .agg #[.slice p nl c2, .string a.s, .int .i64 a.e]) (by simp [results, Tryz.results27, go_sem, d0, d1, d2]) rfl ⟨_, rfl, HR.out.1, HR.out.2⟩
set_option maxHeartbeats 1000000 in
theorem ask3_any (A : Option Addr) (G : List Mn) (c : Nat) (x b : Int) (t : ByteArray) (w : World) (hF : FR w A G) (hm : mayB G = true) (hb0 : I64 b) : Calls Tryz.prog 33 #[.slice A G.length c, .agg #[.int .i64 3, .int .i64 x, .int .i64 b, .string t]] w (GivesA w.heap.size (ansP G 3 x b t) w) := by
 obtain ⟨W, hW⟩ : ∃ W, W = (w.alloc (.cells #[.int .i64 3, .int .i64 x, .int .i64 b, .string t] 34)).alloc (.cells #[.slice none 0 0, .string ⟨#[]⟩, .int .i64 0] 31) := ⟨_, rfl⟩
 have HW : Hid (QW w 3 x b t W) := Lib.hid (by rw [hW]; exact QW.mk2 w 3 x b t)
 have HC := Lib.hid (wbeside_any A G c x b W (hF.below HW.out.be) hm hb0)
 have e : ansP G 3 x b t = oneA (besP G x b) := by simp [ansP]
 rw [e]
 clear e hF hm
 obtain ⟨⟨u0, y0⟩, hp⟩ : ∃ p, besP G x b = p := ⟨_, rfl⟩
 rw [hp] at HC ⊢
 clear hp
 generalize G.length = n at *
 have hBe := Lib.hid HW.out.be
 go_enter Tryz.func33, Tryz.ntmps33
 go_upto_region 1 with fail
 rw [<- hW]
 clear hW
 obtain ⟨x0, x1, x2, x3⟩ := b4 HW.out.q
 go_wp2_with fail
 refine HC.out.mono ?_
 rintro e w1 ⟨rfl, hb⟩
 have HQ1 := Lib.hid (HW.out.below hb)
 clear hb x0 x1 x2 x3
 go_wp2_with fail
 refine (number_any u0 y0 w1).mono ?_
 generalize oneA (u0, y0) = a at *
 rintro e w2 ⟨u, rfl, hi, hb⟩
 have HQ2 := Lib.hid (HQ1.out.below hb)
 obtain ⟨p, c2, rfl, -⟩ := own_form2 hi
 have HR := Lib.hid (HQ2.out.fin hi (by have := HQ1.out.be.size; omega) (.string a.s) (.int .i64 a.e))
 obtain ⟨d0, d1, d2⟩ := b3 HQ2.out.a
 have z0 := bfz HQ2.out.a 0
 have z1 := bfz HQ2.out.a 1
 have z2 := bfz HQ2.out.a 2
 obtain ⟨nl, hnl⟩ : ∃ z, a.l.length = z := ⟨_, rfl⟩
 rw [hnl] at HR ⊢
 clear hi hb hnl
 go_wp2
 refine bodyPost_ret (v := .agg #[.slice p nl c2, .string a.s, .int .i64 a.e]) (by simp [results, Tryz.results33, go_sem, d0, d1, d2]) rfl ⟨_, rfl, HR.out.1, HR.out.2⟩
set_option maxHeartbeats 1000000 in
theorem ask7_any (A : Option Addr) (G : List Mn) (c : Nat) (x b : Int) (t : ByteArray) (w : World) (hF : FR w A G) (hm : mayB G = true) : Calls Tryz.prog 42 #[.slice A G.length c, .agg #[.int .i64 7, .int .i64 x, .int .i64 b, .string t]] w (GivesA w.heap.size (ansP G 7 x b t) w) := by
 obtain ⟨W, hW⟩ : ∃ W, W = (w.alloc (.cells #[.int .i64 7, .int .i64 x, .int .i64 b, .string t] 34)).alloc (.cells #[.slice none 0 0, .string ⟨#[]⟩, .int .i64 0] 31) := ⟨_, rfl⟩
 have HW : Hid (QW w 7 x b t W) := Lib.hid (by rw [hW]; exact QW.mk2 w 7 x b t)
 have HC := Lib.hid (wbyid_any A G c t W (hF.below HW.out.be) hm)
 have e : ansP G 7 x b t = oneA (byP G t) := by simp [ansP]
 rw [e]
 clear e hF hm
 obtain ⟨⟨u0, y0⟩, hp⟩ : ∃ p, byP G t = p := ⟨_, rfl⟩
 rw [hp] at HC ⊢
 clear hp
 generalize G.length = n at *
 have hBe := Lib.hid HW.out.be
 go_enter Tryz.func42, Tryz.ntmps42
 go_upto_region 1 with fail
 rw [<- hW]
 clear hW
 obtain ⟨x0, x1, x2, x3⟩ := b4 HW.out.q
 go_wp2_with fail
 refine HC.out.mono ?_
 rintro e w1 ⟨rfl, hb⟩
 have HQ1 := Lib.hid (HW.out.below hb)
 clear hb x0 x1 x2 x3
 go_wp2_with fail
 refine (number_any u0 y0 w1).mono ?_
 generalize oneA (u0, y0) = a at *
 rintro e w2 ⟨u, rfl, hi, hb⟩
 have HQ2 := Lib.hid (HQ1.out.below hb)
 obtain ⟨p, c2, rfl, -⟩ := own_form2 hi
 have HR := Lib.hid (HQ2.out.fin hi (by have := HQ1.out.be.size; omega) (.string a.s) (.int .i64 a.e))
 obtain ⟨d0, d1, d2⟩ := b3 HQ2.out.a
 have z0 := bfz HQ2.out.a 0
 have z1 := bfz HQ2.out.a 1
 have z2 := bfz HQ2.out.a 2
 obtain ⟨nl, hnl⟩ : ∃ z, a.l.length = z := ⟨_, rfl⟩
 rw [hnl] at HR ⊢
 clear hi hb hnl
 go_wp2
 refine bodyPost_ret (v := .agg #[.slice p nl c2, .string a.s, .int .i64 a.e]) (by simp [results, Tryz.results42, go_sem, d0, d1, d2]) rfl ⟨_, rfl, HR.out.1, HR.out.2⟩
set_option maxHeartbeats 1000000 in
theorem ask2_any (A : Option Addr) (G : List Mn) (c : Nat) (x b : Int) (t : ByteArray) (w : World) (hF : FR w A G) (hm : mayB G = true) : Calls Tryz.prog 30 #[.slice A G.length c, .agg #[.int .i64 2, .int .i64 x, .int .i64 b, .string t]] w (GivesA w.heap.size (ansP G 2 x b t) w) := by
 obtain ⟨W, hW⟩ : ∃ W, W = (w.alloc (.cells #[.int .i64 2, .int .i64 x, .int .i64 b, .string t] 34)).alloc (.cells #[.slice none 0 0, .string ⟨#[]⟩, .int .i64 0] 31) := ⟨_, rfl⟩
 have HW : Hid (QW w 2 x b t W) := Lib.hid (by rw [hW]; exact QW.mk2 w 2 x b t)
 have HC := Lib.hid (kidsS A G c x W (hF.below HW.out.be) hm)
 have e : ansP G 2 x b t = lsA (if isB G x = true then (kidsOf G x.toNat, 0) else ([], 70)) := by
  simp only [ansP]
  cases isB G x <;> simp [lsA]
 rw [e]
 clear e hF hm
 obtain ⟨p0, hp⟩ : ∃ p : List Int × Int, (if isB G x = true then (kidsOf G x.toNat, 0) else ([], 70)) = p := ⟨_, rfl⟩
 rw [hp] at HC ⊢
 clear hp
 generalize G.length = n at *
 have hBe := Lib.hid HW.out.be
 go_enter Tryz.func30, Tryz.ntmps30
 go_upto_region 1 with fail
 rw [<- hW]
 clear hW
 obtain ⟨x0, x1, x2, x3⟩ := b4 HW.out.q
 go_wp2_with fail
 refine HC.out.mono ?_
 rintro e w1 ⟨v1, rfl, hi1, hb⟩
 have HQ1 := Lib.hid (HW.out.below hb)
 have HN := Lib.hid (numbers_any W.heap.size v1 p0 w1 hi1 hb.size)
 obtain ⟨p1, c1, rfl, -⟩ := own_form2 hi1
 have hWs := HW.out.be.size
 clear hb hi1 x0 x1 x2 x3
 generalize p0.1.length = n1 at *
 generalize p0.2 = y0 at *
 generalize lsA p0 = a at *
 go_wp2_with fail
 refine HN.out.mono ?_
 rintro e w2 ⟨u, rfl, hi, hb⟩
 have HQ2 := Lib.hid (HQ1.out.below hb)
 obtain ⟨p, c2, rfl, -⟩ := own_form2 hi
 have HR := Lib.hid (HQ2.out.fin hi hWs (.string a.s) (.int .i64 a.e))
 obtain ⟨d0, d1, d2⟩ := b3 HQ2.out.a
 have z0 := bfz HQ2.out.a 0
 have z1 := bfz HQ2.out.a 1
 have z2 := bfz HQ2.out.a 2
 obtain ⟨nl, hnl⟩ : ∃ z, a.l.length = z := ⟨_, rfl⟩
 rw [hnl] at HR ⊢
 clear hi hb hnl
 go_wp2
 refine bodyPost_ret (v := .agg #[.slice p nl c2, .string a.s, .int .i64 a.e]) (by simp [results, Tryz.results30, go_sem, d0, d1, d2]) rfl ⟨_, rfl, HR.out.1, HR.out.2⟩
set_option maxHeartbeats 1000000 in
theorem ask4_any (A : Option Addr) (G : List Mn) (c : Nat) (x b : Int) (t : ByteArray) (w : World) (hF : FR w A G) (hm : mayB G = true) : Calls Tryz.prog 35 #[.slice A G.length c, .agg #[.int .i64 4, .int .i64 x, .int .i64 b, .string t]] w (GivesA w.heap.size (ansP G 4 x b t) w) := by
 obtain ⟨W, hW⟩ : ∃ W, W = (w.alloc (.cells #[.int .i64 4, .int .i64 x, .int .i64 b, .string t] 34)).alloc (.cells #[.slice none 0 0, .string ⟨#[]⟩, .int .i64 0] 31) := ⟨_, rfl⟩
 have HW : Hid (QW w 4 x b t W) := Lib.hid (by rw [hW]; exact QW.mk2 w 4 x b t)
 have HC := Lib.hid (orderS A G c x W (hF.below HW.out.be) hm)
 have e : ansP G 4 x b t = lsA (if isB G x = true then ((ord G x.toNat).map Int.ofNat, 0) else ([], 70)) := by
  simp only [ansP]
  cases isB G x <;> simp [lsA]
 rw [e]
 clear e hF hm
 obtain ⟨p0, hp⟩ : ∃ p : List Int × Int, (if isB G x = true then ((ord G x.toNat).map Int.ofNat, 0) else ([], 70)) = p := ⟨_, rfl⟩
 rw [hp] at HC ⊢
 clear hp
 generalize G.length = n at *
 have hBe := Lib.hid HW.out.be
 go_enter Tryz.func35, Tryz.ntmps35
 go_upto_region 1 with fail
 rw [<- hW]
 clear hW
 obtain ⟨x0, x1, x2, x3⟩ := b4 HW.out.q
 go_wp2_with fail
 refine HC.out.mono ?_
 rintro e w1 ⟨v1, rfl, hi1, hb⟩
 have HQ1 := Lib.hid (HW.out.below hb)
 have HN := Lib.hid (numbers_any W.heap.size v1 p0 w1 hi1 hb.size)
 obtain ⟨p1, c1, rfl, -⟩ := own_form2 hi1
 have hWs := HW.out.be.size
 clear hb hi1 x0 x1 x2 x3
 generalize p0.1.length = n1 at *
 generalize p0.2 = y0 at *
 generalize lsA p0 = a at *
 go_wp2_with fail
 refine HN.out.mono ?_
 rintro e w2 ⟨u, rfl, hi, hb⟩
 have HQ2 := Lib.hid (HQ1.out.below hb)
 obtain ⟨p, c2, rfl, -⟩ := own_form2 hi
 have HR := Lib.hid (HQ2.out.fin hi hWs (.string a.s) (.int .i64 a.e))
 obtain ⟨d0, d1, d2⟩ := b3 HQ2.out.a
 have z0 := bfz HQ2.out.a 0
 have z1 := bfz HQ2.out.a 1
 have z2 := bfz HQ2.out.a 2
 obtain ⟨nl, hnl⟩ : ∃ z, a.l.length = z := ⟨_, rfl⟩
 rw [hnl] at HR ⊢
 clear hi hb hnl
 go_wp2
 refine bodyPost_ret (v := .agg #[.slice p nl c2, .string a.s, .int .i64 a.e]) (by simp [results, Tryz.results35, go_sem, d0, d1, d2]) rfl ⟨_, rfl, HR.out.1, HR.out.2⟩
set_option maxHeartbeats 1000000 in
theorem ask5_any (A : Option Addr) (G : List Mn) (c : Nat) (x b : Int) (t : ByteArray) (w : World) (hF : FR w A G) (hm : mayB G = true) : Calls Tryz.prog 37 #[.slice A G.length c, .agg #[.int .i64 5, .int .i64 x, .int .i64 b, .string t]] w (GivesA w.heap.size (ansP G 5 x b t) w) := by
 obtain ⟨W, hW⟩ : ∃ W, W = (w.alloc (.cells #[.int .i64 5, .int .i64 x, .int .i64 b, .string t] 34)).alloc (.cells #[.slice none 0 0, .string ⟨#[]⟩, .int .i64 0] 31) := ⟨_, rfl⟩
 have HW : Hid (QW w 5 x b t W) := Lib.hid (by rw [hW]; exact QW.mk2 w 5 x b t)
 have HC := Lib.hid (contentS A G c x W (hF.below HW.out.be) hm)
 have e : ansP G 5 x b t = txtA (if isB G x = true then (⟨(cont G x.toNat).toArray⟩, 0) else ((⟨#[]⟩, 70) : ByteArray × Int)) := by
  simp only [ansP]
  cases isB G x <;> simp [txtA]
 rw [e]
 clear e hF hm
 obtain ⟨⟨u0, y0⟩, hp⟩ : ∃ p : ByteArray × Int, (if isB G x = true then (⟨(cont G x.toNat).toArray⟩, 0) else ((⟨#[]⟩, 70) : ByteArray × Int)) = p := ⟨_, rfl⟩
 rw [hp] at HC ⊢
 clear hp
 generalize G.length = n at *
 have hBe := Lib.hid HW.out.be
 go_enter Tryz.func37, Tryz.ntmps37
 go_upto_region 1 with fail
 rw [<- hW]
 clear hW
 obtain ⟨x0, x1, x2, x3⟩ := b4 HW.out.q
 go_wp2_with fail
 refine HC.out.mono ?_
 rintro e w1 ⟨rfl, hb⟩
 have HQ1 := Lib.hid (HW.out.below hb)
 clear hb x0 x1 x2 x3
 go_wp2_with fail
 refine (text_any u0 y0 w1).mono ?_
 generalize txtA (u0, y0) = a at *
 rintro e w2 ⟨u, rfl, hi, hb⟩
 have HQ2 := Lib.hid (HQ1.out.below hb)
 obtain ⟨p, c2, rfl, -⟩ := own_form2 hi
 have HR := Lib.hid (HQ2.out.fin hi (by have := HQ1.out.be.size; omega) (.string a.s) (.int .i64 a.e))
 obtain ⟨d0, d1, d2⟩ := b3 HQ2.out.a
 have z0 := bfz HQ2.out.a 0
 have z1 := bfz HQ2.out.a 1
 have z2 := bfz HQ2.out.a 2
 obtain ⟨nl, hnl⟩ : ∃ z, a.l.length = z := ⟨_, rfl⟩
 rw [hnl] at HR ⊢
 clear hi hb hnl
 go_wp2
 refine bodyPost_ret (v := .agg #[.slice p nl c2, .string a.s, .int .i64 a.e]) (by simp [results, Tryz.results37, go_sem, d0, d1, d2]) rfl ⟨_, rfl, HR.out.1, HR.out.2⟩
set_option maxHeartbeats 1000000 in
theorem ask6_any (A : Option Addr) (G : List Mn) (c : Nat) (x b : Int) (t : ByteArray) (w : World) (hF : FR w A G) (hm : mayB G = true) : Calls Tryz.prog 40 #[.slice A G.length c, .agg #[.int .i64 6, .int .i64 x, .int .i64 b, .string t]] w (GivesA w.heap.size (ansP G 6 x b t) w) := by
 obtain ⟨W, hW⟩ : ∃ W, W = (w.alloc (.cells #[.int .i64 6, .int .i64 x, .int .i64 b, .string t] 34)).alloc (.cells #[.slice none 0 0, .string ⟨#[]⟩, .int .i64 0] 31) := ⟨_, rfl⟩
 have HW : Hid (QW w 6 x b t W) := Lib.hid (by rw [hW]; exact QW.mk2 w 6 x b t)
 have HC := Lib.hid (attrS A G c x t W (hF.below HW.out.be) hm)
 have e : ansP G 6 x b t = txtA (if isB G x = true then attrP G x.toNat t else ((⟨#[]⟩, 70) : ByteArray × Int)) := by
  simp only [ansP]
  cases isB G x <;> simp [txtA]
 rw [e]
 clear e hF hm
 obtain ⟨⟨u0, y0⟩, hp⟩ : ∃ p : ByteArray × Int, (if isB G x = true then attrP G x.toNat t else ((⟨#[]⟩, 70) : ByteArray × Int)) = p := ⟨_, rfl⟩
 rw [hp] at HC ⊢
 clear hp
 generalize G.length = n at *
 have hBe := Lib.hid HW.out.be
 go_enter Tryz.func40, Tryz.ntmps40
 go_upto_region 1 with fail
 rw [<- hW]
 clear hW
 obtain ⟨x0, x1, x2, x3⟩ := b4 HW.out.q
 go_wp2_with fail
 refine HC.out.mono ?_
 rintro e w1 ⟨rfl, hb⟩
 have HQ1 := Lib.hid (HW.out.below hb)
 clear hb x0 x1 x2 x3
 go_wp2_with fail
 refine (text_any u0 y0 w1).mono ?_
 generalize txtA (u0, y0) = a at *
 rintro e w2 ⟨u, rfl, hi, hb⟩
 have HQ2 := Lib.hid (HQ1.out.below hb)
 obtain ⟨p, c2, rfl, -⟩ := own_form2 hi
 have HR := Lib.hid (HQ2.out.fin hi (by have := HQ1.out.be.size; omega) (.string a.s) (.int .i64 a.e))
 obtain ⟨d0, d1, d2⟩ := b3 HQ2.out.a
 have z0 := bfz HQ2.out.a 0
 have z1 := bfz HQ2.out.a 1
 have z2 := bfz HQ2.out.a 2
 obtain ⟨nl, hnl⟩ : ∃ z, a.l.length = z := ⟨_, rfl⟩
 rw [hnl] at HR ⊢
 clear hi hb hnl
 go_wp2
 refine bodyPost_ret (v := .agg #[.slice p nl c2, .string a.s, .int .i64 a.e]) (by simp [results, Tryz.results40, go_sem, d0, d1, d2]) rfl ⟨_, rfl, HR.out.1, HR.out.2⟩
set_option maxHeartbeats 1000000 in
theorem ask9_any (A : Option Addr) (G : List Mn) (c : Nat) (x b mx : Int) (t : ByteArray) (w : World) (hF : FR w A G) (hm : mayB G = true) (hmx : w.cell? ⟨1, 0, none⟩ = some (.int .i64 mx)) : Calls Tryz.prog 45 #[.slice A G.length c, .agg #[.int .i64 9, .int .i64 x, .int .i64 b, .string t]] w (GivesA w.heap.size (ansP G 9 x b t) w) := by
 obtain ⟨W, hW⟩ : ∃ W, W = (w.alloc (.cells #[.int .i64 9, .int .i64 x, .int .i64 b, .string t] 34)).alloc (.cells #[.slice none 0 0, .string ⟨#[]⟩, .int .i64 0] 31) := ⟨_, rfl⟩
 have HW : Hid (QW w 9 x b t W) := Lib.hid (by rw [hW]; exact QW.mk2 w 9 x b t)
 have hg0 : 1 < w.heap.size := World.block_lt_of_cell? _ _ hmx
 have HC := Lib.hid (fun (V : World) (hb : Below w.heap.size w V) => isNodeS_any A G c x V (hF.below hb) hm)
 have HP := Lib.hid (fun (V : World) (hb : Below w.heap.size w V) => print_may A G c x mx V (hF.below hb) hm ((hb.cell (p := ⟨1, 0, none⟩) hg0).trans hmx))
 have e : ansP G 9 x b t = (if isB G x = true then textA ⟨(printB G G.length x).toArray⟩ else errA 70) := by simp [ansP]
 rw [e]
 clear e hF hm hmx hg0
 generalize (⟨(printB G G.length x).toArray⟩ : ByteArray) = s at *
 generalize isB G x = r at *
 obtain ⟨aS, haS⟩ : ∃ a, (if r = true then textA s else errA 70) = a := ⟨_, rfl⟩
 rw [haS]
 have HS8 := Lib.hid haS.symm
 clear haS
 generalize G.length = n at *
 have hBe := Lib.hid HW.out.be
 go_enter Tryz.func45, Tryz.ntmps45
 go_upto_region 1 with fail
 rw [<- hW]
 clear hW
 obtain ⟨x0, x1, x2, x3⟩ := b4 HW.out.q
 go_wp2_with fail
 refine (HC.out W hBe.out).mono ?_
 rintro e w1 ⟨rfl, hb⟩
 have HQ1 := Lib.hid (HW.out.below hb)
 clear hb x0 x1 x2 x3
 cases r with
 | false =>
   obtain rfl : aS = errA 70 := HS8.out
   go_wp2_with fail
   refine (failed_any 70 w1).mono ?_
   rintro e w2 ⟨u, rfl, hi, hb⟩
   have HQ2 := Lib.hid (HQ1.out.below hb)
   obtain ⟨p, c2, rfl, -⟩ := own_form2 hi
   have HR := Lib.hid (HQ2.out.fin hi (by have := HQ1.out.be.size; omega) (.string (errA 70).s) (.int .i64 (errA 70).e))
   obtain ⟨d0, d1, d2⟩ := b3 HQ2.out.a
   have z0 := bfz HQ2.out.a 0
   have z1 := bfz HQ2.out.a 1
   have z2 := bfz HQ2.out.a 2
   obtain ⟨nl, hnl⟩ : ∃ z, (errA 70).l.length = z := ⟨_, rfl⟩
   rw [hnl] at HR ⊢
   clear hi hb hnl
   go_wp2
   refine bodyPost_ret (v := .agg #[.slice p nl c2, .string (errA 70).s, .int .i64 (errA 70).e]) (by simp [results, Tryz.results45, go_sem, d0, d1, d2]) rfl ⟨_, rfl, HR.out.1, HR.out.2⟩
 | true =>
   obtain rfl : aS = textA s := HS8.out
   obtain ⟨x0, x1, x2, x3⟩ := b4 HQ1.out.q
   go_wp2_with fail
   refine (HP.out w1 HQ1.out.be).mono ?_
   rintro e w3 ⟨rfl, hb⟩
   have HQ3 := Lib.hid (HQ1.out.below hb)
   clear hb x0 x1 x2 x3
   go_wp2_with fail
   refine (text_ok s w3).mono ?_
   rintro e w2 ⟨u, rfl, hi, hb⟩
   have HQ2 := Lib.hid (HQ3.out.below hb)
   obtain ⟨p, c2, rfl, -⟩ := own_form2 hi
   have HR := Lib.hid (HQ2.out.fin hi (by have := HQ3.out.be.size; omega) (.string (textA s).s) (.int .i64 (textA s).e))
   obtain ⟨d0, d1, d2⟩ := b3 HQ2.out.a
   have z0 := bfz HQ2.out.a 0
   have z1 := bfz HQ2.out.a 1
   have z2 := bfz HQ2.out.a 2
   obtain ⟨nl, hnl⟩ : ∃ z, (textA s).l.length = z := ⟨_, rfl⟩
   rw [hnl] at HR ⊢
   clear hi hb hnl
   go_wp2
   refine bodyPost_ret (v := .agg #[.slice p nl c2, .string (textA s).s, .int .i64 (textA s).e]) (by simp [results, Tryz.results45, go_sem, d0, d1, d2]) rfl ⟨_, rfl, HR.out.1, HR.out.2⟩
set_option maxHeartbeats 4000000 in
theorem selected_any (A : Option Addr) (G : List Mn) (c : Nat) (x b : Int) (t : ByteArray) (w : World) (hF : FR w A G) (hm : mayB G = true) (ht : t.size <= 1000) : Calls Tryz.prog 44 #[.slice A G.length c, .agg #[.int .i64 8, .int .i64 x, .int .i64 b, .string t]] w (GivesA w.heap.size (ansP G 8 x b t) w) := by
 obtain ⟨W, hW⟩ : ∃ W, W = (w.alloc (.cells #[.int .i64 8, .int .i64 x, .int .i64 b, .string t] 34)).alloc (.cells #[.slice none 0 0, .string ⟨#[]⟩, .int .i64 0] 31) := ⟨_, rfl⟩
 have HW : Hid (QW w 8 x b t W) := Lib.hid (by rw [hW]; exact QW.mk2 w 8 x b t)
 have HC := Lib.hid (fun (V : World) (hb : Below w.heap.size w V) => isNodeS_any A G c x V (hF.below hb) hm)
 have HPa := Lib.hid (fun (V : World) => Sx.sel_parse t V (by omega))
 have HA : Hid (∀ (V : World) (hb : Below w.heap.size w V) (B : Option Addr) (y : List Mr) (d : Nat) (X : List (List Sl.Stp)), isB G x = true -> Xs V B y -> rws y = X -> Calls Tryz.prog 69 #[.slice A G.length c, .int .i64 x, .slice B y.length d] V fun e w' => ∃ v, e = .returned v /\ NR w' V.heap.size v (((ord G x.toNat).filter (isP G (unr X))).map Int.ofNat) /\ Below V.heap.size V w') := Lib.hid (fun V hb B y d X h hY hy => by
  obtain ⟨i, rfl, hi⟩ := isB_nat h
  refine (Fi.all_any A G c i B y d V (hF.below hb) hm hi hY).mono ?_
  rw [isP_unr hy]
  rintro e w' ⟨v, rfl, hv, hb⟩
  exact ⟨v, rfl, nr_nat hv, hb⟩)
 have e : ansP G 8 x b t = selA G x (Sl.parse (ls t)) := by simp [ansP]
 rw [e]
 obtain ⟨aR, haR⟩ : ∃ a, selA G x (Sl.parse (ls t)) = a := ⟨_, rfl⟩
 rw [haR]
 have HAR := Lib.hid haR.symm
 clear haR
 have HSE : Hid (∀ i : Nat, selA G x (.error i) = ⟨[(i : Int)], ⟨#[]⟩, 90⟩) := Lib.hid (fun _ => rfl)
 have HSO : Hid (∀ X, selA G x (.ok X) = if isB G x = true then numsA (((ord G x.toNat).filter (isP G (unr X))).map Int.ofNat) else errA 70) := Lib.hid (fun _ => rfl)
 have HXS : Hid (∀ (V : World) (base : Nat) (v : Value) (y : List Mr), Sx.Sr V base v y -> Sl.parse (ls t) = .ok (rws y) -> ∃ B d, v = .slice B y.length d /\ Xs V B y) := Lib.hid (fun V base v y hS hp => by
  have hw := Sl.parse_wx hp
  rw [Sx.ls_len] at hw
  exact Fi.xs_of hS (by omega))
 clear e hF hm
 generalize selA G x = S at *
 generalize isB G x = r at *
 generalize G.length = n at *
 have hBe := Lib.hid HW.out.be
 go_enter Tryz.func44, Tryz.ntmps44
 go_upto_region 1 with fail
 rw [<- hW]
 clear hW
 obtain ⟨x0, x1, x2, x3⟩ := b4 HW.out.q
 go_wp2_with fail
 refine (HPa.out W).mono ?_
 rintro e w1 ⟨hcs, hb⟩
 have HQ1 := Lib.hid (HW.out.below hb)
 clear hb HPa x0 x1 x2 x3
 rcases hcs with ⟨y, v, rfl, hS, hp⟩ | ⟨k, rfl, hp⟩
 · obtain ⟨B, d, rfl, hX⟩ := HXS.out w1 _ v y hS hp
   have HS8 : Hid (aR = _) := Lib.hid (HAR.out.trans ((congrArg S hp).trans (HSO.out (rws y))))
   obtain ⟨X, hXX⟩ : ∃ X, rws y = X := ⟨_, rfl⟩
   have HA1 := Lib.hid (fun (V : World) (hb : Below w1.heap.size w1 V) (hr : r = true) => HA.out V (HQ1.out.be.trans (hb.mono HQ1.out.be.size)) B y d X hr (hX.below hb) hXX)
   rw [hXX] at HS8
   generalize ((ord G x.toNat).filter (isP G (unr X))).map Int.ofNat = L at *
   obtain ⟨ny, hny⟩ : ∃ z, y.length = z := ⟨_, rfl⟩
   rw [hny] at HA1 ⊢
   clear hS hp hX hXX hny HA HSE HSO HXS HAR
   obtain ⟨x0, x1, x2, x3⟩ := b4 HQ1.out.q
   go_wp2_with fail
   refine (HC.out w1 HQ1.out.be).mono ?_
   rintro e w2 ⟨rfl, hb⟩
   have HC2 := Lib.hid hb
   have HQ2 := Lib.hid (HQ1.out.below hb)
   clear hb x0 x1 x2 x3
   cases r with
   | false =>
     obtain rfl : aR = errA 70 := HS8.out
     go_wp2_with fail
     refine (failed_any 70 w2).mono ?_
     rintro e w5 ⟨u, rfl, hi, hb⟩
     have HQ5 := Lib.hid (HQ2.out.below hb)
     obtain ⟨p, c2, rfl, -⟩ := own_form2 hi
     have HR := Lib.hid (HQ5.out.fin hi (by have := HQ2.out.be.size; omega) (.string (errA 70).s) (.int .i64 (errA 70).e))
     obtain ⟨d0, d1, d2⟩ := b3 HQ5.out.a
     have z0 := bfz HQ5.out.a 0
     have z1 := bfz HQ5.out.a 1
     have z2 := bfz HQ5.out.a 2
     obtain ⟨nl, hnl⟩ : ∃ z, (errA 70).l.length = z := ⟨_, rfl⟩
     rw [hnl] at HR ⊢
     clear hi hb hnl
     go_wp2
     refine bodyPost_ret (v := .agg #[.slice p nl c2, .string (errA 70).s, .int .i64 (errA 70).e]) (by simp [results, Tryz.results44, go_sem, d0, d1, d2]) rfl ⟨_, rfl, HR.out.1, HR.out.2⟩
   | true =>
     obtain rfl : aR = numsA L := HS8.out
     obtain ⟨x0, x1, x2, x3⟩ := b4 HQ2.out.q
     go_wp2_with fail
     refine (HA1.out w2 HC2.out (by first | trivial | rfl)).mono ?_
     rintro e w3 ⟨v3, rfl, hi3, hb⟩
     have HQ3 := Lib.hid (HQ2.out.below hb)
     have HN := Lib.hid (numbers_ok w2.heap.size v3 L w3 hi3)
     obtain ⟨p3, c3, rfl, -⟩ := own_form2 hi3
     have hWs := HQ2.out.be.size
     obtain ⟨nL, hnL⟩ : ∃ z, L.length = z := ⟨_, rfl⟩
     have HNL := Lib.hid hnL
     rw [hnL] at HN ⊢
     clear hi3 hb hnL x0 x1 x2 x3
     go_wp2_with fail
     refine HN.out.mono ?_
     rintro e w5 ⟨u, rfl, hi, hb⟩
     have HQ5 := Lib.hid (HQ3.out.below hb)
     obtain ⟨p, c2, rfl, -⟩ := own_form2 hi
     have HR := Lib.hid (HQ5.out.fin hi hWs (.string (numsA L).s) (.int .i64 (numsA L).e))
     obtain ⟨d0, d1, d2⟩ := b3 HQ5.out.a
     have z0 := bfz HQ5.out.a 0
     have z1 := bfz HQ5.out.a 1
     have z2 := bfz HQ5.out.a 2
     obtain ⟨nl, hnl⟩ : ∃ z, (numsA L).l.length = z := ⟨_, rfl⟩
     rw [hnl] at HR ⊢
     clear hi hb hnl
     go_wp2
     refine bodyPost_ret (v := .agg #[.slice p nl c2, .string (numsA L).s, .int .i64 (numsA L).e]) (by simp [results, Tryz.results44, go_sem, d0, d1, d2]) rfl ⟨_, rfl, HR.out.1, HR.out.2⟩
 · obtain rfl : aR = ⟨[(k : Int)], ⟨#[]⟩, 90⟩ := HAR.out.trans ((congrArg S hp).trans (HSE.out k))
   have HS3 := Lib.hid (sA_all (l := []) (v := .slice none 0 0) (World.ownsRow_nil w1 0 3 1) HQ1.out.a (show w.heap.size <= w.heap.size + 1 by omega) HQ1.out.be (.slice (some ⟨w1.heap.size, 0, none⟩) 1 1) (.string ⟨#[]⟩) (.int .i64 90))
   have HNV : Hid (NR ((sA w1 (w.heap.size + 1) (.slice (some ⟨w1.heap.size, 0, none⟩) 1 1) (.string ⟨#[]⟩) (.int .i64 90)).alloc (.cells #[.int .i64 k] 3)) w1.heap.size (.slice (some ⟨w1.heap.size, 0, none⟩) 1 1) [(k : Int)]) := Lib.hid (by
    have := nr_one (sA w1 (w.heap.size + 1) (.slice (some ⟨w1.heap.size, 0, none⟩) 1 1) (.string ⟨#[]⟩) (.int .i64 90)) k
    rwa [show (sA w1 (w.heap.size + 1) (.slice (some ⟨w1.heap.size, 0, none⟩) 1 1) (.string ⟨#[]⟩) (.int .i64 90)).heap.size = w1.heap.size by simp] at this)
   have HQs := Lib.hid HQ1.out.be.size
   obtain ⟨d0, d1, d2⟩ := b3 HQ1.out.a
   have z0 := bfz HQ1.out.a 0
   have z1 := bfz HQ1.out.a 1
   have z2 := bfz HQ1.out.a 2
   have hlt := lt_of_block HQ1.out.a
   clear hp HA HSE HSO HXS HAR
   go_wp2
   refine bodyPost_ret (v := .agg #[.slice (some ⟨w1.heap.size, 0, none⟩) 1 1, .string ⟨#[]⟩, .int .i64 90]) (by simp [results, Tryz.results44, go_sem, d0, d1, d2, hlt]) rfl ⟨_, rfl, own_mono HNV.out HQs.out, HS3.out.2.alloc (by simpa using HQs.out) _⟩
end Go.Proofs.YtcndplnnighjkaaGreatDoor.Sn
namespace Go.Proofs.YtcndplnnighjkaaGreatDoor.Sn
open Go.ChangeShapes Go.WideShapes Go.ChangeAt Go.RowKit Go.MapKept
open Sx (Tr Ms Mr TR MR XR tV r1 ls te stp rws cx cl cx_iff)
set_option linter.unusedVariables false
set_option linter.unusedSimpArgs false
set_option maxHeartbeats 8000000 in
theorem of_any (A : Option Addr) (G : List Mn) (c : Nat) (k x b mx : Int) (t : ByteArray) (w : World) (hF : FR w A G) (hm : mayB G = true) (hb0 : I64 b) (ht : t.size <= 1000) (hmx : w.cell? ⟨1, 0, none⟩ = some (.int .i64 mx)) :
 Calls Tryz.prog 9 #[.slice A G.length c, .agg #[.int .i64 k, .int .i64 x, .int .i64 b, .string t]] w (GivesA w.heap.size (ansP G k x b t) w) := by
 have hg0 : 1 < w.heap.size := World.block_lt_of_cell? _ _ hmx
 have HF := Lib.hid (fun (V : World) (hb : Below w.heap.size w V) => (⟨hF.below hb, (hb.cell (p := ⟨1, 0, none⟩) hg0).trans hmx⟩ : FR V A G /\ V.cell? ⟨1, 0, none⟩ = some (.int .i64 mx)))
 have HM := Lib.hid hm
 have HB := Lib.hid hb0
 have HT := Lib.hid ht
 have HE : Hid (¬ (1 <= k /\ k <= 9) -> ansP G k x b t = errA 1) := Lib.hid (fun h => by
  unfold ansP
  repeat rw [if_neg (by omega)])
 have HC1 : Hid (∀ V, Below w.heap.size w V -> Calls Tryz.prog 27 #[.slice A G.length c, .agg #[.int .i64 1, .int .i64 x, .int .i64 b, .string t]] V (GivesA V.heap.size (ansP G 1 x b t) V)) := Lib.hid (fun V hb => by
  obtain ⟨h1, h2⟩ := HF.out V hb
  exact ask1_any A G c x b t V h1 HM.out)
 have HC2 : Hid (∀ V, Below w.heap.size w V -> Calls Tryz.prog 30 #[.slice A G.length c, .agg #[.int .i64 2, .int .i64 x, .int .i64 b, .string t]] V (GivesA V.heap.size (ansP G 2 x b t) V)) := Lib.hid (fun V hb => by
  obtain ⟨h1, h2⟩ := HF.out V hb
  exact ask2_any A G c x b t V h1 HM.out)
 have HC3 : Hid (∀ V, Below w.heap.size w V -> Calls Tryz.prog 33 #[.slice A G.length c, .agg #[.int .i64 3, .int .i64 x, .int .i64 b, .string t]] V (GivesA V.heap.size (ansP G 3 x b t) V)) := Lib.hid (fun V hb => by
  obtain ⟨h1, h2⟩ := HF.out V hb
  exact ask3_any A G c x b t V h1 HM.out HB.out)
 have HC4 : Hid (∀ V, Below w.heap.size w V -> Calls Tryz.prog 35 #[.slice A G.length c, .agg #[.int .i64 4, .int .i64 x, .int .i64 b, .string t]] V (GivesA V.heap.size (ansP G 4 x b t) V)) := Lib.hid (fun V hb => by
  obtain ⟨h1, h2⟩ := HF.out V hb
  exact ask4_any A G c x b t V h1 HM.out)
 have HC5 : Hid (∀ V, Below w.heap.size w V -> Calls Tryz.prog 37 #[.slice A G.length c, .agg #[.int .i64 5, .int .i64 x, .int .i64 b, .string t]] V (GivesA V.heap.size (ansP G 5 x b t) V)) := Lib.hid (fun V hb => by
  obtain ⟨h1, h2⟩ := HF.out V hb
  exact ask5_any A G c x b t V h1 HM.out)
 have HC6 : Hid (∀ V, Below w.heap.size w V -> Calls Tryz.prog 40 #[.slice A G.length c, .agg #[.int .i64 6, .int .i64 x, .int .i64 b, .string t]] V (GivesA V.heap.size (ansP G 6 x b t) V)) := Lib.hid (fun V hb => by
  obtain ⟨h1, h2⟩ := HF.out V hb
  exact ask6_any A G c x b t V h1 HM.out)
 have HC7 : Hid (∀ V, Below w.heap.size w V -> Calls Tryz.prog 42 #[.slice A G.length c, .agg #[.int .i64 7, .int .i64 x, .int .i64 b, .string t]] V (GivesA V.heap.size (ansP G 7 x b t) V)) := Lib.hid (fun V hb => by
  obtain ⟨h1, h2⟩ := HF.out V hb
  exact ask7_any A G c x b t V h1 HM.out)
 have HC8 : Hid (∀ V, Below w.heap.size w V -> Calls Tryz.prog 44 #[.slice A G.length c, .agg #[.int .i64 8, .int .i64 x, .int .i64 b, .string t]] V (GivesA V.heap.size (ansP G 8 x b t) V)) := Lib.hid (fun V hb => by
  obtain ⟨h1, h2⟩ := HF.out V hb
  exact selected_any A G c x b t V h1 HM.out HT.out)
 have HC9 : Hid (∀ V, Below w.heap.size w V -> Calls Tryz.prog 45 #[.slice A G.length c, .agg #[.int .i64 9, .int .i64 x, .int .i64 b, .string t]] V (GivesA V.heap.size (ansP G 9 x b t) V)) := Lib.hid (fun V hb => by
  obtain ⟨h1, h2⟩ := HF.out V hb
  exact ask9_any A G c x b mx t V h1 HM.out h2)
 obtain ⟨W, hW⟩ : ∃ W, W = (w.alloc (.cells #[.int .i64 k, .int .i64 x, .int .i64 b, .string t] 34)).alloc (.cells #[.slice none 0 0, .string ⟨#[]⟩, .int .i64 0] 31) := ⟨_, rfl⟩
 have HW : Hid (QW w k x b t W) := Lib.hid (by rw [hW]; exact QW.mk2 w k x b t)
 have HX0 : Hid (∀ V, Below W.heap.size W V -> V.cell? ⟨w.heap.size, 0, none⟩ = some (.int .i64 k)) := Lib.hid (fun V hb => (b4 (HW.out.below hb).q).1)
 have key : k = 1 \/ k = 2 \/ k = 3 \/ k = 4 \/ k = 5 \/ k = 6 \/ k = 7 \/ k = 8 \/ k = 9 \/ ¬ (1 <= k /\ k <= 9) := by omega
 generalize G.length = n at *
 clear hF hm hb0 ht hmx HF HM HB HT
 go_enter Tryz.func9, Tryz.ntmps9
 go_upto_region 1 with fail
 rw [<- hW]
 clear hW
 rcases key with rfl | rfl | rfl | rfl | rfl | rfl | rfl | rfl | rfl | hk
 · have HC := HC1
   generalize ansP G 1 x b t = a at *
   clear HC1 HC2 HC3 HC4 HC5 HC6 HC7 HC8 HC9 HE
   obtain ⟨x0, x1, x2, x3⟩ := b4 HW.out.q
   go_region_held3 (fun V => V.cell? ⟨w.heap.size, 0, none⟩ = some (.int .i64 1))
    ((refine HX0.out _ ?_
      repeat' (first
       | with_reducible exact HBm.out
       | with_reducible exact Below.refl _ _
       | with_reducible refine Below.drew ?_)))
    (first
      | (go_at_call 15
         refine (asks_any _).mono ?_
         rintro e w1 ⟨m, rfl, hM, hb⟩
         have HBm : Hid (Below W.heap.size W w1) := Lib.hid (Below.trans (by repeat' (first | with_reducible exact Below.refl _ _ | with_reducible refine Below.drew ?_)) (hb.mono (by first | exact Nat.le_refl _ | (show _ <= _; simp; done))))
         have hlk := run_lookS (r := m) (i := 0) (k := 1) (v := .func (.func 27) #[] #[]) hM (by kernel_rfl)
         clear hM hb))
   have HQ1 := Lib.hid (HW.out.below HBm.out)
   clear x0 x1 x2 x3
   obtain ⟨x0, x1, x2, x3⟩ := b4 HQ1.out.q
   go_wp2_with fail
   refine (HC.out _ HQ1.out.be).mono ?_
   rintro e w2 ⟨u, rfl, hi, hb⟩
   have HQ2 := Lib.hid (HQ1.out.below hb)
   obtain ⟨p, c2, rfl, -⟩ := own_form2 hi
   have HR := Lib.hid (HQ2.out.fin hi HQ1.out.be.size (.string a.s) (.int .i64 a.e))
   obtain ⟨d0, d1, d2⟩ := b3 HQ2.out.a
   have z0 := bfz HQ2.out.a 0
   have z1 := bfz HQ2.out.a 1
   have z2 := bfz HQ2.out.a 2
   obtain ⟨nl, hnl⟩ : ∃ z, a.l.length = z := ⟨_, rfl⟩
   rw [hnl] at HR ⊢
   clear hi hb hnl
   go_wp2
   refine bodyPost_ret (v := .agg #[.slice p nl c2, .string a.s, .int .i64 a.e]) (by simp [results, Tryz.results9, go_sem, d0, d1, d2]) rfl ⟨_, rfl, HR.out.1, HR.out.2⟩
 · have HC := HC2
   generalize ansP G 2 x b t = a at *
   clear HC1 HC2 HC3 HC4 HC5 HC6 HC7 HC8 HC9 HE
   obtain ⟨x0, x1, x2, x3⟩ := b4 HW.out.q
   go_region_held3 (fun V => V.cell? ⟨w.heap.size, 0, none⟩ = some (.int .i64 2))
    ((refine HX0.out _ ?_
      repeat' (first
       | with_reducible exact HBm.out
       | with_reducible exact Below.refl _ _
       | with_reducible refine Below.drew ?_)))
    (first
      | (go_at_call 15
         refine (asks_any _).mono ?_
         rintro e w1 ⟨m, rfl, hM, hb⟩
         have HBm : Hid (Below W.heap.size W w1) := Lib.hid (Below.trans (by repeat' (first | with_reducible exact Below.refl _ _ | with_reducible refine Below.drew ?_)) (hb.mono (by first | exact Nat.le_refl _ | (show _ <= _; simp; done))))
         have hlk := run_lookS (r := m) (i := 1) (k := 2) (v := .func (.func 30) #[] #[]) hM (by kernel_rfl)
         clear hM hb))
   have HQ1 := Lib.hid (HW.out.below HBm.out)
   clear x0 x1 x2 x3
   obtain ⟨x0, x1, x2, x3⟩ := b4 HQ1.out.q
   go_wp2_with fail
   refine (HC.out _ HQ1.out.be).mono ?_
   rintro e w2 ⟨u, rfl, hi, hb⟩
   have HQ2 := Lib.hid (HQ1.out.below hb)
   obtain ⟨p, c2, rfl, -⟩ := own_form2 hi
   have HR := Lib.hid (HQ2.out.fin hi HQ1.out.be.size (.string a.s) (.int .i64 a.e))
   obtain ⟨d0, d1, d2⟩ := b3 HQ2.out.a
   have z0 := bfz HQ2.out.a 0
   have z1 := bfz HQ2.out.a 1
   have z2 := bfz HQ2.out.a 2
   obtain ⟨nl, hnl⟩ : ∃ z, a.l.length = z := ⟨_, rfl⟩
   rw [hnl] at HR ⊢
   clear hi hb hnl
   go_wp2
   refine bodyPost_ret (v := .agg #[.slice p nl c2, .string a.s, .int .i64 a.e]) (by simp [results, Tryz.results9, go_sem, d0, d1, d2]) rfl ⟨_, rfl, HR.out.1, HR.out.2⟩
 · have HC := HC3
   generalize ansP G 3 x b t = a at *
   clear HC1 HC2 HC3 HC4 HC5 HC6 HC7 HC8 HC9 HE
   obtain ⟨x0, x1, x2, x3⟩ := b4 HW.out.q
   go_region_held3 (fun V => V.cell? ⟨w.heap.size, 0, none⟩ = some (.int .i64 3))
    ((refine HX0.out _ ?_
      repeat' (first
       | with_reducible exact HBm.out
       | with_reducible exact Below.refl _ _
       | with_reducible refine Below.drew ?_)))
    (first
      | (go_at_call 15
         refine (asks_any _).mono ?_
         rintro e w1 ⟨m, rfl, hM, hb⟩
         have HBm : Hid (Below W.heap.size W w1) := Lib.hid (Below.trans (by repeat' (first | with_reducible exact Below.refl _ _ | with_reducible refine Below.drew ?_)) (hb.mono (by first | exact Nat.le_refl _ | (show _ <= _; simp; done))))
         have hlk := run_lookS (r := m) (i := 2) (k := 3) (v := .func (.func 33) #[] #[]) hM (by kernel_rfl)
         clear hM hb))
   have HQ1 := Lib.hid (HW.out.below HBm.out)
   clear x0 x1 x2 x3
   obtain ⟨x0, x1, x2, x3⟩ := b4 HQ1.out.q
   go_wp2_with fail
   refine (HC.out _ HQ1.out.be).mono ?_
   rintro e w2 ⟨u, rfl, hi, hb⟩
   have HQ2 := Lib.hid (HQ1.out.below hb)
   obtain ⟨p, c2, rfl, -⟩ := own_form2 hi
   have HR := Lib.hid (HQ2.out.fin hi HQ1.out.be.size (.string a.s) (.int .i64 a.e))
   obtain ⟨d0, d1, d2⟩ := b3 HQ2.out.a
   have z0 := bfz HQ2.out.a 0
   have z1 := bfz HQ2.out.a 1
   have z2 := bfz HQ2.out.a 2
   obtain ⟨nl, hnl⟩ : ∃ z, a.l.length = z := ⟨_, rfl⟩
   rw [hnl] at HR ⊢
   clear hi hb hnl
   go_wp2
   refine bodyPost_ret (v := .agg #[.slice p nl c2, .string a.s, .int .i64 a.e]) (by simp [results, Tryz.results9, go_sem, d0, d1, d2]) rfl ⟨_, rfl, HR.out.1, HR.out.2⟩
 · have HC := HC4
   generalize ansP G 4 x b t = a at *
   clear HC1 HC2 HC3 HC4 HC5 HC6 HC7 HC8 HC9 HE
   obtain ⟨x0, x1, x2, x3⟩ := b4 HW.out.q
   go_region_held3 (fun V => V.cell? ⟨w.heap.size, 0, none⟩ = some (.int .i64 4))
    ((refine HX0.out _ ?_
      repeat' (first
       | with_reducible exact HBm.out
       | with_reducible exact Below.refl _ _
       | with_reducible refine Below.drew ?_)))
    (first
      | (go_at_call 15
         refine (asks_any _).mono ?_
         rintro e w1 ⟨m, rfl, hM, hb⟩
         have HBm : Hid (Below W.heap.size W w1) := Lib.hid (Below.trans (by repeat' (first | with_reducible exact Below.refl _ _ | with_reducible refine Below.drew ?_)) (hb.mono (by first | exact Nat.le_refl _ | (show _ <= _; simp; done))))
         have hlk := run_lookS (r := m) (i := 3) (k := 4) (v := .func (.func 35) #[] #[]) hM (by kernel_rfl)
         clear hM hb))
   have HQ1 := Lib.hid (HW.out.below HBm.out)
   clear x0 x1 x2 x3
   obtain ⟨x0, x1, x2, x3⟩ := b4 HQ1.out.q
   go_wp2_with fail
   refine (HC.out _ HQ1.out.be).mono ?_
   rintro e w2 ⟨u, rfl, hi, hb⟩
   have HQ2 := Lib.hid (HQ1.out.below hb)
   obtain ⟨p, c2, rfl, -⟩ := own_form2 hi
   have HR := Lib.hid (HQ2.out.fin hi HQ1.out.be.size (.string a.s) (.int .i64 a.e))
   obtain ⟨d0, d1, d2⟩ := b3 HQ2.out.a
   have z0 := bfz HQ2.out.a 0
   have z1 := bfz HQ2.out.a 1
   have z2 := bfz HQ2.out.a 2
   obtain ⟨nl, hnl⟩ : ∃ z, a.l.length = z := ⟨_, rfl⟩
   rw [hnl] at HR ⊢
   clear hi hb hnl
   go_wp2
   refine bodyPost_ret (v := .agg #[.slice p nl c2, .string a.s, .int .i64 a.e]) (by simp [results, Tryz.results9, go_sem, d0, d1, d2]) rfl ⟨_, rfl, HR.out.1, HR.out.2⟩
 · have HC := HC5
   generalize ansP G 5 x b t = a at *
   clear HC1 HC2 HC3 HC4 HC5 HC6 HC7 HC8 HC9 HE
   obtain ⟨x0, x1, x2, x3⟩ := b4 HW.out.q
   go_region_held3 (fun V => V.cell? ⟨w.heap.size, 0, none⟩ = some (.int .i64 5))
    ((refine HX0.out _ ?_
      repeat' (first
       | with_reducible exact HBm.out
       | with_reducible exact Below.refl _ _
       | with_reducible refine Below.drew ?_)))
    (first
      | (go_at_call 15
         refine (asks_any _).mono ?_
         rintro e w1 ⟨m, rfl, hM, hb⟩
         have HBm : Hid (Below W.heap.size W w1) := Lib.hid (Below.trans (by repeat' (first | with_reducible exact Below.refl _ _ | with_reducible refine Below.drew ?_)) (hb.mono (by first | exact Nat.le_refl _ | (show _ <= _; simp; done))))
         have hlk := run_lookS (r := m) (i := 4) (k := 5) (v := .func (.func 37) #[] #[]) hM (by kernel_rfl)
         clear hM hb))
   have HQ1 := Lib.hid (HW.out.below HBm.out)
   clear x0 x1 x2 x3
   obtain ⟨x0, x1, x2, x3⟩ := b4 HQ1.out.q
   go_wp2_with fail
   refine (HC.out _ HQ1.out.be).mono ?_
   rintro e w2 ⟨u, rfl, hi, hb⟩
   have HQ2 := Lib.hid (HQ1.out.below hb)
   obtain ⟨p, c2, rfl, -⟩ := own_form2 hi
   have HR := Lib.hid (HQ2.out.fin hi HQ1.out.be.size (.string a.s) (.int .i64 a.e))
   obtain ⟨d0, d1, d2⟩ := b3 HQ2.out.a
   have z0 := bfz HQ2.out.a 0
   have z1 := bfz HQ2.out.a 1
   have z2 := bfz HQ2.out.a 2
   obtain ⟨nl, hnl⟩ : ∃ z, a.l.length = z := ⟨_, rfl⟩
   rw [hnl] at HR ⊢
   clear hi hb hnl
   go_wp2
   refine bodyPost_ret (v := .agg #[.slice p nl c2, .string a.s, .int .i64 a.e]) (by simp [results, Tryz.results9, go_sem, d0, d1, d2]) rfl ⟨_, rfl, HR.out.1, HR.out.2⟩
 · have HC := HC6
   generalize ansP G 6 x b t = a at *
   clear HC1 HC2 HC3 HC4 HC5 HC6 HC7 HC8 HC9 HE
   obtain ⟨x0, x1, x2, x3⟩ := b4 HW.out.q
   go_region_held3 (fun V => V.cell? ⟨w.heap.size, 0, none⟩ = some (.int .i64 6))
    ((refine HX0.out _ ?_
      repeat' (first
       | with_reducible exact HBm.out
       | with_reducible exact Below.refl _ _
       | with_reducible refine Below.drew ?_)))
    (first
      | (go_at_call 15
         refine (asks_any _).mono ?_
         rintro e w1 ⟨m, rfl, hM, hb⟩
         have HBm : Hid (Below W.heap.size W w1) := Lib.hid (Below.trans (by repeat' (first | with_reducible exact Below.refl _ _ | with_reducible refine Below.drew ?_)) (hb.mono (by first | exact Nat.le_refl _ | (show _ <= _; simp; done))))
         have hlk := run_lookS (r := m) (i := 5) (k := 6) (v := .func (.func 40) #[] #[]) hM (by kernel_rfl)
         clear hM hb))
   have HQ1 := Lib.hid (HW.out.below HBm.out)
   clear x0 x1 x2 x3
   obtain ⟨x0, x1, x2, x3⟩ := b4 HQ1.out.q
   go_wp2_with fail
   refine (HC.out _ HQ1.out.be).mono ?_
   rintro e w2 ⟨u, rfl, hi, hb⟩
   have HQ2 := Lib.hid (HQ1.out.below hb)
   obtain ⟨p, c2, rfl, -⟩ := own_form2 hi
   have HR := Lib.hid (HQ2.out.fin hi HQ1.out.be.size (.string a.s) (.int .i64 a.e))
   obtain ⟨d0, d1, d2⟩ := b3 HQ2.out.a
   have z0 := bfz HQ2.out.a 0
   have z1 := bfz HQ2.out.a 1
   have z2 := bfz HQ2.out.a 2
   obtain ⟨nl, hnl⟩ : ∃ z, a.l.length = z := ⟨_, rfl⟩
   rw [hnl] at HR ⊢
   clear hi hb hnl
   go_wp2
   refine bodyPost_ret (v := .agg #[.slice p nl c2, .string a.s, .int .i64 a.e]) (by simp [results, Tryz.results9, go_sem, d0, d1, d2]) rfl ⟨_, rfl, HR.out.1, HR.out.2⟩
 · have HC := HC7
   generalize ansP G 7 x b t = a at *
   clear HC1 HC2 HC3 HC4 HC5 HC6 HC7 HC8 HC9 HE
   obtain ⟨x0, x1, x2, x3⟩ := b4 HW.out.q
   go_region_held3 (fun V => V.cell? ⟨w.heap.size, 0, none⟩ = some (.int .i64 7))
    ((refine HX0.out _ ?_
      repeat' (first
       | with_reducible exact HBm.out
       | with_reducible exact Below.refl _ _
       | with_reducible refine Below.drew ?_)))
    (first
      | (go_at_call 15
         refine (asks_any _).mono ?_
         rintro e w1 ⟨m, rfl, hM, hb⟩
         have HBm : Hid (Below W.heap.size W w1) := Lib.hid (Below.trans (by repeat' (first | with_reducible exact Below.refl _ _ | with_reducible refine Below.drew ?_)) (hb.mono (by first | exact Nat.le_refl _ | (show _ <= _; simp; done))))
         have hlk := run_lookS (r := m) (i := 6) (k := 7) (v := .func (.func 42) #[] #[]) hM (by kernel_rfl)
         clear hM hb))
   have HQ1 := Lib.hid (HW.out.below HBm.out)
   clear x0 x1 x2 x3
   obtain ⟨x0, x1, x2, x3⟩ := b4 HQ1.out.q
   go_wp2_with fail
   refine (HC.out _ HQ1.out.be).mono ?_
   rintro e w2 ⟨u, rfl, hi, hb⟩
   have HQ2 := Lib.hid (HQ1.out.below hb)
   obtain ⟨p, c2, rfl, -⟩ := own_form2 hi
   have HR := Lib.hid (HQ2.out.fin hi HQ1.out.be.size (.string a.s) (.int .i64 a.e))
   obtain ⟨d0, d1, d2⟩ := b3 HQ2.out.a
   have z0 := bfz HQ2.out.a 0
   have z1 := bfz HQ2.out.a 1
   have z2 := bfz HQ2.out.a 2
   obtain ⟨nl, hnl⟩ : ∃ z, a.l.length = z := ⟨_, rfl⟩
   rw [hnl] at HR ⊢
   clear hi hb hnl
   go_wp2
   refine bodyPost_ret (v := .agg #[.slice p nl c2, .string a.s, .int .i64 a.e]) (by simp [results, Tryz.results9, go_sem, d0, d1, d2]) rfl ⟨_, rfl, HR.out.1, HR.out.2⟩
 · have HC := HC8
   generalize ansP G 8 x b t = a at *
   clear HC1 HC2 HC3 HC4 HC5 HC6 HC7 HC8 HC9 HE
   obtain ⟨x0, x1, x2, x3⟩ := b4 HW.out.q
   go_region_held3 (fun V => V.cell? ⟨w.heap.size, 0, none⟩ = some (.int .i64 8))
    ((refine HX0.out _ ?_
      repeat' (first
       | with_reducible exact HBm.out
       | with_reducible exact Below.refl _ _
       | with_reducible refine Below.drew ?_)))
    (first
      | (go_at_call 15
         refine (asks_any _).mono ?_
         rintro e w1 ⟨m, rfl, hM, hb⟩
         have HBm : Hid (Below W.heap.size W w1) := Lib.hid (Below.trans (by repeat' (first | with_reducible exact Below.refl _ _ | with_reducible refine Below.drew ?_)) (hb.mono (by first | exact Nat.le_refl _ | (show _ <= _; simp; done))))
         have hlk := run_lookS (r := m) (i := 7) (k := 8) (v := .func (.func 44) #[] #[]) hM (by kernel_rfl)
         clear hM hb))
   have HQ1 := Lib.hid (HW.out.below HBm.out)
   clear x0 x1 x2 x3
   obtain ⟨x0, x1, x2, x3⟩ := b4 HQ1.out.q
   go_wp2_with fail
   refine (HC.out _ HQ1.out.be).mono ?_
   rintro e w2 ⟨u, rfl, hi, hb⟩
   have HQ2 := Lib.hid (HQ1.out.below hb)
   obtain ⟨p, c2, rfl, -⟩ := own_form2 hi
   have HR := Lib.hid (HQ2.out.fin hi HQ1.out.be.size (.string a.s) (.int .i64 a.e))
   obtain ⟨d0, d1, d2⟩ := b3 HQ2.out.a
   have z0 := bfz HQ2.out.a 0
   have z1 := bfz HQ2.out.a 1
   have z2 := bfz HQ2.out.a 2
   obtain ⟨nl, hnl⟩ : ∃ z, a.l.length = z := ⟨_, rfl⟩
   rw [hnl] at HR ⊢
   clear hi hb hnl
   go_wp2
   refine bodyPost_ret (v := .agg #[.slice p nl c2, .string a.s, .int .i64 a.e]) (by simp [results, Tryz.results9, go_sem, d0, d1, d2]) rfl ⟨_, rfl, HR.out.1, HR.out.2⟩
 · have HC := HC9
   generalize ansP G 9 x b t = a at *
   clear HC1 HC2 HC3 HC4 HC5 HC6 HC7 HC8 HC9 HE
   obtain ⟨x0, x1, x2, x3⟩ := b4 HW.out.q
   go_region_held3 (fun V => V.cell? ⟨w.heap.size, 0, none⟩ = some (.int .i64 9))
    ((refine HX0.out _ ?_
      repeat' (first
       | with_reducible exact HBm.out
       | with_reducible exact Below.refl _ _
       | with_reducible refine Below.drew ?_)))
    (first
      | (go_at_call 15
         refine (asks_any _).mono ?_
         rintro e w1 ⟨m, rfl, hM, hb⟩
         have HBm : Hid (Below W.heap.size W w1) := Lib.hid (Below.trans (by repeat' (first | with_reducible exact Below.refl _ _ | with_reducible refine Below.drew ?_)) (hb.mono (by first | exact Nat.le_refl _ | (show _ <= _; simp; done))))
         have hlk := run_lookS (r := m) (i := 8) (k := 9) (v := .func (.func 45) #[] #[]) hM (by kernel_rfl)
         clear hM hb))
   have HQ1 := Lib.hid (HW.out.below HBm.out)
   clear x0 x1 x2 x3
   obtain ⟨x0, x1, x2, x3⟩ := b4 HQ1.out.q
   go_wp2_with fail
   refine (HC.out _ HQ1.out.be).mono ?_
   rintro e w2 ⟨u, rfl, hi, hb⟩
   have HQ2 := Lib.hid (HQ1.out.below hb)
   obtain ⟨p, c2, rfl, -⟩ := own_form2 hi
   have HR := Lib.hid (HQ2.out.fin hi HQ1.out.be.size (.string a.s) (.int .i64 a.e))
   obtain ⟨d0, d1, d2⟩ := b3 HQ2.out.a
   have z0 := bfz HQ2.out.a 0
   have z1 := bfz HQ2.out.a 1
   have z2 := bfz HQ2.out.a 2
   obtain ⟨nl, hnl⟩ : ∃ z, a.l.length = z := ⟨_, rfl⟩
   rw [hnl] at HR ⊢
   clear hi hb hnl
   go_wp2
   refine bodyPost_ret (v := .agg #[.slice p nl c2, .string a.s, .int .i64 a.e]) (by simp [results, Tryz.results9, go_sem, d0, d1, d2]) rfl ⟨_, rfl, HR.out.1, HR.out.2⟩
 · have HA := Lib.hid (HE.out hk)
   generalize ansP G k x b t = a at *
   have HKN : Hid (∀ p ∈ askL, p.1 ≠ k) := Lib.hid (fun p hp e => by
    simp only [askL, List.mem_cons, List.not_mem_nil, or_false] at hp
    rcases hp with rfl | rfl | rfl | rfl | rfl | rfl | rfl | rfl | rfl <;> exact hk (by simp only [] at e; omega))
   clear HC1 HC2 HC3 HC4 HC5 HC6 HC7 HC8 HC9 HE hk
   obtain ⟨x0, x1, x2, x3⟩ := b4 HW.out.q
   go_region_held3 (fun V => V.cell? ⟨w.heap.size, 0, none⟩ = some (.int .i64 k))
    ((refine HX0.out _ ?_
      repeat' (first
       | with_reducible exact HBm.out
       | with_reducible exact Below.refl _ _
       | with_reducible refine Below.drew ?_)))
    (first
      | (go_at_call 15
         refine (asks_any _).mono ?_
         rintro e w1 ⟨m, rfl, hM, hb⟩
         have HBm : Hid (Below W.heap.size W w1) := Lib.hid (Below.trans (by repeat' (first | with_reducible exact Below.refl _ _ | with_reducible refine Below.drew ?_)) (hb.mono (by first | exact Nat.le_refl _ | (show _ <= _; simp; done))))
         have hlk := run_missS (r := m) (k := k) hM (find_none (l := askL) HKN.out)
         clear hM hb))
   have HQ1 := Lib.hid (HW.out.below HBm.out)
   clear x0 x1 x2 x3
   go_wp2_with fail
   refine (failed_any 1 _).mono ?_
   rw [<- HA.out]
   rintro e w2 ⟨u, rfl, hi, hb⟩
   have HQ2 := Lib.hid (HQ1.out.below hb)
   obtain ⟨p, c2, rfl, -⟩ := own_form2 hi
   have HR := Lib.hid (HQ2.out.fin hi HQ1.out.be.size (.string a.s) (.int .i64 a.e))
   obtain ⟨d0, d1, d2⟩ := b3 HQ2.out.a
   have z0 := bfz HQ2.out.a 0
   have z1 := bfz HQ2.out.a 1
   have z2 := bfz HQ2.out.a 2
   obtain ⟨nl, hnl⟩ : ∃ z, a.l.length = z := ⟨_, rfl⟩
   rw [hnl] at HR ⊢
   clear hi hb hnl
   go_wp2
   refine bodyPost_ret (v := .agg #[.slice p nl c2, .string a.s, .int .i64 a.e]) (by simp [results, Tryz.results9, go_sem, d0, d1, d2]) rfl ⟨_, rfl, HR.out.1, HR.out.2⟩
def sameA (a b : An) : Bool := eqI a.l b.l && ((a.s.toList == b.s.toList) && (a.e == b.e))
theorem sameA_self (a : An) : sameA a a = true := by simp [sameA, eqI]
set_option maxHeartbeats 2000000 in
theorem sameS_any (a b : An) (p q : Option Addr) (c d : Nat) (w : World) (hp : IR w p a.l) (hq : IR w q b.l) (h1 : a.l.length <= 1000) (h2 : b.l.length <= 1000) :
 Calls Tryz.prog 11 #[.agg #[.slice p a.l.length c, .string a.s, .int .i64 a.e], .agg #[.slice q b.l.length d, .string b.s, .int .i64 b.e]] w (GivesV (.bool (sameA a b)) w) := by
 have HE : Hid (sameA a b = (eqI a.l b.l && ((a.s.toList == b.s.toList) && (a.e == b.e)))) := Lib.hid rfl
 obtain ⟨W, hW⟩ : ∃ W, W = (w.alloc (.cells #[.slice p a.l.length c, .string a.s, .int .i64 a.e] 31)).alloc (.cells #[.slice q b.l.length d, .string b.s, .int .i64 b.e] 31) := ⟨_, rfl⟩
 have hBW : Below w.heap.size w W := by rw [hW]; exact ((Below.refl _ _).alloc (Nat.le_refl _) _).alloc (by simp) _
 have HBW := Lib.hid hBW
 have HC := Lib.hid (equalI_any p q a.l b.l c d W (hp.below hBW) (hq.below hBW) h1 h2)
 have HK : Hid (∀ V, Below W.heap.size W V -> V.heap[w.heap.size]? = some (.cells #[.slice p a.l.length c, .string a.s, .int .i64 a.e] 31 (0, 0)) /\ V.heap[w.heap.size + 1]? = some (.cells #[.slice q b.l.length d, .string b.s, .int .i64 b.e] 31 (0, 0))) := Lib.hid (fun V hb => by
  have hz : W.heap.size = w.heap.size + 2 := by rw [hW]; simp
  exact ⟨(hb.block _ (by omega)).trans (by rw [hW]; exact hn0 _ _ _), (hb.block _ (by omega)).trans (by rw [hW]; exact hn1 _ _ _)⟩)
 clear hBW
 generalize sameA a b = R at *
 generalize eqI a.l b.l = r at *
 generalize a.l.length = n1 at *
 generalize b.l.length = n2 at *
 generalize a.s = s1 at *
 generalize b.s = s2 at *
 generalize a.e = e1 at *
 generalize b.e = e2 at *
 clear hp hq h1 h2
 go_enter Tryz.func11, Tryz.ntmps11
 go_upto_region 1 with fail
 rw [<- hW]
 clear hW
 obtain ⟨k1, k2⟩ := HK.out W (Below.refl _ _)
 obtain ⟨x0, x1, x2⟩ := b3 k1
 obtain ⟨y0, y1, y2⟩ := b3 k2
 clear k1 k2
 go_wp2_with fail
 refine HC.out.mono ?_
 rintro e w1 ⟨rfl, hb⟩
 have HB1 := Lib.hid (HBW.out.trans (hb.mono HBW.out.size))
 obtain ⟨k1, k2⟩ := HK.out w1 hb
 clear x0 x1 x2 y0 y1 y2 hb
 obtain ⟨x0, x1, x2⟩ := b3 k1
 obtain ⟨y0, y1, y2⟩ := b3 k2
 clear k1 k2
 cases r with
 | false =>
   go_wp2
   go_ret
   exact ⟨by rw [HE.out]; rfl, HB1.out⟩
 | true =>
   rcases Bool.eq_false_or_eq_true (s1.toList == s2.toList) with hs | hs
   · go_wp2
     go_ret
     refine ⟨?_, HB1.out⟩
     rw [HE.out, hs]
     rfl
   · go_wp2
     go_ret
     refine ⟨?_, HB1.out⟩
     rw [HE.out, hs]
     rfl
end Go.Proofs.YtcndplnnighjkaaGreatDoor.Sn
