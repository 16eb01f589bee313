/-
  The law SnapKids: the parent of each kid that is told is the node, and its place beside the first one is its place.
-/
import Derived.Test.YtcndplnnighjkaaGreatDoorPG52
namespace Go.Proofs.YtcndplnnighjkaaGreatDoor.Sn
open Go.ChangeShapes Go.WideShapes Go.ChangeAt Go.RowKit
open Sx (ls)
set_option linter.unusedVariables false
set_option linter.unusedSimpArgs false
set_option maxRecDepth 100000 in
set_option maxHeartbeats 16000000 in
theorem kids_law (A : Option Addr) (l : List Ops.Po) (c : Nat) (mx : Int) (id : Nat) (hid : id <= 255) (w : World) (hL : Ops.OL w A l) (hl : l.length <= 9223372036854775807) (hK : Ops.KT w) (hmx : w.cell? ⟨1, 0, none⟩ = some (.int .i64 mx)) :
 Calls Tryz.prog 3 #[.slice A l.length c, .int .u8 id] w (GivesV (.bool true) w) := by
 have hg0 : 1 < w.heap.size := World.block_lt_of_cell? _ _ hmx
 have HC := Lib.hid (fun (V : World) (hb : Below w.heap.size w V) => (⟨hL.below hb, hK.below hb, (hb.cell (p := ⟨1, 0, none⟩) hg0).trans hmx⟩ : Ops.OL V A l /\ Ops.KT V /\ V.cell? ⟨1, 0, none⟩ = some (.int .i64 mx)))
 have HB0 := Lib.hid (bounded13 A l c w hL hl)
 have HS := Lib.hid (fun (V : World) (hb : Below w.heap.size w V) => shown13 mx V (HC.out V hb).2.1 (HC.out V hb).2.2)
 have HG := Lib.hid (fun (V : World) (hb : Below w.heap.size w V) (h : l.length <= 150) => grown13 A l c V (HC.out V hb).1 (by omega) (HC.out V hb).2.1)
 have HLE : Hid (bdO l = true -> l.length <= 150) := Lib.hid (fun h => by
  unfold bdO at h
  rw [Bool.and_eq_true, decide_eq_true_eq] at h
  exact h.2)
 obtain ⟨nl, hnn⟩ : ∃ n, l.length = n := ⟨_, rfl⟩
 rw [hnn] at HB0 HG HLE hl ⊢
 clear hL hK hnn hmx hg0
 generalize bdO l = BL at *
 go_enter Tryz.func3, Tryz.ntmps3
 go_wp2_with fail
 refine HB0.out.mono ?_
 rintro e w' ⟨rfl, hw⟩
 obtain rfl := hw.symm
 cases BL with
 | false =>
   go_wp2_with fail
   refine (HS.out _ (Below.refl _ _)).mono ?_
   rintro e w1 ⟨rfl, hb⟩
   have HB := Lib.hid hb
   clear hb
   go_wp2
   go_ret
   exact ⟨rfl, HB.out⟩
 | true =>
 have hln := HLE.out rfl
 go_wp2_with fail
 refine (HS.out _ (Below.refl _ _)).mono ?_
 rintro e w2 ⟨rfl, hb⟩
 have HB2 := Lib.hid hb
 have HG2 := Lib.hid (HG.out w2 hb hln)
 have HC2 := Lib.hid (fun (V : World) (hb2 : Below w2.heap.size w2 V) => (HC.out V (hb.trans (hb2.mono hb.size))).2.2)
 clear hb HG HS HB0 HLE HC hl hln
 go_wp2_with fail
 refine HG2.out.mono ?_
 rintro e w3 ⟨Af, G, cf, rfl, hF, hm, hlk, hb⟩
 have HB3 := Lib.hid (HB2.out.trans (hb.mono HB2.out.size))
 have hn0 := (mayB_parts hm).1
 have hn60 := (may_sz hm).1
 obtain ⟨i0, hi0⟩ : ∃ m, id % G.length = m := ⟨_, rfl⟩
 have hi : i0 < G.length := by rw [<- hi0]; exact Nat.mod_lt _ hn0
 have e1 : IntKind.i64.wrap (id : Int) = (id : Int) := by rw [IntKind.wrap_i64]; omega
 have e2 : ((id : Int)).tmod (G.length : Int) = (i0 : Int) := by rw [<- hi0]; rfl
 have e3 : IntKind.i64.wrap (i0 : Int) = (i0 : Int) := by rw [IntKind.wrap_i64]; omega
 have hkl : (kidsOf G i0).length <= 1000 := by
  have := may_kids hm _ (List.getElem_mem hi)
  rw [kidsOf_at hi]
  omega
 have HO2 : Hid (Calls Tryz.prog 9 #[.slice Af G.length cf, .agg #[.int .i64 2, .int .i64 i0, .int .i64 0, .string ⟨#[]⟩]] w3 (GivesA w3.heap.size (numsA (kidsOf G i0)) w3)) := Lib.hid (by
  have := of_any Af G cf 2 i0 0 mx ⟨#[]⟩ w3 hF hm (by unfold I64; omega) (by decide) (HC2.out w3 hb)
  rw [ans_kids G hi] at this
  exact this)
 have HO1 : Hid (∀ (V : World) (hb2 : Below w3.heap.size w3 V) (j : Nat) (hj : j < (kidsOf G i0).length), Calls Tryz.prog 9 #[.slice Af G.length cf, .agg #[.int .i64 1, .int .i64 ((kidsOf G i0).getD j 0), .int .i64 0, .string ⟨#[]⟩]] V (GivesA V.heap.size (numsA [(i0 : Int)]) V)) := Lib.hid (fun V hb2 j hj => by
  have hmem : (kidsOf G i0).getD j 0 ∈ kidsOf G i0 := by
   rw [List.getD_eq_getElem?_getD, List.getElem?_eq_getElem hj]
   exact List.getElem_mem hj
  have := of_any Af G cf 1 ((kidsOf G i0).getD j 0) 0 mx ⟨#[]⟩ V (hF.below hb2) hm (by unfold I64; omega) (by decide) (HC2.out V (hb.trans (hb2.mono hb.size)))
  rw [ans_up hm hi hmem] at this
  exact this)
 have HO3 : Hid (∀ (V : World) (hb2 : Below w3.heap.size w3 V) (j : Nat) (hj : j < (kidsOf G i0).length), Calls Tryz.prog 9 #[.slice Af G.length cf, .agg #[.int .i64 3, .int .i64 ((kidsOf G i0).getD 0 0), .int .i64 j, .string ⟨#[]⟩]] V (GivesA V.heap.size (numsA [(kidsOf G i0).getD j 0]) V)) := Lib.hid (fun V hb2 j hj => by
  have := of_any Af G cf 3 ((kidsOf G i0).getD 0 0) j mx ⟨#[]⟩ V (hF.below hb2) hm (by unfold I64; omega) (by decide) (HC2.out V (hb.trans (hb2.mono hb.size)))
  rw [ans_bes hm hi hj] at this
  exact this)
 have hg00 : ((G.length : Int) == 0) = false := by rw [beq_eq_false_iff_ne]; omega
 have hgne : ¬ (G.length : Int) = 0 := by omega
 generalize kidsOf G i0 = K at *
 generalize G.length = n at *
 clear hF hm hlk hb HG2 HC2 hi0
 go_wp2_with fail
 refine HO2.out.mono ?_
 rintro e w4 ⟨v4, rfl, hi4, hb4⟩
 have HA4 := Lib.hid (anA (b := w3.heap.size) (w := w3) (numsA K).s (numsA K).e hi4 hb4 hb4.size)
 obtain ⟨p4, c4, rfl, -⟩ := own_form2 hi4
 obtain ⟨W4, hW4⟩ : ∃ W4, W4 = w4.alloc (.cells #[.slice p4 (numsA K).l.length c4, .string (numsA K).s, .int .i64 (numsA K).e] 31) := ⟨_, rfl⟩
 rw [<- hW4] at HA4
 obtain ⟨k4, hk4⟩ : ∃ k, w4.heap.size = k := ⟨_, rfl⟩
 rw [hk4] at HA4
 have HK4 := Lib.hid hk4
 have HB4 := Lib.hid HA4.out.2.2.out
 clear hi4 hb4 hk4 HO2 e1 e2 e3 hn0 hn60 hg00 hgne hi
 go_upto_region 8 with fail
 rw [<- hW4, HK4.out]
 clear hW4 HK4
 obtain ⟨kn, hkn⟩ : ∃ z, K.length = z := ⟨_, rfl⟩
 have HKN := Lib.hid hkn
 have HA4b : Hid (W4.heap[k4]? = some (.cells #[.slice p4 kn c4, .string ⟨#[]⟩, .int .i64 0] 31 (0, 0))) := Lib.hid (by rw [<- hkn]; exact HA4.out.1.out)
 have HIR := Lib.hid (own_ir2 (l := K) HA4.out.2.1.out)
 rw [hkn] at HO1 HO3 hkl
 have hkW : k4 < W4.heap.size := lt_of_block HA4b.out
 have HKW := Lib.hid hkW
 clear hkn HA4 hkW
 go_wp2_with fail
 go_loopw [8] (fun q wr => ∃ j : Nat, j <= kn /\ q = .int .i64 j /\ Hid (Below W4.heap.size W4 wr)) (fun q _ => kn - (intOf q).toNat)
 case atStart => exact ⟨0, Nat.zero_le _, rfl, Lib.hid (Below.refl _ _)⟩
 case round =>
  obtain ⟨j, hj, rfl, HBr⟩ := hrel
  have HBlk : Hid (wr.heap[k4]? = some (.cells #[.slice p4 kn c4, .string ⟨#[]⟩, .int .i64 0] 31 (0, 0))) := Lib.hid ((HBr.out.block _ HKW.out).trans HA4b.out)
  obtain ⟨x0, x1, x2⟩ := b3 HBlk.out
  by_cases hlt : j < kn
  · have k0 : (0 : Int) <= (j : Int) := by omega
    have k1 : (j : Int) < (kn : Int) := by omega
    have k2 : (0 : Int) < (kn : Int) := by omega
    obtain ⟨g0, o0, e0, hg0, q0⟩ := (HIR.out.below HBr.out) 0 (by rw [HKN.out]; omega)
    obtain ⟨g1, o1, e1', hg1, q1⟩ := (HIR.out.below HBr.out) j (by rw [HKN.out]; exact hlt)
    cases e0
    cases e1'
    obtain ⟨K0, hK0⟩ : ∃ z, K.getD 0 0 = z := ⟨_, rfl⟩
    obtain ⟨Kj, hKj⟩ : ∃ z, K.getD j 0 = z := ⟨_, rfl⟩
    have HC1 : Hid (∀ V, Below w3.heap.size w3 V -> Calls Tryz.prog 9 #[.slice Af n cf, .agg #[.int .i64 1, .int .i64 Kj, .int .i64 0, .string ⟨#[]⟩]] V (GivesA V.heap.size (numsA [(i0 : Int)]) V)) := Lib.hid (fun V hb => by have := HO1.out V hb j hlt; rwa [hKj] at this)
    have HC3 : Hid (∀ V, Below w3.heap.size w3 V -> Calls Tryz.prog 9 #[.slice Af n cf, .agg #[.int .i64 3, .int .i64 K0, .int .i64 j, .string ⟨#[]⟩]] V (GivesA V.heap.size (numsA [Kj]) V)) := Lib.hid (fun V hb => by have := HO3.out V hb j hlt; rwa [hK0, hKj] at this)
    replace q0 : wr.cell? ⟨g0, o0, none⟩ = some (.int .i64 K0) := by rw [<- hK0]; exact q0
    replace q1 : wr.cell? ⟨g0, o0 + j, none⟩ = some (.int .i64 Kj) := by rw [<- hKj]; exact q1
    have HQ : Hid (∀ V, Below wr.heap.size wr V -> V.heap[k4]? = some (.cells #[.slice (some ⟨g0, o0, none⟩) kn c4, .string ⟨#[]⟩, .int .i64 0] 31 (0, 0)) /\ V.cell? ⟨g0, o0, none⟩ = some (.int .i64 K0) /\ V.cell? ⟨g0, o0 + j, none⟩ = some (.int .i64 Kj)) := Lib.hid (fun V hb => ⟨(hb.block _ (lt_of_block HBlk.out)).trans HBlk.out, (hb.cell (p := ⟨g0, o0, none⟩) hg0).trans q0, (hb.cell (p := ⟨g0, o0 + j, none⟩) hg0).trans q1⟩)
    have HWr := Lib.hid (HB4.out.trans (HBr.out.mono HB4.out.size))
    clear hK0 hKj HBlk
    go_wp2_with fail
    refine (HC1.out wr HWr.out).mono ?_
    rintro e w5 ⟨v5, rfl, hi5, hb5⟩
    have HA5 := Lib.hid (anA (b := wr.heap.size) (w := wr) (numsA [(i0 : Int)]).s (numsA [(i0 : Int)]).e hi5 hb5 hb5.size)
    obtain ⟨p5, c5, rfl, -⟩ := own_form2 hi5
    obtain ⟨W5, hW5⟩ : ∃ W5, W5 = w5.alloc (.cells #[.slice p5 (numsA [(i0 : Int)]).l.length c5, .string (numsA [(i0 : Int)]).s, .int .i64 (numsA [(i0 : Int)]).e] 31) := ⟨_, rfl⟩
    rw [<- hW5] at HA5
    obtain ⟨k5, hk5⟩ : ∃ k, w5.heap.size = k := ⟨_, rfl⟩
    rw [hk5] at HA5
    have HK5 := Lib.hid hk5
    have HB5 := Lib.hid HA5.out.2.2.out
    clear hi5 hb5 hk5 x0 x1 x2 q0 q1
    go_upto_region 12 with fail
    rw [<- hW5, HK5.out]
    clear hW5 HK5
    obtain ⟨z0, q0, q1⟩ := HQ.out W5 HB5.out
    obtain ⟨x0, x1, x2⟩ := b3 z0
    clear z0
    go_wp2_with fail
    refine (HC3.out W5 (HWr.out.trans (HB5.out.mono HWr.out.size))).mono ?_
    rintro e w6 ⟨v6, rfl, hi6, hb6⟩
    have HA6 := Lib.hid (anA (b := wr.heap.size) (w := wr) (numsA [Kj]).s (numsA [Kj]).e hi6 (HB5.out.trans (hb6.mono HB5.out.size)) (Nat.le_trans HB5.out.size hb6.size))
    have HA56 := Lib.hid (HA5.out.below (hb6.alloc hb6.size (.cells #[v6, .string (numsA [Kj]).s, .int .i64 (numsA [Kj]).e] 31)) HB5.out.size)
    obtain ⟨p6, c6, rfl, -⟩ := own_form2 hi6
    obtain ⟨W6, hW6⟩ : ∃ W6, W6 = w6.alloc (.cells #[.slice p6 (numsA [Kj]).l.length c6, .string (numsA [Kj]).s, .int .i64 (numsA [Kj]).e] 31) := ⟨_, rfl⟩
    rw [<- hW6] at HA6 HA56
    obtain ⟨k6, hk6⟩ : ∃ k, w6.heap.size = k := ⟨_, rfl⟩
    rw [hk6] at HA6
    have HK6 := Lib.hid hk6
    have HB6 := Lib.hid HA6.out.2.2.out
    clear hi6 hb6 hk6 x0 x1 x2 q0 q1
    go_upto_region 13 with fail
    rw [<- hW6, HK6.out]
    clear hW6 HK6
    obtain ⟨z0, q0, q1⟩ := HQ.out W6 HB6.out
    obtain ⟨x0, x1, x2⟩ := b3 z0
    obtain ⟨y0, y1, y2⟩ := b3 HA56.out.1.out
    obtain ⟨u0, u1, u2⟩ := b3 HA6.out.1.out
    obtain ⟨g5, o5, e5, hg5, q5⟩ := own_ir2 (l := [(i0 : Int)]) HA56.out.2.1.out 0 (by simp)
    obtain ⟨g6, o6, e6, hg6, q6⟩ := own_ir2 (l := [Kj]) HA6.out.2.1.out 0 (by simp)
    subst e5
    subst e6
    replace q5 : W6.cell? ⟨g5, o5, none⟩ = some (.int .i64 i0) := q5
    replace q6 : W6.cell? ⟨g6, o6, none⟩ = some (.int .i64 Kj) := q6
    replace y0 : W6.cell? ⟨k5, 0, none⟩ = some (.slice (some ⟨g5, o5, none⟩) 1 c5) := y0
    replace y2 : W6.cell? ⟨k5, 2, none⟩ = some (.int .i64 0) := y2
    replace u0 : W6.cell? ⟨k6, 0, none⟩ = some (.slice (some ⟨g6, o6, none⟩) 1 c6) := u0
    replace u2 : W6.cell? ⟨k6, 2, none⟩ = some (.int .i64 0) := u2
    have HBr2 := Lib.hid (HBr.out.trans (HB6.out.mono HBr.out.size))
    have m1 : ((i0 : Int) != (i0 : Int)) = false := by simp
    have m2 : (Kj != Kj) = false := by simp
    clear z0 HA5 HA6 HA56 HQ HC1 HC3 hg5 hg6 y1 u1
    go_wp2_with fail
    go_quiet (fail)
    go_wp2
    go_roundw
    case rel => exact ⟨j + 1, by omega, by go_num, Lib.hid (below_drewN HBr2.out _)⟩
    case measure => simp [intOf] <;> omega
  · obtain rfl : j = kn := by omega
    have HBf := Lib.hid (HB3.out.trans ((HB4.out.trans (HBr.out.mono HB4.out.size)).mono HB3.out.size))
    go_wp2
    go_ret
    exact ⟨rfl, HBf.out⟩
set_option maxRecDepth 100000 in
theorem kids_true {H : Type} {enc : TypeId × Value -> H} {W : World} {base : Nat} {v0 : Value} {d0 : DataW H} {p0 : List MemPlace} {v1 : Value} {d1 : DataW H} {p1 : List MemPlace} (hm : ∃ mx, W.cell? ⟨1, 0, none⟩ = some (.int .i64 mx)) (hK : Ops.KT W) (o0 : Value.okWide Tryz.prog W .any base 22 v0) (o1 : Value.okWide Tryz.prog W .any base 5 v1)
 (h0 : DataW.Trod enc Tryz.prog W 0 (fun _ => true) true 22 v0 d0 p0) (h1 : DataW.Trod enc Tryz.prog W 0 (fun _ => true) true 5 v1 d1 p1)
 (l0 : ∀ x ∈ p0, x.block < W.heap.size) (l1 : ∀ x ∈ p1, x.block < W.heap.size) :
 Calls Tryz.prog 3 #[v0, v1] W fun e W' => e = .returned (.bool true) /\ Below W.heap.size W W' := by
 obtain ⟨mx, hmx⟩ := hm
 obtain ⟨A, cap, l, rfl, e1, e2, hL, -⟩ := Ops.ol_open o0 h0 l0
 obtain ⟨x, rfl, rfl, rfl, w1⟩ := open_int Tryz.underlying5 o1 h1
 have hx : 0 <= x /\ x <= 255 := by
  simp [Lit.wf, IntKind.min, IntKind.max, IntKind.signed, IntKind.bits] at w1
  omega
 obtain ⟨i, rfl⟩ := Int.eq_ofNat_of_zero_le hx.1
 exact kids_law A l cap mx i (by omega) W hL (Nat.le_trans e1 e2) hK hmx
end Go.Proofs.YtcndplnnighjkaaGreatDoor.Sn
