/-
  The law WalkKids: the kids of a node stand beside one another, and its order is it, and the orders of these.
-/
import Derived.Test.YtboiekopdnnfbaaGreatDoorG28
import Derived.Test.YtboiekopdnnfbaaGreatDoorG18
import Derived.Test.YtboiekopdnnfbaaGreatDoorG29
namespace Go.Proofs.YtboiekopdnnfbaaGreatDoor
open Go.ChangeShapes Go.WideShapes Go.ChangeAt Go.RowKit
set_option linter.unusedVariables false
set_option linter.unusedSimpArgs false

theorem own_ir8 {w : World} {base : Nat} {v : Value} {l : List Int} (h : w.ownsRow base 3 1 v l.length (ivs l)) : ∃ p cap, v = .slice p l.length cap ∧ IR w p l := by
  obtain ⟨p, cap, rfl, -⟩ := own_form2 h
  exact ⟨p, cap, rfl, own_ir2 h⟩
def ordI (F : List Mn) (i : Nat) : List Int := (ord F i).map Int.ofNat
theorem ordI_open {F : List Mn} (h : mayB F = true) {i : Nat} (hi : i < F.length) : ordI F i = (i : Int) :: (kidsOf F i).flatMap (fun k => ordI F k.toNat) := by
  unfold ordI
  rw [ord_open h hi, List.map_cons, List.map_flatMap]
  rfl
theorem ordI_len {F : List Mn} (h : mayB F = true) {i : Nat} (hi : i < F.length) : (ordI F i).length ≤ 60 := by
  have := ord_len h hi
  have := (may_sz h).1
  unfold ordI
  rw [List.length_map]
  omega
set_option maxRecDepth 100000 in
set_option maxHeartbeats 8000000 in
theorem kids_law (A : Option Addr) (l : List Ops.Po) (c : Nat) (w : World) (hL : Ops.OL w A l) (hl : l.length ≤ 9223372036854775807) (hK : Ops.KT w) :
    Calls Tryz.prog 7 #[.slice A l.length c] w (GivesV (.bool true) w) := by
  have HB0 := Lib.hid (bounded8 A l c w hL hl)
  have HS := Lib.hid (fun (V : World) (hb : Below w.heap.size w V) => shown8 V (hK.below hb))
  have HG := Lib.hid (fun (V : World) (hb : Below w.heap.size w V) (h : l.length ≤ 150) => grown_any A l c V (hL.below hb) (by omega) (hK.below hb))
  have HLE : Hid (bdO l = true → l.length ≤ 150) := Lib.hid (fun h => by
    unfold bdO at h
    rw [Bool.and_eq_true, decide_eq_true_eq] at h
    exact h.2)
  obtain ⟨nl, hnn⟩ : ∃ n, l.length = n := ⟨_, rfl⟩
  rw [hnn] at HB0 HG HLE hl ⊢
  clear hL hK hnn
  generalize bdO l = BL at *
  go_enter Tryz.func7, Tryz.ntmps7
  go_wp2_with fail
  refine HB0.out.mono ?_
  rintro e w' ⟨rfl, hw⟩
  obtain rfl := hw.symm
  cases BL with
  | false =>
    go_wp2_with fail
    refine (HS.out w (Below.refl _ _)).mono ?_
    rintro e w1 ⟨rfl, hb⟩
    have HB := Lib.hid hb
    clear hb
    go_wp2
    go_ret
    exact ⟨rfl, HB.out⟩
  | true =>
  have hln := HLE.out rfl
  go_wp2_with fail
  refine (HS.out w (Below.refl _ _)).mono ?_
  rintro e w1 ⟨rfl, hb⟩
  have HB1 := Lib.hid hb
  clear hb
  go_wp2_with fail
  refine (HG.out w1 HB1.out hln).mono ?_
  rintro e w2 ⟨Af, G, cf, rfl, hF, hm, hlk, hb⟩
  have HB2 := Lib.hid (HB1.out.trans (hb.mono HB1.out.size))
  clear hb hlk HS HG HLE HB0
  have hn60 := (may_sz hm).1
  have HBs := Lib.hid (fun (V : World) (x y : Int) (hb : Below w2.heap.size w2 V) (hy : I64 y) => wbeside_any Af G cf x y V (hF.below hb) hm hy)
  have HKs := Lib.hid (fun (V : World) (i : Nat) (hb : Below w2.heap.size w2 V) (hi : i < G.length) => wkids_any Af G cf i V (hF.below hb) hm hi)
  have HOr : Hid (∀ (V : World) (i : Nat) (hb : Below w2.heap.size w2 V) (hi : i < G.length), Calls Tryz.prog 32 #[.slice Af G.length cf, .int .i64 i] V fun e w' => ∃ v, e = .returned (.tuple #[v, .int .i64 0]) ∧ w'.ownsRow V.heap.size 3 1 v (ordI G i).length (ivs (ordI G i)) ∧ Below V.heap.size V w') := Lib.hid (fun V i hb hi => by
    have := worder_any Af G cf i V (hF.below hb) hm hi
    unfold ivN at this
    unfold ordI
    rw [List.length_map]
    exact this)
  have HBK := Lib.hid (fun (i k : Nat) (hi : i < G.length) (hk : k < (kidsOf G i).length) => beside_kid hm hi hk)
  have HKl := Lib.hid (fun (i : Nat) (hi : i < G.length) => may_kids hm G[i] (List.getElem_mem hi))
  have HOO := Lib.hid (fun (i : Nat) (hi : i < G.length) => ordI_open hm hi)
  have HOL := Lib.hid (fun (i : Nat) (hi : i < G.length) => ordI_len hm hi)
  have HKn := Lib.hid (fun (i : Nat) (hi : i < G.length) (k : Int) (hk : k ∈ kidsOf G i) => kid_node hm hi hk)
  have h0n := (mayB_parts hm).1
  obtain ⟨n, hn⟩ : ∃ n, G.length = n := ⟨_, rfl⟩
  have HNN := Lib.hid hn
  rw [hn] at HBs HKs HOr HBK HOO HOL HKn hn60 h0n ⊢
  clear hF hm hn
  obtain ⟨i0, hi0, hz0, hz1, hz2⟩ := info_parts info_int
  have hJ := Lib.hid (And.intro hi0 (And.intro hz0 (And.intro hz1 hz2)))
  clear hi0 hz0 hz1 hz2
  go_wp2_with fail
  go_loopw [4] (fun q wr => ∃ k : Nat, k ≤ n ∧ q = .int .i64 k ∧ Hid (Below w2.heap.size w2 wr)) (fun q _ => n - (intOf q).toNat)
  case atStart => exact ⟨0, Nat.zero_le _, rfl, Lib.hid (Below.refl _ _)⟩
  case round =>
    obtain ⟨i, hi, rfl, HR⟩ := hrel
    by_cases hlt : i < n
    · have k0 : (0 : Int) ≤ (i : Int) := by omega
      have k1 : (i : Int) < (n : Int) := by omega
      have HK1 := Lib.hid (HKs.out wr i HR.out hlt)
      have hkk := HKl.out i (by rw [HNN.out]; exact hlt)
      rw [← kidsOf_at (by rw [HNN.out]; exact hlt)] at hkk
      have HBk := Lib.hid (fun k => HBK.out i k hlt)
      have HOi := Lib.hid (HOO.out i hlt)
      have HOl := HOL.out i hlt
      have HKi := Lib.hid (HKn.out i hlt)
      have HOr1 := Lib.hid (fun (V : World) (hb : Below w2.heap.size w2 V) => HOr.out V i hb hlt)
      generalize kidsOf G i = ks at *
      generalize ordI G i = oi at *
      go_wp2_with fail
      refine HK1.out.mono ?_
      rintro e w3 ⟨v, rfl, hv, hb⟩
      obtain ⟨p, cap, rfl, hI⟩ := own_ir8 hv
      have HI := Lib.hid hI
      have HR3 := Lib.hid (HR.out.trans (hb.mono HR.out.size))
      clear hb hv hI
      obtain ⟨kl, hkle⟩ : ∃ kl, ks.length = kl := ⟨_, rfl⟩
      have HKL := Lib.hid hkle
      rw [hkle] at HBk hkk ⊢
      clear hkle
      obtain ⟨W, hW⟩ : ∃ W, W = w3.alloc (.cells #[.int .i64 i] 3) := ⟨_, rfl⟩
      have HWO : Hid (W.ownsRow w3.heap.size 3 1 (.slice (some ⟨w3.heap.size, 0, none⟩) 1 1) ([(i : Int)]).length (ivs [(i : Int)])) := Lib.hid (by
        rw [hW]
        exact ⟨rfl, .inr ⟨w3.heap.size, 1, #[.int .i64 i], rfl, Nat.le_refl _, heap_alloc_new _ _, Nat.le_refl _, by simp [maxLen], rfl, by simp [ivs]⟩⟩)
      have HWB : Hid (Below w3.heap.size w3 W) := Lib.hid (by rw [hW]; exact (Below.refl _ _).alloc (Nat.le_refl _) _)
      have HRW := Lib.hid (HR3.out.trans (HWB.out.mono HR3.out.size))
      go_wp2_with fail
      rw [← hW]
      clear hW
      go_loopw [7, 8] (fun q7 q8 wv => ∃ (wx : World) (p7 : Option Addr) (cap7 : Nat) (L : List Int) (j : Nat), wx = wv ∧ j ≤ kl ∧ q7 = .slice p7 L.length cap7 ∧ q8 = .int .i64 j ∧ Hid (wx.ownsRow w3.heap.size 3 1 (.slice p7 L.length cap7) L.length (ivs L)) ∧ Hid (L = (i : Int) :: (ks.take j).flatMap (fun y => ordI G y.toNat)) ∧ Hid (Below w3.heap.size w3 wx)) (fun _ q8 _ => kl - (intOf q8).toNat)
      case atStart => exact ⟨_, _, _, [(i : Int)], 0, rfl, Nat.zero_le _, rfl, rfl, HWO, Lib.hid (by simp), HWB⟩
      case round =>
        obtain ⟨wx, p7, cap7, L, j, rfl, hj, rfl, rfl, HO7, HL7, HX⟩ := hrel
        have HX2 := Lib.hid (HR3.out.trans (HX.out.mono HR3.out.size))
        by_cases hjl : j < kl
        · have j0 : (0 : Int) ≤ (j : Int) := by omega
          have j1 : (j : Int) < (kl : Int) := by omega
          have jp : (0 : Int) < (kl : Int) := by omega
          have hjk : j < ks.length := by rw [HKL.out]; exact hjl
          obtain ⟨g, off, rfl, hg, c0⟩ := (HI.out.below HX.out) 0 (by rw [HKL.out]; omega)
          rw [Nat.add_zero] at c0
          obtain ⟨g', off', hA', hg', c1⟩ := (HI.out.below HX.out) j hjk
          cases hA'
          have HBj := HBk.out j hjl
          obtain ⟨y, hy, hyl, -⟩ := HKi.out (ks.getD j 0) (by rw [getD_at 0 hjk]; exact List.getElem_mem _)
          have HLj : Hid ((i : Int) :: (ks.take (j + 1)).flatMap (fun y => ordI G y.toNat) = L ++ ordI G y) := Lib.hid (by
            rw [HL7.out, take_more hjk, List.flatMap_append, ← getD_at 0 hjk, hy, List.cons_append]
            simp)
          have HLl : Hid (L.length + (ordI G y).length ≤ 60) := Lib.hid (by
            rw [← List.length_append, ← HLj.out]
            have h1 := flat_take (fun y : Int => ordI G y.toNat) ks (j + 1)
            rw [HOi.out] at HOl
            simp only [List.length_cons] at HOl ⊢
            omega)
          rw [hy] at c1 HBj
          have HOy := Lib.hid (HOr.out wx y HX2.out hyl)
          have HB2' := Lib.hid (fun (V : World) (hb : Below w2.heap.size w2 V) => by have := HBs.out V (ks.getD 0 0) (j : Int) hb (by unfold I64; omega); rw [HBj] at this; exact this)
          clear hy HBj hyl
          generalize ks.getD 0 0 = y0 at *
          generalize ordI G y = oy at *
          obtain ⟨lo, hlo⟩ : ∃ lo, oy.length = lo := ⟨_, rfl⟩
          have HLO := Lib.hid hlo
          obtain ⟨lm, hlm⟩ : ∃ lm, L.length = lm := ⟨_, rfl⟩
          have HLM := Lib.hid hlm
          rw [hlo, hlm] at HLl
          have hlsum := HLl.out
          have HO8 := HO7
          rw [hlm] at HO8 ⊢
          rw [hlo] at HOy
          clear hlo hlm
          go_wp2_with fail
          refine HOy.out.mono ?_
          rintro e w5 ⟨v5, rfl, hv5, hb⟩
          obtain ⟨p5, cap5, rfl, -⟩ := own_form2 hv5
          have HI5 : Hid (IR w5 p5 oy) := Lib.hid (own_ir2 (by rw [HLO.out]; exact hv5))
          have HO5 := Lib.hid (own_below HO8.out hb)
          have HX5 := Lib.hid (HX.out.trans (hb.mono HX.out.size))
          have c0' := (hb.cell (p := ⟨g, off, none⟩) hg).trans c0
          have c1' := (hb.cell (p := ⟨g, off + j, none⟩) hg).trans c1
          have hg5 := Nat.lt_of_lt_of_le hg hb.size
          clear hb hv5 c0 c1
          go_wp2_with fail
          refine (HB2'.out w5 (HR3.out.trans (HX5.out.mono HR3.out.size))).mono ?_
          rintro e w6 ⟨rfl, hb⟩
          have HI6 := Lib.hid (HI5.out.below hb)
          have HO6 := Lib.hid (own_below HO5.out hb)
          have HX6 := Lib.hid (HX5.out.trans (hb.mono HX5.out.size))
          have c1 := (hb.cell (p := ⟨g, off + j, none⟩) hg5).trans c1'
          clear hb c0' c1'
          have HS6 : Hid (Srow w6 p5 lo 1 (ivs oy)) := Lib.hid (by have := srow_ints HI6.out; rw [HLO.out] at this; exact this)
          go_wp2_with (at_builtin; refine wpList_row rfl _ _ rfl rfl Tryz.underlying54 hJ.out.1 hJ.out.2.1 hJ.out.2.2.1 hJ.out.2.2.2 rfl (by decide) rfl HO6.out _ rfl HS6.out (by unfold maxLen; omega) (by omega) HX6.out.size ?_; intro v7 w7 hown' hgrow hat; obtain ⟨p8, c8, rfl, _⟩ := own_form2 hown'
                       have HO9 := Lib.hid hown'
                       have HX7 := Lib.hid (HX6.out.grown hgrow HX6.out.size (fun q e => (HO6.out.lt q e).1))
                       clear hown' hgrow hat)
          have hla : (L ++ oy).length = lm + lo := by rw [List.length_append, HLM.out, HLO.out]
          go_roundw
          case rel => exact ⟨_, p8, c8, L ++ oy, j + 1, rfl, by omega, by rw [hla], by go_num, Lib.hid (by rw [hla, ivs, List.map_append]; exact HO9.out), Lib.hid HLj.out.symm, HX7⟩
          case measure => simp [intOf] <;> omega
        · obtain rfl : j = kl := by omega
          have et : ks.take j = ks := List.take_of_length_le (by rw [HKL.out]; exact Nat.le_refl _)
          rw [et, ← HOi.out] at HL7
          obtain rfl := HL7.out
          have HIL : Hid (IR wx p7 L) := Lib.hid (own_ir2 HO7.out)
          clear et HL7 HO7 HOi
          have HOL1 := Lib.hid (HOr1.out wx HX2.out)
          have HRI := Lib.hid (fun (V : World) (p : Option Addr) (c : Nat) (h1 : IR V p L) (h2 : IR V p7 L) => rints_any p p7 L L c cap7 V h1 h2 (by omega) (by omega))
          have hee : eqI L L = true := by simp [eqI]
          rw [hee] at HRI
          obtain ⟨lm, hlm⟩ : ∃ lm, L.length = lm := ⟨_, rfl⟩
          have HLM := Lib.hid hlm
          rw [hlm] at HOL1 HRI HOl ⊢
          clear hlm hee
          go_wp2_with fail
          refine HOL1.out.mono ?_
          rintro e w5 ⟨v5, rfl, hv5, hb⟩
          obtain ⟨p5, cap5, rfl, -⟩ := own_form2 hv5
          have HI5 : Hid (IR w5 p5 L) := Lib.hid (own_ir2 (by rw [HLM.out]; exact hv5))
          have HX5 := Lib.hid (HX2.out.trans (hb.mono HX2.out.size))
          have HI7 := Lib.hid (HIL.out.below hb)
          clear hb hv5
          go_wp2_with fail
          refine (HRI.out w5 p5 cap5 HI5.out HI7.out).mono ?_
          rintro e w6 ⟨rfl, hb⟩
          have HX6 := Lib.hid (HX5.out.trans (hb.mono HX5.out.size))
          clear hb
          go_wp2
          go_roundw
          case rel => exact ⟨i + 1, by omega, by go_num, HX6⟩
          case measure => simp [intOf] <;> omega
    · obtain rfl : i = n := by omega
      have hq : decide ((0 : Int) < (i : Int)) = true := by simp; omega
      go_wp2
      go_ret
      exact ⟨rfl, HB2.out.trans (HR.out.mono HB2.out.size)⟩
set_option maxRecDepth 100000 in
/-- The law, of what came in. -/
theorem kids_true {H : Type} {enc : TypeId × Value → H} {W : World} {base : Nat} {v0 : Value} {d0 : DataW H} {p0 : List MemPlace} (hm : ∃ mx, W.cell? ⟨1, 0, none⟩ = some (.int .i64 mx)) (hK : Ops.KT W) (o0 : Value.okWide Tryz.prog W .any base 22 v0)
    (h0 : DataW.Trod enc Tryz.prog W 0 (fun _ => true) true 22 v0 d0 p0) (l0 : ∀ x ∈ p0, x.block < W.heap.size) :
    Calls Tryz.prog 7 #[v0] W fun e W' => e = .returned (.bool true) ∧ Below W.heap.size W W' := by
  obtain ⟨A, cap, l, rfl, e1, e2, hL, -⟩ := Ops.ol_open o0 h0 l0
  exact kids_law A l cap W hL (Nat.le_trans e1 e2) hK
end Go.Proofs.YtboiekopdnnfbaaGreatDoor
