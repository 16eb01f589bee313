/-
  The law ForestTops: each node of a forest is below just one that stands alone, and below itself; its parent is not below it.
-/
import Derived.Test.YtbicaombdcnciaaDoorFoV
import Derived.Test.YtbicaombdcnciaaDoorFoAc
import Derived.Test.YtbicaombdcnciaaDoorFoP
namespace Go.Proofs.YtbicaombdcnciaaDoor
open Go.ChangeShapes Go.WideShapes Go.ChangeAt Go.RowKit
set_option linter.unusedVariables false
set_option linter.unusedSimpArgs false

theorem own_ir {w : World} {base : Nat} {v : Value} {l : List Int} (h : w.ownsRow base 3 1 v l.length (ivs l)) : ∃ p cap, v = .slice p l.length cap ∧ IR w p l := by
  obtain ⟨p, cap, rfl, -, -, -⟩ := own_form h
  refine ⟨p, cap, rfl, fun j hj => ?_⟩
  rcases h.2 with ⟨-, h'⟩ | ⟨g, cap', cur, hv, hb, hg, -⟩
  · rw [h'] at hj; omega
  · cases hv
    have e : (ivs l)[j]? = some (.int .i64 (l.getD j 0)) := by
      rw [ivs, List.getElem?_map, List.getElem?_eq_getElem hj, List.getD_eq_getElem?_getD, List.getElem?_eq_getElem hj]; rfl
    have := h.cells rfl j _ e
    refine ⟨g, 0, rfl, (Array.getElem?_eq_some_iff.1 hg).1, ?_⟩
    rw [← this]
    rw [show (⟨g, 0, none⟩ : Addr).add j = ⟨g, 0 + j, none⟩ by unfold Addr.add; split <;> simp_all]
theorem filter_take_succ {l : List Int} {f : Int → Bool} {k : Nat} (hk : k < l.length) : ((l.take (k + 1)).filter f).length = ((l.take k).filter f).length + (if f (l.getD k 0) = true then 1 else 0) := by
  have e : l.take (k + 1) = l.take k ++ [l.getD k 0] := by
    rw [List.take_add_one, List.getElem?_eq_getElem hk, List.getD_eq_getElem?_getD, List.getElem?_eq_getElem hk]; rfl
  rw [e, List.filter_append, List.length_append]
  by_cases h : f (l.getD k 0) = true
  · rw [if_pos h, List.filter_cons_of_pos h]; rfl
  · rw [if_neg h, List.filter_cons_of_neg h]; rfl

set_option maxRecDepth 100000 in
set_option maxHeartbeats 8000000 in
theorem tops_law (A : Option Addr) (F : List Mn) (c : Nat) (mx : Int) (w : World) (hF : FR w A F) (hn : F.length ≤ 9223372036854775807) (hm : w.cell? ⟨0, 0, none⟩ = some (.int .i64 mx)) :
    Calls Tryd.prog 4 #[.slice A F.length c] w (GivesV (.bool true) w) := by
  have hg0 : 0 < w.heap.size := World.block_lt_of_cell? _ _ hm
  have HF := Lib.hid hF
  have HB := Lib.hid (bounded_any A F c w hF hn)
  have HS := Lib.hid (fun (V : World) (hb : Below w.heap.size w V) => shown_true mx V ((hb.cell (p := ⟨0, 0, none⟩) hg0).trans hm))
  have HM := Lib.hid (fun (V : World) (hb : Below w.heap.size w V) (h : bdB F = true) => may_any A F c V (hF.below hb) (bd_sz h))
  have HT := Lib.hid (fun (V : World) (hb : Below w.heap.size w V) (h : bdB F = true) => tops_any A F c V (hF.below hb) (bd_sz h))
  have HW := Lib.hid (fun (V : World) (hb : Below w.heap.size w V) (h : bdB F = true) (t x : Int) => below_any A F c t x V (hF.below hb) (bd_sz h))
  have HT1 := Lib.hid (fun (h : mayB F = true) (i : Nat) (hi : i < F.length) => tops_one h hi)
  have HT2 := Lib.hid (fun (h : mayB F = true) (i : Nat) (hi : i < F.length) => below_self h hi)
  have HT3 := Lib.hid (fun (h : mayB F = true) (i : Nat) (hi : i < F.length) (hp : 0 ≤ par F i) => below_par h hi hp)
  have HT4 := Lib.hid (fun (h : mayB F = true) => tops_head h)
  have HTB : Hid (mayB F = true → topsB F = topsOf F F.length) := Lib.hid (fun h => by rw [topsB, h]; rfl)
  have HL : Hid (bdB F = true → F.length ≤ 70) := Lib.hid (fun h => bd_len h)
  have HPar : Hid (∀ (i : Nat) (hi : i < F.length), par F i = F[i].parent) := Lib.hid (fun i hi => by rw [par, List.getElem?_eq_getElem hi]; rfl)
  have HTL : Hid ((topsOf F F.length).length ≤ F.length) := Lib.hid (by
    unfold topsOf
    rw [List.length_map]
    exact Nat.le_trans (List.length_filter_le _ _) (by rw [List.length_range]; exact Nat.le_refl _))
  have HP64 : Hid (∀ (i : Nat) (hi : i < F.length), I64 F[i].parent) := Lib.hid (fun i hi => (hF i F[i] (List.getElem?_eq_getElem hi)).1.p64)
  clear hF hm
  generalize topsOf F F.length = T at *
  generalize bdB F = BD at *
  generalize mayB F = MB at *
  obtain ⟨n, hnn⟩ : ∃ n, F.length = n := ⟨_, rfl⟩
  have HNN := Lib.hid hnn
  rw [hnn] at hn HB HM HT HW HL HTL ⊢
  clear hnn
  go_enter Tryd.func4, Tryd.ntmps4
  go_wp2_with fail
  refine HB.out.mono ?_
  rintro e w' ⟨rfl, rfl⟩
  cases BD with
  | false =>
    go_wp2_with fail
    refine (HS.out w' (Below.refl _ _)).mono ?_
    rintro e w1 ⟨rfl, hb⟩
    have HB1 := Lib.hid hb
    clear hb
    go_wp2
    go_ret
    exact ⟨rfl, HB1.out⟩
  | true =>
  have hn70 := HL.out rfl
  go_wp2_with fail
  refine (HM.out w' (Below.refl _ _) (by first | rfl | trivial)).mono ?_
  rintro e w1 ⟨rfl, hb⟩
  have HB1 := Lib.hid hb
  clear hb
  cases MB with
  | false =>
    go_wp2_with fail
    refine (HS.out w1 HB1.out).mono ?_
    rintro e w2 ⟨rfl, hb⟩
    have HB2 := Lib.hid (HB1.out.trans (hb.mono HB1.out.size))
    clear hb
    go_wp2
    go_ret
    exact ⟨rfl, HB2.out⟩
  | true =>
  go_wp2_with fail
  refine (HS.out w1 HB1.out).mono ?_
  rintro e w2 ⟨rfl, hb⟩
  have HB2 := Lib.hid (HB1.out.trans (hb.mono HB1.out.size))
  clear hb
  go_wp2_with fail
  refine (HT.out w2 HB2.out (by first | rfl | trivial)).mono ?_
  rintro e w3 ⟨v, rfl, ho, hb⟩
  rw [HTB.out (by first | rfl | trivial)] at ho
  obtain ⟨p, cap, rfl, hI⟩ := own_ir ho
  have HI := Lib.hid hI
  have HB3 := Lib.hid (HB2.out.trans (hb.mono HB2.out.size))
  have HW3 := Lib.hid (fun (V : World) (hb : Below w3.heap.size w3 V) (t x : Int) => HW.out V (HB3.out.trans (hb.mono HB3.out.size)) (by first | rfl | trivial) t x)
  have HF3 := Lib.hid (fun (V : World) (hb : Below w3.heap.size w3 V) => HF.out.below (HB3.out.trans (hb.mono HB3.out.size)))
  have hTl := HTL.out
  obtain ⟨tl, htl⟩ : ∃ tl, T.length = tl := ⟨_, rfl⟩
  have HTl := Lib.hid htl
  rw [htl] at hTl ⊢
  clear hb ho hI htl
  go_wp2_with fail
  go_loopw [4] (fun q wr => ∃ j : Nat, j ≤ n ∧ q = .int .i64 j ∧ Hid (Below w3.heap.size w3 wr)) (fun q _ => n - (intOf q).toNat)
  case atStart => exact ⟨0, Nat.zero_le _, rfl, Lib.hid (Below.refl _ _)⟩
  case round =>
    obtain ⟨j, hj, rfl, HR⟩ := hrel
    by_cases hlt : j < n
    · have k0 : (0 : Int) ≤ (j : Int) := by omega
      have k1 : (j : Int) < (n : Int) := by omega
      have hjF : j < F.length := by rw [HNN.out]; exact hlt
      go_wp2_with fail
      go_loopw [5, 6] (fun q5 q6 wv => ∃ (wx : World) (k c : Nat), wx = wv ∧ k ≤ tl ∧ c ≤ k ∧ q5 = .int .i64 c ∧ q6 = .int .i64 k ∧ Hid (c = ((T.take k).filter fun t => belowB F t j).length) ∧ Hid (Below w3.heap.size w3 wx)) (fun _ q6 _ => tl - (intOf q6).toNat)
      case atStart => exact ⟨_, 0, 0, rfl, Nat.zero_le _, Nat.le_refl _, rfl, rfl, Lib.hid rfl, HR⟩
      case round =>
        obtain ⟨wx, k, c, rfl, hk, hck, rfl, rfl, HC, HX⟩ := hrel
        by_cases hkl : k < tl
        · have i0 : (0 : Int) ≤ (k : Int) := by omega
          have i1 : (k : Int) < (tl : Int) := by omega
          have hkT : k < T.length := by rw [HTl.out]; exact hkl
          obtain ⟨g, off, rfl, hg, hc⟩ := HI.out k hkT
          have hc' := (HX.out.cell (p := ⟨g, off + k, none⟩) hg).trans hc
          have HFi := Lib.hid (filter_take_succ (f := fun t => belowB F t j) hkT)
          clear hc hg
          have HBl := Lib.hid (HW3.out wx HX.out (T.getD k 0) j)
          generalize hBB : belowB F (T.getD k 0) j = BB at *
          have HBB := Lib.hid hBB
          clear hBB
          generalize T.getD k 0 = x at *
          go_wp2_with fail
          refine HBl.out.mono ?_
          rintro e w4 ⟨rfl, hb⟩
          have HX4 := Lib.hid (HX.out.trans (hb.mono HX.out.size))
          clear hb
          cases BB with
          | false =>
            have HC2 : Hid (c = ((T.take (k + 1)).filter fun t => belowB F t j).length) := Lib.hid (by rw [HFi.out, ← HC.out]; rfl)
            go_wp2
            go_roundw
            case rel => exact ⟨_, k + 1, c, rfl, by omega, by omega, rfl, by go_num, HC2, HX4⟩
            case measure => simp [intOf] <;> omega
          | true =>
            have HC2 : Hid (c + 1 = ((T.take (k + 1)).filter fun t => belowB F t j).length) := Lib.hid (by rw [HFi.out, ← HC.out]; rfl)
            go_wp2
            go_roundw
            case rel => exact ⟨_, k + 1, c + 1, rfl, by omega, by omega, by go_num, by go_num, HC2, HX4⟩
            case measure => simp [intOf] <;> omega
        · obtain rfl : k = tl := by omega
          obtain rfl : c = 1 := by
            have e : T.take k = T := List.take_of_length_le (by rw [HTl.out]; exact Nat.le_refl _)
            rw [HC.out, e]
            exact HT1.out (by first | rfl | trivial) j hjF
          have H1 := Lib.hid (HW3.out wx HX.out j j)
          rw [HT2.out (by first | rfl | trivial) j hjF] at H1
          go_wp2_with fail
          refine H1.out.mono ?_
          rintro e w4 ⟨rfl, hb⟩
          have HX4 := Lib.hid (HX.out.trans (hb.mono HX.out.size))
          clear hb
          have HP := Lib.hid (HPar.out j hjF)
          have HP2 := Lib.hid (fun h => HT3.out (by first | rfl | trivial) j hjF h)
          have HI64 := Lib.hid (HP64.out j hjF)
          rw [HP.out] at HP2
          obtain ⟨hfj, g, off, rfl, hg, hnd⟩ := HF3.out w4 HX4.out j F[j] (List.getElem?_eq_getElem hjF)
          have c4 := hnd.c4
          clear hnd hfj
          generalize F[j].parent = P at *
          by_cases hP : 0 ≤ P
          · obtain ⟨hp1, hp2⟩ := HP2.out hP
            have H2 := Lib.hid (fun V hb => HW3.out V hb j P)
            rw [hp1] at H2
            have H3 := Lib.hid (fun V hb => HW3.out V hb P j)
            rw [hp2] at H3
            clear hp1 hp2
            go_wp2_with fail
            refine (H2.out w4 HX4.out).mono ?_
            rintro e w5 ⟨rfl, hb⟩
            have HX5 := Lib.hid (HX4.out.trans (hb.mono HX4.out.size))
            have c5 := (hb.cell (p := ⟨g, off + j * 6 + 4, none⟩) hg).trans c4
            clear hb c4
            go_wp2_with fail
            refine (H3.out w5 HX5.out).mono ?_
            rintro e w6 ⟨rfl, hb⟩
            have HX6 := Lib.hid (HX5.out.trans (hb.mono HX5.out.size))
            clear hb c5
            go_wp2
            go_roundw
            case rel => exact ⟨j + 1, by omega, by go_num, HX6⟩
            case measure => simp [intOf] <;> omega
          · go_wp2
            go_roundw
            case rel => exact ⟨j + 1, by omega, by go_num, HX4⟩
            case measure => simp [intOf] <;> omega
    · obtain rfl : j = n := by omega
      obtain ⟨l, hl⟩ := HT4.out (by first | rfl | trivial)
      have hT0 : 0 < T.length := by rw [hl]; simp
      obtain ⟨g, off, rfl, hg, hc⟩ := HI.out 0 hT0
      have hc' := (HR.out.cell (p := ⟨g, off + 0, none⟩) hg).trans hc
      rw [hl] at hc'
      have htl0 : (0 : Int) < (tl : Int) := by rw [← HTl.out]; omega
      have HBe := Lib.hid (HB3.out.trans (HR.out.mono HB3.out.size))
      clear hl hg hc
      simp only [List.getD_cons_zero, Nat.add_zero] at hc'
      go_wp2
      go_ret
      exact ⟨rfl, HBe.out⟩

/-- The law, of what came in. -/
theorem tops_true {H : Type} {enc : TypeId × Value → H} {W : World} {base : Nat} {v0 : Value} {d0 : DataW H} {p0 : List MemPlace} (hm : ∃ mx, W.cell? ⟨0, 0, none⟩ = some (.int .i64 mx)) (o0 : Value.okWide Tryd.prog W .any base 23 v0)
    (h0 : DataW.Trod enc Tryd.prog W 0 (fun _ => true) true 23 v0 d0 p0) (l0 : ∀ x ∈ p0, x.block < W.heap.size) :
    Calls Tryd.prog 4 #[v0] W fun e w' => e = .returned (.bool true) ∧ Below W.heap.size W w' := by
  obtain ⟨mx, hm⟩ := hm
  obtain ⟨A, cap, F, rfl, h1, h2, hF⟩ := forest_open o0 h0 l0
  exact tops_law A F cap mx W hF (Nat.le_trans h1 h2) hm
end Go.Proofs.YtbicaombdcnciaaDoor
