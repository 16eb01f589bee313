/-
  The law WalkUp: from parent to parent each node comes to one that stands alone, through all that it is below.
-/
import Derived.Test.YtboiekopdnnfbaaDoorG28
import Derived.Test.YtboiekopdnnfbaaDoorG18
namespace Go.Proofs.YtboiekopdnnfbaaDoor
open Go.ChangeShapes Go.WideShapes Go.ChangeAt Go.RowKit
set_option linter.unusedVariables false
set_option linter.unusedSimpArgs false

set_option maxRecDepth 100000 in
set_option maxHeartbeats 8000000 in
theorem up_law (A : Option Addr) (l : List Ops.Po) (c : Nat) (w : World) (hL : Ops.OL w A l) (hl : l.length ≤ 9223372036854775807) (hK : Ops.KT w) :
    Calls Tryd.prog 6 #[.slice A l.length c] w (GivesV (.bool true) w) := by
  have HB0 := Lib.hid (bounded8 A l c w hL hl)
  have HS := Lib.hid (fun (V : World) (hb : Below w.heap.size w V) => shown8 V (hK.below hb))
  have HG := Lib.hid (fun (V : World) (hb : Below w.heap.size w V) (h : l.length ≤ 150) => grown_any A l c V (hL.below hb) (by omega) (hK.below hb))
  have HLE : Hid (bdO l = true → l.length ≤ 150) := Lib.hid (fun h => by
    unfold bdO at h
    rw [Bool.and_eq_true, decide_eq_true_eq] at h
    exact h.2)
  obtain ⟨nl, hnn⟩ : ∃ n, l.length = n := ⟨_, rfl⟩
  rw [hnn] at HB0 HG HLE hl ⊢
  clear hL hK hnn
  generalize bdO l = BL at *
  go_enter Tryd.func6, Tryd.ntmps6
  go_wp2_with fail
  refine HB0.out.mono ?_
  rintro e w' ⟨rfl, hw⟩
  obtain rfl := hw.symm
  cases BL with
  | false =>
    go_wp2_with fail
    refine (HS.out w (Below.refl _ _)).mono ?_
    rintro e w1 ⟨rfl, hb⟩
    have HB := Lib.hid hb
    clear hb
    go_wp2
    go_ret
    exact ⟨rfl, HB.out⟩
  | true =>
  have hln := HLE.out rfl
  go_wp2_with fail
  refine (HS.out w (Below.refl _ _)).mono ?_
  rintro e w1 ⟨rfl, hb⟩
  have HB1 := Lib.hid hb
  clear hb
  go_wp2_with fail
  refine (HG.out w1 HB1.out hln).mono ?_
  rintro e w2 ⟨Af, G, cf, rfl, hF, hm, hlk, hb⟩
  have HB2 := Lib.hid (HB1.out.trans (hb.mono HB1.out.size))
  clear hb hlk HS HG HLE HB0
  have hn60 := (may_sz hm).1
  have hsz := may_sz1 hm
  have HU := Lib.hid (fun (V : World) (x : Int) (hb : Below w2.heap.size w2 V) => wparent_any Af G cf x V (hF.below hb) hm)
  have HW := Lib.hid (fun (V : World) (t x : Int) (hb : Below w2.heap.size w2 V) => below_any Af G cf t x V (hF.below hb) hsz)
  have HBU := Lib.hid (fun (p a i : Nat) (ha : a < G.length) (hi : i < G.length) (hp : par G a = (p : Int)) (hb : belowB G a i = true) => below_up hm ha hi hp hb)
  have HPN := Lib.hid (fun (i : Nat) (hi : i < G.length) (hp : par G i ≠ -1) => par_node hm hi hp)
  have HBS := Lib.hid (fun (i : Nat) (hi : i < G.length) => below_self hm hi)
  have HTP := Lib.hid (fun (i : Nat) (hi : i < G.length) (hp : par G i = -1) => dep_top hm hi hp)
  have HAC := Lib.hid (fun (i : Nat) (hi : i < G.length) => above_count hm hi)
  have HDL := Lib.hid (fun (i : Nat) => dep_le G G.length i)
  have HDP : Hid (∀ i : Nat, i < G.length → 1 ≤ dep G G.length i) := Lib.hid (fun i hi => dep_pos (by omega))
  have HUP : Hid (∀ (i : Nat), i < G.length → upP G i = if par G i = -1 then (0, 3) else (par G i, 0)) := Lib.hid (fun i hi => by unfold upP; rw [if_neg (by rw [isB]; simp; omega), Int.toNat_natCast])
  have HN : Hid (∀ (V : World) (i : Nat) (hb : Below w2.heap.size w2 V) (hi : i < G.length), ∃ g off, Af = some ⟨g, off, none⟩ ∧ g < V.heap.size ∧ V.cell? ⟨g, off + i * 6 + 4, none⟩ = some (.int .i64 (par G i))) := Lib.hid (fun V i hb hi => by
    obtain ⟨-, g, off, hA, hg, hn⟩ := hF.below hb i G[i] (List.getElem?_eq_getElem hi)
    exact ⟨g, off, hA, hg, by rw [par_at hi]; exact hn.c4⟩)
  have h0n := (mayB_parts hm).1
  obtain ⟨n, hn⟩ : ∃ n, G.length = n := ⟨_, rfl⟩
  rw [hn] at HU HW HBU HPN HBS HTP HAC HDL HDP HUP HN hn60 h0n ⊢
  clear hF hm hn hsz
  go_wp2_with fail
  go_loopw [4] (fun q wr => ∃ k : Nat, k ≤ n ∧ q = .int .i64 k ∧ Hid (Below w2.heap.size w2 wr)) (fun q _ => n - (intOf q).toNat)
  case atStart => exact ⟨0, Nat.zero_le _, rfl, Lib.hid (Below.refl _ _)⟩
  case round =>
    obtain ⟨i, hi, rfl, HR⟩ := hrel
    by_cases hlt : i < n
    · have k0 : (0 : Int) ≤ (i : Int) := by omega
      have k1 : (i : Int) < (n : Int) := by omega
      have hDi := HDL.out i
      have HACi := Lib.hid (HAC.out i hlt)
      obtain ⟨D, hD⟩ : ∃ D, dep G n i = D := ⟨_, rfl⟩
      have HD := Lib.hid hD
      rw [hD] at hDi HACi
      clear hD
      go_wp2_with fail
      go_loopw [5, 6] (fun q5 q6 wv => ∃ (wx : World) (a m : Nat), wx = wv ∧ a < n ∧ q5 = .int .i64 a ∧ q6 = .int .i64 m ∧ Hid (belowB G a i = true) ∧ Hid (m + dep G n a = D) ∧ Hid (Below w2.heap.size w2 wx)) (fun _ q6 _ => 200 - (intOf q6).toNat)
      case atStart => exact ⟨_, i, 0, rfl, hlt, rfl, rfl, Lib.hid (HBS.out i hlt), Lib.hid (by rw [HD.out]; omega), HR⟩
      case round =>
        obtain ⟨wx, a, m, rfl, ha, rfl, rfl, HBa, HDa, HX⟩ := hrel
        have hda := HDP.out a ha
        have hm100 : m < 100 := by have := HDa.out; omega
        have hq : decide ((m : Int) < 100) = true := by simp; omega
        have hUa := HU.out wx a HX.out
        rw [HUP.out a ha] at hUa
        by_cases hp : par G a = -1
        · rw [if_pos hp] at hUa
          have HUa := Lib.hid hUa
          have hDm : m + 1 = D := by have := HDa.out; rw [HTP.out a ha hp] at this; exact this
          have HNa := Lib.hid (fun (V : World) (hb : Below w2.heap.size w2 V) => by have := HN.out V a hb ha; rw [hp] at this; exact this)
          clear hUa hp hda
          go_wp2_with fail
          refine HUa.out.mono ?_
          rintro e w3 ⟨rfl, hb⟩
          have HX3 := Lib.hid (HX.out.trans (hb.mono HX.out.size))
          clear hb
          go_wp2_with fail
          go_loopw [9, 10] (fun q9 q10 wv => ∃ (wy : World) (v k : Nat), wy = wv ∧ k ≤ n ∧ q9 = .int .i64 v ∧ q10 = .int .i64 k ∧ v ≤ k ∧ Hid (v = ((List.range k).filter fun t : Nat => belowB G t i).length) ∧ Hid (Below w2.heap.size w2 wy)) (fun _ q10 _ => n - (intOf q10).toNat)
          case atStart => exact ⟨_, 0, 0, rfl, Nat.zero_le _, rfl, rfl, Nat.le_refl _, Lib.hid rfl, HX3⟩
          case round =>
            obtain ⟨wy, v, k, rfl, hk, rfl, rfl, hvk, HV, HY⟩ := hrel
            by_cases hkl : k < n
            · have j0 : (0 : Int) ≤ (k : Int) := by omega
              have j1 : (k : Int) < (n : Int) := by omega
              have HWk := Lib.hid (HW.out wy k i HY.out)
              have HV2 : Hid (((List.range (k + 1)).filter fun t : Nat => belowB G t i).length = v + (if belowB G k i = true then 1 else 0)) := Lib.hid (by
                rw [List.range_succ, List.filter_append, List.length_append, ← HV.out]
                by_cases h : belowB G k i = true <;> simp [h])
              generalize belowB G k i = bb at *
              go_wp2_with fail
              refine HWk.out.mono ?_
              rintro e w5 ⟨rfl, hb⟩
              have HY5 := Lib.hid (HY.out.trans (hb.mono HY.out.size))
              clear hb
              cases bb with
              | true =>
                have HV3 : Hid (v + 1 = ((List.range (k + 1)).filter fun t : Nat => belowB G t i).length) := Lib.hid (by rw [HV2.out]; simp)
                go_wp2
                go_roundw
                case rel => exact ⟨_, v + 1, k + 1, rfl, by omega, by go_num, by go_num, by omega, HV3, HY5⟩
                case measure => simp [intOf] <;> omega
              | false =>
                have HV3 : Hid (v = ((List.range (k + 1)).filter fun t : Nat => belowB G t i).length) := Lib.hid (by rw [HV2.out]; simp)
                go_wp2
                go_roundw
                case rel => exact ⟨_, v, k + 1, rfl, by omega, rfl, by go_num, by omega, HV3, HY5⟩
                case measure => simp [intOf] <;> omega
            · obtain rfl : k = n := by omega
              obtain rfl : v = m + 1 := by have := HACi.out; have := HV.out; omega
              obtain ⟨g, off, rfl, hg, c4⟩ := HNa.out wy HY.out
              have a0 : (0 : Int) ≤ (a : Int) := by omega
              have a1 : (a : Int) < (k : Int) := by omega
              have hww : IntKind.i64.wrap ((m : Int) + 1) = ((m + 1 : Nat) : Int) := by rw [IntKind.wrap_i64]; omega
              go_wp2
              go_roundw
              case rel => exact ⟨i + 1, by omega, by go_num, HY⟩
              case measure => simp [intOf] <;> omega
        · rw [if_neg hp] at hUa
          obtain ⟨p, hpe, hpl, hdp⟩ := HPN.out a ha hp
          have HBp := HBU.out p a i ha hlt hpe HBa.out
          rw [hpe] at hUa
          have HUa := Lib.hid hUa
          have HDp : Hid (m + 1 + dep G n p = D) := Lib.hid (by have := HDa.out; omega)
          have HBp2 := Lib.hid HBp.2.1
          have HWp := Lib.hid (fun (V : World) (hb : Below w2.heap.size w2 V) => by have := HW.out V p i hb; rw [HBp2.out] at this; exact this)
          clear hUa hp hpe HBp hda
          go_wp2_with fail
          refine HUa.out.mono ?_
          rintro e w3 ⟨rfl, hb⟩
          have HX3 := Lib.hid (HX.out.trans (hb.mono HX.out.size))
          clear hb
          go_wp2_with fail
          refine (HWp.out w3 HX3.out).mono ?_
          rintro e w4 ⟨rfl, hb⟩
          have HX4 := Lib.hid (HX3.out.trans (hb.mono HX3.out.size))
          clear hb
          go_wp2
          go_roundw
          case rel => exact ⟨_, p, m + 1, rfl, hpl, rfl, by go_num, HBp2, HDp, HX4⟩
          case measure => simp [intOf] <;> omega
    · obtain rfl : i = n := by omega
      have hq : decide ((0 : Int) < (i : Int)) = true := by simp; omega
      go_wp2
      go_ret
      exact ⟨rfl, HB2.out.trans (HR.out.mono HB2.out.size)⟩
set_option maxRecDepth 100000 in
/-- The law, of what came in. -/
theorem up_true {H : Type} {enc : TypeId × Value → H} {W : World} {base : Nat} {v0 : Value} {d0 : DataW H} {p0 : List MemPlace} (hK : Ops.KT W) (o0 : Value.okWide Tryd.prog W .any base 22 v0)
    (h0 : DataW.Trod enc Tryd.prog W 0 (fun _ => true) true 22 v0 d0 p0) (l0 : ∀ x ∈ p0, x.block < W.heap.size) :
    Calls Tryd.prog 6 #[v0] W fun e W' => e = .returned (.bool true) ∧ Below W.heap.size W W' := by
  obtain ⟨A, cap, l, rfl, e1, e2, hL, -⟩ := Ops.ol_open o0 h0 l0
  exact up_law A l cap W hL (Nat.le_trans e1 e2) hK
end Go.Proofs.YtboiekopdnnfbaaDoor
