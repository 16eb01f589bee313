/-
  The law WalkContent: the content of a node is that of its kids, one behind the other; of a text its own.
-/
import Derived.Test.YtboiekopdnnfbaaDoorG28
import Derived.Test.YtboiekopdnnfbaaDoorG18
namespace Go.Proofs.YtboiekopdnnfbaaDoor
open Go.ChangeShapes Go.WideShapes Go.ChangeAt Go.RowKit
set_option linter.unusedVariables false
set_option linter.unusedSimpArgs false

set_option maxRecDepth 100000 in
set_option maxHeartbeats 8000000 in
theorem content_law (A : Option Addr) (l : List Ops.Po) (c : Nat) (w : World) (hL : Ops.OL w A l) (hl : l.length ≤ 9223372036854775807) (hK : Ops.KT w) :
    Calls Tryd.prog 5 #[.slice A l.length c] w (GivesV (.bool true) w) := by
  have HB0 := Lib.hid (bounded8 A l c w hL hl)
  have HS := Lib.hid (fun (V : World) (hb : Below w.heap.size w V) => shown8 V (hK.below hb))
  have HG := Lib.hid (fun (V : World) (hb : Below w.heap.size w V) (h : l.length ≤ 150) => grown_any A l c V (hL.below hb) (by omega) (hK.below hb))
  have HLE : Hid (bdO l = true → l.length ≤ 150) := Lib.hid (fun h => by
    unfold bdO at h
    rw [Bool.and_eq_true, decide_eq_true_eq] at h
    exact h.2)
  obtain ⟨nl, hnn⟩ : ∃ n, l.length = n := ⟨_, rfl⟩
  rw [hnn] at HB0 HG HLE hl ⊢
  clear hL hK hnn
  generalize bdO l = BL at *
  go_enter Tryd.func5, Tryd.ntmps5
  go_wp2_with fail
  refine HB0.out.mono ?_
  rintro e w' ⟨rfl, hw⟩
  obtain rfl := hw.symm
  cases BL with
  | false =>
    go_wp2_with fail
    refine (HS.out w (Below.refl _ _)).mono ?_
    rintro e w1 ⟨rfl, hb⟩
    have HB := Lib.hid hb
    clear hb
    go_wp2
    go_ret
    exact ⟨rfl, HB.out⟩
  | true =>
  have hln := HLE.out rfl
  go_wp2_with fail
  refine (HS.out w (Below.refl _ _)).mono ?_
  rintro e w1 ⟨rfl, hb⟩
  have HB1 := Lib.hid hb
  clear hb
  go_wp2_with fail
  refine (HG.out w1 HB1.out hln).mono ?_
  rintro e w2 ⟨Af, G, cf, rfl, hF, hm, hlk, hb⟩
  have HB2 := Lib.hid (HB1.out.trans (hb.mono HB1.out.size))
  clear hb hlk HS HG HLE HB0
  have hn60 := (may_sz hm).1
  have HC := Lib.hid (fun (V : World) (i : Nat) (hb : Below w2.heap.size w2 V) (hi : i < G.length) => wcontent_any Af G cf i V (hF.below hb) hm hi)
  have HO := Lib.hid (fun (i : Nat) (hi : i < G.length) => cont_open hm hi)
  have HK := Lib.hid (fun (i : Nat) (hi : i < G.length) (k : Int) (hk : k ∈ kidsOf G i) => kid_node hm hi hk)
  have HKl := Lib.hid (fun (i : Nat) (hi : i < G.length) => may_kids hm G[i] (List.getElem_mem hi))
  have HLn := Lib.hid (fun (i : Nat) (hi : i < G.length) => cont_len hm hi)
  have HN : Hid (∀ (V : World) (i : Nat) (hb : Below w2.heap.size w2 V) (hi : i < G.length), ∃ g off, Af = some ⟨g, off, none⟩ ∧ g < V.heap.size ∧ NodeAt V g (off + i * 6) G[i]) := Lib.hid (fun V i hb hi => by
    obtain ⟨-, g, off, hA, hg, hn⟩ := hF.below hb i G[i] (List.getElem?_eq_getElem hi)
    exact ⟨g, off, hA, hg, hn⟩)
  have h0n := (mayB_parts hm).1
  obtain ⟨n, hn⟩ : ∃ n, G.length = n := ⟨_, rfl⟩
  have HNN := Lib.hid hn
  rw [hn] at HC hn60 h0n ⊢
  clear hF hm hn
  go_wp2_with fail
  go_loopw [4] (fun q wr => ∃ k : Nat, k ≤ n ∧ q = .int .i64 k ∧ Hid (Below w2.heap.size w2 wr)) (fun q _ => n - (intOf q).toNat)
  case atStart => exact ⟨0, Nat.zero_le _, rfl, Lib.hid (Below.refl _ _)⟩
  case round =>
    obtain ⟨k, hk, rfl, HR⟩ := hrel
    by_cases hlt : k < n
    · have k0 : (0 : Int) ≤ (k : Int) := by omega
      have k1 : (k : Int) < (n : Int) := by omega
      have hkl : k < G.length := by rw [HNN.out]; exact hlt
      have HC1 := Lib.hid (HC.out wr k HR.out hlt)
      have HO1 := Lib.hid (HO.out k hkl)
      have HKd := Lib.hid (HK.out k hkl)
      have hkk := HKl.out k hkl
      have HTL : Hid (∀ j, (txt G k ++ ((kidsOf G k).take j).flatMap (fun y => cont G y.toNat)).length ≤ 3600) := Lib.hid (fun j => by
        have h1 := flat_take (fun y : Int => cont G y.toNat) (kidsOf G k) j
        have h2 := HLn.out k hkl
        rw [HO1.out, List.length_append] at h2
        rw [List.length_append]
        omega)
      have HTx := Lib.hid (txt_at hkl)
      have HNk := Lib.hid (fun (V : World) (hb : Below w2.heap.size w2 V) => HN.out V k hb hkl)
      have HIr := Lib.hid (fun (V : World) (g off : Nat) (h : NodeAt V g (off + k * 6) G[k]) => by have := h.ir; rw [← kidsOf_at hkl] at this; exact this)
      go_wp2_with fail
      refine HC1.out.mono ?_
      rintro e w3 ⟨rfl, hb⟩
      have HR3 := Lib.hid (HR.out.trans (hb.mono HR.out.size))
      obtain ⟨g, off, rfl, hg, hnd⟩ := HNk.out w3 HR3.out
      have x0 := hnd.c0
      have x2 := hnd.c2
      have x5 := hnd.c5
      obtain ⟨kl, hkle⟩ : ∃ kl, (kidsOf G k).length = kl := ⟨_, rfl⟩
      have HKL := Lib.hid hkle
      have HK5 : Hid (Value.slice G[k].kA G[k].kids.length G[k].kC = Value.slice G[k].kA kl G[k].kC) := Lib.hid (by rw [← kidsOf_at hkl, hkle])
      rw [HK5.out] at x5
      rw [← kidsOf_at hkl, hkle] at hkk
      clear hnd hb hkle HC1
      generalize G[k] = m at *
      by_cases h2 : m.kind = 2
      · have hq : (m.kind == 2) = true := by simpa using h2
        rw [if_pos h2] at HTx
        clear h2
        obtain ⟨T0, hT0⟩ : ∃ T0, m.text = T0 := ⟨_, rfl⟩
        rw [hT0] at x2 HTx
        clear hT0
        have HT0 : Hid (T0.data.toList = txt G k) := Lib.hid (by rw [HTx.out])
        go_wp2_with fail
        go_loopw [7, 8] (fun q7 q8 wv => ∃ (wx : World) (ts : ByteArray) (j : Nat), wx = wv ∧ j ≤ kl ∧ q7 = .string ts ∧ q8 = .int .i64 j ∧ Hid (ts.data.toList = txt G k ++ ((kidsOf G k).take j).flatMap (fun y => cont G y.toNat)) ∧ Hid (Below w2.heap.size w2 wx)) (fun _ q8 _ => kl - (intOf q8).toNat)
        case atStart => exact ⟨_, T0, 0, rfl, Nat.zero_le _, rfl, rfl, Lib.hid (by rw [HT0.out]; simp), HR3⟩
        case round =>
          obtain ⟨wx, ts, j, rfl, hj, rfl, rfl, HTS, HX⟩ := hrel
          obtain ⟨g2, off2, hA2, hg2, hn2⟩ := HNk.out wx HX.out
          cases hA2
          have y5 := hn2.c5
          have hir := HIr.out wx _ _ hn2
          rw [HK5.out] at y5
          clear hn2
          by_cases hjl : j < kl
          · have j0 : (0 : Int) ≤ (j : Int) := by omega
            have j1 : (j : Int) < (kl : Int) := by omega
            have hjk : j < (kidsOf G k).length := by rw [HKL.out]; exact hjl
            obtain ⟨gk, ok, hAk, hgk, hck⟩ := hir j hjk
            rw [hAk] at y5
            obtain ⟨y, hy, hyl, -⟩ := HKd.out ((kidsOf G k).getD j 0) (by rw [getD_at 0 hjk]; exact List.getElem_mem _)
            have HTk : Hid (((kidsOf G k).take (j + 1)).flatMap (fun y => cont G y.toNat) = ((kidsOf G k).take j).flatMap (fun y => cont G y.toNat) ++ cont G y) := Lib.hid (by
              rw [take_more hjk, List.flatMap_append, ← getD_at 0 hjk, hy]
              simp)
            rw [hy] at hck
            have HCy := Lib.hid (HC.out wx y HX.out (by rw [← HNN.out]; exact hyl))
            have hcl := HLn.out y hyl
            have hts := HTL.out j
            rw [← HTS.out, ← size_list] at hts
            clear hir hy hyl
            generalize cont G y = CY at *
            have hA : ∀ W, (Op.stringOp .add ts ⟨CY.toArray⟩).run Tryd.prog W = .ok (.string (ts ++ ⟨CY.toArray⟩)) W := fun W => run_string_add_sum W _ _ (by show ts.size + CY.toArray.size ≤ _; simp; omega)
            have HTS2 : Hid ((ts ++ ⟨CY.toArray⟩ : ByteArray).data.toList = txt G k ++ ((kidsOf G k).take (j + 1)).flatMap (fun y => cont G y.toNat)) := Lib.hid (by rw [app_list, HTS.out, HTk.out, List.append_assoc])
            clear hts
            go_wp2_with fail
            refine HCy.out.mono ?_
            rintro e w5 ⟨rfl, hb⟩
            have HX5 := Lib.hid (HX.out.trans (hb.mono HX.out.size))
            clear hb
            go_wp2
            go_roundw
            case rel => exact ⟨_, _, j + 1, rfl, by omega, rfl, by go_num, HTS2, HX5⟩
            case measure => simp [intOf] <;> omega
          · obtain rfl : j = kl := by omega
            have et : (kidsOf G k).take j = kidsOf G k := List.take_of_length_le (by rw [HKL.out]; exact Nat.le_refl _)
            rw [et, ← HO1.out] at HTS
            obtain rfl : ts = ⟨(cont G k).toArray⟩ := by
              have := HTS.out
              exact ByteArray.ext (Array.ext' this)
            clear et HTS
            go_wp2
            go_roundw
            case rel => exact ⟨k + 1, by omega, by go_num, HX⟩
            case measure => simp [intOf] <;> omega
      · have hq : (m.kind == 2) = false := by simpa using h2
        rw [if_neg h2] at HTx
        clear h2
        obtain ⟨T0, hT0⟩ : ∃ T0 : ByteArray, ⟨#[]⟩ = T0 := ⟨_, rfl⟩
        have HT0 : Hid (T0.data.toList = txt G k) := Lib.hid (by rw [HTx.out, ← hT0])
        go_wp2_with fail
        go_loopw [7, 8] (fun q7 q8 wv => ∃ (wx : World) (ts : ByteArray) (j : Nat), wx = wv ∧ j ≤ kl ∧ q7 = .string ts ∧ q8 = .int .i64 j ∧ Hid (ts.data.toList = txt G k ++ ((kidsOf G k).take j).flatMap (fun y => cont G y.toNat)) ∧ Hid (Below w2.heap.size w2 wx)) (fun _ q8 _ => kl - (intOf q8).toNat)
        case atStart => exact ⟨_, ⟨#[]⟩, 0, rfl, Nat.zero_le _, rfl, rfl, Lib.hid (by rw [hT0, HT0.out]; simp), HR3⟩
        case round =>
          obtain ⟨wx, ts, j, rfl, hj, rfl, rfl, HTS, HX⟩ := hrel
          obtain ⟨g2, off2, hA2, hg2, hn2⟩ := HNk.out wx HX.out
          cases hA2
          have y5 := hn2.c5
          have hir := HIr.out wx _ _ hn2
          rw [HK5.out] at y5
          clear hn2
          by_cases hjl : j < kl
          · have j0 : (0 : Int) ≤ (j : Int) := by omega
            have j1 : (j : Int) < (kl : Int) := by omega
            have hjk : j < (kidsOf G k).length := by rw [HKL.out]; exact hjl
            obtain ⟨gk, ok, hAk, hgk, hck⟩ := hir j hjk
            rw [hAk] at y5
            obtain ⟨y, hy, hyl, -⟩ := HKd.out ((kidsOf G k).getD j 0) (by rw [getD_at 0 hjk]; exact List.getElem_mem _)
            have HTk : Hid (((kidsOf G k).take (j + 1)).flatMap (fun y => cont G y.toNat) = ((kidsOf G k).take j).flatMap (fun y => cont G y.toNat) ++ cont G y) := Lib.hid (by
              rw [take_more hjk, List.flatMap_append, ← getD_at 0 hjk, hy]
              simp)
            rw [hy] at hck
            have HCy := Lib.hid (HC.out wx y HX.out (by rw [← HNN.out]; exact hyl))
            have hcl := HLn.out y hyl
            have hts := HTL.out j
            rw [← HTS.out, ← size_list] at hts
            clear hir hy hyl
            generalize cont G y = CY at *
            have hA : ∀ W, (Op.stringOp .add ts ⟨CY.toArray⟩).run Tryd.prog W = .ok (.string (ts ++ ⟨CY.toArray⟩)) W := fun W => run_string_add_sum W _ _ (by show ts.size + CY.toArray.size ≤ _; simp; omega)
            have HTS2 : Hid ((ts ++ ⟨CY.toArray⟩ : ByteArray).data.toList = txt G k ++ ((kidsOf G k).take (j + 1)).flatMap (fun y => cont G y.toNat)) := Lib.hid (by rw [app_list, HTS.out, HTk.out, List.append_assoc])
            clear hts
            go_wp2_with fail
            refine HCy.out.mono ?_
            rintro e w5 ⟨rfl, hb⟩
            have HX5 := Lib.hid (HX.out.trans (hb.mono HX.out.size))
            clear hb
            go_wp2
            go_roundw
            case rel => exact ⟨_, _, j + 1, rfl, by omega, rfl, by go_num, HTS2, HX5⟩
            case measure => simp [intOf] <;> omega
          · obtain rfl : j = kl := by omega
            have et : (kidsOf G k).take j = kidsOf G k := List.take_of_length_le (by rw [HKL.out]; exact Nat.le_refl _)
            rw [et, ← HO1.out] at HTS
            obtain rfl : ts = ⟨(cont G k).toArray⟩ := by
              have := HTS.out
              exact ByteArray.ext (Array.ext' this)
            clear et HTS
            go_wp2
            go_roundw
            case rel => exact ⟨k + 1, by omega, by go_num, HX⟩
            case measure => simp [intOf] <;> omega
    · obtain rfl : k = n := by omega
      have hq : decide ((0 : Int) < (k : Int)) = true := by simp; omega
      go_wp2
      go_ret
      exact ⟨rfl, HB2.out.trans (HR.out.mono HB2.out.size)⟩
set_option maxRecDepth 100000 in
/-- The law, of what came in. -/
theorem content_true {H : Type} {enc : TypeId × Value → H} {W : World} {base : Nat} {v0 : Value} {d0 : DataW H} {p0 : List MemPlace} (hK : Ops.KT W) (o0 : Value.okWide Tryd.prog W .any base 22 v0)
    (h0 : DataW.Trod enc Tryd.prog W 0 (fun _ => true) true 22 v0 d0 p0) (l0 : ∀ x ∈ p0, x.block < W.heap.size) :
    Calls Tryd.prog 5 #[v0] W fun e W' => e = .returned (.bool true) ∧ Below W.heap.size W W' := by
  obtain ⟨A, cap, l, rfl, e1, e2, hL, -⟩ := Ops.ol_open o0 h0 l0
  exact content_law A l cap W hL (Nat.le_trans e1 e2) hK
end Go.Proofs.YtboiekopdnnfbaaDoor
