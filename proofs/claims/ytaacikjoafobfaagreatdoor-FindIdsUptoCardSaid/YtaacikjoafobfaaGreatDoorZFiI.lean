/-
  slices.DeleteFunc at find.All's closure; All, and First.
-/
import Derived.Test.YtaacikjoafobfaaGreatDoorZFiH
import Derived.Test.YtaacikjoafobfaaGreatDoorZFiB
import Derived.Test.YtaacikjoafobfaaGreatDoorG13
namespace Go.Proofs.YtaacikjoafobfaaGreatDoor.Fi
open Go.ChangeShapes Go.WideShapes Go.ChangeAt Go.RowKit
open Sx (Tr Ms Mr TR MR XR tV r1)
set_option linter.unusedVariables false
set_option linter.unusedSimpArgs false

set_option maxHeartbeats 2000000 in
theorem idx_del (p : Int → Bool) (k0 k1 : Nat) (Ak : Option Addr) (l : List (Int)) (ck : Nat) (w : World) (hI : IR w Ak l) (hl : l.length ≤ 1000)
    (hP : ∀ (k : Nat) (hk : k < l.length) (V : World), Below w.heap.size w V → Calls Tryz.prog 50 #[.int .i64 l[k], .pointer (some ⟨k0, 0, none⟩), .pointer (some ⟨k1, 0, none⟩)] V (GivesV (.bool (p l[k])) V)) :
    Calls Tryz.prog 52 #[.slice Ak l.length ck, .func (.func 50) #[] #[.pointer (some ⟨k0, 0, none⟩), .pointer (some ⟨k1, 0, none⟩)]] w fun e w' => e = .returned (.int .i64 (fst1 p l)) ∧ Below w.heap.size w w' := by
  have HP := Lib.hid hP
  have HI := Lib.hid hI
  clear hP hI
  obtain ⟨n, hnn⟩ : ∃ n, l.length = n := ⟨_, rfl⟩
  have HNN := Lib.hid hnn
  obtain ⟨R, hR⟩ : ∃ R, fst1 p l = R := ⟨_, rfl⟩
  have HR := Lib.hid hR
  rw [hR]
  rw [hnn] at hl ⊢
  clear hnn hR
  go_enter Tryz.func52, Tryz.ntmps52
  go_wp2
  go_loopw [8] (fun q wr => ∃ k : Nat, k ≤ n ∧ q = .int .i64 k ∧ Hid ((l.take k).any p = false) ∧ Hid (Below w.heap.size w wr)) (fun q _ => n - (intOf q).toNat)
  case atStart => exact ⟨0, Nat.zero_le _, rfl, Lib.hid rfl, Lib.hid (Below.refl _ _)⟩
  case round =>
    obtain ⟨k, hk, rfl, HT, HB⟩ := hrel
    by_cases hlt : k < n
    · have k0 : (0 : Int) ≤ (k : Int) := by omega
      have k1 : (k : Int) < (n : Int) := by omega
      have hkl : k < l.length := by rw [HNN.out]; exact hlt
      obtain ⟨ga, oa, rfl, hga, hc⟩ := (HI.out.below HB.out) k hkl
      rw [getD_at 0 hkl] at hc
      have HK := Lib.hid (HP.out k hkl wr HB.out)
      have HT2 := Lib.hid (any_more hkl HT.out)
      have HH : Hid (p l[k] = true → R = (k : Int)) := Lib.hid (fun h => by rw [← HR.out]; exact fst1_hit hkl HT.out h)
      generalize l[k] = y at *

      go_wp2_with fail
      refine HK.out.mono ?_
      rintro e w1 ⟨rfl, hb⟩
      have HB1 := Lib.hid (HB.out.trans (hb.mono HB.out.size))
      clear hb
      generalize HY : p _ = Y at *
      clear HY
      cases Y with
      | true =>
        have HA := Lib.hid (HH.out rfl)
        go_wp2
        go_ret
        exact ⟨by rw [HA.out]; rfl, HB1.out⟩
      | false =>
        go_wp2
        go_roundw
        case rel => exact ⟨k + 1, by omega, by go_num, HT2, HB1⟩
        case measure => simp [intOf] <;> omega
    · obtain rfl : k = n := by omega
      have e : l.take k = l := List.take_of_length_le (by rw [HNN.out]; exact Nat.le_refl _)
      rw [e] at HT
      have HA : Hid (R = -1) := Lib.hid (by rw [← HR.out]; exact fst1_miss HT.out)
      go_wp2
      go_ret
      exact ⟨by rw [HA.out]; rfl, HB.out⟩
set_option maxRecDepth 1000000 in
set_option maxHeartbeats 4000000 in
theorem delete_all (p : Int → Bool) (k0 k1 : Nat) (B : Nat) (l : List Int) (v : Value) (w : World) (ho : w.ownsRow B 3 1 v l.length (ivs l)) (hl : l.length ≤ 1000) (hP : ∀ (y : Int), y ∈ l → ∀ V, w.grownBy V v.ownBlock → Calls Tryz.prog 50 #[.int .i64 y, .pointer (some ⟨k0, 0, none⟩), .pointer (some ⟨k1, 0, none⟩)] V (GivesV (.bool (p y)) V)) :
    Calls Tryz.prog 49 #[v, .func (.func 50) #[] #[.pointer (some ⟨k0, 0, none⟩), .pointer (some ⟨k1, 0, none⟩)]] w fun e w' => ∃ v', e = .returned v' ∧ w'.ownsRow B 3 1 v' (l.filter fun x => !p x).length (ivs (l.filter fun x => !p x)) ∧ w.grownBy w' v.ownBlock ∧ v'.ownBlock = v.ownBlock := by
  obtain ⟨pl, cap, rfl, hnc, hcm, -⟩ := own_form ho
  unfold maxLen at hcm
  have HIX := Lib.hid (idx_del p k0 k1 pl l cap w (own_ir2 ho) hl (fun k hk V hb => hP l[k] (List.getElem_mem hk) V (grown_below (grown_refl w _) hb)))
  rcases Bool.eq_false_or_eq_true (l.any p) with hany | hany
  · obtain ⟨i0, hi0, hf, hp, h0⟩ := fst1_any hany
    obtain ⟨g, rfl⟩ : ∃ g, pl = some ⟨g, 0, none⟩ := by
      rcases ho.2 with ⟨-, h'⟩ | ⟨g, c, cur, hv, -⟩
      · omega
      · cases hv; exact ⟨g, rfl⟩
    have HPP : Hid (∀ (y : Int), y ∈ l → ∀ V, w.grownBy V (some g) → Calls Tryz.prog 50 #[.int .i64 y, .pointer (some ⟨k0, 0, none⟩), .pointer (some ⟨k1, 0, none⟩)] V (GivesV (.bool (p y)) V)) := Lib.hid hP
    rw [hf] at HIX
    have HS : Hid (l.take i0 = (l.take (i0 + 1)).filter (fun x => !p x)) := Lib.hid (filter_start hi0 h0 hp).symm
    obtain ⟨n, hn⟩ : ∃ n, l.length = n := ⟨_, rfl⟩
    have HN := Lib.hid hn
    have HW0 : Hid (w.ownsRow B 3 1 (.slice (some ⟨g, 0, none⟩) n cap) n (ivs l)) := Lib.hid (by rw [hn] at ho; exact ho)
    rw [hn] at hl hnc hi0 HIX ⊢
    obtain ⟨i0', hIi, hz0, hz1, hz2⟩ := info_parts info_int
    have hv3 : ∀ w, (zeroValue 3).run Tryz.prog w = .ok (.int .i64 0) w := fun w => by simp [zeroValue, typeInfo, hIi, hz0]
    have hcl : ∀ (i : Nat) (W1 : World) (L : List Int), i < n → W1.ownsRow B 3 1 (.slice (some ⟨g, 0, none⟩) n cap) n (ivs L) → ∀ ty, (Builtin.clear_ #[34] ty #[.slice (some ⟨g, i, none⟩) (n - i) (cap - i)]).run Tryz.prog W1 = .ok (.tuple #[]) (W1.setCells g i (List.replicate (n - i) (.int .i64 0))) :=
      fun i W1 L hi hO1 ty => Lib.run_clear_slice W1 _ 3 ty _ Tryz.underlying34 hv3 rfl rfl g i (n - i) (cap - i) (by omega) (fun t ht => by rw [own_at_int hO1 (by omega)]; rfl) (fun t ht => hO1.frozenAt _)
    have HCL := Lib.hid hcl
    clear ho hP hcl hIi hz0 hz1 hz2 hv3 hn hany hf hp h0
    go_enter Tryz.func49, Tryz.ntmps49
    go_wp2_with fail
    refine HIX.out.mono ?_
    rintro e w1 ⟨rfl, hb⟩
    have HG1 : Hid (w.grownBy w1 (some g)) := Lib.hid (grown_below (grown_refl w _) hb)
    have HW1 : Hid (w1.ownsRow B 3 1 (.slice (some ⟨g, 0, none⟩) n cap) n (ivs l)) := Lib.hid (own_below HW0.out hb)
    clear hb
    have q0 : ¬ ((i0 : Int) = -1) := by omega
    have q1 : ((i0 : Int) == -1) = false := by simp
    go_wp2
    go_loopw [5, 6] (fun qi qj wr => ∃ (i j : Nat) (L : List Int), qi = .int .i64 i ∧ qj = .int .i64 j ∧ i < j ∧ j ≤ n ∧ Hid (L.length = l.length) ∧ Hid (L.take i = (l.take j).filter (fun x => !p x)) ∧ Hid (L.drop j = l.drop j) ∧ Hid (wr.ownsRow B 3 1 (.slice (some ⟨g, 0, none⟩) n cap) n (ivs L)) ∧ Hid (w.grownBy wr (some g))) (fun _ qj _ => n - (intOf qj).toNat)
    case atStart => exact ⟨i0, i0 + 1, l, rfl, by go_num, by omega, by omega, Lib.hid rfl, HS, Lib.hid rfl, HW1, HG1⟩
    case round =>
      obtain ⟨i, j, L, rfl, rfl, hij, hjn, HL, HT, HD, HW, HG⟩ := hrel
      by_cases hlt : j < n
      · have j0 : (0 : Int) ≤ (j : Int) := by omega
        have j1 : (j : Int) < (n : Int) := by omega
        have i1 : (0 : Int) ≤ (i : Int) := by omega
        have i2 : (i : Int) < (n : Int) := by omega
        have hjl : j < l.length := by rw [HN.out]; exact hlt
        have hcj : wr.cell? ⟨g, j, none⟩ = some (.int .i64 l[j]) := by
          rw [own_at_int HW.out hlt]
          have := drop_at HD.out
          rw [List.getD_eq_getElem?_getD, this, List.getElem?_eq_getElem hjl]; rfl
        have hfz : wr.frozen? ⟨g, i, none⟩ = false := HW.out.frozenAt _
        have HR := Lib.hid (HPP.out l[j] (List.getElem_mem hjl) wr HG.out)
        have HK1 := Lib.hid (fun (hq : (!p l[j]) = true) => del_keep HL.out HT.out hij hjl HD.out hq)
        have HK2 := Lib.hid (fun (hq : (!p l[j]) = false) => del_skip HT.out hjl HD.out hq)
        generalize l[j] = y at *
        go_wp2_with fail
        refine HR.out.mono ?_
        rintro e w2 ⟨rfl, hb⟩
        have HW2 : Hid (w2.ownsRow B 3 1 (.slice (some ⟨g, 0, none⟩) n cap) n (ivs L)) := Lib.hid (own_below HW.out hb)
        have HG2 := Lib.hid (grown_below HG.out hb)
        clear hb hcj hfz
        rcases Bool.eq_false_or_eq_true (p y) with hy | hy
        · have HK := Lib.hid (HK2.out (by rw [hy]; rfl))
          rw [hy]
          go_wp2
          go_roundw
          case rel => exact ⟨i, j + 1, L, rfl, by go_num, by omega, by omega, HL, Lib.hid HK.out.1, Lib.hid HK.out.2, HW2, HG2⟩
          case measure => simp [intOf] <;> omega
        · have HK := Lib.hid (HK1.out (by rw [hy]; rfl))
          rw [hy]
          obtain ⟨old, hco⟩ : ∃ u, w2.cell? ⟨g, i, none⟩ = some u := ⟨_, own_at_int HW2.out (by omega)⟩
          have hfz : w2.frozen? ⟨g, i, none⟩ = false := HW2.out.frozenAt _
          have HW3 : Hid ((w2.setCell ⟨g, i, none⟩ (.int .i64 y)).ownsRow B 3 1 (.slice (some ⟨g, 0, none⟩) n cap) n (ivs (L.set i y))) := Lib.hid (by rw [set_map_ivs]; exact (HW2.out.stored i _).1)
          have HG3 := Lib.hid (HG2.out.trans (HW2.out.stored i (.int .i64 y)).2)
          go_wp2
          go_roundw
          case rel => exact ⟨i + 1, j + 1, L.set i y, by go_num, by go_num, by omega, by omega, Lib.hid (by rw [List.length_set]; exact HL.out), Lib.hid HK.out.1, Lib.hid HK.out.2, HW3, HG3⟩
          case measure => simp [intOf] <;> omega
      · obtain rfl : j = n := by omega
        have hin : i < j := hij
        have HC := Lib.hid (HCL.out i wr L hin HW.out)
        have hcl := HC.out
        have e1 : (i : Int) ≤ (j : Int) := by omega
        have e2 : (0 : Int) ≤ (i : Int) := by omega
        have e3 : ¬ (cap = i) := by omega
        have e4 : i ≤ cap := by omega
        have e5 : i ≤ j := by omega
        have e6 : (i : Int) ≤ (cap : Int) := by omega
        go_wp2
        go_ret
        have hz : (List.replicate (j - i) (Value.int .i64 0)) = ivs (List.replicate (j - i) 0) := by simp [ivs]
        have hT := HT.out
        have hle : (l.take j).filter (fun x => !p x) = l.filter (fun x => !p x) := by rw [← HN.out, List.take_length]
        rw [hle] at hT
        have hLl : L.length = j := by rw [HL.out, HN.out]
        have hlen : (l.filter fun x => !p x).length = i := by rw [← hT, List.length_take]; omega
        refine ⟨_, rfl, ?_, ?_, rfl⟩
        · rw [hlen, hz]
          have h3 := own_shrink (own_over (List.replicate (j - i) 0) i wr _ HW.out) (m := i) (by omega)
          rw [over_eq _ _ _ (by simp; omega), List.append_assoc, List.take_left' (by rw [List.length_take]; omega), hT] at h3
          exact h3
        · exact grown_setCells _ _ _ _ HG.out
  · rw [fst1_miss hany] at HIX
    rw [filter_all hany]
    have HO := Lib.hid ho
    obtain ⟨n, hn⟩ : ∃ n, l.length = n := ⟨_, rfl⟩
    rw [hn] at HO HIX hnc hl ⊢
    clear ho hP hn hany
    go_enter Tryz.func49, Tryz.ntmps49
    go_wp2_with fail
    refine HIX.out.mono ?_
    rintro e w1 ⟨rfl, hb⟩
    have HB := Lib.hid hb
    clear hb
    go_wp2
    go_ret
    exact ⟨_, rfl, own_below HO.out HB.out, grown_below (grown_refl w _) HB.out, rfl⟩
theorem ivN_filter (l : List Nat) (q : Nat → Bool) : ivs ((l.map Int.ofNat).filter fun y => !(!q y.toNat)) = ivN (l.filter q) := by
  unfold ivN
  congr 1
  rw [List.filter_map]
  congr 1
  refine List.filter_congr (fun a _ => ?_)
  simp
theorem len_filter (l : List Nat) (q : Nat → Bool) : ((l.map Int.ofNat).filter fun y => !(!q y.toNat)).length = (l.filter q).length := by
  rw [List.filter_map, List.length_map]
  congr 1
  refine List.filter_congr (fun a _ => ?_)
  simp
set_option maxRecDepth 100000 in
set_option maxHeartbeats 2000000 in
theorem all_any (A : Option Addr) (F : List Mn) (c i : Nat) (B : Option Addr) (x : List Mr) (d : Nat) (w : World) (hF : FR w A F) (hm : mayB F = true) (hi : i < F.length) (hX : Xs w B x) :
    Calls Tryz.prog 16 #[.slice A F.length c, .int .i64 i, .slice B x.length d] w fun e w' => ∃ v, e = .returned v ∧ w'.ownsRow w.heap.size 3 1 v ((ord F i).filter (isP F x)).length (ivN ((ord F i).filter (isP F x))) ∧ Below w.heap.size w w' := by
  have h2 := lay2b_two (c := c) (d := d) hF hX
  obtain ⟨W, hW⟩ : ∃ W, W = lay2b w A F.length c B x.length d := ⟨_, rfl⟩
  have HWb : Hid (Below w.heap.size w W) := Lib.hid (by rw [hW]; exact lay2b_below ..)
  rw [← hW] at h2
  have HO := Lib.hid (worder_any A F c i W (hF.below HWb.out) hm hi)
  have hol := ord_len hm hi
  have hn60 := (may_sz hm).1
  have HD := Lib.hid (fun (V : World) (v : Value) (hb : Below W.heap.size W V) (ho : V.ownsRow W.heap.size 3 1 v (ord F i).length (ivN (ord F i))) =>
    delete_all (fun y => !isP F x y.toNat) w.heap.size (w.heap.size + 1) W.heap.size ((ord F i).map Int.ofNat) v V (by rw [List.length_map]; exact ho) (by rw [List.length_map]; omega) (fun y hy U hU => by
      obtain ⟨k, hk, rfl⟩ := List.mem_map.1 hy
      have hkF := ord_lt hm hi hk
      have hbU : Below W.heap.size W U := hb.grown hU hb.size (fun q e => (ho.lt q e).1)
      exact all1 _ _ A F c k B x d U (h2.below hbU) hm hkF))
  have HR1 := Lib.hid (ivN_filter (ord F i) (isP F x))
  have HR2 := Lib.hid (len_filter (ord F i) (isP F x))
  simp only [HR1.out, HR2.out] at HD
  unfold lay2b at hW
  generalize (ord F i).filter (isP F x) = R at *
  generalize ord F i = os at *
  generalize F.length = n at *
  generalize x.length = nx at *
  clear hF hm hi hX h2 HR1 HR2
  go_enter Tryz.func16, Tryz.ntmps16
  go_wp2_with fail
  rw [← hW]
  clear hW
  refine HO.out.mono ?_
  rintro e w1 ⟨v, rfl, hv, hb⟩
  have HD1 := Lib.hid (HD.out w1 v hb hv)
  have HB1 := Lib.hid hb
  have HV1 := Lib.hid hv
  clear hb hv
  go_wp2_with fail
  refine HD1.out.mono ?_
  rintro e w2 ⟨v', rfl, ho, hg, hbk⟩
  have HO2 := Lib.hid (own_mono ho HWb.out.size)
  have HB2 := Lib.hid (HWb.out.trans ((HB1.out.grown hg HB1.out.size (fun q e => (HV1.out.lt q e).1)).mono HWb.out.size))
  clear ho hg hbk
  go_wp2
  go_ret
  exact ⟨_, rfl, HO2.out, HB2.out⟩
theorem find_at {l : List Nat} {q : Nat → Bool} {k : Nat} (hk : k < l.length) (h0 : (l.take k).any q = false) (h1 : q l[k] = true) : l.find? q = some l[k] := by
  have e : l = l.take k ++ l[k] :: l.drop (k + 1) := by rw [← List.drop_eq_getElem_cons hk, List.take_append_drop]
  have h2 : (l.take k).find? q = none := List.find?_eq_none.2 (fun a ha => by
    have := List.any_eq_false.1 h0 a ha
    simpa using this)
  conv => lhs; rw [e]
  rw [List.find?_append, h2, Option.none_or, List.find?_cons_of_pos h1]
theorem find_case (l : List Nat) (q : Nat → Bool) : (fst1 (fun y => q y.toNat) (l.map Int.ofNat) = -1 ∧ l.find? q = none) ∨ ∃ (k : Nat) (hk : k < l.length), fst1 (fun y => q y.toNat) (l.map Int.ofNat) = (k : Int) ∧ l.find? q = some l[k] := by
  rcases Bool.eq_false_or_eq_true ((l.map Int.ofNat).any (fun y => q y.toNat)) with h | h
  · obtain ⟨i, hi, h1, h2, h3⟩ := fst1_any h
    have hi' : i < l.length := by rwa [List.length_map] at hi
    refine .inr ⟨i, hi', h1, find_at hi' ?_ ?_⟩
    · rw [← List.map_take, List.any_map] at h3
      rw [← h3]
      congr 1
    · rw [List.getElem_map] at h2
      exact h2
  · refine .inl ⟨fst1_miss h, List.find?_eq_none.2 (fun a ha => ?_)⟩
    have := List.any_eq_false.1 h (Int.ofNat a) (List.mem_map_of_mem ha)
    simpa using this
set_option maxRecDepth 100000 in
set_option maxHeartbeats 2000000 in
theorem first_any (A : Option Addr) (F : List Mn) (c i : Nat) (B : Option Addr) (x : List Mr) (d : Nat) (w : World) (hF : FR w A F) (hm : mayB F = true) (hi : i < F.length) (hX : Xs w B x) :
    Calls Tryz.prog 17 #[.slice A F.length c, .int .i64 i, .slice B x.length d] w (GivesV (firstP F x i) w) := by
  have h2 := lay2b_two (c := c) (d := d) hF hX
  obtain ⟨W, hW⟩ : ∃ W, W = lay2b w A F.length c B x.length d := ⟨_, rfl⟩
  have HWb : Hid (Below w.heap.size w W) := Lib.hid (by rw [hW]; exact lay2b_below ..)
  rw [← hW] at h2
  have HO := Lib.hid (worder_any A F c i W (hF.below HWb.out) hm hi)
  have hol := ord_len hm hi
  have hn60 := (may_sz hm).1
  have HD := Lib.hid (fun (V : World) (p : Option Addr) (cap : Nat) (hb : Below W.heap.size W V) (ho : IR V p ((ord F i).map Int.ofNat)) =>
    idx_id (fun y => isP F x y.toNat) w.heap.size (w.heap.size + 1) p ((ord F i).map Int.ofNat) cap V ho (by rw [List.length_map]; omega) (fun k hk U hU => by
      rw [List.getElem_map]
      rw [List.length_map] at hk
      exact first1 _ _ A F c (ord F i)[k] B x d U (h2.below (hb.trans (hU.mono hb.size))) hm (ord_lt hm hi (List.getElem_mem hk))))
  have HC := Lib.hid (find_case (ord F i) (isP F x))
  have HE : Hid (firstP F x i = match (ord F i).find? (isP F x) with | some k => .tuple #[.int .i64 k, .bool true] | none => .tuple #[.int .i64 0, .bool false]) := Lib.hid rfl
  have HL : Hid (((ord F i).map Int.ofNat).length = (ord F i).length) := Lib.hid (by rw [List.length_map])
  rw [HL.out] at HD
  unfold lay2b at hW
  generalize firstP F x i = R at *
  generalize (ord F i).find? (isP F x) = Q at *
  generalize fst1 (fun y => isP F x y.toNat) ((ord F i).map Int.ofNat) = J at *
  generalize ord F i = os at *
  generalize F.length = n at *
  generalize x.length = nx at *
  clear hF hm hi hX h2 HL
  go_enter Tryz.func17, Tryz.ntmps17
  go_wp2_with fail
  rw [← hW]
  clear hW
  refine HO.out.mono ?_
  rintro e w1 ⟨v, rfl, hv, hb⟩
  obtain ⟨p, cap, rfl, hI⟩ := own_irN hv
  have HD1 := Lib.hid (HD.out w1 p cap hb hI)
  have HB1 := Lib.hid (HWb.out.trans (hb.mono HWb.out.size))
  have HI1 := Lib.hid hI
  clear hb hv hI
  obtain ⟨lo, hlo⟩ : ∃ lo, os.length = lo := ⟨_, rfl⟩
  rw [hlo] at HD1 ⊢
  go_wp2_with fail
  refine HD1.out.mono ?_
  rintro e w2 ⟨rfl, hb⟩
  have HB2 := Lib.hid (HB1.out.trans (hb.mono HB1.out.size))
  have HI2 := Lib.hid (HI1.out.below hb)
  clear hb
  rcases HC.out with ⟨rfl, hq⟩ | ⟨k, hk, rfl, hq⟩
  · have HR : Hid (R = .tuple #[.int .i64 0, .bool false]) := Lib.hid (by rw [HE.out, hq])
    clear hq
    go_wp2
    go_ret2
    exact ⟨by rw [HR.out]; rfl, HB2.out⟩
  · have HR : Hid (R = .tuple #[.int .i64 os[k], .bool true]) := Lib.hid (by rw [HE.out, hq])
    obtain ⟨g, off, rfl, hg, c0⟩ := HI2.out k (by rw [List.length_map]; exact hk)
    rw [getD_at 0 (by rw [List.length_map]; exact hk), List.getElem_map] at c0
    have c0' : w2.cell? ⟨g, off + k, none⟩ = some (.int .i64 (os[k] : Nat)) := c0
    have k0 : (0 : Int) ≤ (k : Int) := by omega
    have k1 : (k : Int) < (lo : Int) := by omega
    generalize os[k] = y at *
    clear c0 hq hk
    go_wp2
    go_ret2
    exact ⟨by rw [HR.out]; rfl, HB2.out⟩
end Go.Proofs.YtaacikjoafobfaaGreatDoor.Fi
