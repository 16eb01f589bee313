/-
  Pack.
-/
import Derived.Test.YthfeonmaajiajaaDoorRecI
import Derived.Test.YthfeonmaajiajaaDoorRecJ
namespace Go.Proofs.YthfeonmaajiajaaDoor
open Go.ChangeShapes Go.WideShapes Go.ChangeAt Go.RowKit
open Rm
set_option linter.unusedVariables false
set_option linter.unusedSimpArgs false

theorem grown_refl (w : World) (r : Option Nat) : w.grownBy w r := ⟨rfl, rfl, rfl, Nat.le_refl _, fun _ _ _ => rfl⟩
set_option linter.unusedSimpArgs false

/-- What an append takes: a row of cells at an address, or nothing. -/
structure Srow (w : World) (A : Option Addr) (m size : Nat) (news : List Value) : Prop where
  len : news.length = m * size
  none_ : A = none → m = 0
  at_ : ∀ ad, A = some ad → ∀ j u, news[j]? = some u → w.cell? (ad.add j) = some u
  one : ∀ u ∈ news, u.oneCell' = true
theorem run_row {base n size bytes : Nat} {t e : TypeId} {v z : Value} {xs news : List Value} {i : TypeInfo} {w : World} {A : Option Addr} {m : Nat} (hu : Tryd.prog.underlying t = some (.slice e)) (hi : Tryd.prog.info? e = some i) (hz : i.zero = some z) (hs : i.size = size) (hb : i.bytes = bytes) (hzs : z.cells.size = size) (h0 : 0 < size)
    (hown : w.ownsRow base e size v n xs) (c : Nat) (hS : Srow w A m size news) (h63 : n + m ≤ maxLen) (hby : (n + m) * bytes ≤ 140737488355328) (hbase : base ≤ w.heap.size) :
    ∃ v' w', (Builtin.append_ #[t, t] t #[v, .slice A m c]).run Tryd.prog w = .ok v' w' ∧ w'.ownsRow base e size v' (n + m) (xs ++ news) ∧ w.grownBy w' v.ownBlock ∧ (v'.ownBlock = v.ownBlock ∨ v'.ownBlock = some w.heap.size) := by
  cases A with
  | none =>
    obtain rfl := hS.none_ rfl
    have hn : news = [] := List.eq_nil_of_length_eq_zero (by rw [hS.len, Nat.zero_mul])
    subst hn
    refine ⟨v, w, ?_, by simpa using hown, grown_refl _ _, .inl rfl⟩
    rcases hown.2 with ⟨rfl, rfl⟩ | ⟨g, cap, cur, rfl, _, _, hnc, _⟩
    · simp [Builtin.append_, run_underlying hu, sizeOf, typeInfo, hi, Builtin.lenOf, Builtin.firstCells]
    · simp [Builtin.append_, run_underlying hu, sizeOf, typeInfo, hi, Builtin.lenOf, Builtin.firstCells, hnc, storeCells]
  | some ad =>
    obtain ⟨v', w', hr, r1, r2, -, r4⟩ := run_append_own_at (P := Tryd.prog) w base t t e i z size bytes hu hi hz hs hb hzs h0 v n xs hown ad m c news hS.len (hS.at_ ad rfl) hS.one h63 hby hbase
    exact ⟨v', w', hr, r1, r2, r4⟩
/-- The same, for the walk. -/
theorem wpList_row {ops : Array Oper} {rest : List Oper} {o : Oper} {a : Act} {w : World} {Q : Exit → Act → World → Prop} (hgd : o.guard = none) (s x : Operand) {t e : TypeId}
    (ho : o.op = .call { callee := .builtin .append, args := #[s, x], argTypes := #[t, t] }) (ht : o.type = t)
    {base n size bytes : Nat} {v z : Value} {xs news : List Value} {i : TypeInfo} {A : Option Addr} {m : Nat} (hu : Tryd.prog.underlying t = some (.slice e)) (hi : Tryd.prog.info? e = some i) (hz : i.zero = some z) (hsz : i.size = size) (hb : i.bytes = bytes) (hzs : z.cells.size = size) (h0 : 0 < size)
    (hs : a.eval s = v) (hown : w.ownsRow base e size v n xs) (c : Nat) (hx : a.eval x = .slice A m c) (hS : Srow w A m size news) (h63 : n + m ≤ maxLen) (hby : (n + m) * bytes ≤ 140737488355328) (hbase : base ≤ w.heap.size)
    (hK : ∀ v' w', w'.ownsRow base e size v' (n + m) (xs ++ news) → w.grownBy w' v.ownBlock → (v'.ownBlock = v.ownBlock ∨ v'.ownBlock = some w.heap.size) → wpList Tryd.prog ops Q rest (a.put o.dst v') w') : wpList Tryd.prog ops Q (o :: rest) a w := by
  refine wpList_plain hgd fun K hK' => ?_
  obtain ⟨v', w', hr, h2, h3, h4⟩ := run_row hu hi hz hsz hb hzs h0 hown c hS h63 hby hbase
  unfold Oper.wp
  simp only [execOp, ho, ht, resolve, invoke, builtin, Sem.run_bind, Sem.run_pure, Result.andThen_ok, List.map_toArray, List.map_cons, List.map_nil, hs, hx, hr]
  exact hK' _ _ (hK v' w' h2 h3 h4)
theorem srow_own {w : World} {b : Nat} {e : TypeId} {A : Option Addr} {m c : Nat} {news : List Value} (h : w.ownsRow b e 1 (.slice A m c) m news) (h1 : ∀ u ∈ news, u.oneCell' = true) : Srow w A m 1 news := by
  refine ⟨h.1, fun e => ?_, fun ad e j u hu => ?_, h1⟩
  · subst e
    rcases h.2 with ⟨_, rfl⟩ | ⟨g, cap, cur, hv, -⟩
    · rfl
    · cases hv
  · subst e
    rcases h.2 with ⟨hv, -⟩ | ⟨g, cap, cur, hv, -⟩
    · cases hv
    · cases hv
      exact h.cells rfl j u hu
theorem own_two {w : World} {a b : Value} {e : TypeId} : (w.alloc (.cells #[a, b] e)).ownsRow w.heap.size e 1 (.slice (some ⟨w.heap.size, 0, none⟩) 2 2) 2 [a, b] :=
  ⟨rfl, .inr ⟨w.heap.size, 2, #[a, b], rfl, Nat.le_refl _, heap_new _ _, Nat.le_refl _, by unfold maxLen; omega, rfl, rfl⟩⟩

/-- What Pack tells. -/
def GivesP (r : Rc) (w : World) (e : Ending) (w' : World) : Prop :=
  (mayB r = false ∧ e = .returned (.tuple #[.slice none 0 0, .int .i64 1]) ∧ Below w.heap.size w w') ∨
  (mayB r = true ∧ ∃ p c, e = .returned (.tuple #[.slice p (pk r).length c, .int .i64 0]) ∧ w'.ownsRow w.heap.size 23 1 (.slice p (pk r).length c) (pk r).length (gvs (pk r)) ∧ Below w.heap.size w w')
theorem P_succ (r : Rc) {k : Nat} (h : k < r.attrs.length) : P r (k + 1) = P r k ++ wds r.attrs[k] := by
  unfold P
  rw [List.take_succ_eq_append_getElem h, List.flatMap_append]
  simp
theorem P_zero (r : Rc) : P r 0 = ([headR r, r.root] ++ lens r.attrs) ++ wds r.name ++ wds r.text := by simp [P]
theorem nw8 {n : Nat} (h : n ≤ 63) : nw n ≤ 8 := by unfold nw; omega
theorem lens_le (a : List Wd) : (lens a).length ≤ 2 := by unfold lens; split <;> simp

set_option maxRecDepth 100000 in
set_option maxHeartbeats 4000000 in
theorem pack_any (r : Rc) (A : Option Addr) (c : Nat) (w : World) (hA : LV w A (svs r.attrs)) (hr : RcB r) (hT : BT w) :
    Calls Tryd.prog 6 #[.agg (rcs r A c)] w (GivesP r w) := by
  obtain ⟨W, hW⟩ : ∃ W, W = w.alloc (.cells (rcs r A c) 27) := ⟨_, rfl⟩
  have HW : Hid (Below w.heap.size w W ∧ W.heap[w.heap.size]? = some (.cells (rcs r A c) 27 (0, 0))) := Lib.hid (by subst hW; exact ⟨(Below.refl _ w).alloc (Nat.le_refl _) _, heap_new _ _⟩)
  have HT : Hid (∀ X, Below w.heap.size w X → BT X) := Lib.hid (fun X h => hT.below h)
  have HA : Hid (∀ X, Below w.heap.size w X → LV X A (svs r.attrs)) := Lib.hid (fun X h => hA.below h)
  have HM := Lib.hid (may_any r A c W (hA.below HW.out.1) hr)
  have hkW : w.heap.size < W.heap.size := lt_of_block HW.out.2
  have HC : Hid (∀ X, Below W.heap.size W X → X.heap[w.heap.size]? = some (.cells (rcs r A c) 27 (0, 0))) := Lib.hid (fun X h => (h.block _ hkW).trans HW.out.2)
  unfold rcs at *
  obtain ⟨x0, x1, x2, x3, x4, x5, x6⟩ := block7 (HC.out W (Below.refl _ _))
  rcases Bool.eq_false_or_eq_true (mayB r) with hm | hm
  · have hM : MayR r := of_decide_eq_true hm
    have HMm := Lib.hid hm
    rw [hm] at HM
    have HH := Lib.hid (fun X h => head_any r A c X (hT.below h) hM)
    obtain ⟨h1, h2, h3, h4, h5, h6, h7, h8, h9, h10, h11⟩ := hM
    have HLn := Lib.hid (fun X h => lengths_any A r.attrs.length c r.attrs X (hA.below h) rfl h8 h9 (hT.below h))
    have HWn := Lib.hid (fun X h => words_any r.name X (by omega) (hT.below h))
    have HWt := Lib.hid (fun X h => words_any r.text X (by omega) (hT.below h))
    have H9 := Lib.hid h9
    obtain ⟨i0, hi, hz0, hz1, hz2⟩ := info_parts info_G
    have HI := Lib.hid (And.intro hi (And.intro hz0 (And.intro hz1 hz2)))
    have hl1 := lens_le r.attrs
    have hl2 : (wds r.name).length ≤ 8 := by rw [wds_length]; exact nw8 (by omega)
    have hl3 : (wds r.text).length ≤ 8 := by rw [wds_length]; exact nw8 (by omega)
    clear hm hA hr hT h1 h2 h3 h4 h5 h6 h7 h9 h10 h11 hi hz0 hz1 hz2
    go_enter Tryd.func6, Tryd.ntmps6
    go_upto_region 1 with fail
    rw [← hW]
    clear hW
    go_wp2_with fail
    unfold rcs at *
    refine HM.out.mono ?_
    rintro e w1 ⟨rfl, hb1⟩
    have HB1 := Lib.hid hb1
    clear hb1 x0 x1 x2 x3 x4 x5 x6
    have hs1 := HB1.out.size
    go_wp2_with fail
    go_region_held3 (fun X => X.cell? ⟨w.heap.size, 0, none⟩ = some (.int .i64 r.kind) ∧ X.cell? ⟨w.heap.size, 1, none⟩ = some (.int .i64 r.par) ∧ X.cell? ⟨w.heap.size, 2, none⟩ = some (.string (str r.name)) ∧ X.cell? ⟨w.heap.size, 3, none⟩ = some (.string (str r.text)) ∧ X.cell? ⟨w.heap.size, 4, none⟩ = some (.slice A r.attrs.length c) ∧ X.cell? ⟨w.heap.size, 5, none⟩ = some (.int .u64 r.root) ∧ X.cell? ⟨w.heap.size, 6, none⟩ = some (.int .i64 r.size))
      (first
        | with_reducible exact block7 (HC.out _ HB1.out.drew)
        | with_reducible exact block7 (HC.out _ HB2.out)
        | with_reducible exact block7 (HC.out _ (HB2.out.alloc HB2.out.size _)))
      (first
        | (go_at_call 17
           refine (HH.out _ (HW.out.1.trans (HB1.out.drew.mono HW.out.1.size))).mono ?_
           rintro e w2 ⟨rfl, hb2⟩
           have HB2 : Hid (Below W.heap.size W w2) := Lib.hid (HB1.out.drew.trans (hb2.mono HB1.out.drew.size))
           clear hb2))
    have hs2 := HB2.out.size
    obtain ⟨w3, hw3⟩ : ∃ X, X = w2.alloc (.cells #[.int .u64 (headR r), .int .u64 r.root] 23) := ⟨_, rfl⟩
    have HB3 : Hid (Below W.heap.size W w3) := Lib.hid (by subst hw3; exact HB2.out.alloc HB2.out.size _)
    have HO3 : Hid (w3.ownsRow W.heap.size 23 1 (.slice (some ⟨w2.heap.size, 0, none⟩) 2 2) 2 (gvs [headR r, r.root])) := Lib.hid (by subst hw3; exact own_drop own_two HB2.out.size)
    have hs3 := HB3.out.size
    rw [← hw3]
    clear hw3
    obtain ⟨x0, x1, x2, x3, x4, x5, x6⟩ := block7 (HC.out w3 HB3.out)
    go_wp2_with fail
    clear x0 x1 x2 x3 x4 x5 x6
    refine (HLn.out _ (HW.out.1.trans (HB3.out.mono HW.out.1.size))).mono ?_
    rintro e v4 ⟨u4, rfl, ho4, hb4⟩
    obtain ⟨q4, d4, rfl, -, -, -⟩ := own_form ho4
    have HV4 : Hid (Below W.heap.size W v4) := Lib.hid (HB3.out.trans (hb4.mono HB3.out.size))
    have HS4 := Lib.hid (srow_own ho4 (gvs_one _))
    have HR4 := Lib.hid (own_below HO3.out hb4)
    have hsv4 := HV4.out.size
    clear ho4 hb4
    go_wp2_with (at_builtin; refine wpList_row rfl _ _ rfl rfl Tryd.underlying28 HI.out.1 HI.out.2.1 HI.out.2.2.1 HI.out.2.2.2 rfl (by decide) rfl HR4.out _ rfl HS4.out (by unfold maxLen; omega) (by omega) (by omega) ?_; intro v' w4 hown' hgrow _; obtain ⟨p4, c4, rfl, -, -, -⟩ := own_form hown'; have HO4 := Lib.hid hown'; have HB4 : Hid (Below W.heap.size W w4) := Lib.hid (HV4.out.grown hgrow HV4.out.size (fun q e => (HR4.out.lt q e).1)); clear hown' hgrow; obtain ⟨x0, x1, x2, x3, x4, x5, x6⟩ := block7 (HC.out w4 HB4.out))
    have hs4 := HB4.out.size
    go_wp2_with fail
    clear x0 x1 x2 x3 x4 x5 x6
    refine (HWn.out _ (HW.out.1.trans (HB4.out.mono HW.out.1.size))).mono ?_
    rintro e v5 ⟨u5, rfl, ho5, hb5⟩
    obtain ⟨q5, d5, rfl, -, -, -⟩ := own_form ho5
    have HV5 : Hid (Below W.heap.size W v5) := Lib.hid (HB4.out.trans (hb5.mono HB4.out.size))
    have HS5 := Lib.hid (srow_own ho5 (gvs_one _))
    have HR5 := Lib.hid (own_below HO4.out hb5)
    have hsv5 := HV5.out.size
    clear ho5 hb5
    go_wp2_with (at_builtin; refine wpList_row rfl _ _ rfl rfl Tryd.underlying28 HI.out.1 HI.out.2.1 HI.out.2.2.1 HI.out.2.2.2 rfl (by decide) rfl HR5.out _ rfl HS5.out (by unfold maxLen; omega) (by omega) (by omega) ?_; intro v' w5 hown' hgrow _; obtain ⟨p5, c5, rfl, -, -, -⟩ := own_form hown'; have HO5 := Lib.hid hown'; have HB5 : Hid (Below W.heap.size W w5) := Lib.hid (HV5.out.grown hgrow HV5.out.size (fun q e => (HR5.out.lt q e).1)); clear hown' hgrow; obtain ⟨x0, x1, x2, x3, x4, x5, x6⟩ := block7 (HC.out w5 HB5.out))
    have hs5 := HB5.out.size
    go_wp2_with fail
    clear x0 x1 x2 x3 x4 x5 x6
    refine (HWt.out _ (HW.out.1.trans (HB5.out.mono HW.out.1.size))).mono ?_
    rintro e v6 ⟨u6, rfl, ho6, hb6⟩
    obtain ⟨q6, d6, rfl, -, -, -⟩ := own_form ho6
    have HV6 : Hid (Below W.heap.size W v6) := Lib.hid (HB5.out.trans (hb6.mono HB5.out.size))
    have HS6 := Lib.hid (srow_own ho6 (gvs_one _))
    have HR6 := Lib.hid (own_below HO5.out hb6)
    have hsv6 := HV6.out.size
    clear ho6 hb6
    go_wp2_with (at_builtin; refine wpList_row rfl _ _ rfl rfl Tryd.underlying28 HI.out.1 HI.out.2.1 HI.out.2.2.1 HI.out.2.2.2 rfl (by decide) rfl HR6.out _ rfl HS6.out (by unfold maxLen; omega) (by omega) (by omega) ?_; intro v' w6 hown' hgrow _; obtain ⟨p6, c6, rfl, -, -, -⟩ := own_form hown'; have HO6 := Lib.hid hown'; have HB6 : Hid (Below W.heap.size W w6) := Lib.hid (HV6.out.grown hgrow HV6.out.size (fun q e => (HR6.out.lt q e).1)); clear hown' hgrow; obtain ⟨x0, x1, x2, x3, x4, x5, x6⟩ := block7 (HC.out w6 HB6.out))
    have hs6 := HB6.out.size
    clear x0 x1 x2 x3 x4 x5 x6
    have HP0 : Hid (2 + (lens r.attrs).length + (wds r.name).length + (wds r.text).length = (P r 0).length ∧ gvs [headR r, r.root] ++ gvs (lens r.attrs) ++ gvs (wds r.name) ++ gvs (wds r.text) = gvs (P r 0)) := Lib.hid ⟨by rw [P_zero]; simp; omega, by rw [P_zero]; simp [gvs]⟩
    have hm20 : 2 + (lens r.attrs).length + (wds r.name).length + (wds r.text).length ≤ 20 := by omega
    have HOP := HO6
    rw [HP0.out.2] at HOP
    have HP00 := Lib.hid HP0.out.1
    generalize 2 + (lens r.attrs).length + (wds r.name).length + (wds r.text).length = m0 at *
    go_loopw [4, 34] (fun b i wr => ∃ (k m : Nat) (p : Option Addr) (cp : Nat), k ≤ r.attrs.length ∧ i = .int .i64 k ∧ b = .slice p m cp ∧ m ≤ 20 + 8 * k ∧ Hid (m = (P r k).length) ∧ Hid (wr.ownsRow W.heap.size 23 1 (.slice p m cp) m (gvs (P r k))) ∧ Hid (Below W.heap.size W wr)) (fun _ i _ => r.attrs.length - (intOf i).toNat)
    case atStart => exact ⟨0, m0, p6, c6, Nat.zero_le _, rfl, rfl, by omega, HP00, HOP, HB6⟩
    case round =>
      obtain ⟨k, m, p, cp, hk, rfl, rfl, hm8, HMm2, HO, HB⟩ := hrel
      have hBs := HB.out.size
      by_cases hlt : k < r.attrs.length
      · obtain ⟨g, o, rfl, hg, hc⟩ := sat (HA.out _ (HW.out.1.trans (HB.out.mono HW.out.1.size))) hlt
        have h60 : r.attrs[k].length ≤ 60 := H9.out _ (List.getElem_mem hlt)
        have HWk := Lib.hid (words_any r.attrs[k] wr (by omega) (HT.out _ (HW.out.1.trans (HB.out.mono HW.out.1.size))))
        have hl8 : (wds r.attrs[k]).length ≤ 8 := by rw [wds_length]; exact nw8 (by omega)
        have HPs := Lib.hid (P_succ r hlt)
        generalize r.attrs[k] = x at *
        go_wp2_with fail
        refine HWk.out.mono ?_
        rintro e v7 ⟨u7, rfl, ho7, hb7⟩
        obtain ⟨q7, d7, rfl, -, -, -⟩ := own_form ho7
        have HV7 : Hid (Below W.heap.size W v7) := Lib.hid (HB.out.trans (hb7.mono hBs))
        have HS7 := Lib.hid (srow_own ho7 (gvs_one _))
        have HR7 := Lib.hid (own_below HO.out hb7)
        have hsv7 := HV7.out.size
        clear ho7 hb7 hc
        go_wp2_with (at_builtin; refine wpList_row rfl _ _ rfl rfl Tryd.underlying28 HI.out.1 HI.out.2.1 HI.out.2.2.1 HI.out.2.2.2 rfl (by decide) rfl HR7.out _ rfl HS7.out (by unfold maxLen; omega) (by omega) (by omega) ?_; intro v' w7 hown' hgrow _; obtain ⟨p7, c7, rfl, -, -, -⟩ := own_form hown'; have HO7 := Lib.hid hown'; have HB7 : Hid (Below W.heap.size W w7) := Lib.hid (HV7.out.grown hgrow HV7.out.size (fun q e => (HR7.out.lt q e).1)); clear hown' hgrow)
        go_roundw
        case rel =>
          refine ⟨k + 1, m + (wds x).length, p7, c7, by omega, by go_num, rfl, by omega, Lib.hid (by rw [HPs.out, List.length_append, HMm2.out]), Lib.hid ?_, HB7⟩
          rw [HPs.out, gvs_append]
          exact HO7.out
        case measure => simp [intOf]; omega
      · obtain rfl : k = r.attrs.length := by omega
        go_wp2
        go_ret2
        refine .inr ⟨HMm.out, p, cp, ?_, ?_, HW.out.1.trans (HB.out.mono HW.out.1.size)⟩
        · have := HMm2.out
          unfold pk
          rw [← this]
          rfl
        · have := HMm2.out
          have h2 := HO.out
          unfold pk
          rw [← this]
          exact own_drop h2 (by omega)
  · have HMm := Lib.hid hm
    rw [hm] at HM
    clear hm hA hr hT
    go_enter Tryd.func6, Tryd.ntmps6
    go_upto_region 1 with fail
    rw [← hW]
    clear hW
    go_wp2_with fail
    unfold rcs at *
    refine HM.out.mono ?_
    rintro e w1 ⟨rfl, hb1⟩
    have HB1 := Lib.hid (HW.out.1.trans (hb1.mono HW.out.1.size))
    clear hb1 x0 x1 x2 x3 x4 x5 x6
    go_wp2
    go_ret2
    exact .inl ⟨HMm.out, rfl, HB1.out⟩
end Go.Proofs.YthfeonmaajiajaaDoor
