/-
  The law WalkOrder: each node is in the order of just those that it is below, once, and behind these; all nodes are in the orders of those that stand alone.
-/
import Derived.Test.YtboiekopdnnfbaaDoorG28
import Derived.Test.YtboiekopdnnfbaaDoorG18
import Derived.Maps.OwnOps
import Derived.Maps.OwnSet
import Derived.Maps.Views
namespace Go.Proofs.YtboiekopdnnfbaaDoor
open Go.ChangeShapes Go.WideShapes Go.ChangeAt Go.RowKit Go.Maps
set_option linter.unusedVariables false
set_option linter.unusedSimpArgs false

theorem own_ir8 {w : World} {base : Nat} {v : Value} {l : List Int} (h : w.ownsRow base 3 1 v l.length (ivs l)) : ∃ p cap, v = .slice p l.length cap ∧ IR w p l := by
  obtain ⟨p, cap, rfl, -⟩ := own_form2 h
  exact ⟨p, cap, rfl, own_ir2 h⟩
def ordI (F : List Mn) (i : Nat) : List Int := (ord F i).map Int.ofNat
theorem ordI_head {F : List Mn} (h : mayB F = true) {i : Nat} (hi : i < F.length) : ∃ l, ordI F i = (i : Int) :: l := by
  unfold ordI
  rw [ord_open h hi, List.map_cons]
  exact ⟨_, rfl⟩
theorem ordI_len {F : List Mn} (h : mayB F = true) {i : Nat} (hi : i < F.length) : (ordI F i).length ≤ 60 := by
  have := ord_len h hi
  have := (may_sz h).1
  unfold ordI
  rw [List.length_map]
  omega
theorem ordI_mem {F : List Mn} (h : mayB F = true) {i : Nat} (hi : i < F.length) {x : Int} (hx : x ∈ ordI F i) : ∃ j : Nat, x = j ∧ j < F.length := by
  obtain ⟨j, hj, rfl⟩ := List.mem_map.1 hx
  exact ⟨j, rfl, ord_lt h hi hj⟩
theorem count_nat (l : List Nat) (k : Nat) : (l.map Int.ofNat).count (k : Int) = l.count k := by
  induction l with
  | nil => rfl
  | cons a l ih =>
    rw [List.map_cons, List.count_cons, List.count_cons, ih]
    congr 1
    by_cases h : a = k
    · subst h; simp
    · have h1 : (a == k) = false := by simpa using h
      have h2 : (Int.ofNat a == (k : Int)) = false := by
        rw [beq_eq_false_iff_ne]
        intro e
        exact h (Int.ofNat.inj e)
      rw [h1, h2]
theorem ordI_count {F : List Mn} (h : mayB F = true) {i k : Nat} (hi : i < F.length) (hk : k < F.length) : (ordI F i).count (k : Int) = if belowB F i k = true then 1 else 0 := by
  unfold ordI
  rw [count_nat, ord_count h hi hk]
/-- How many the orders of those that stand alone have, up to a number. -/
def sumO (F : List Mn) (k : Nat) : Nat := ((topsOf F k).flatMap fun t => ord F t.toNat).length
theorem sumO_succ (F : List Mn) (i : Nat) : sumO F (i + 1) = if par F i = -1 then sumO F i + (ordI F i).length else sumO F i := by
  unfold sumO ordI
  rw [topsOf_succ]
  split
  · rw [List.flatMap_append, List.length_append]
    simp
  · rfl
theorem sumO_le {F : List Mn} (h : mayB F = true) : ∀ k, k ≤ F.length → sumO F k ≤ k * 60 := by
  intro k
  induction k with
  | zero => intro _; simp [sumO, topsOf]
  | succ k ih =>
    intro hk
    rw [sumO_succ]
    have := ih (by omega)
    have := ordI_len h (show k < F.length by omega)
    split <;> omega
open Go.Maps in
theorem lawI8 : Keyed Tryd.prog 3 := int_keyed Tryd.underlying3
theorem zeroI8 (w : World) : (zeroValue 3).run Tryd.prog w = .ok (.int .i64 0) w := by kernel_rfl
open Go.Maps in
theorem keyI8 {h : Int} (h0 : 0 ≤ h) (h1 : h ≤ 9223372036854775807) : keyOf Tryd.prog 3 (.int .i64 h) = some (.int .i64 h) :=
  keyOf_int_mk Tryd.underlying3 (by simp [Lit.wf, IntKind.min, IntKind.max, IntKind.signed, IntKind.bits]; omega)
/-- A map that counts. -/
def Cnt (D : DataW Unit) (l : List Int) : Prop := ∀ k : Int, D.atKey (.int .i64 k) (.lit (.int .i64 0)) = .lit (.int .i64 (l.count k : Nat))
theorem Cnt.none : Cnt (.map []) [] := fun k => rfl
theorem Cnt.put {D : DataW Unit} {l : List Int} {x : Int} (h : Cnt D l) (hm : Go.Maps.IsMap D) : Cnt (D.put (.int .i64 x) (.lit (.int .i64 ((l.count x : Nat) + 1 : Int)))) (l ++ [x]) := fun k => by
  by_cases hk : k = x
  · subst hk
    rw [Go.Maps.atKey_put_same (k := Lit.int .i64 k) hm trivial, List.count_append]
    simp
  · rw [Go.Maps.atKey_put_other (by intro e; injection e with _ e; exact hk e), h k, List.count_append]
    have : [x].count k = 0 := List.count_eq_zero.2 (by simp; exact hk)
    rw [this, Nat.add_zero]
set_option maxRecDepth 100000 in
set_option maxHeartbeats 8000000 in
theorem order_law (A : Option Addr) (l : List Ops.Po) (c : Nat) (w : World) (hL : Ops.OL w A l) (hl : l.length ≤ 9223372036854775807) (hK : Ops.KT w) :
    Calls Tryd.prog 3 #[.slice A l.length c] w (GivesV (.bool true) w) := by
  have HB0 := Lib.hid (bounded8 A l c w hL hl)
  have HS := Lib.hid (fun (V : World) (hb : Below w.heap.size w V) => shown8 V (hK.below hb))
  have HG := Lib.hid (fun (V : World) (hb : Below w.heap.size w V) (h : l.length ≤ 150) => grown_any A l c V (hL.below hb) (by omega) (hK.below hb))
  have HLE : Hid (bdO l = true → l.length ≤ 150) := Lib.hid (fun h => by
    unfold bdO at h
    rw [Bool.and_eq_true, decide_eq_true_eq] at h
    exact h.2)
  obtain ⟨nl, hnn⟩ : ∃ n, l.length = n := ⟨_, rfl⟩
  rw [hnn] at HB0 HG HLE hl ⊢
  clear hL hK hnn
  generalize bdO l = BL at *
  go_enter Tryd.func3, Tryd.ntmps3
  go_wp2_with fail
  refine HB0.out.mono ?_
  rintro e w' ⟨rfl, hw⟩
  obtain rfl := hw.symm
  cases BL with
  | false =>
    go_wp2_with fail
    refine (HS.out w (Below.refl _ _)).mono ?_
    rintro e w1 ⟨rfl, hb⟩
    have HB := Lib.hid hb
    clear hb
    go_wp2
    go_ret
    exact ⟨rfl, HB.out⟩
  | true =>
  have hln := HLE.out rfl
  go_wp2_with fail
  refine (HS.out w (Below.refl _ _)).mono ?_
  rintro e w1 ⟨rfl, hb⟩
  have HB1 := Lib.hid hb
  clear hb
  go_wp2_with fail
  refine (HG.out w1 HB1.out hln).mono ?_
  rintro e w2 ⟨Af, G, cf, rfl, hF, hm, hlk, hb⟩
  have HB2 := Lib.hid (HB1.out.trans (hb.mono HB1.out.size))
  clear hb hlk HS HG HLE HB0
  have hn60 := (may_sz hm).1
  have hsz := may_sz1 hm
  have HW := Lib.hid (fun (V : World) (t x : Int) (hb : Below w2.heap.size w2 V) => below_any Af G cf t x V (hF.below hb) hsz)
  have HOr : Hid (∀ (V : World) (i : Nat) (hb : Below w2.heap.size w2 V) (hi : i < G.length), Calls Tryd.prog 10 #[.slice Af G.length cf, .int .i64 i] V fun e w' => ∃ v, e = .returned (.tuple #[v, .int .i64 0]) ∧ w'.ownsRow V.heap.size 3 1 v (ordI G i).length (ivs (ordI G i)) ∧ Below V.heap.size V w') := Lib.hid (fun V i hb hi => by
    have := worder_any Af G cf i V (hF.below hb) hm hi
    unfold ivN at this
    unfold ordI
    rw [List.length_map]
    exact this)
  have HN : Hid (∀ (V : World) (i : Nat) (hb : Below w2.heap.size w2 V) (hi : i < G.length), ∃ g off, Af = some ⟨g, off, none⟩ ∧ g < V.heap.size ∧ V.cell? ⟨g, off + i * 6 + 4, none⟩ = some (.int .i64 (par G i))) := Lib.hid (fun V i hb hi => by
    obtain ⟨-, g, off, hA, hg, hn⟩ := hF.below hb i G[i] (List.getElem?_eq_getElem hi)
    exact ⟨g, off, hA, hg, by rw [par_at hi]; exact hn.c4⟩)
  have HOC := Lib.hid (fun (i k : Nat) (hi : i < G.length) (hk : k < G.length) => ordI_count hm hi hk)
  have HOH := Lib.hid (fun (i : Nat) (hi : i < G.length) => ordI_head hm hi)
  have HOL := Lib.hid (fun (i : Nat) (hi : i < G.length) => ordI_len hm hi)
  have HOm := Lib.hid (fun (i : Nat) (hi : i < G.length) (x : Int) (hx : x ∈ ordI G i) => ordI_mem hm hi hx)
  have HTA : Hid (sumO G G.length = G.length) := Lib.hid (tops_all hm)
  have HTS := Lib.hid (fun (i : Nat) => sumO_succ G i)
  have HTL := Lib.hid (sumO_le hm)
  have h0n := (mayB_parts hm).1
  have hmm := @run_makeMap Tryd.prog
  obtain ⟨n, hn⟩ : ∃ n, G.length = n := ⟨_, rfl⟩
  have HNN := Lib.hid hn
  rw [hn] at HW HOr HN HOC HOH HOL HOm HTA HTL hn60 h0n ⊢
  clear hF hm hn hsz
  go_wp2_with fail
  go_loopw [4, 5] (fun q4 q5 wv => ∃ (wr : World) (i : Nat), wr = wv ∧ i ≤ n ∧ q4 = .int .i64 (sumO G i : Nat) ∧ q5 = .int .i64 i ∧ Hid (Below w2.heap.size w2 wr)) (fun _ q5 _ => n - (intOf q5).toNat)
  case atStart => exact ⟨_, 0, rfl, Nat.zero_le _, by simp [sumO, topsOf], rfl, Lib.hid (Below.refl _ _)⟩
  case round =>
    obtain ⟨wr, i, rfl, hi, rfl, rfl, HR⟩ := hrel
    by_cases hlt : i < n
    · have k0 : (0 : Int) ≤ (i : Int) := by omega
      have k1 : (i : Int) < (n : Int) := by omega
      have HO1 := Lib.hid (HOr.out wr i HR.out hlt)
      have HOCi := Lib.hid (fun k hk => HOC.out i k hlt hk)
      obtain ⟨tl, htl⟩ := HOH.out i hlt
      have HTLi := HOL.out i hlt
      have HOmi := Lib.hid (HOm.out i hlt)
      have HTSi := Lib.hid (HTS.out i)
      have hTb := HTL.out i hi
      generalize ordI G i = oi at *
      go_wp2_with fail
      refine HO1.out.mono ?_
      rintro e w3 ⟨v, rfl, hv, hb⟩
      obtain ⟨p, cap, rfl, hI⟩ := own_ir8 hv
      have HI := Lib.hid hI
      have HR3 := Lib.hid (HR.out.trans (hb.mono HR.out.size))
      clear hb hv hI HO1
      obtain ⟨g0, off0, rfl, hg0, c0⟩ := HI.out 0 (by rw [htl]; simp)
      rw [Nat.add_zero, htl] at c0
      simp only [List.getD_cons_zero] at c0
      obtain ⟨lo, hlo⟩ : ∃ lo, oi.length = lo := ⟨_, rfl⟩
      have hlo1 : 1 ≤ lo := by rw [← hlo, htl]; simp
      have HLO := Lib.hid hlo
      rw [hlo] at HTLi HTSi ⊢
      have q0 : (lo == 0) = false := by simp; omega
      have q1 : ((lo : Int) == 0) = false := by simp; omega
      have q2 : decide ((0 : Int) < (lo : Int)) = true := by simp; omega
      clear hlo htl
      obtain ⟨g, off, rfl, hg, c4⟩ := HN.out w3 i HR3.out hlt
      obtain ⟨V, hV⟩ : ∃ V, V = w3.alloc (.map #[] 0) := ⟨_, rfl⟩
      have HM0 : Hid (V.ownsMap Tryd.prog 3 (plainElem (H := Unit) Tryd.prog 3) w3.heap.size 0 (.map [])) := Lib.hid (by rw [hV]; exact World.ownsMap_made w3 Tryd.prog 3 (plainElem (H := Unit) Tryd.prog 3))
      have HV : Hid (Below w3.heap.size w3 V) := Lib.hid (by rw [hV]; exact (Below.refl _ _).alloc (Nat.le_refl _) _)
      have HIW := Lib.hid (fun (X : World) (hb : Below w3.heap.size w3 X) => HI.out.below hb)
      obtain ⟨B, hBe⟩ : ∃ B, B = w3.heap.size := ⟨_, rfl⟩
      have HBB := Lib.hid hBe
      rcases Decidable.em (par G i = -1) with hp | hp
      case' inl =>
        have HTQ : Hid (sumO G (i + 1) = sumO G i + lo) := Lib.hid (by rw [HTSi.out, if_pos hp])
        rw [hp] at c4
      case' inr =>
        have HTQ : Hid (sumO G (i + 1) = sumO G i) := Lib.hid (by rw [HTSi.out, if_neg hp])
        have qp : (par G i == -1) = false := by simpa using hp
        generalize par G i = pp at *
      all_goals
        clear hp HTSi
        go_wp2_with fail
        rw [← hV]
        clear hV c0 c4
        rw [← hBe] at HM0 HV HIW ⊢
        clear hBe
        go_loopw [9] (fun q wv => ∃ (X : World) (j : Nat) (D : DataW Unit), X = wv ∧ j ≤ lo ∧ q = .int .i64 j ∧ Hid (Cnt D (oi.take j)) ∧ Hid (X.ownsMap Tryd.prog 3 (plainElem (H := Unit) Tryd.prog 3) B j D) ∧ Hid (Below B w3 X)) (fun q _ => lo - (intOf q).toNat)
        case atStart => exact ⟨_, 0, _, rfl, Nat.zero_le _, rfl, Lib.hid Cnt.none, HM0, HV⟩
        case round =>
          obtain ⟨X, j, D, rfl, hj, rfl, HC, HM, HX⟩ := hrel
          by_cases hjl : j < lo
          · have j0 : (0 : Int) ≤ (j : Int) := by omega
            have j1 : (j : Int) < (lo : Int) := by omega
            have hjo : j < oi.length := by rw [HLO.out]; exact hjl
            obtain ⟨gx, ox, hAx, hgx, c1⟩ := (HIW.out X HX.out) j hjo
            cases hAx
            obtain ⟨y, hy, hyl⟩ := HOmi.out (oi.getD j 0) (by rw [getD_at 0 hjo]; exact List.getElem_mem _)
            have HCt : Hid (oi.take (j + 1) = oi.take j ++ [(y : Int)]) := Lib.hid (by rw [take_more hjo, ← getD_at 0 hjo, hy])
            rw [hy] at c1
            clear hy
            have hcx : (oi.take j).count (y : Int) ≤ j := Nat.le_trans List.count_le_length (by rw [List.length_take]; omega)
            obtain ⟨cx, hcxe⟩ : ∃ cx, (oi.take j).count (y : Int) = cx := ⟨_, rfl⟩
            have HAT : Hid (D.atKey (.int .i64 (y : Int)) (.lit (.int .i64 0)) = .lit (.int .i64 (cx : Nat))) := Lib.hid (by rw [← hcxe]; exact HC.out y)
            have HCN : Hid (Cnt (D.put (.int .i64 (y : Int)) (.lit (.int .i64 ((cx : Nat) + 1 : Int)))) (oi.take (j + 1))) := Lib.hid (by rw [HCt.out, ← hcxe]; exact HC.out.put HM.out.isMap)
            rw [hcxe] at hcx
            clear hcxe
            have y0 : (0 : Int) ≤ (y : Int) := by omega
            have y1 : (y : Int) ≤ 9223372036854775807 := by omega
            have cw : IntKind.i64.wrap ((cx : Int) + 1) = (cx : Int) + 1 := by rw [IntKind.wrap_i64]; omega
            go_wp2_with (first
              | (at_lookup; refine wpList_lookup_own_int _ rfl _ _ 35 rfl 3 3 .i64 lawI8 Tryd.underlying35 Tryd.underlying3 (zeroI8 _) B j _ rfl HM.out _ _ rfl (keyI8 y0 y1) ?_; intro c hat hwc; obtain rfl : c = (cx : Int) := (by have h1 := hat.symm.trans HAT.out; injection h1 with h1; injection h1); clear hat hwc)
              | (at_mapUpdate; refine wpList_mapUpdate_own _ rfl _ _ _ 35 rfl 3 3 lawI8 Tryd.underlying35 _ B j _ rfl HM.out (by unfold maxLen; omega) _ _ _ rfl rfl (keyI8 y0 y1) _ [] (plainElem_int Tryd.underlying3 (by simp [Lit.wf, IntKind.min, IntKind.max, IntKind.signed, IntKind.bits]; omega)) ?_; intro w5 hown5 hgrow5
                 have HM5 : Hid (w5.ownsMap Tryd.prog 3 (plainElem (H := Unit) Tryd.prog 3) B (j + 1) (D.put (.int .i64 (y : Int)) (.lit (.int .i64 ((cx : Nat) + 1 : Int))))) := Lib.hid hown5
                 have HX5 : Hid (Below B w3 w5) := Lib.hid (HX.out.grown hgrow5 (by rw [HBB.out]; exact HX.out.size) (fun r e => by cases e; exact Nat.le_refl _))
                 clear hown5 hgrow5))
            all_goals
              go_roundw
              case rel => exact ⟨_, j + 1, _, rfl, by omega, by go_num, HCN, HM5, HX5⟩
              case measure => simp [intOf] <;> omega
          · obtain rfl : j = lo := by omega
            have et : oi.take j = oi := List.take_of_length_le (by rw [HLO.out]; exact Nat.le_refl _)
            rw [et] at HC
            clear et
            go_wp2_with fail
            go_loopw [10] (fun q wv => ∃ (Y : World) (k : Nat), Y = wv ∧ k ≤ n ∧ q = .int .i64 k ∧ Hid (Y.ownsMap Tryd.prog 3 (plainElem (H := Unit) Tryd.prog 3) B j D) ∧ Hid (Below B w3 Y)) (fun q _ => n - (intOf q).toNat)
            case atStart => exact ⟨_, 0, rfl, Nat.zero_le _, rfl, HM, HX⟩
            case round =>
              obtain ⟨Y, k, rfl, hk, rfl, HMY, HY⟩ := hrel
              have HY2 : Hid (Below w2.heap.size w2 Y) := Lib.hid (HR3.out.trans (HY.out.mono (by rw [HBB.out]; exact HR3.out.size)))
              by_cases hkl : k < n
              · have j0 : (0 : Int) ≤ (k : Int) := by omega
                have j1 : (k : Int) < (n : Int) := by omega
                have y1 : (k : Int) ≤ 9223372036854775807 := by omega
                have HWk := Lib.hid (HW.out Y i k HY2.out)
                have HAT : Hid (D.atKey (.int .i64 (k : Int)) (.lit (.int .i64 0)) = .lit (.int .i64 ((if belowB G i k = true then 1 else 0 : Nat) : Int))) := Lib.hid (by rw [← HOCi.out k hkl]; exact HC.out k)
                generalize belowB G i k = bb at *
                go_wp2_with fail
                refine HWk.out.mono ?_
                rintro e w5 ⟨rfl, hb⟩
                have HM5 := Lib.hid (HMY.out.kept ⟨hb.os, hb.tape, hb.output, hb.size, fun q hq _ => hb.block q hq⟩ (row := none) (by simp))
                have HX5 : Hid (Below B w3 w5) := Lib.hid (HY.out.trans (hb.mono (by rw [HBB.out]; exact HY.out.size)))
                clear hb
                cases bb with
                | true =>
                  go_wp2_with (first
                    | (at_lookup; refine wpList_lookup_own_int _ rfl _ _ 35 rfl 3 3 .i64 lawI8 Tryd.underlying35 Tryd.underlying3 (zeroI8 _) B j _ rfl HM5.out _ _ rfl (keyI8 j0 y1) ?_; intro c hat hwc; obtain rfl : c = 1 := (by have h1 := hat.symm.trans HAT.out; injection h1 with h1; injection h1); clear hat hwc))
                  go_roundw
                  case rel => exact ⟨_, k + 1, rfl, by omega, by go_num, HM5, HX5⟩
                  case measure => simp [intOf] <;> omega
                | false =>
                  go_wp2_with (first
                    | (at_lookup; refine wpList_lookup_own_int _ rfl _ _ 35 rfl 3 3 .i64 lawI8 Tryd.underlying35 Tryd.underlying3 (zeroI8 _) B j _ rfl HM5.out _ _ rfl (keyI8 j0 y1) ?_; intro c hat hwc; obtain rfl : c = 0 := (by have h1 := hat.symm.trans HAT.out; injection h1 with h1; injection h1); clear hat hwc))
                  go_roundw
                  case rel => exact ⟨_, k + 1, rfl, by omega, by go_num, HM5, HX5⟩
                  case measure => simp [intOf] <;> omega
              · obtain rfl : k = n := by omega
                go_wp2
                go_roundw
                case rel => exact ⟨_, i + 1, rfl, by omega, by rw [HTQ.out] <;> go_num, by go_num, HY2⟩
                case measure => simp [intOf] <;> omega
    · obtain rfl : i = n := by omega
      have hq : decide ((0 : Int) < (i : Int)) = true := by simp; omega
      rw [HTA.out]
      go_wp2
      go_ret
      exact ⟨rfl, HB2.out.trans (HR.out.mono HB2.out.size)⟩
set_option maxRecDepth 100000 in
/-- The law, of what came in. -/
theorem order_true {H : Type} {enc : TypeId × Value → H} {W : World} {base : Nat} {v0 : Value} {d0 : DataW H} {p0 : List MemPlace} (hK : Ops.KT W) (o0 : Value.okWide Tryd.prog W .any base 22 v0)
    (h0 : DataW.Trod enc Tryd.prog W 0 (fun _ => true) true 22 v0 d0 p0) (l0 : ∀ x ∈ p0, x.block < W.heap.size) :
    Calls Tryd.prog 3 #[v0] W fun e W' => e = .returned (.bool true) ∧ Below W.heap.size W W' := by
  obtain ⟨A, cap, l, rfl, e1, e2, hL, -⟩ := Ops.ol_open o0 h0 l0
  exact order_law A l cap W hL (Nat.le_trans e1 e2) hK
end Go.Proofs.YtboiekopdnnfbaaDoor
