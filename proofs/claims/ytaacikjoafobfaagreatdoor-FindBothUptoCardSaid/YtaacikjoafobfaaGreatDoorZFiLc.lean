/-
  The law FindBoth: what a selector of two finds is what both find, in the order of the document.
-/
import Derived.Test.YtaacikjoafobfaaGreatDoorZFiS
import Derived.Test.YtaacikjoafobfaaGreatDoorZFiO
import Derived.Test.YtaacikjoafobfaaGreatDoorG18
import Derived.Test.YtaacikjoafobfaaGreatDoorG13
import Derived.Laws.AppendOwnNone
namespace Go.Proofs.YtaacikjoafobfaaGreatDoor.Fi
open Go.ChangeShapes Go.WideShapes Go.ChangeAt Go.RowKit
open Sx (Tr Ms Mr TR MR XR tV r1 ls te stp rws cx cl cx_iff rcells)
set_option linter.unusedVariables false
set_option linter.unusedSimpArgs false

theorem u8_wfc {n : Int} (h : (Lit.int .u8 n).wf = true) : 0 ≤ n ∧ n ≤ 255 := by
  have h : IntKind.u8.min ≤ n ∧ n ≤ IntKind.u8.max := by simpa [Lit.wf] using h
  exact h
/-- A selector that came in. -/
structure Xb (w : World) (P : Option Addr) (a : List Mr) (c : Nat) : Prop where
  xr : XR w P a
  fit : Sx.So.SelFit a
  cap : a.length ≤ c
  big : a.length ≤ 1048576
  no : P = none → c = 0
theorem Xb.below {w w' : World} {P : Option Addr} {a : List Mr} {c : Nat} (h : Xb w P a c) (hb : Below w.heap.size w w') : Xb w' P a c := ⟨h.xr.below hb, h.fit, h.cap, h.big, h.no⟩
theorem Xb.xs {w : World} {P : Option Addr} {a : List Mr} {c : Nat} (h : Xb w P a c) (hs : smallS a) : Xs w P a :=
  ⟨h.xr, h.fit.1, fun m hm => ⟨fun s hs' => ⟨((h.fit.2 m hm).1.2 s hs').1, fun t ht => Nat.le_trans (hs m hm s hs' t ht).1 (by decide)⟩, (h.fit.2 m hm).2⟩⟩
theorem add_plainC (g i j : Nat) : (⟨g, i, none⟩ : Addr).add j = ⟨g, i + j, none⟩ := by unfold Addr.add; split <;> simp_all
theorem Xb.cells {w : World} {g off c : Nat} {a : List Mr} (h : Xb w (some ⟨g, off, none⟩) a c) : ∀ j u, (rcells a)[j]? = some u → w.cell? ((⟨g, off, none⟩ : Addr).add j) = some u := by
  intro j u hu
  rw [add_plainC]
  unfold rcells at hu
  rw [List.getElem?_map] at hu
  obtain ⟨m, hm, rfl⟩ := Option.map_eq_some_iff.1 hu
  obtain ⟨g', off', hA, hg, h1, -⟩ := h.xr j m hm
  cases hA
  exact h1
theorem Xb.addr {w : World} {P : Option Addr} {a : List Mr} {c : Nat} (h : Xb w P a c) : (P = none ∧ a = [] ∧ c = 0) ∨ (a = []) ∨ ∃ g off, P = some ⟨g, off, none⟩ := by
  cases a with
  | nil => exact .inr (.inl rfl)
  | cons m a =>
    obtain ⟨g, off, hA, -⟩ := h.xr 0 m rfl
    exact .inr (.inr ⟨g, off, hA⟩)
theorem xr_rows {V : World} {base : Nat} {v : Value} {x : List Mr} (h : V.ownsRow base 46 1 v x.length (rcells x)) (hm : ∀ m ∈ x, MR V m.1.1 m.2) : ∃ A c, v = .slice A x.length c ∧ XR V A x := by
  obtain ⟨A, c, rfl, -⟩ := own_form2 h
  refine ⟨A, c, rfl, fun i m hi => ?_⟩
  have hlt : i < x.length := (List.getElem?_eq_some_iff.1 hi).1
  rcases h.2 with ⟨-, h'⟩ | ⟨g, cap, cur, hv, hb, hg, h1, h2, -⟩
  · omega
  · cases hv
    have e1 : (rcells x)[i]? = some (r1 m) := by simp [rcells, hi]
    refine ⟨g, 0, rfl, lt_of_block hg, ?_, hm m (List.mem_of_getElem? hi)⟩
    have := h.cells rfl _ _ e1
    rw [← this, add_plainC]
theorem XR.mr {V : World} {A : Option Addr} {x : List Mr} (h : XR V A x) {k : Nat} (hk : k < x.length) : MR V x[k].1.1 x[k].2 := by
  obtain ⟨g, off, -, -, -, hm⟩ := h k x[k] (List.getElem?_eq_getElem hk)
  exact hm
theorem rcells_one (a : List Mr) : ∀ u ∈ rcells a, u.oneCell' = true := fun u hu => by
  obtain ⟨m, -, rfl⟩ := List.mem_map.1 hu
  rfl
theorem info_rw : (Tryz.prog.info? 46).map (fun i => (i.zero, i.size, i.bytes)) = some (some (.slice none 0 0), 1, 24) := by kernel_rfl
theorem rcells_len (a : List Mr) : (rcells a).length = a.length := by simp [rcells]
/-- append of a selector that came in, to an own row of rows. -/
theorem append_xb {w : World} {ops : Array Oper} {rest : List Oper} {o : Oper} {act : Act} {Q : Exit → Act → World → Prop} (hgd : o.guard = none) (s x : Operand)
    (ho : o.op = .call { callee := .builtin .append, args := #[s, x], argTypes := #[24, 24] }) (base : Nat) (v : Value) (k : Nat) (xs : List Value) (hs : act.eval s = v) (hown : w.ownsRow base 46 1 v k xs)
    (A : Option Addr) (l : List Mr) (n c : Nat) (hn : l.length = n) (hx : act.eval x = .slice A n c) (hA : Xb w A l c) (hk : k ≤ 1048576) (hbase : base ≤ w.heap.size)
    (h : ∀ v' w', w'.ownsRow base 46 1 v' (k + n) (xs ++ rcells l) → Below base w w' → wpList Tryz.prog ops Q rest (act.put o.dst v') w') : wpList Tryz.prog ops Q (o :: rest) act w := by
  obtain ⟨i0, hI1, hI2, hI3, hI4⟩ := info_parts info_rw
  subst hn
  cases A with
  | none =>
    obtain rfl := hA.no rfl
    obtain rfl : l = [] := List.length_eq_zero_iff.1 (Nat.le_zero.1 hA.cap)
    refine wpList_append_own_none hgd s x 24 ho base 46 i0 1 Tryz.underlying24 hI1 v k xs hs hown hx ?_
    exact h v w (by simpa [rcells] using hown) (Below.refl _ _)
  | some ad =>
    have hbig := hA.big
    refine wpList_append_own_at w hgd s x 24 ho base 46 i0 _ 1 24 Tryz.underlying24 hI1 hI2 hI3 hI4 rfl (by decide) v k xs hs hown ad l.length c (rcells l) hx (by rw [rcells_len]; omega) ?_ (rcells_one l) (by unfold maxLen; omega) (by omega) hbase ?_
    · intro j u hu
      cases l with
      | nil => simp [rcells] at hu
      | cons p l =>
        obtain ⟨g, off, hA', -⟩ := hA.xr 0 p rfl
        cases hA'
        exact hA.cells j u hu
    · intro v' w' hown' hgrow _ hat
      exact h v' w' hown' ((Below.refl _ _).grown hgrow hbase (fun q e => (hown.lt q e).1))
theorem filt_at {p : Nat → Bool} {l : List Nat} {i : Nat} (h : i < l.length) (hp : p l[i] = true) : ∃ hk : ((l.take i).filter p).length < (l.filter p).length, (l.filter p)[((l.take i).filter p).length] = l[i] := by
  have e : l.filter p = (l.take i).filter p ++ l[i] :: (l.drop (i + 1)).filter p := by
    conv => lhs; rw [← List.take_append_drop i l, List.drop_eq_getElem_cons h, List.filter_append, List.filter_cons_of_pos hp]
  have hk : ((l.take i).filter p).length < (l.filter p).length := by rw [e, List.length_append, List.length_cons]; omega
  refine ⟨hk, ?_⟩
  have : (l.filter p)[((l.take i).filter p).length]? = some l[i] := by
    rw [e, List.getElem?_append_right (Nat.le_refl _), Nat.sub_self]
    rfl
  rw [List.getElem?_eq_getElem hk] at this
  exact Option.some.inj this
theorem isP_app (F : List Mn) (a b : List Mr) (i : Nat) : isP F (a ++ b) i = (isP F a i || isP F b i) := by
  unfold isP
  rw [List.any_append]
set_option maxRecDepth 100000 in
set_option maxHeartbeats 8000000 in
theorem both_law (A : Option Addr) (l : List Ops.Po) (c : Nat) (P : Option Addr) (a : List Mr) (pc : Nat) (Q : Option Addr) (b : List Mr) (qc : Nat) (top : Int) (hb0 : 0 ≤ top) (hb1 : top ≤ 255) (w : World) (hL : Ops.OL w A l) (hl : l.length ≤ 9223372036854775807) (hP : Xb w P a pc) (hQ : Xb w Q b qc) (hK : Ops.KT w) :
    Calls Tryz.prog 5 #[.slice A l.length c, .slice P a.length pc, .slice Q b.length qc, .int .u8 top] w (GivesV (.bool true) w) := by
  have HB0 := Lib.hid (bounded10 A l c w hL hl)
  have HS := Lib.hid (fun (V : World) (hb : Below w.heap.size w V) => shown10 V (hK.below hb))
  have HG := Lib.hid (fun (V : World) (hb : Below w.heap.size w V) (h : l.length ≤ 150) => grown10 A l c V (hL.below hb) (by omega) (hK.below hb))
  have HLE : Hid (bdO l = true → l.length ≤ 150) := Lib.hid (fun h => by
    unfold bdO at h
    rw [Bool.and_eq_true, decide_eq_true_eq] at h
    exact h.2)
  have HFa := Lib.hid (few_any P a pc w hP.xr hP.fit)
  have HFb := Lib.hid (fun (V : World) (hb : Below w.heap.size w V) => few_any Q b qc V (hQ.below hb).xr (hQ.below hb).fit)
  have HP := Lib.hid (fun (V : World) (hb : Below w.heap.size w V) => hP.below hb)
  have HQ := Lib.hid (fun (V : World) (hb : Below w.heap.size w V) => hQ.below hb)
  have hza := hP.big
  have hzb := hQ.big
  obtain ⟨nl, hnn⟩ : ∃ n, l.length = n := ⟨_, rfl⟩
  rw [hnn] at HB0 HG HLE hl ⊢
  obtain ⟨na, hna⟩ : ∃ na, a.length = na := ⟨_, rfl⟩
  have HNA := Lib.hid hna
  obtain ⟨nb, hnb⟩ : ∃ nb, b.length = nb := ⟨_, rfl⟩
  have HNB := Lib.hid hnb
  rw [hna] at HFa hza ⊢
  rw [hnb] at HFb hzb ⊢
  clear hL hK hnn hP hQ hna hnb
  generalize bdO l = BL at *
  go_enter Tryz.func5, Tryz.ntmps5
  go_wp2_with fail
  refine HB0.out.mono ?_
  rintro e w' ⟨rfl, hw⟩
  obtain rfl := hw.symm
  cases BL with
  | false =>
    go_wp2_with fail
    refine (HS.out _ (Below.refl _ _)).mono ?_
    rintro e w1 ⟨rfl, hb⟩
    have HB := Lib.hid hb
    clear hb
    go_wp2
    go_ret
    exact ⟨rfl, HB.out⟩
  | true =>
  have hln := HLE.out rfl
  go_wp2_with fail
  refine HFa.out.mono ?_
  rintro e w1 ⟨⟨ba, rfl, hsm⟩, hb⟩
  have HB1 := Lib.hid hb
  have HSa := Lib.hid hsm
  clear hb hsm
  by_cases hb1' : ba = true
  case neg =>
    obtain rfl : ba = false := by simpa using hb1'
    clear hb1'
    go_wp2_with fail
    refine (HS.out _ HB1.out).mono ?_
    rintro e w4 ⟨rfl, hb⟩
    have HB := Lib.hid (HB1.out.trans (hb.mono HB1.out.size))
    clear hb
    go_wp2
    go_ret
    exact ⟨rfl, HB.out⟩
  subst hb1'
  go_wp2_with fail
  refine (HFb.out w1 HB1.out).mono ?_
  rintro e w2 ⟨⟨bb, rfl, hsm⟩, hb⟩
  have HB2 := Lib.hid (HB1.out.trans (hb.mono HB1.out.size))
  have HSb := Lib.hid hsm
  clear hb hsm
  by_cases hb2' : bb = true
  case neg =>
    obtain rfl : bb = false := by simpa using hb2'
    clear hb2'
    go_wp2_with fail
    refine (HS.out _ HB2.out).mono ?_
    rintro e w4 ⟨rfl, hb⟩
    have HB := Lib.hid (HB2.out.trans (hb.mono HB2.out.size))
    clear hb
    go_wp2
    go_ret
    exact ⟨rfl, HB.out⟩
  subst hb2'
  go_wp2_with fail
  refine (HS.out _ HB2.out).mono ?_
  rintro e w4 ⟨rfl, hb⟩
  have HB4 := Lib.hid (HB2.out.trans (hb.mono HB2.out.size))
  clear hb
  go_wp2_with fail
  refine (HG.out w4 HB4.out hln).mono ?_
  rintro e w5 ⟨Af, G, cf, rfl, hF, hm, hlk, hb⟩
  have HB5 := Lib.hid (HB4.out.trans (hb.mono HB4.out.size))
  clear hb hlk HS HG HLE HB0 HFa HFb
  have hn60 := (may_sz hm).1
  have h0n := (mayB_parts hm).1
  have htm : top.tmod G.length = top % G.length := Int.tmod_eq_emod_of_nonneg hb0
  obtain ⟨t, hte⟩ : ∃ t : Nat, top.tmod G.length = t := ⟨(top.tmod G.length).toNat, by have := Int.emod_nonneg top (show (G.length : Int) ≠ 0 by omega); omega⟩
  have htn : t < G.length := by have := Int.emod_lt_of_pos top (show (0 : Int) < G.length by omega); omega
  have HOr : Hid (∀ (V : World) (hb : Below w5.heap.size w5 V), Calls Tryz.prog 27 #[.slice Af G.length cf, .int .i64 t] V fun e w' => ∃ v, e = .returned (.tuple #[v, .int .i64 0]) ∧ w'.ownsRow V.heap.size 3 1 v (ord G t).length (ivN (ord G t)) ∧ Below V.heap.size V w') := Lib.hid (fun V hb => worder_any Af G cf t V (hF.below hb) hm htn)
  have hol := ord_len hm htn
  have HAl := Lib.hid (fun (V : World) (hb : Below w5.heap.size w5 V) (B : Option Addr) (d : Nat) (hX : Xs V B (a ++ b)) => all_any Af G cf t B (a ++ b) d V (hF.below hb) hm htn hX)
  have HIa := Lib.hid (fun (V : World) (i : Nat) (hb : Below w5.heap.size w5 V) (hi : i < G.length) => is_any Af G cf i P a pc V (hF.below hb) hm hi (((HP.out _ (HB5.out.trans (hb.mono HB5.out.size)))).xs (HSa.out trivial)))
  have HIb := Lib.hid (fun (V : World) (i : Nat) (hb : Below w5.heap.size w5 V) (hi : i < G.length) => is_any Af G cf i Q b qc V (hF.below hb) hm hi (((HQ.out _ (HB5.out.trans (hb.mono HB5.out.size)))).xs (HSb.out trivial)))
  have HOk : Hid (∀ y ∈ ord G t, y < G.length) := Lib.hid (fun y hy => ord_lt hm htn hy)
  have HAp : Hid (∀ i, isP G (a ++ b) i = (isP G a i || isP G b i)) := Lib.hid (fun i => isP_app G a b i)
  have HLen : Hid ((a ++ b).length = na + nb) := Lib.hid (by rw [List.length_append, HNA.out, HNB.out])
  rw [HNA.out] at HIa
  rw [HNB.out] at HIb
  rw [HLen.out] at HAl
  have hq0 : ((G.length : Int) == 0) = false := by rw [beq_eq_false_iff_ne]; omega
  obtain ⟨n, hn⟩ : ∃ n, G.length = n := ⟨_, rfl⟩
  have HNl := Lib.hid hn
  rw [hn] at hte hq0 HOr HAl HIa HIb hn60 hol htn HOk h0n htm ⊢
  have hw1 : IntKind.i64.wrap top = top := by rw [IntKind.wrap_i64]; omega
  have hnz : ¬ (n : Int) = 0 := by omega
  clear hF hm hn htm
  -- the rows of both, one behind the other
  have HXa : Hid (∀ (V : World) (v : Value), Below w5.heap.size w5 V → V.ownsRow w5.heap.size 46 1 v (na + nb) (rcells a ++ rcells b) → ∃ B d, v = .slice B (na + nb) d ∧ Xs V B (a ++ b)) := Lib.hid (fun V v hb ho => by
    have hbw := HB5.out.trans (hb.mono HB5.out.size)
    have xa := (HP.out V hbw).xs (HSa.out trivial)
    have xb := (HQ.out V hbw).xs (HSb.out trivial)
    have e : rcells a ++ rcells b = rcells (a ++ b) := by simp [rcells]
    rw [e, ← HLen.out] at ho
    obtain ⟨B, d, hv, hx⟩ := xr_rows ho (fun m hm => by
      rw [List.mem_append] at hm
      rcases hm with hm | hm
      · obtain ⟨k, hk, rfl⟩ := List.mem_iff_getElem.1 hm
        exact XR.mr (HP.out V hbw).xr hk
      · obtain ⟨k, hk, rfl⟩ := List.mem_iff_getElem.1 hm
        exact XR.mr (HQ.out V hbw).xr hk)
    refine ⟨B, d, by rw [← HLen.out]; exact hv, hx, by rw [HLen.out]; omega, fun m hm => ?_⟩
    rw [List.mem_append] at hm
    exact hm.elim (xa.row m) (xb.row m))
  obtain ⟨W0, hW0⟩ : ∃ W0, W0 = w5.alloc (.cells #[] 46) := ⟨_, rfl⟩
  have HW0 : Hid (Below w5.heap.size w5 W0) := Lib.hid (by rw [hW0]; exact (Below.refl _ _).alloc (Nat.le_refl _) _)
  have HO0 : Hid (W0.ownsRow w5.heap.size 46 1 (.slice (some ⟨w5.heap.size, 0, none⟩) 0 0) 0 []) := Lib.hid (by rw [hW0]; exact World.ownsRow_made (e := 46) (size := 1) (base := w5.heap.size) w5 #[] 0 (Nat.le_refl _) (by simp [maxLen]) rfl)
  rw [hW0] at HW0 HO0
  clear hW0
  go_wp2_with (at_builtin; first
    | (refine append_xb rfl _ _ rfl w5.heap.size _ 0 [] rfl HO0.out P a na pc HNA.out rfl (HP.out _ (HB5.out.trans (HW0.out.mono HB5.out.size))) (by decide) HW0.out.size ?_; intro v1 V1 ho1 hb1; have HO1 := Lib.hid ho1; have HV1 := Lib.hid (HW0.out.trans (hb1.mono (Nat.le_refl _))); clear ho1 hb1)
    | (refine append_xb rfl _ _ rfl w5.heap.size _ (0 + na) ([] ++ rcells a) rfl HO1.out Q b nb qc HNB.out rfl (HQ.out _ (HB5.out.trans (HV1.out.mono HB5.out.size))) (by omega) HV1.out.size ?_; intro v2 V2 ho2 hb2; have HO2 := Lib.hid ho2; have HV2 := Lib.hid (HV1.out.trans (hb2.mono (Nat.le_refl _))); clear ho2 hb2))
  obtain ⟨B, d, rfl, hX⟩ := HXa.out V2 v2 HV2.out (by have := HO2.out; rw [Nat.zero_add, List.nil_append] at this; exact this)
  have HA2 := Lib.hid (HAl.out V2 HV2.out B d hX)
  rw [show isP G (a ++ b) = (fun i => isP G a i || isP G b i) from funext HAp.out] at HA2
  clear HAl HXa HO1 HO2 HO0 HAp HLen HP HQ HSa HSb HNA HNB hX
  generalize isP G a = pa at *
  generalize isP G b = pb at *
  generalize ord G t = os at *
  obtain ⟨pr, hpr⟩ : ∃ pr, (fun i => pa i || pb i) = pr := ⟨_, rfl⟩
  have HPr : Hid (∀ i, pr i = (pa i || pb i)) := Lib.hid (fun i => by rw [← hpr])
  rw [hpr] at HA2
  clear hpr
  refine HA2.out.mono ?_
  rintro e w6 ⟨v, rfl, hv, hb⟩
  obtain ⟨pB, cB, rfl, hI⟩ := own_irN hv
  have HIB := Lib.hid hI
  have HV6 := Lib.hid (HV2.out.trans (hb.mono HV2.out.size))
  have hfl : (os.filter pr).length ≤ 60 := Nat.le_trans (List.length_filter_le _ _) (Nat.le_trans hol hn60)
  obtain ⟨nB, hnB⟩ : ∃ nB, (os.filter pr).length = nB := ⟨_, rfl⟩
  have HNb := Lib.hid hnB
  rw [hnB] at hfl ⊢
  clear hb hv hI hnB
  go_wp2_with fail
  refine (HOr.out w6 HV6.out).mono ?_
  rintro e w7 ⟨v, rfl, hv, hb⟩
  obtain ⟨p, cap, rfl, hI⟩ := own_irN hv
  have HI := Lib.hid hI
  have HIB7 := Lib.hid (HIB.out.below hb)
  have HV7 := Lib.hid (HV6.out.trans (hb.mono HV6.out.size))
  clear hb hv hI
  obtain ⟨lo, hlo⟩ : ∃ lo, os.length = lo := ⟨_, rfl⟩
  have HLO := Lib.hid hlo
  rw [hlo] at hol ⊢
  clear hlo
  go_wp2_with fail
  go_loopw [14, 15] (fun q14 q15 wr => ∃ (V : World) (i k : Nat), V = wr ∧ i ≤ lo ∧ q14 = .int .i64 k ∧ q15 = .int .i64 i ∧ k ≤ i ∧ Hid (k = ((os.take i).filter pr).length) ∧ Hid (Below w7.heap.size w7 V)) (fun _ q15 _ => lo - (intOf q15).toNat)
  case atStart => exact ⟨_, 0, 0, rfl, Nat.zero_le _, rfl, rfl, Nat.le_refl _, Lib.hid (by simp), Lib.hid (Below.refl _ _)⟩
  case round =>
    obtain ⟨V, i, k, rfl, hi, rfl, rfl, hki, HK, HV⟩ := hrel
    have HRV := Lib.hid (HV7.out.trans (HV.out.mono HV7.out.size))
    by_cases hlt : i < lo
    · have k0 : (0 : Int) ≤ (i : Int) := by omega
      have k1 : (i : Int) < (lo : Int) := by omega
      have hil : i < os.length := by rw [HLO.out]; exact hlt
      obtain ⟨g, off, rfl, hg, c0⟩ := (HI.out.below HV.out) i (by rw [List.length_map]; exact hil)
      rw [getD_at 0 (by rw [List.length_map]; exact hil), List.getElem_map] at c0
      have HC0 := Lib.hid (fun (V' : World) (hV : Below V.heap.size V V') => show V'.cell? ⟨g, off + i, none⟩ = some (.int .i64 (os[i] : Nat)) from (hV.cell (p := ⟨g, off + i, none⟩) hg).trans c0)
      have hyn := HOk.out os[i] (List.getElem_mem hil)
      have HF1 : Hid ((os.take (i + 1)).filter pr = (os.take i).filter pr ++ if pr os[i] then [os[i]] else []) := Lib.hid (filter_more hil)
      have HAt : Hid (pr os[i] = true → k < nB ∧ ∃ gB oB, pB = some ⟨gB, oB, none⟩ ∧ ∀ V', Below V.heap.size V V' → V'.cell? ⟨gB, oB + k, none⟩ = some (.int .i64 (os[i] : Nat))) := Lib.hid (fun hp => by
        obtain ⟨hk, he⟩ := filt_at hil hp
        rw [HK.out, ← HNb.out]
        refine ⟨hk, ?_⟩
        obtain ⟨gB, oB, hA, hgB, cB⟩ := (HIB7.out.below HV.out) ((os.take i).filter pr).length (by rw [List.length_map]; exact hk)
        rw [getD_at 0 (by rw [List.length_map]; exact hk), List.getElem_map, he] at cB
        exact ⟨gB, oB, hA, fun V' hV => (hV.cell (p := ⟨gB, oB + _, none⟩) hgB).trans cB⟩)
      have HT1 : Hid (pr os[i] = true → ((os.take (i + 1)).filter pr).length = k + 1) := Lib.hid (fun hp => by rw [HF1.out, if_pos hp, List.length_append, HK.out]; rfl)
      have HT0 : Hid (pr os[i] = false → ((os.take (i + 1)).filter pr).length = k) := Lib.hid (fun hp => by rw [HF1.out, hp, HK.out]; simp)
      have HPy := Lib.hid (HPr.out os[i])
      have HIa1 := Lib.hid (HIa.out V os[i] HRV.out hyn)
      have HIb1 := Lib.hid (fun (V' : World) (hb : Below V.heap.size V V') => HIb.out V' os[i] (HRV.out.trans (hb.mono HRV.out.size)) hyn)
      have d0 := HC0.out V (Below.refl _ _)
      clear c0 HF1
      generalize os[i] = y at *
      generalize pa y = ba at *
      generalize pb y = bb at *
      generalize pr y = bp at *
      cases ba with
      | true =>
        obtain rfl : bp = true := by rw [HPy.out]; rfl
        go_wp2_with fail
        refine HIa1.out.mono ?_
        rintro e V1 ⟨rfl, hb⟩
        have HU1 := Lib.hid hb
        clear hb
        obtain ⟨hkB, gB, oB, rfl, hcB⟩ := HAt.out (by first | trivial | rfl)
        have eB := hcB V1 HU1.out
        have d1 := HC0.out V1 HU1.out
        have j0 : (0 : Int) ≤ (k : Int) := by omega
        have j1 : (k : Int) < (nB : Int) := by omega
        have q0 : decide ((nB : Int) ≤ (k : Int)) = false := by rw [decide_eq_false_iff_not]; omega
        have q1 : ((y : Int) != (y : Int)) = false := by simp
        have HN2 := Lib.hid (HT1.out (by first | trivial | rfl))
        clear hcB
        go_wp2_with fail
        go_quiet (fail)
        go_wp2
        go_roundw
        case rel => exact ⟨_, i + 1, k + 1, rfl, by omega, by go_num, by go_num, by omega, Lib.hid HN2.out.symm, Lib.hid (below_drewF (HV.out.trans (HU1.out.mono HV.out.size)) _)⟩
        case measure => simp [intOf] <;> omega
      | false =>
        go_wp2_with fail
        refine HIa1.out.mono ?_
        rintro e V1 ⟨rfl, hb⟩
        have HU1 := Lib.hid hb
        have d1' := HC0.out V1 hb
        clear hb
        go_wp2_with fail
        refine (HIb1.out V1 HU1.out).mono ?_
        rintro e V2 ⟨rfl, hb⟩
        have HU2 := Lib.hid (HU1.out.trans (hb.mono HU1.out.size))
        clear hb d1'
        cases bb with
        | true =>
          obtain rfl : bp = true := by rw [HPy.out]; rfl
          obtain ⟨hkB, gB, oB, rfl, hcB⟩ := HAt.out (by first | trivial | rfl)
          have eB := hcB V2 HU2.out
          have d1 := HC0.out V2 HU2.out
          have j0 : (0 : Int) ≤ (k : Int) := by omega
          have j1 : (k : Int) < (nB : Int) := by omega
          have q0 : decide ((nB : Int) ≤ (k : Int)) = false := by rw [decide_eq_false_iff_not]; omega
          have q1 : ((y : Int) != (y : Int)) = false := by simp
          have HN2 := Lib.hid (HT1.out (by first | trivial | rfl))
          clear hcB
          go_wp2_with fail
          go_quiet (fail)
          go_wp2
          go_roundw
          case rel => exact ⟨_, i + 1, k + 1, rfl, by omega, by go_num, by go_num, by omega, Lib.hid HN2.out.symm, Lib.hid (below_drewF (HV.out.trans (HU2.out.mono HV.out.size)) _)⟩
          case measure => simp [intOf] <;> omega
        | false =>
          obtain rfl : bp = false := by rw [HPy.out]; rfl
          have HN2 := Lib.hid (HT0.out (by first | trivial | rfl))
          go_wp2
          go_roundw
          case rel => exact ⟨V2, i + 1, k, rfl, by omega, rfl, by go_num, by omega, Lib.hid HN2.out.symm, Lib.hid (HV.out.trans (HU2.out.mono HV.out.size))⟩
          case measure => simp [intOf] <;> omega
    · obtain rfl : i = lo := by omega
      have et : os.take i = os := List.take_of_length_le (by rw [HLO.out]; exact Nat.le_refl _)
      obtain rfl : k = nB := by rw [HK.out, et, HNb.out]
      clear et hlt
      go_wp2
      go_ret
      exact ⟨ret_bool (by simp), HB5.out.trans (HRV.out.mono HB5.out.size)⟩
end Go.Proofs.YtaacikjoafobfaaGreatDoor.Fi
