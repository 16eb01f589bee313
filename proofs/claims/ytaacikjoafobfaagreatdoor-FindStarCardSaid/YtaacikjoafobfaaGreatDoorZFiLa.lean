/-
  The law FindStar: what has no test finds all elements, in their order.
-/
import Derived.Test.YtaacikjoafobfaaGreatDoorZFiS
import Derived.Test.YtaacikjoafobfaaGreatDoorG18
import Derived.Test.YtaacikjoafobfaaGreatDoorZFiK
namespace Go.Proofs.YtaacikjoafobfaaGreatDoor.Fi
open Go.ChangeShapes Go.WideShapes Go.ChangeAt Go.RowKit
open Sx (Tr Ms Mr TR MR XR tV r1 ls te stp rws cx cl cx_iff)
set_option linter.unusedVariables false
set_option linter.unusedSimpArgs false

theorem u8_wf10 {n : Int} (h : (Lit.int .u8 n).wf = true) : 0 ≤ n ∧ n ≤ 255 := by
  have h : IntKind.u8.min ≤ n ∧ n ≤ IntKind.u8.max := by simpa [Lit.wf] using h
  exact h
def ystar : List Mr := [((none, 0), [((none, 0), ([], false))])]
theorem tstar_parse : Sl.parse (ls ⟨#[42]⟩) = .ok (rws ystar) := by kernel_rfl
/-- Whether a node is an element. -/
def elB (F : List Mn) (i : Nat) : Bool := kindOf F i == 1
theorem wayU_at {F : List Mn} {i : Nat} (hi : i < F.length) : ∃ up, wayU F i = F[i] :: up := by
  unfold wayU
  obtain ⟨n, hn⟩ : ∃ n, F.length = n + 1 := ⟨F.length - 1, by omega⟩
  rw [hn, wayL_at hi]
  exact ⟨_, rfl⟩
theorem isP_star {F : List Mn} {i : Nat} (hi : i < F.length) : isP F ystar i = elB F i := by
  obtain ⟨up, e⟩ := wayU_at hi
  unfold elB
  rw [kindOf_at hi]
  unfold isP
  rw [e]
  simp [ystar, rowB, eD, fitsB]
theorem isP_none (F : List Mn) : isP F [] = fun _ => false := funext fun i => rfl
theorem info_i10 : (Tryz.prog.info? 3).map (fun i => (i.zero, i.size, i.bytes)) = some (some (.int .i64 0), 1, 8) := by kernel_rfl
theorem cell_i10 (w : World) (g : Nat) (x : Value) (t : TypeId) (h : w.heap[g]? = some (.cells #[x] t (0, 0))) : ∀ j u, [x][j]? = some u → w.cell? ((⟨g, 0, none⟩ : Addr).add j) = some u := by
  intro j u hu
  rw [show (⟨g, 0, none⟩ : Addr).add j = ⟨g, 0 + j, none⟩ by unfold Addr.add; split <;> simp_all]
  match j, hu with
  | 0, hu => cases hu; simp [World.cell?, h]
  | j + 1, hu => simp at hu
set_option maxRecDepth 100000 in
set_option maxHeartbeats 8000000 in
theorem star_law (A : Option Addr) (l : List Ops.Po) (c : Nat) (top : Int) (hb0 : 0 ≤ top) (hb1 : top ≤ 255) (w : World) (hL : Ops.OL w A l) (hl : l.length ≤ 9223372036854775807) (hK : Ops.KT w) :
    Calls Tryz.prog 7 #[.slice A l.length c, .int .u8 top] w (GivesV (.bool true) w) := by
  have HB0 := Lib.hid (bounded10 A l c w hL hl)
  have HS := Lib.hid (fun (V : World) (hb : Below w.heap.size w V) => shown10 V (hK.below hb))
  have HG := Lib.hid (fun (V : World) (hb : Below w.heap.size w V) (h : l.length ≤ 150) => grown10 A l c V (hL.below hb) (by omega) (hK.below hb))
  have HLE : Hid (bdO l = true → l.length ≤ 150) := Lib.hid (fun h => by
    unfold bdO at h
    rw [Bool.and_eq_true, decide_eq_true_eq] at h
    exact h.2)
  obtain ⟨nl, hnn⟩ : ∃ n, l.length = n := ⟨_, rfl⟩
  rw [hnn] at HB0 HG HLE hl ⊢
  clear hL hK hnn
  generalize bdO l = BL at *
  go_enter Tryz.func7, Tryz.ntmps7
  go_wp2_with fail
  refine HB0.out.mono ?_
  rintro e w' ⟨rfl, hw⟩
  obtain rfl := hw.symm
  cases BL with
  | false =>
    go_wp2_with fail
    refine (HS.out w (Below.refl _ _)).mono ?_
    rintro e w1 ⟨rfl, hb⟩
    have HB := Lib.hid hb
    clear hb
    go_wp2
    go_ret
    exact ⟨rfl, HB.out⟩
  | true =>
  have hln := HLE.out rfl
  go_wp2_with fail
  refine (HS.out w (Below.refl _ _)).mono ?_
  rintro e w1 ⟨rfl, hb⟩
  have HB1 := Lib.hid hb
  clear hb
  go_wp2_with fail
  refine (HG.out w1 HB1.out hln).mono ?_
  rintro e w2 ⟨Af, G, cf, rfl, hF, hm, hlk, hb⟩
  have HB2 := Lib.hid (HB1.out.trans (hb.mono HB1.out.size))
  clear hb hlk HS HG HLE HB0
  have hn60 := (may_sz hm).1
  have h0n := (mayB_parts hm).1
  have htm : top.tmod G.length = top % G.length := Int.tmod_eq_emod_of_nonneg hb0
  obtain ⟨t, hte⟩ : ∃ t : Nat, top.tmod G.length = t := ⟨(top.tmod G.length).toNat, by have := Int.emod_nonneg top (show (G.length : Int) ≠ 0 by omega); omega⟩
  have htn : t < G.length := by have := Int.emod_lt_of_pos top (show (0 : Int) < G.length by omega); omega
  have HP := Lib.hid (fun (V : World) => parse_xs (t := ⟨#[42]⟩) (by decide) tstar_parse V)
  have HOr : Hid (∀ (V : World) (hb : Below w2.heap.size w2 V), Calls Tryz.prog 27 #[.slice Af G.length cf, .int .i64 t] V fun e w' => ∃ v, e = .returned (.tuple #[v, .int .i64 0]) ∧ w'.ownsRow V.heap.size 3 1 v (ord G t).length (ivN (ord G t)) ∧ Below V.heap.size V w') := Lib.hid (fun V hb => worder_any Af G cf t V (hF.below hb) hm htn)
  have hol := ord_len hm htn
  have HAl := Lib.hid (fun (V : World) (hb : Below w2.heap.size w2 V) (B : Option Addr) (x : List Mr) (d : Nat) (hX : Xs V B x) => all_any Af G cf t B x d V (hF.below hb) hm htn hX)
  have HEl : Hid (∀ (x : List Mr), cx x = cx ystar → (ord G t).filter (isP G x) = (ord G t).filter (elB G)) := Lib.hid (fun x hx => List.filter_congr (fun i hi => by
    rw [isP_cx hx, isP_star (ord_lt hm htn hi)]))
  have HNo : Hid (∀ (V : World) (hb : Below w2.heap.size w2 V), Calls Tryz.prog 16 #[.slice Af G.length cf, .int .i64 t, .slice none 0 0] V fun e w' => (∃ p c, e = .returned (.slice p 0 c)) ∧ Below V.heap.size V w') := Lib.hid (fun V hb => (all_any Af G cf t none [] 0 V (hF.below hb) hm htn ⟨fun i m h => by simp at h, by simp, by simp⟩).mono (fun e w' ⟨v, he, hv, hb'⟩ => by
    rw [isP_none] at hv
    have e0 : (ord G t).filter (fun _ => false) = [] := by simp
    rw [e0] at hv
    obtain ⟨p, c, rfl, -⟩ := own_form2 hv
    exact ⟨⟨p, c, he⟩, hb'⟩))
  have HOk : Hid (∀ y ∈ ord G t, y < G.length) := Lib.hid (fun y hy => ord_lt hm htn hy)
  have HKd : Hid (∀ (V : World) (i : Nat) (hb : Below w2.heap.size w2 V) (hi : i < G.length), ∃ g off, Af = some ⟨g, off, none⟩ ∧ g < V.heap.size ∧ V.cell? ⟨g, off + i * 6, none⟩ = some (.int .i64 (kindOf G i))) := Lib.hid (fun V i hb hi => by
    obtain ⟨-, g, off, hA, hg, hn⟩ := hF.below hb i G[i] (List.getElem?_eq_getElem hi)
    exact ⟨g, off, hA, hg, by rw [kindOf_at hi]; exact hn.c0⟩)
  have HElk : Hid (∀ i, elB G i = (kindOf G i == 1)) := Lib.hid (fun i => rfl)
  have hq0 : ((G.length : Int) == 0) = false := by rw [beq_eq_false_iff_ne]; omega
  obtain ⟨i0, hi0, hz0, hz1, hz2⟩ := info_parts info_i10
  have HJ := Lib.hid (And.intro hi0 (And.intro hz0 (And.intro hz1 hz2)))
  have HNN := Lib.hid hm
  obtain ⟨n, hn⟩ : ∃ n, G.length = n := ⟨_, rfl⟩
  have HNl := Lib.hid hn
  rw [hn] at hte hq0 HOr HAl HNo hn60 hol htn HOk h0n htm ⊢
  have hw1 : IntKind.i64.wrap top = top := by rw [IntKind.wrap_i64]; omega
  have hnz : ¬ (n : Int) = 0 := by omega
  clear hF hm hn htm hi0 hz0 hz1 hz2
  generalize elB G = el at *
  generalize ord G t = os at *
  go_wp2_with fail
  refine (HP.out w2).mono ?_
  rintro e w3 ⟨⟨x, B, d, rfl, hX, hx⟩, hb⟩
  have HR3 := Lib.hid hb
  have HX3 := Lib.hid hX
  have HEx := Lib.hid (HEl.out x (cx_iff.2 hx))
  clear hb hX hx
  have HAx := Lib.hid (fun (V : World) (hb : Below w2.heap.size w2 V) (hX : Xs V B x) => HAl.out V hb B x d hX)
  rw [HEx.out] at HAx
  obtain ⟨nx, hnx⟩ : ∃ nx, x.length = nx := ⟨_, rfl⟩
  rw [hnx] at HAx ⊢
  clear hnx HEx HEl HAl
  go_wp2_with fail
  refine (HOr.out w3 HR3.out).mono ?_
  rintro e w4 ⟨v, rfl, hv, hb⟩
  obtain ⟨p, cap, rfl, hI⟩ := own_irN hv
  have HI := Lib.hid hI
  have HR4 := Lib.hid (HR3.out.trans (hb.mono HR3.out.size))
  have HX4 := Lib.hid (HX3.out.below hb)
  clear hb hv hI
  obtain ⟨lo, hlo⟩ : ∃ lo, os.length = lo := ⟨_, rfl⟩
  have HLO := Lib.hid hlo
  rw [hlo] at hol ⊢
  clear hlo
  obtain ⟨W0, hW0⟩ : ∃ W0, W0 = w4.alloc (.cells #[] 3) := ⟨_, rfl⟩
  have HW0 : Hid (Below w4.heap.size w4 W0) := Lib.hid (by rw [hW0]; exact (Below.refl _ _).alloc (Nat.le_refl _) _)
  have HO0 : Hid (W0.ownsRow w4.heap.size 3 1 (.slice (some ⟨w4.heap.size, 0, none⟩) 0 0) 0 (ivN [])) := Lib.hid (by rw [hW0]; exact World.ownsRow_made (e := 3) (size := 1) (base := w4.heap.size) w4 #[] 0 (Nat.le_refl _) (by simp [maxLen]) rfl)
  go_wp2_with fail
  rw [← hW0]
  clear hW0
  go_loopw [12, 13] (fun q12 q13 wr => ∃ (V : World) (k : Nat) (p5 : Option Addr) (c5 : Nat), V = wr ∧ k ≤ lo ∧ q12 = .slice p5 ((os.take k).filter el).length c5 ∧ q13 = .int .i64 k ∧ Hid (V.ownsRow w4.heap.size 3 1 (.slice p5 ((os.take k).filter el).length c5) ((os.take k).filter el).length (ivN ((os.take k).filter el))) ∧ Hid (Below w4.heap.size w4 V)) (fun _ q13 _ => lo - (intOf q13).toNat)
  case atStart => exact ⟨_, 0, _, _, rfl, Nat.zero_le _, rfl, rfl, HO0, HW0⟩
  case round =>
    clear HO0 HW0
    obtain ⟨V, k, p5, c5, rfl, hk, rfl, rfl, HO, HV⟩ := hrel
    have HRV := Lib.hid (HR4.out.trans (HV.out.mono HR4.out.size))
    by_cases hlt : k < lo
    · have k0 : (0 : Int) ≤ (k : Int) := by omega
      have k1 : (k : Int) < (lo : Int) := by omega
      have hkl : k < os.length := by rw [HLO.out]; exact hlt
      obtain ⟨g, off, rfl, hg, c0⟩ := (HI.out.below HV.out) k (by rw [List.length_map]; exact hkl)
      rw [getD_at 0 (by rw [List.length_map]; exact hkl), List.getElem_map] at c0
      have d0 : V.cell? ⟨g, off + k, none⟩ = some (.int .i64 (os[k] : Nat)) := c0
      have hxn := HOk.out os[k] (List.getElem_mem hkl)
      obtain ⟨gf, of, rfl, hgf, e0⟩ := HKd.out V os[k] HRV.out (by rw [HNl.out]; exact hxn)
      have HF1 : Hid ((os.take (k + 1)).filter el = (os.take k).filter el ++ if el os[k] then [os[k]] else []) := Lib.hid (filter_more hkl)
      have HEk := Lib.hid (HElk.out os[k])
      have x0 : (0 : Int) ≤ (os[k] : Int) := by omega
      have x1 : (os[k] : Int) < (n : Int) := by omega
      clear c0
      have hfl : ((os.take k).filter el).length ≤ 60 := Nat.le_trans (List.length_filter_le _ _) (by rw [List.length_take]; omega)
      generalize os[k] = x at *
      obtain ⟨L2, hL2⟩ : ∃ L2, (os.take (k + 1)).filter el = L2 := ⟨_, rfl⟩
      have HLL := Lib.hid hL2
      rw [hL2] at HF1
      clear hL2
      generalize (os.take k).filter el = L1 at *
      generalize el x = b at *
      generalize kindOf G x = kd at *
      obtain ⟨n1, hn1⟩ : ∃ n1, L1.length = n1 := ⟨_, rfl⟩
      have HN1 := Lib.hid hn1
      rw [hn1] at HO hfl ⊢
      clear hn1
      cases b with
      | true =>
        have q1 : (kd == 1) = true := HEk.out.symm
        have HL2 : Hid (L2.length = n1 + 1 ∧ ivN L2 = ivN L1 ++ [.int .i64 (x : Nat)]) := Lib.hid (by
          rw [HF1.out, if_pos rfl, List.length_append, HN1.out, ivN_snoc]
          exact ⟨rfl, rfl⟩)
        have HXB : Hid (Below V.heap.size V (V.alloc (.cells #[.int .i64 (x : Nat)] 3))) := Lib.hid ((Below.refl _ _).alloc (Nat.le_refl _) _)
        have HX := Lib.hid (own_below HO.out HXB.out)
        have HXC := Lib.hid (cell_i10 _ _ _ _ (heap_alloc_new V (.cells #[.int .i64 (x : Nat)] 3)))
        have HXS := Lib.hid (Nat.le_trans HV.out.size HXB.out.size)
        go_wp2_with (at_builtin; refine wpList_append_own_at _ rfl _ _ 34 rfl w4.heap.size 3 i0 (.int .i64 0) 1 8 Tryz.underlying34 HJ.out.1 HJ.out.2.1 HJ.out.2.2.1 HJ.out.2.2.2 rfl (by decide) _ _ _ rfl HX.out ⟨V.heap.size, 0, none⟩ 1 1 [.int .i64 (x : Nat)] rfl rfl HXC.out (by intro u hu; simp only [List.mem_cons, List.not_mem_nil, or_false] at hu; subst hu; rfl) (by unfold maxLen; omega) (by omega) HXS.out ?_; intro v' V' hown' hgrow hnz hat; have HO' := Lib.hid hown'; have HGR := Lib.hid hgrow; clear hown' hgrow hnz hat)
        obtain ⟨p', cap', rfl, -⟩ := own_form2 HO'.out
        have HV9 : Hid (Below w4.heap.size w4 V') := Lib.hid ((HV.out.trans (HXB.out.mono HV.out.size)).grown HGR.out HXS.out (fun q e => (HX.out.lt q e).1))
        go_roundw
        case rel => exact ⟨V', k + 1, p', cap', rfl, by omega, by rw [HLL.out, HL2.out.1], by go_num, Lib.hid (by rw [HLL.out, HL2.out.1, HL2.out.2]; exact HO'.out), HV9⟩
        case measure => simp [intOf] <;> omega
      | false =>
        have q1 : (kd == 1) = false := HEk.out.symm
        have HL2 : Hid (L2 = L1) := Lib.hid (by rw [HF1.out]; simp)
        go_wp2
        go_roundw
        case rel => exact ⟨V, k + 1, p5, c5, rfl, by omega, by rw [HLL.out, HL2.out, HN1.out], by go_num, Lib.hid (by rw [HLL.out, HL2.out, HN1.out]; exact HO.out), HV⟩
        case measure => simp [intOf] <;> omega
    · obtain rfl : k = lo := by omega
      have et : os.take k = os := List.take_of_length_le (by rw [HLO.out]; exact Nat.le_refl _)
      rw [et] at HO ⊢
      have HAl1 := Lib.hid (HAx.out V HRV.out (HX4.out.below HV.out))
      have hfl : (os.filter el).length ≤ 60 := Nat.le_trans (List.length_filter_le _ _) (by rw [HLO.out]; omega)
      have HRo := Lib.hid (own_irN HO.out)
      generalize os.filter el = L1 at *
      obtain ⟨n1, hn1⟩ : ∃ n1, L1.length = n1 := ⟨_, rfl⟩
      have HN1 := Lib.hid hn1
      rw [hn1]
      clear et hlt
      go_wp2_with fail
      refine HAl1.out.mono ?_
      rintro e w5 ⟨v, rfl, hv, hb⟩
      obtain ⟨pa, ca, rfl, hIa⟩ := own_irN hv
      have HR5 := Lib.hid (HRV.out.trans (hb.mono HRV.out.size))
      have HIn : Hid (Calls Tryz.prog 20 #[.slice pa n1 ca, .slice p5 n1 c5] w5 (GivesV (.bool true) w5)) := Lib.hid (by
        obtain ⟨p6, c6, e6, hI6⟩ := HRo.out
        cases e6
        have := rints_any pa p5 (L1.map Int.ofNat) (L1.map Int.ofNat) ca c5 w5 hIa (hI6.below hb) (by rw [List.length_map]; omega) (by rw [List.length_map]; omega)
        rw [List.length_map, hn1] at this
        rwa [show eqI (L1.map Int.ofNat) (L1.map Int.ofNat) = true by simp [eqI]] at this)
      rw [hn1]
      clear hb hv hIa hn1
      go_wp2_with fail
      refine HIn.out.mono ?_
      rintro e w6 ⟨rfl, hb⟩
      have HR6 := Lib.hid (HR5.out.trans (hb.mono HR5.out.size))
      have HNo6 := Lib.hid (HNo.out w6 HR6.out)
      clear hb
      go_wp2_with fail
      refine HNo6.out.mono ?_
      rintro e w7 ⟨⟨pz, cz, rfl⟩, hb⟩
      have HR7 := Lib.hid (HR6.out.trans (hb.mono HR6.out.size))
      clear hb
      go_wp2
      go_ret
      exact ⟨rfl, HB2.out.trans (HR7.out.mono HB2.out.size)⟩
set_option maxRecDepth 100000 in
/-- The law, of what came in. -/
theorem star_true {H : Type} {enc : TypeId × Value → H} {W : World} {base : Nat} {v0 : Value} {d0 : DataW H} {p0 : List MemPlace} {v1 : Value} {d1 : DataW H} {p1 : List MemPlace} (hK : Ops.KT W) (o0 : Value.okWide Tryz.prog W .any base 22 v0) (o1 : Value.okWide Tryz.prog W .any base 5 v1)
    (h0 : DataW.Trod enc Tryz.prog W 0 (fun _ => true) true 22 v0 d0 p0) (h1 : DataW.Trod enc Tryz.prog W 0 (fun _ => true) true 5 v1 d1 p1) (l0 : ∀ x ∈ p0, x.block < W.heap.size) (l1 : ∀ x ∈ p1, x.block < W.heap.size) :
    Calls Tryz.prog 7 #[v0, v1] W fun e W' => e = .returned (.bool true) ∧ Below W.heap.size W W' := by
  obtain ⟨A, cap, l, rfl, e1, e2, hL, -⟩ := Ops.ol_open o0 h0 l0
  obtain ⟨top, rfl, rfl, rfl, w0⟩ := open_int Tryz.underlying5 o1 h1
  obtain ⟨f0, f1⟩ := u8_wf10 w0
  exact star_law A l cap top f0 f1 W hL (Nat.le_trans e1 e2) hK
end Go.Proofs.YtaacikjoafobfaaGreatDoor.Fi
