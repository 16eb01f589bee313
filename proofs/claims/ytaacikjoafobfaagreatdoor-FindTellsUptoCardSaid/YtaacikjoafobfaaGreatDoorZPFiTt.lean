/-
  The law FindTells: what any selector finds in any forest, from any node on, is the document's.
-/
import Derived.Test.YtaacikjoafobfaaGreatDoorP46
import Derived.Test.YtaacikjoafobfaaGreatDoorP44
import Derived.Test.YtaacikjoafobfaaGreatDoorP18
import Derived.Test.YtaacikjoafobfaaGreatDoorP14
namespace Go.Proofs.YtaacikjoafobfaaGreatDoor.Fi
open Go.ChangeShapes Go.WideShapes Go.ChangeAt Go.RowKit
open Sx (Tr Ms Mr TR MR XR tV r1 ls te stp rws cx cl cx_iff)
set_option linter.unusedVariables false
set_option linter.unusedSimpArgs false

set_option maxRecDepth 100000 in
set_option maxHeartbeats 16000000 in
theorem tells_law (A : Option Addr) (l : List Ops.Po) (c : Nat) (P : Option Addr) (x : List Mr) (d : Nat) (t : Int) (w : World) (hL : Ops.OL w A l) (hl : l.length ≤ 9223372036854775807) (hX : XR w P x) (hf : Sx.So.SelFit x) (hC : cX x ≤ 4000000) (hK : Ops.KT w) :
    Calls Tryz.prog 3 #[.slice A l.length c, .slice P x.length d, .int .i64 t] w (GivesV (.bool true) w) := by
  have HB0 := Lib.hid (fun (V : World) (hb : Below w.heap.size w V) => bounded10 A l c V (hL.below hb) hl)
  have HS := Lib.hid (fun (V : World) (hb : Below w.heap.size w V) => shown10 V (hK.below hb))
  have HG := Lib.hid (fun (V : World) (hb : Below w.heap.size w V) (h : l.length ≤ 150) => grown10 A l c V (hL.below hb) (by omega) (hK.below hb))
  have HLE : Hid (bdO l = true → l.length ≤ 150) := Lib.hid (fun h => by
    unfold bdO at h
    rw [Bool.and_eq_true, decide_eq_true_eq] at h
    exact h.2)
  have HFw := Lib.hid (fun (V : World) (hb : Below w.heap.size w V) => few_cnt P x d V (hX.below hb) hC)
  have HXs := Lib.hid (fun (V : World) (hb : Below w.heap.size w V) (hs : smallS x) => xs_fit (hX.below hb) hf hs)
  have HRw := Lib.hid (fun (V : World) (hb : Below w.heap.size w V) (hs : smallS x) (h : cX x ≤ 40) => rows10 P x d V (hX.below hb) hs (by omega))
  have HXR := Lib.hid (fun (V : World) (hb : Below w.heap.size w V) => hX.below hb)
  have HFt := Lib.hid hf
  obtain ⟨nl, hnn⟩ : ∃ n, l.length = n := ⟨_, rfl⟩
  obtain ⟨nx, hnx⟩ : ∃ n, x.length = n := ⟨_, rfl⟩
  have HNX := Lib.hid hnx
  rw [hnn] at HB0 HG HLE hl ⊢
  rw [hnx] at HFw HRw ⊢
  clear hL hK hnn hX hf hC hnx
  generalize bdO l = BL at *
  go_enter Tryz.func3, Tryz.ntmps3
  go_wp2_with fail
  refine (HB0.out w (Below.refl _ _)).mono ?_
  rintro e w' ⟨rfl, hw⟩
  obtain rfl := hw.symm
  cases BL with
  | false =>
    go_wp2_with fail
    refine (HS.out _ (Below.refl _ _)).mono ?_
    rintro e w1 ⟨rfl, hb⟩
    have HB := Lib.hid hb
    clear hb
    go_wp2
    go_ret
    exact ⟨rfl, HB.out⟩
  | true =>
  have hln := HLE.out rfl
  go_wp2_with fail
  refine (HFw.out _ (Below.refl _ _)).mono ?_
  rintro e w3 ⟨⟨bb, rfl, hsm⟩, hb⟩
  have HB3 := Lib.hid hb
  have HSm := Lib.hid hsm
  clear hb hsm
  by_cases hb1 : bb = true
  case neg =>
    obtain rfl : bb = false := by simpa using hb1
    clear hb1
    go_wp2_with fail
    refine (HS.out _ HB3.out).mono ?_
    rintro e w4 ⟨rfl, hb⟩
    have HB := Lib.hid (HB3.out.trans (hb.mono HB3.out.size))
    clear hb
    go_wp2
    go_ret
    exact ⟨rfl, HB.out⟩
  subst hb1
  have HS1 := Lib.hid (HSm.out rfl).1
  have HS2 := Lib.hid (HSm.out rfl).2
  go_wp2_with fail
  refine (HS.out _ HB3.out).mono ?_
  rintro e w4 ⟨rfl, hb⟩
  have HB4 := Lib.hid (HB3.out.trans (hb.mono HB3.out.size))
  clear hb
  go_wp2_with fail
  refine (HG.out w4 HB4.out hln).mono ?_
  rintro e w5 ⟨Af, G, cf, rfl, hF, hm, hlk, hb⟩
  have HB5 := Lib.hid (HB4.out.trans (hb.mono HB4.out.size))
  have HIt := Lib.hid (its_any Af G cf w5 hF (may_sz2 hm))
  have HF5 := Lib.hid hF
  have HM5 := Lib.hid hm
  obtain ⟨n, hn⟩ : ∃ n, G.length = n := ⟨_, rfl⟩
  have HNN := Lib.hid hn
  have hn60 := (may_sz hm).1
  rw [hn] at HIt hn60 ⊢
  clear hb hlk HS HG HLE HB0 HFw hF hm hn
  go_wp2_with fail
  refine HIt.out.mono ?_
  rintro e w6 ⟨A', c', G', rfl, hlk, hF', hb⟩
  have HB6 := Lib.hid (HB5.out.trans (hb.mono HB5.out.size))
  have HF6 := Lib.hid (HF5.out.below hb)
  have HG6 := Lib.hid hF'
  have HLk := Lib.hid hlk
  obtain ⟨L, k, b, b2, hT⟩ := top_of (w := w6) cf c' d t HF6.out HM5.out hF' hlk (HXs.out w6 HB6.out HS1.out)
  rw [HNN.out] at hT
  have HT := Lib.hid hT
  have hLn := hT.len
  have HTa := Lib.hid hT.all
  have HTf := Lib.hid hT.first
  have HTi := Lib.hid hT.is
  have HRa := Lib.hid (fun (V : World) (p : Option Addr) (y : List Mr) (cap : Nat) (hV : Below w6.heap.size w6 V) (hY : Xs V p y) (hy : cx y = cx x) => hT.rall V p y cap hV hY hy)
  have HRf := Lib.hid (fun (V : World) (p : Option Addr) (y : List Mr) (cap : Nat) (hV : Below w6.heap.size w6 V) (hY : Xs V p y) (hy : cx y = cx x) => hT.rfirst V p y cap hV hY hy)
  have HRi := Lib.hid (fun (V : World) (p : Option Addr) (y : List Mr) (cap : Nat) (hV : Below w6.heap.size w6 V) (hY : Xs V p y) (hy : cx y = cx x) => hT.ris V p y cap hV hY hy)
  have HRo := Lib.hid (fun (V : World) (hV : Below w6.heap.size w6 V) => HRw.out V (HB6.out.trans (hV.mono HB6.out.size)) HS1.out HS2.out)
  simp only [HNX.out] at HTa HTf HTi HRa HRf HRi HRo
  clear hb hT HT hlk hF' HIt HRw
  go_wp2_with fail
  refine (HTa.out w6 (Below.refl _ _)).mono ?_
  rintro e w7 ⟨p7, c7, rfl, hI7, hb⟩
  have HB7 := Lib.hid hb
  have HI7 := Lib.hid hI7
  clear hb hI7
  go_wp2_with fail
  refine (HTf.out w7 HB7.out).mono ?_
  rintro e w8 ⟨rfl, hb⟩
  have HB8 := Lib.hid (HB7.out.trans (hb.mono HB7.out.size))
  have HI8 := Lib.hid (HI7.out.below hb)
  clear hb
  go_wp2_with fail
  refine (HRo.out w8 HB8.out).mono ?_
  rintro e w9 ⟨y9, q9, d9, rfl, hyl, hcx, hY, hb⟩
  have HB9 := Lib.hid (HB8.out.trans (hb.mono HB8.out.size))
  have HI9 := Lib.hid (HI8.out.below hb)
  have HC9 := Lib.hid (HRf.out w9 q9 y9 d9 HB9.out hY hcx)
  clear hb hyl hcx hY
  go_wp2_with fail
  refine HC9.out.mono ?_
  rintro e w10 ⟨rfl, hb⟩
  have HB10 := Lib.hid (HB9.out.trans (hb.mono HB9.out.size))
  have HI10 := Lib.hid (HI9.out.below hb)
  clear hb
  go_wp2_with fail
  refine (HRo.out w10 HB10.out).mono ?_
  rintro e w11 ⟨y11, q11, d11, rfl, hyl, hcx, hY, hb⟩
  have HB11 := Lib.hid (HB10.out.trans (hb.mono HB10.out.size))
  have HI11 := Lib.hid (HI10.out.below hb)
  have HC11 := Lib.hid (HRa.out w11 q11 y11 d11 HB11.out hY hcx)
  clear hb hyl hcx hY
  go_wp2_with fail
  refine HC11.out.mono ?_
  rintro e w12 ⟨p12, c12, rfl, hI12, hb⟩
  have HB12 := Lib.hid (HB11.out.trans (hb.mono HB11.out.size))
  have HIn := Lib.hid (rints_any p7 p12 L L c7 c12 w12 (HI11.out.below hb) hI12 hLn hLn)
  have e12 : eqI L L = true := by simp [eqI]
  rw [e12] at HIn
  generalize L.length = nL at *
  clear hb hI12 e12
  go_wp2_with fail
  refine HIn.out.mono ?_
  rintro e w13 ⟨rfl, hb⟩
  have HB13 := Lib.hid (HB12.out.trans (hb.mono HB12.out.size))
  clear hb
  have q1 : (k != k) = false := by simp
  have q2 : (b != b) = false := by simp
  go_wp2_with fail
  refine (HTi.out w13 HB13.out).mono ?_
  rintro e w14 ⟨rfl, hb⟩
  have HB14 := Lib.hid (HB13.out.trans (hb.mono HB13.out.size))
  clear hb
  go_wp2_with fail
  refine (HRo.out w14 HB14.out).mono ?_
  rintro e w15 ⟨y15, q15, d15, rfl, hyl, hcx, hY, hb⟩
  have HB15 := Lib.hid (HB14.out.trans (hb.mono HB14.out.size))
  have HC15 := Lib.hid (HRi.out w15 q15 y15 d15 HB15.out hY hcx)
  clear hb hyl hcx hY
  go_wp2_with fail
  refine HC15.out.mono ?_
  rintro e w16 ⟨rfl, hb⟩
  have HB16 := Lib.hid (HB15.out.trans (hb.mono HB15.out.size))
  clear hb
  have q3 : (b2 != b2) = false := by simp
  go_wp2_with fail
  clear HTa HTf HTi HRa HRf HRi HC9 HC11 HC15 HIn HI7 HI8 HI9 HI10 HI11 q1 q2 q3 HB7 HB8 HB9 HB10 HB11 HB12 HB13 HB14 HB15 hLn
  go_loopw [14] (fun q14 wr => ∃ (V : World) (id : Nat), V = wr ∧ id ≤ n ∧ q14 = .int .i64 id ∧ Hid (Below w6.heap.size w6 V)) (fun q14 _ => n - (intOf q14).toNat)
  case atStart => exact ⟨_, 0, rfl, Nat.zero_le _, rfl, HB16⟩
  case round =>
    clear HB16
    obtain ⟨V1, id, rfl, hid, rfl, HV1⟩ := hrel
    by_cases hlt : id < n
    · have k0 : (0 : Int) ≤ (id : Int) := by omega
      have k1 : (id : Int) < (n : Int) := by omega
      have hidG : id < G.length := by rw [HNN.out]; exact hlt
      have hidG' : id < G'.length := by rw [len_like HLk.out]; exact hidG
      obtain ⟨-, gf, of, rfl, hgf, -⟩ := HF6.out id G[id] (List.getElem?_eq_getElem hidG)
      obtain ⟨-, gr, or_, rfl, hgr, -⟩ := HG6.out id G'[id] (List.getElem?_eq_getElem hidG')
      have HNf := Lib.hid (fun (X : World) (hX : Below w6.heap.size w6 X) => show X.cell? ⟨gf, of + id * 6, none⟩ = some (.int .i64 G[id].kind) ∧ X.cell? ⟨gf, of + id * 6 + 1, none⟩ = some (.string G[id].name) ∧ X.cell? ⟨gf, of + id * 6 + 2, none⟩ = some (.string G[id].text) ∧ X.cell? ⟨gf, of + id * 6 + 3, none⟩ = some (.slice G[id].aA G[id].attrs.length G[id].aC) ∧ X.cell? ⟨gf, of + id * 6 + 4, none⟩ = some (.int .i64 G[id].parent) ∧ X.cell? ⟨gf, of + id * 6 + 5, none⟩ = some (.slice G[id].kA G[id].kids.length G[id].kC) from by
        obtain ⟨-, g', o', hA, -, h⟩ := HF6.out.below hX id G[id] (List.getElem?_eq_getElem hidG)
        cases hA
        exact ⟨h.c0, h.c1, h.c2, h.c3, h.c4, h.c5⟩)
      have HNr := Lib.hid (fun (X : World) (hX : Below w6.heap.size w6 X) => show X.cell? ⟨gr, or_ + id * 6, none⟩ = some (.int .i64 G'[id].kind) ∧ X.cell? ⟨gr, or_ + id * 6 + 1, none⟩ = some (.string G'[id].name) ∧ X.cell? ⟨gr, or_ + id * 6 + 2, none⟩ = some (.string G'[id].text) ∧ X.cell? ⟨gr, or_ + id * 6 + 3, none⟩ = some (.slice G'[id].aA G'[id].attrs.length G'[id].aC) ∧ X.cell? ⟨gr, or_ + id * 6 + 4, none⟩ = some (.int .i64 G'[id].parent) ∧ X.cell? ⟨gr, or_ + id * 6 + 5, none⟩ = some (.slice G'[id].kA G'[id].kids.length G'[id].kC) from by
        obtain ⟨-, g', o', hA, -, h⟩ := HG6.out.below hX id G'[id] (List.getElem?_eq_getElem hidG')
        cases hA
        exact ⟨h.c0, h.c1, h.c2, h.c3, h.c4, h.c5⟩)
      have HFf := Lib.hid (fun (X : World) (tA : Option Addr) (T : List Tr) (tc : Nat) (hX : Below w6.heap.size w6 X) (hT : TR X tA T) (ht : ∀ t ∈ T, t.2.1.size ≤ 100000) (hl : T.length ≤ 9223372036854775807) => show Calls Tryz.prog 24 #[nval G[id], .slice tA T.length tc] X (GivesV (.bool (fitsB G[id] T)) X) from by
        obtain ⟨-, g', o', hA, -, h⟩ := HF6.out.below hX id G[id] (List.getElem?_eq_getElem hidG)
        exact fits_any G[id] tA T tc X h.ar (may_nb HM5.out _ (List.getElem_mem hidG)) hT ht hl)
      have HFr := Lib.hid (fun (X : World) (tA : Option Addr) (T : List Tr) (tc : Nat) (hX : Below w6.heap.size w6 X) (hT : TR X tA T) (ht : ∀ t ∈ T, t.2.1.size ≤ 100000) (hl : T.length ≤ 9223372036854775807) => show Calls Tryz.prog 25 #[nval G'[id], .slice tA T.length tc] X (GivesV (.bool (fitsB G[id] T)) X) from by
        have hm' := like_may HLk.out HM5.out
        obtain ⟨-, g', o', hA, -, h⟩ := HG6.out.below hX id G'[id] (List.getElem?_eq_getElem hidG')
        have := rfits_any G'[id] tA T tc X h.ar (may_nb hm' _ (List.getElem_mem hidG')) hT ht hl
        rwa [fits_same (may_attrs hm' _ (List.getElem_mem hidG')), fitsB_like HLk.out hidG' hidG] at this)
      obtain ⟨FB, hFB⟩ : ∃ FB, fitsB G[id] = FB := ⟨_, rfl⟩
      simp only [hFB] at HFf HFr
      clear hFB
      generalize G[id] = m at *
      generalize G'[id] = m' at *
      obtain ⟨kd, nm, tx, at_, pa, ks, aA, aC, kA, kC⟩ := m
      obtain ⟨kd', nm', tx', at', pa', ks', aA', aC', kA', kC'⟩ := m'
      unfold nval at HFf HFr
      simp only [] at HNf HNr HFf HFr
      generalize at_.length = al at *
      generalize ks.length = kl at *
      generalize at'.length = al' at *
      generalize ks'.length = kl' at *
      go_wp2_with fail
      go_loopw [15] (fun q15 wr => ∃ (V : World) (i : Nat), V = wr ∧ i ≤ nx ∧ q15 = .int .i64 i ∧ Hid (Below w6.heap.size w6 V)) (fun q15 _ => nx - (intOf q15).toNat)
      case atStart => exact ⟨_, 0, rfl, Nat.zero_le _, rfl, HV1⟩
      case round =>
        clear HV1
        obtain ⟨V2, i, rfl, hi, rfl, HV2⟩ := hrel
        have hxl : nx ≤ 9223372036854775807 := by have := HFt.out.1; rw [HNX.out] at this; exact this
        by_cases hil : i < nx
        · have i0 : (0 : Int) ≤ (i : Int) := by omega
          have i1 : (i : Int) < (nx : Int) := by omega
          have hix : i < x.length := by rw [HNX.out]; exact hil
          obtain ⟨gp, op, rfl, hgp, -, -⟩ := HXR.out w6 HB6.out i x[i] (List.getElem?_eq_getElem hix)
          have HSi := Lib.hid (fun (X : World) (hX : Below w6.heap.size w6 X) => show X.cell? ⟨gp, op + i, none⟩ = some (.slice x[i].1.1 x[i].2.length x[i].1.2) ∧ MR X x[i].1.1 x[i].2 from by
            obtain ⟨g', o', hA, -, h, hM⟩ := HXR.out X (HB6.out.trans (hX.mono HB6.out.size)) i x[i] (List.getElem?_eq_getElem hix)
            cases hA
            exact ⟨h, hM⟩)
          have HRi := Lib.hid (fun (X : World) (j z : Nat) (hX : Below w6.heap.size w6 X) (hj : j < x[i].2.length) (hz : x[i].2.length = z) => (HRo.out X hX).mono (fun e w' hh => show ∃ p cap, e = .returned (.slice p nx cap) ∧ StepAt w' p i z j x[i].2[j].2.1.length x[i].2[j].2.1 ∧ Below X.heap.size X w' from by
            obtain ⟨y, p, cap, he, hyl, hcx, hY, hb⟩ := hh
            have := step_at hY.xr hcx hix hj
            subst hz
            exact ⟨p, cap, he, this, hb⟩))
          have hml := (HFt.out.2 x[i] (List.getElem_mem hix)).1.1
          have HTl := Lib.hid (fun (j : Nat) (hj : j < x[i].2.length) => show x[i].2[j].2.1.length ≤ 9223372036854775807 ∧ ∀ t ∈ x[i].2[j].2.1, t.2.1.size ≤ 100000 from
            ⟨((HFt.out.2 x[i] (List.getElem_mem hix)).1.2 x[i].2[j] (List.getElem_mem hj)).1, fun t ht => Nat.le_trans (HS1.out x[i] (List.getElem_mem hix) x[i].2[j] (List.getElem_mem hj) t ht).1 (by decide)⟩)
          unfold Sx.So.M63 at hml
          generalize x[i] = mr at *
          obtain ⟨⟨mA, mc⟩, ml⟩ := mr
          simp only [] at HSi HRi hml HTl
          obtain ⟨nm2, hnm2⟩ : ∃ z, ml.length = z := ⟨_, rfl⟩
          have HML := Lib.hid hnm2
          rw [hnm2] at hml
          simp only [hnm2] at HSi
          clear hnm2
          go_wp2_with fail
          go_loopw [16] (fun q16 wr => ∃ (V : World) (j : Nat), V = wr ∧ j ≤ nm2 ∧ q16 = .int .i64 j ∧ Hid (Below w6.heap.size w6 V)) (fun q16 _ => nm2 - (intOf q16).toNat)
          case atStart => exact ⟨_, 0, rfl, Nat.zero_le _, rfl, HV2⟩
          case round =>
            clear HV2
            obtain ⟨V3, j, rfl, hj, rfl, HV3⟩ := hrel
            obtain ⟨c0, -⟩ := HSi.out V3 HV3.out
            by_cases hjl : j < nm2
            · have j0 : (0 : Int) ≤ (j : Int) := by omega
              have j1 : (j : Int) < (nm2 : Int) := by omega
              have hjm : j < ml.length := by rw [HML.out]; exact hjl
              obtain ⟨gs, os, rfl, hgs, -, -, -⟩ := (HSi.out w6 (Below.refl _ _)).2 j ml[j] (List.getElem?_eq_getElem hjm)
              have HSj := Lib.hid (fun (X : World) (hX : Below w6.heap.size w6 X) => show X.cell? ⟨gs, os + j * 2, none⟩ = some (.slice ml[j].1.1 ml[j].2.1.length ml[j].1.2) ∧ TR X ml[j].1.1 ml[j].2.1 from by
                obtain ⟨g', o', hA, -, h, -, hT⟩ := (HSi.out X hX).2 j ml[j] (List.getElem?_eq_getElem hjm)
                cases hA
                exact ⟨h, hT⟩)
              have HRj := Lib.hid (fun (X : World) (hX : Below w6.heap.size w6 X) => HRi.out X j nm2 hX hjm HML.out)
              obtain ⟨htl1, htl2⟩ := HTl.out j hjm
              have HT2 := Lib.hid htl2
              clear htl2
              generalize ml[j] = ms at *
              obtain ⟨⟨sA, sc⟩, T, ch⟩ := ms
              simp only [] at HSj HRj htl1 HT2
              have HF1 := Lib.hid (fun (X : World) (hX : Below w6.heap.size w6 X) => HFf.out X sA T sc hX (HSj.out X hX).2 HT2.out htl1)
              have HF2 := Lib.hid (fun (X : World) (tA : Option Addr) (tc : Nat) (hX : Below w6.heap.size w6 X) (hT : TR X tA T) => HFr.out X tA T tc hX hT HT2.out htl1)
              have HCk := Lib.hid (fun (X : World) (hX : Below w6.heap.size w6 X) => show (X.cell? ⟨gf, of + id * 6, none⟩ = some (.int .i64 kd) ∧ X.cell? ⟨gf, of + id * 6 + 1, none⟩ = some (.string nm) ∧ X.cell? ⟨gf, of + id * 6 + 2, none⟩ = some (.string tx) ∧ X.cell? ⟨gf, of + id * 6 + 3, none⟩ = some (.slice aA al aC) ∧ X.cell? ⟨gf, of + id * 6 + 4, none⟩ = some (.int .i64 pa) ∧ X.cell? ⟨gf, of + id * 6 + 5, none⟩ = some (.slice kA kl kC)) ∧ (X.cell? ⟨gr, or_ + id * 6, none⟩ = some (.int .i64 kd') ∧ X.cell? ⟨gr, or_ + id * 6 + 1, none⟩ = some (.string nm') ∧ X.cell? ⟨gr, or_ + id * 6 + 2, none⟩ = some (.string tx') ∧ X.cell? ⟨gr, or_ + id * 6 + 3, none⟩ = some (.slice aA' al' aC') ∧ X.cell? ⟨gr, or_ + id * 6 + 4, none⟩ = some (.int .i64 pa') ∧ X.cell? ⟨gr, or_ + id * 6 + 5, none⟩ = some (.slice kA' kl' kC')) ∧ X.cell? ⟨gp, op + i, none⟩ = some (.slice (some ⟨gs, os, none⟩) nm2 mc) ∧ X.cell? ⟨gs, os + j * 2, none⟩ = some (.slice sA T.length sc) from ⟨HNf.out X hX, HNr.out X hX, (HSi.out X hX).1, (HSj.out X hX).1⟩)
              generalize FB T = fb at *
              obtain ⟨nt, hnt⟩ : ∃ z, T.length = z := ⟨_, rfl⟩
              have HNT := Lib.hid hnt
              simp only [hnt] at HSj HRj HF1 HF2 HCk
              clear hnt
              have HBs := Lib.hid HV3.out.drew
              have q4 : (fb != fb) = false := by simp
              go_upto_region 19 with fail
              clear c0
              try simp only [List.append_eq, List.cons_append, List.nil_append]
              refine wp_region_held_drew (S := fun X : World => (X.cell? ⟨gf, of + id * 6, none⟩ = some (.int .i64 kd) ∧ X.cell? ⟨gf, of + id * 6 + 1, none⟩ = some (.string nm) ∧ X.cell? ⟨gf, of + id * 6 + 2, none⟩ = some (.string tx) ∧ X.cell? ⟨gf, of + id * 6 + 3, none⟩ = some (.slice aA al aC) ∧ X.cell? ⟨gf, of + id * 6 + 4, none⟩ = some (.int .i64 pa) ∧ X.cell? ⟨gf, of + id * 6 + 5, none⟩ = some (.slice kA kl kC)) ∧ (X.cell? ⟨gr, or_ + id * 6, none⟩ = some (.int .i64 kd') ∧ X.cell? ⟨gr, or_ + id * 6 + 1, none⟩ = some (.string nm') ∧ X.cell? ⟨gr, or_ + id * 6 + 2, none⟩ = some (.string tx') ∧ X.cell? ⟨gr, or_ + id * 6 + 3, none⟩ = some (.slice aA' al' aC') ∧ X.cell? ⟨gr, or_ + id * 6 + 4, none⟩ = some (.int .i64 pa') ∧ X.cell? ⟨gr, or_ + id * 6 + 5, none⟩ = some (.slice kA' kl' kC')) ∧ X.cell? ⟨gp, op + i, none⟩ = some (.slice (some ⟨gs, os, none⟩) nm2 mc) ∧ X.cell? ⟨gs, os + j * 2, none⟩ = some (.slice sA nt sc)) (by kernel_rfl) (HCk.out _ HBs.out) (fun hHeld => ?_)
              refine held_take (i := 0) (d := some 104) (v := ?_) rfl rfl (by kernel_rfl) (by kernel_rfl) (by kernel_rfl) (fun _ _ _ h => h) (by rfl) ?_ (by assumption) ?_
              rotate_left
              · intro w hSw
                try dsimp only at hSw
                first | (go_simp; done) | (go_simp; with_reducible rfl)
              simp only [Act.put, List.setIfInBounds_toArray, List.set_cons_zero, List.set_cons_succ]
              refine held_take (i := 1) (d := some 105) (v := ?_) rfl rfl (by kernel_rfl) (by kernel_rfl) (by kernel_rfl) (fun _ _ _ h => h) (by rfl) ?_ (by assumption) ?_
              rotate_left
              · intro w hSw
                try dsimp only at hSw
                first | (go_simp; done) | (go_simp; with_reducible rfl)
              simp only [Act.put, List.setIfInBounds_toArray, List.set_cons_zero, List.set_cons_succ]
              refine held_take (i := 2) (d := some 106) (v := ?_) rfl rfl (by kernel_rfl) (by kernel_rfl) (by kernel_rfl) (fun _ _ _ h => h) (by rfl) ?_ (by assumption) ?_
              rotate_left
              · intro w hSw
                try dsimp only at hSw
                first | (go_simp; done) | (go_simp; with_reducible rfl)
              simp only [Act.put, List.setIfInBounds_toArray, List.set_cons_zero, List.set_cons_succ]
              refine held_take (i := 3) (d := some 107) (v := ?_) rfl rfl (by kernel_rfl) (by kernel_rfl) (by kernel_rfl) (fun _ _ _ h => h) (by rfl) ?_ (by assumption) ?_
              rotate_left
              · intro w hSw
                try dsimp only at hSw
                first | (go_simp; done) | (go_simp; with_reducible rfl)
              simp only [Act.put, List.setIfInBounds_toArray, List.set_cons_zero, List.set_cons_succ]
              refine held_take (i := 4) (d := some 108) (v := ?_) rfl rfl (by kernel_rfl) (by kernel_rfl) (by kernel_rfl) (fun _ _ _ h => h) (by rfl) ?_ (by assumption) ?_
              rotate_left
              · intro w hSw
                try dsimp only at hSw
                first | (go_simp; done) | (go_simp; with_reducible rfl)
              simp only [Act.put, List.setIfInBounds_toArray, List.set_cons_zero, List.set_cons_succ]
              refine held_take (i := 5) (d := some 109) (v := ?_) rfl rfl (by kernel_rfl) (by kernel_rfl) (by kernel_rfl) (fun _ _ _ h => h) (by rfl) ?_ (by assumption) ?_
              rotate_left
              · intro w hSw
                try dsimp only at hSw
                first | (go_simp; done) | (go_simp; with_reducible rfl)
              simp only [Act.put, List.setIfInBounds_toArray, List.set_cons_zero, List.set_cons_succ]
              refine held_take (i := 6) (d := some 110) (v := ?_) rfl rfl (by kernel_rfl) (by kernel_rfl) (by kernel_rfl) (fun _ _ _ h => h) (by rfl) ?_ (by assumption) ?_
              rotate_left
              · intro w hSw
                try dsimp only at hSw
                first | (go_simp; done) | (go_simp; with_reducible rfl)
              simp only [Act.put, List.setIfInBounds_toArray, List.set_cons_zero, List.set_cons_succ]
              refine held_take (i := 7) (d := some 111) (v := ?_) rfl rfl (by kernel_rfl) (by kernel_rfl) (by kernel_rfl) (fun _ _ _ h => h) (by rfl) ?_ (by assumption) ?_
              rotate_left
              · intro w hSw
                try dsimp only at hSw
                first | (go_simp; done) | (go_simp; with_reducible rfl)
              simp only [Act.put, List.setIfInBounds_toArray, List.set_cons_zero, List.set_cons_succ]
              refine held_take (i := 8) (d := some 112) (v := ?_) rfl rfl (by kernel_rfl) (by kernel_rfl) (by kernel_rfl) (fun _ _ _ h => h) (by rfl) ?_ (by assumption) ?_
              rotate_left
              · intro w hSw
                try dsimp only at hSw
                first | (go_simp; done) | (go_simp; with_reducible rfl)
              simp only [Act.put, List.setIfInBounds_toArray, List.set_cons_zero, List.set_cons_succ]
              refine held_take (i := 9) (d := some 113) (v := ?_) rfl rfl (by kernel_rfl) (by kernel_rfl) (by kernel_rfl) (fun _ _ _ h => h) (by rfl) ?_ (by assumption) ?_
              rotate_left
              · intro w hSw
                try dsimp only at hSw
                first | (go_simp; done) | (go_simp; with_reducible rfl)
              simp only [Act.put, List.setIfInBounds_toArray, List.set_cons_zero, List.set_cons_succ]
              refine held_take (i := 10) (d := some 114) (v := ?_) rfl rfl (by kernel_rfl) (by kernel_rfl) (by kernel_rfl) (fun _ _ _ h => h) (by rfl) ?_ (by assumption) ?_
              rotate_left
              · intro w hSw
                try dsimp only at hSw
                first | (go_simp; done) | (go_simp; with_reducible rfl)
              simp only [Act.put, List.setIfInBounds_toArray, List.set_cons_zero, List.set_cons_succ]
              refine held_take (i := 11) (d := some 115) (v := ?_) rfl rfl (by kernel_rfl) (by kernel_rfl) (by kernel_rfl) (fun _ _ _ h => h) (by rfl) ?_ (by assumption) ?_
              rotate_left
              · intro w hSw
                try dsimp only at hSw
                first | (go_simp; done) | (go_simp; with_reducible rfl)
              simp only [Act.put, List.setIfInBounds_toArray, List.set_cons_zero, List.set_cons_succ]
              refine held_take (i := 13) (d := some 117) (v := ?_) rfl rfl (by kernel_rfl) (by kernel_rfl) (by kernel_rfl) (fun _ _ _ h => h) (by rfl) ?_ (by assumption) ?_
              rotate_left
              · intro w hSw
                try dsimp only at hSw
                first | (go_simp; done) | (go_simp; with_reducible rfl)
              simp only [Act.put, List.setIfInBounds_toArray, List.set_cons_zero, List.set_cons_succ]
              refine held_take (i := 14) (d := some 118) (v := ?_) rfl rfl (by kernel_rfl) (by kernel_rfl) (by kernel_rfl) (fun _ _ _ h => h) (by rfl) ?_ (by assumption) ?_
              rotate_left
              · intro w hSw
                try dsimp only at hSw
                first | (go_simp; done) | (go_simp; with_reducible rfl)
              simp only [Act.put, List.setIfInBounds_toArray, List.set_cons_zero, List.set_cons_succ]
              refine held_take (i := 15) (d := some 119) (v := ?_) rfl rfl (by kernel_rfl) (by kernel_rfl) (by kernel_rfl) (fun _ _ _ h => h) (by rfl) ?_ (by assumption) ?_
              rotate_left
              · intro w hSw
                try dsimp only at hSw
                first | (go_simp; done) | (go_simp; with_reducible rfl)
              simp only [Act.put, List.setIfInBounds_toArray, List.set_cons_zero, List.set_cons_succ]
              refine held_take (i := 16) (d := some 120) (v := ?_) rfl rfl (by kernel_rfl) (by kernel_rfl) (by kernel_rfl) (fun _ _ _ h => h) (by rfl) ?_ (by assumption) ?_
              rotate_left
              · intro w hSw
                try dsimp only at hSw
                first | (go_simp; done) | (go_simp; with_reducible rfl)
              simp only [Act.put, List.setIfInBounds_toArray, List.set_cons_zero, List.set_cons_succ]
              refine held_take (i := 17) (d := some 121) (v := ?_) rfl rfl (by kernel_rfl) (by kernel_rfl) (by kernel_rfl) (fun _ _ _ h => h) (by rfl) ?_ (by assumption) ?_
              rotate_left
              · intro w hSw
                try dsimp only at hSw
                first | (go_simp; done) | (go_simp; with_reducible rfl)
              simp only [Act.put, List.setIfInBounds_toArray, List.set_cons_zero, List.set_cons_succ]
              refine held_take (i := 19) (d := some 123) (v := ?_) rfl rfl (by kernel_rfl) (by kernel_rfl) (by kernel_rfl) (fun _ _ _ h => h) (by rfl) ?_ (by assumption) ?_
              rotate_left
              · intro w hSw
                try dsimp only at hSw
                first | (go_simp; done) | (go_simp; with_reducible rfl)
              simp only [Act.put, List.setIfInBounds_toArray, List.set_cons_zero, List.set_cons_succ]
              refine held_take (i := 22) (d := some 126) (v := ?_) rfl rfl (by kernel_rfl) (by kernel_rfl) (by kernel_rfl) (fun _ _ _ h => h) (by rfl) ?_ (by assumption) ?_
              rotate_left
              · intro w hSw
                try dsimp only at hSw
                first | (go_simp; done) | (go_simp; with_reducible rfl)
              simp only [Act.put, List.setIfInBounds_toArray, List.set_cons_zero, List.set_cons_succ]
              refine wpAnyH_ready (rs := [12]) (by kernel_rfl) (by simp) ?_
              refine AllReadyH.cons rfl (fun K hK => ?_) AllReadyH.nil
              go_simp
              refine (HF1.out _ HBs.out).mono ?_
              rintro e wF ⟨rfl, hb⟩
              have HBf := Lib.hid (HBs.out.trans (hb.mono HBs.out.size))
              clear hb
              refine hK.out _ _ (HCk.out _ HBf.out) (fun hHeld2 => ?_)
              clear hK K hHeld
              have hHeld := hHeld2
              clear hHeld2
              try simp only [Act.put, List.setIfInBounds_toArray, List.set_cons_zero, List.set_cons_succ]
              refine wpAnyH_ready (rs := [18]) (by kernel_rfl) (by simp) ?_
              refine AllReadyH.cons rfl (fun K hK => ?_) AllReadyH.nil
              go_simp
              refine (HRj.out _ HBf.out).mono ?_
              rintro e wR ⟨pR, cR, rfl, ⟨gy, oy, gz, oz, cz, tA, tc, rfl, hgy, hgz, e0, e1, hTr⟩, hb⟩
              have HBr := Lib.hid (HBf.out.trans (hb.mono HBf.out.size))
              have HTr := Lib.hid hTr
              have HE0 := Lib.hid e0
              have HE1 := Lib.hid e1
              clear hb hTr e0 e1
              refine hK.out _ _ (HCk.out _ HBr.out) (fun hHeld2 => ?_)
              clear hK K hHeld
              have hHeld := hHeld2
              clear hHeld2
              try simp only [Act.put, List.setIfInBounds_toArray, List.set_cons_zero, List.set_cons_succ]
              refine held_take (i := 20) (d := some 124) (v := ?_) rfl rfl (by kernel_rfl) (by kernel_rfl) (by kernel_rfl) (fun _ _ _ h => h) (by rfl) ?_ (by assumption) ?_
              rotate_left
              · intro w hSw
                try dsimp only at hSw
                first | (go_simp; done) | (go_simp; with_reducible rfl)
              simp only [Act.put, List.setIfInBounds_toArray, List.set_cons_zero, List.set_cons_succ]
              refine wpAnyH_ready (rs := [21]) (by kernel_rfl) (by simp) ?_
              refine AllReadyH.cons rfl (fun K hK => ?_) AllReadyH.nil
              have e0 := HE0.out
              go_simp
              clear e0
              refine hK.out _ _ (HCk.out _ HBr.out) (fun hHeld2 => ?_)
              clear hK K hHeld
              have hHeld := hHeld2
              clear hHeld2
              try simp only [Act.put, List.setIfInBounds_toArray, List.set_cons_zero, List.set_cons_succ]
              refine held_take (i := 23) (d := some 127) (v := ?_) rfl rfl (by kernel_rfl) (by kernel_rfl) (by kernel_rfl) (fun _ _ _ h => h) (by rfl) ?_ (by assumption) ?_
              rotate_left
              · intro w hSw
                try dsimp only at hSw
                first | (go_simp; done) | (go_simp; with_reducible rfl)
              simp only [Act.put, List.setIfInBounds_toArray, List.set_cons_zero, List.set_cons_succ]
              refine held_take (i := 24) (d := some 128) (v := ?_) rfl rfl (by kernel_rfl) (by kernel_rfl) (by kernel_rfl) (fun _ _ _ h => h) (by rfl) ?_ (by assumption) ?_
              rotate_left
              · intro w hSw
                try dsimp only at hSw
                first | (go_simp; done) | (go_simp; with_reducible rfl)
              simp only [Act.put, List.setIfInBounds_toArray, List.set_cons_zero, List.set_cons_succ]
              refine wpAnyH_ready (rs := [25]) (by kernel_rfl) (by simp) ?_
              refine AllReadyH.cons rfl (fun K hK => ?_) AllReadyH.nil
              have e1 := HE1.out
              go_simp
              clear e1
              refine hK.out _ _ (HCk.out _ HBr.out) (fun hHeld2 => ?_)
              clear hK K hHeld
              have hHeld := hHeld2
              clear hHeld2
              try simp only [Act.put, List.setIfInBounds_toArray, List.set_cons_zero, List.set_cons_succ]
              refine wpAnyH_ready (rs := [26]) (by kernel_rfl) (by simp) ?_
              refine AllReadyH.cons rfl (fun K hK => ?_) AllReadyH.nil
              go_simp
              refine (HF2.out _ _ _ HBr.out HTr.out).mono ?_
              rintro e wQ ⟨rfl, hb⟩
              have HBq := Lib.hid (HBr.out.trans (hb.mono HBr.out.size))
              clear hb
              refine hK.out _ _ (HCk.out _ HBq.out) (fun hHeld2 => ?_)
              clear hK K hHeld
              have hHeld := hHeld2
              clear hHeld2
              try simp only [Act.put, List.setIfInBounds_toArray, List.set_cons_zero, List.set_cons_succ]
              refine held_take (i := 27) (d := some 131) (v := ?_) rfl rfl (by kernel_rfl) (by kernel_rfl) (by kernel_rfl) (fun _ _ _ h => h) (by rfl) ?_ (by assumption) ?_
              rotate_left
              · intro w hSw
                try dsimp only at hSw
                first | (go_simp; done) | (go_simp; with_reducible rfl)
              simp only [Act.put, List.setIfInBounds_toArray, List.set_cons_zero, List.set_cons_succ]
              refine wpAnyH_done (by kernel_rfl) ?_ _
              clear hHeld
              -- region's end
              go_wp2
              go_roundw
              case rel => exact ⟨_, j + 1, rfl, by omega, by go_num, HBq⟩
              case measure => simp [intOf] <;> omega
            · obtain rfl : j = nm2 := by omega
              go_wp2
              go_roundw
              case rel => exact ⟨_, i + 1, rfl, by omega, by go_num, HV3⟩
              case measure => simp [intOf] <;> omega
        · obtain rfl : i = nx := by omega
          go_wp2
          go_roundw
          case rel => exact ⟨_, id + 1, rfl, by omega, by go_num, HV2⟩
          case measure => simp [intOf] <;> omega
    · obtain rfl : id = n := by omega
      go_wp2
      go_ret
      exact ⟨rfl, HB6.out.trans (HV1.out.mono HB6.out.size)⟩
end Go.Proofs.YtaacikjoafobfaaGreatDoor.Fi
