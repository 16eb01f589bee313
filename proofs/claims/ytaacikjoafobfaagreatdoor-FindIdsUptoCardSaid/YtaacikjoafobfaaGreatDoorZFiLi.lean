/-
  The law FindIds: what #name finds first, walk.ById finds.
-/
import Derived.Test.YtaacikjoafobfaaGreatDoorZFiIe
import Derived.Test.YtaacikjoafobfaaGreatDoorG18
import Derived.Laws.Concat
namespace Go.Proofs.YtaacikjoafobfaaGreatDoor.Fi
open Go.ChangeShapes Go.WideShapes Go.ChangeAt Go.RowKit
open Sx (Tr Ms Mr TR MR XR tV r1 ls te stp rws)
set_option linter.unusedVariables false
set_option linter.unusedSimpArgs false

theorem ls_hash (t : ByteArray) : ls (⟨#[35]⟩ ++ t) = 35 :: ls t := by simp [ls]
set_option maxRecDepth 100000 in
set_option maxHeartbeats 8000000 in
theorem ids_law (A : Option Addr) (l : List Ops.Po) (c : Nat) (t : ByteArray) (ht : t.size ≤ 1048576) (w : World) (hL : Ops.OL w A l) (hl : l.length ≤ 9223372036854775807) (hK : Ops.KT w) :
    Calls Tryz.prog 8 #[.slice A l.length c, .string t] w (GivesV (.bool true) w) := by
  have HB0 := Lib.hid (fun (V : World) (hb : Below w.heap.size w V) => bounded10 A l c V (hL.below hb) hl)
  have HS := Lib.hid (fun (V : World) (hb : Below w.heap.size w V) => shown10 V (hK.below hb))
  have HG := Lib.hid (fun (V : World) (hb : Below w.heap.size w V) (h : l.length ≤ 150) => grown10 A l c V (hL.below hb) (by omega) (hK.below hb))
  have HLE : Hid (bdO l = true → l.length ≤ 150) := Lib.hid (fun h => by
    unfold bdO at h
    rw [Bool.and_eq_true, decide_eq_true_eq] at h
    exact h.2)
  obtain ⟨nl, hnn⟩ : ∃ n, l.length = n := ⟨_, rfl⟩
  rw [hnn] at HB0 HG HLE hl ⊢
  clear hL hK hnn
  generalize bdO l = BL at *
  obtain ⟨T, hT⟩ : ∃ T : ByteArray, T = ⟨#[35]⟩ ++ t := ⟨_, rfl⟩
  have hTs : T.size = 1 + t.size := by rw [hT, ByteArray.size_append]; rfl
  have hA : ∀ W, (Op.stringOp .add ⟨#[35]⟩ t).run Tryz.prog W = .ok (.string T) W := fun W => by rw [hT]; exact run_string_add_sum W _ _ (by show 1 + t.size ≤ _; omega)
  have HTl : Hid (ls T = 35 :: ls t) := Lib.hid (by rw [hT, ls_hash])
  have HPa := Lib.hid (Sx.sel_parse T w (by omega))
  clear hT
  go_enter Tryz.func8, Tryz.ntmps8
  go_wp2_with fail
  refine HPa.out.mono ?_
  rintro e w1 ⟨hcs, hb⟩
  have HB1 := Lib.hid hb
  clear hb
  rcases hcs with ⟨x, v, rfl, hS, hp⟩ | ⟨k, rfl, hp⟩
  · by_cases hsz : t.size ≤ 100
    · have q1 : decide ((100 : Int) < (t.size : Int)) = false := by simp; omega
      have hw := Sl.parse_wx hp
      rw [Sx.ls_len] at hw
      obtain ⟨B, d, rfl, hX⟩ := xs_of hS (by omega)
      have HX := Lib.hid hX
      have HPr := Lib.hid hp
      obtain ⟨nx, hnx⟩ : ∃ nx, x.length = nx := ⟨_, rfl⟩
      have HNX := Lib.hid hnx
      rw [hnx]
      clear hw hS hp hX hnx
      go_wp2_with fail
      refine (HB0.out w1 HB1.out).mono ?_
      rintro e w' ⟨rfl, hw⟩
      obtain rfl := hw.symm
      cases BL with
      | false =>
        go_wp2_with fail
        refine (HS.out w1 HB1.out).mono ?_
        rintro e w9 ⟨rfl, hb⟩
        have HB9 := Lib.hid (HB1.out.trans (hb.mono HB1.out.size))
        clear hb
        go_wp2
        go_ret
        exact ⟨rfl, HB9.out⟩
      | true =>
      have hln := HLE.out rfl
      by_cases hn1 : nx = 1
      case neg =>
        have q2 : ((nx : Int) != 1) = true := by simp; omega
        go_wp2_with fail
        refine (HS.out w1 HB1.out).mono ?_
        rintro e w9 ⟨rfl, hb⟩
        have HB9 := Lib.hid (HB1.out.trans (hb.mono HB1.out.size))
        clear hb
        go_wp2
        go_ret
        exact ⟨rfl, HB9.out⟩
      subst hn1
      obtain ⟨m, rfl⟩ : ∃ m, x = [m] := List.length_eq_one_iff.1 HNX.out
      obtain ⟨g, off, rfl, hg, c0, hM⟩ := HX.out.xr 0 m rfl
      obtain ⟨⟨mA, mc⟩, ml⟩ := m
      have HM := Lib.hid hM
      unfold r1 at c0
      simp only [Nat.add_zero] at c0
      have HML : Hid (((mA, mc), ml).2 = ml) := Lib.hid rfl
      obtain ⟨nm, hnm⟩ : ∃ nm, ml.length = nm := ⟨_, rfl⟩
      have HNM := Lib.hid hnm
      rw [hnm] at c0
      have HC0 := Lib.hid (fun (V : World) (hV : Below w1.heap.size w1 V) => (hV.cell (p := ⟨g, off, none⟩) hg).trans c0)
      clear hM hnm
      by_cases hn2 : nm = 1
      case neg =>
        have q2 : ((nm : Int) != 1) = true := by simp; omega
        go_wp2_with fail
        refine (HS.out w1 HB1.out).mono ?_
        rintro e w9 ⟨rfl, hb⟩
        have HB9 := Lib.hid (HB1.out.trans (hb.mono HB1.out.size))
        clear hb
        go_wp2
        go_ret
        exact ⟨rfl, HB9.out⟩
      subst hn2
      obtain ⟨s, rfl⟩ : ∃ s, ml = [s] := List.length_eq_one_iff.1 HNM.out
      obtain ⟨gs, os, rfl, hgs, s0, s1, hT⟩ := HM.out 0 s rfl
      obtain ⟨⟨sA, sc⟩, sl, sch⟩ := s
      have HTR := Lib.hid hT
      simp only [Nat.zero_mul, Nat.add_zero] at s0
      obtain ⟨ns, hns⟩ : ∃ ns, sl.length = ns := ⟨_, rfl⟩
      have HNS := Lib.hid hns
      rw [hns] at s0
      have HS0 := Lib.hid (fun (V : World) (hV : Below w1.heap.size w1 V) => (hV.cell (p := ⟨gs, os, none⟩) hgs).trans s0)
      clear s1 hT hns
      by_cases hn3 : ns = 1
      case neg =>
        have q2 : ((ns : Int) != 1) = true := by simp; omega
        go_wp2_with fail
        refine (HS.out w1 HB1.out).mono ?_
        rintro e w9 ⟨rfl, hb⟩
        have HB9 := Lib.hid (HB1.out.trans (hb.mono HB1.out.size))
        clear hb
        go_wp2
        go_ret
        exact ⟨rfl, HB9.out⟩
      subst hn3
      obtain ⟨q, rfl⟩ : ∃ q, sl = [q] := List.length_eq_one_iff.1 HNS.out
      obtain ⟨gt, ot, rfl, hgt, t0, t1, t2⟩ := HTR.out 0 q rfl
      obtain ⟨qk, qn, qv⟩ := q
      have HH := Lib.hid (hash_one (x := [((some ⟨g, off, none⟩, mc), [((some ⟨gs, os, none⟩, sc), ([(qk, qn, qv)], sch))])]) (by rw [← HTl.out]; exact HPr.out) rfl rfl rfl)
      obtain ⟨hqk, hqn⟩ := HH.out
      simp only [] at hqk hqn
      obtain rfl := hqk
      simp only [Nat.zero_mul, Nat.add_zero] at t1
      have HT1 := Lib.hid (fun (V : World) (hV : Below w1.heap.size w1 V) => (hV.cell (p := ⟨gt, ot + 1, none⟩) hgt).trans t1)
      clear HH t0 t1 t2 HTR HNS HNM HML HM HNX HPr HTl HPa
      go_wp2_with fail
      refine (HS.out w1 HB1.out).mono ?_
      rintro e w4 ⟨rfl, hb⟩
      have HC4 := Lib.hid hb
      have HB4 := Lib.hid (HB1.out.trans (hb.mono HB1.out.size))
      clear hb
      go_wp2_with fail
      refine (HG.out w4 HB4.out hln).mono ?_
      rintro e w5 ⟨Af, G, cf, rfl, hF, hm, hlk, hb⟩
      have HC5 := Lib.hid (HC4.out.trans (hb.mono HC4.out.size))
      clear hb hlk HS HG HLE HB0 HB4
      have h0n := (mayB_parts hm).1
      obtain ⟨k, b, hk, hbp⟩ := first_id hm (some ⟨gs, os, none⟩, mc) (some ⟨gt, ot, none⟩, sc) qn qv sch hqn
      have HId : Hid (∀ (V : World), Below w5.heap.size w5 V → Calls Tryz.prog 29 #[.slice Af G.length cf, .string qn] V fun e w' => e = .returned (.tuple #[.int .i64 (if b then (k, 0) else (0, 3) : Int × Int).1, .int .i64 (if b then (k, 0) else (0, 3) : Int × Int).2]) ∧ Below V.heap.size V w') := Lib.hid (fun V hV => by
        rw [← hbp]
        exact wbyid_any Af G cf qn V (hF.below hV) hm)
      have HFi : Hid (∀ (V : World), Below w5.heap.size w5 V → Calls Tryz.prog 17 #[.slice Af G.length cf, .int .i64 0, .slice (some ⟨g, off, none⟩) 1 d] V (GivesV (.tuple #[.int .i64 k, .bool b]) V)) := Lib.hid (fun V hV => by
        rw [← hk]
        exact first_any Af G cf 0 (some ⟨g, off, none⟩) [((some ⟨gs, os, none⟩, mc), [((some ⟨gt, ot, none⟩, sc), ([(2, qn, qv)], sch))])] d V (hF.below hV) hm h0n (HX.out.below (HC5.out.trans (hV.mono HC5.out.size))))
      have c5 := HC0.out w5 HC5.out
      have s5 := HS0.out w5 HC5.out
      have t5 := HT1.out w5 HC5.out
      obtain ⟨nG, hnG⟩ : ∃ n, G.length = n := ⟨_, rfl⟩
      rw [hnG] at HId HFi ⊢
      clear hk hbp hF hm h0n hnG HX c0 s0
      go_wp2_with fail
      refine (HId.out w5 (Below.refl _ _)).mono ?_
      rintro e w6 ⟨rfl, hb⟩
      have HD6 := Lib.hid hb
      clear hb
      cases b with
      | true =>
        simp only [if_true]
        go_wp2_with fail
        refine (HFi.out w6 HD6.out).mono ?_
        rintro e w7 ⟨rfl, hb⟩
        have HD7 := Lib.hid (HB1.out.trans ((HC5.out.trans ((HD6.out.trans (hb.mono HD6.out.size)).mono HC5.out.size)).mono HB1.out.size))
        clear hb
        go_wp2
        go_ret
        exact ⟨ret_bool (by simp), HD7.out⟩
      | false =>
        simp only [Bool.false_eq_true, if_false]
        go_wp2_with fail
        refine (HFi.out w6 HD6.out).mono ?_
        rintro e w7 ⟨rfl, hb⟩
        have HD7 := Lib.hid (HB1.out.trans ((HC5.out.trans ((HD6.out.trans (hb.mono HD6.out.size)).mono HC5.out.size)).mono HB1.out.size))
        clear hb
        go_wp2
        go_ret
        exact ⟨ret_bool (by simp), HD7.out⟩
    · have q1 : decide ((100 : Int) < (t.size : Int)) = true := by simp; omega
      obtain ⟨B, d, rfl, -⟩ := Sx.xr_of hS
      generalize x.length = nx at *
      clear hS hp
      go_wp2_with fail
      refine (HB0.out w1 HB1.out).mono ?_
      rintro e w' ⟨rfl, hw⟩
      obtain rfl := hw.symm
      cases BL with
      | false =>
        go_wp2_with fail
        refine (HS.out w1 HB1.out).mono ?_
        rintro e w9 ⟨rfl, hb⟩
        have HB9 := Lib.hid (HB1.out.trans (hb.mono HB1.out.size))
        clear hb
        go_wp2
        go_ret
        exact ⟨rfl, HB9.out⟩
      | true =>
        go_wp2_with fail
        refine (HS.out w1 HB1.out).mono ?_
        rintro e w9 ⟨rfl, hb⟩
        have HB9 := Lib.hid (HB1.out.trans (hb.mono HB1.out.size))
        clear hb
        go_wp2
        go_ret
        exact ⟨rfl, HB9.out⟩
  · clear hp
    go_wp2_with fail
    refine (HB0.out w1 HB1.out).mono ?_
    rintro e w' ⟨rfl, hw⟩
    obtain rfl := hw.symm
    cases BL with
    | false =>
      go_wp2_with fail
      refine (HS.out w1 HB1.out).mono ?_
      rintro e w9 ⟨rfl, hb⟩
      have HB9 := Lib.hid (HB1.out.trans (hb.mono HB1.out.size))
      clear hb
      go_wp2
      go_ret
      exact ⟨rfl, HB9.out⟩
    | true =>
      by_cases hsz : t.size ≤ 100
      · have q1 : decide ((100 : Int) < (t.size : Int)) = false := by simp; omega
        go_wp2_with fail
        refine (HS.out w1 HB1.out).mono ?_
        rintro e w9 ⟨rfl, hb⟩
        have HB9 := Lib.hid (HB1.out.trans (hb.mono HB1.out.size))
        clear hb
        go_wp2
        go_ret
        exact ⟨rfl, HB9.out⟩
      · have q1 : decide ((100 : Int) < (t.size : Int)) = true := by simp; omega
        go_wp2_with fail
        refine (HS.out w1 HB1.out).mono ?_
        rintro e w9 ⟨rfl, hb⟩
        have HB9 := Lib.hid (HB1.out.trans (hb.mono HB1.out.size))
        clear hb
        go_wp2
        go_ret
        exact ⟨rfl, HB9.out⟩
end Go.Proofs.YtaacikjoafobfaaGreatDoor.Fi
