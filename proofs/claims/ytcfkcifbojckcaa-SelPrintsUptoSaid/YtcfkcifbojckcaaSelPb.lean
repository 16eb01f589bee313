/-
  The document's Print: a selector, as a text that is parsed to it.
-/
import Derived.Test.YtcfkcifbojckcaaSelPa
import Derived.Test.YtcfkcifbojckcaaSelPm
import Derived.Test.YtcfkcifbojckcaaSelRh
import Derived.Test.YtcfkcifbojckcaaSelZ
import Derived.Test.YtcfkcifbojckcaaSelV
import Derived.Deep.CutRange
import Derived.Deep.CutBlock
namespace Go.Proofs.Ytcfkcifbojckcaa
open Go.ChangeShapes Go.WideShapes Go.ChangeAt Go.RowKit
open Go.PlainAid (bt)
set_option linter.unusedVariables false
set_option linter.unusedSimpArgs false

theorem ba_sum (a b : List UInt8) : ba a ++ ba b = ba (a ++ b) := ba_eq (by simp [ba, ByteArray.data_append])
set_option maxRecDepth 100000 in
set_option maxHeartbeats 4000000 in
theorem rprint9_any (A : Option Addr) (x : List Mr) (c : Nat) (w : World) (hX : XR w A x) (hw : Sl.wx (rws x) ≤ 20000) :
    Calls Try.prog 7 #[.slice A x.length c] w (QRes (rws x) w) := by
  have HX := Lib.hid hX
  have hS : (Sl.printS (rws x)).length ≤ 20000 := Nat.le_trans (Sl.printS_le _) hw
  have HWX := Lib.hid hw
  have hxl : x.length ≤ 20000 := by
    have := Sl.wx_len (rws x)
    rw [rws, List.length_map] at this
    rw [rws] at hw
    omega
  have HP := Lib.hid (fun (V : World) => rparse_any (ba (Sl.printS (rws x))) V (by rw [ba_size]; omega))
  have HSame := Lib.hid (fun (B : Option Addr) (y : List Mr) (d : Nat) (V : World) (hb : Below w.heap.size w V) (hY : XR V B y) (hs : smallX y) => rsame_any A B x y c d V (hX.below hb) hY (small_wx (by omega)) hs)
  have HPS : Hid (∀ y : List Mr, Sl.parse (ls (ba (Sl.printS (rws x)))) = .ok (rws y) → smallX y) := Lib.hid (fun y hy => small_wx (by
    have := Sl.parse_wx hy
    rw [ba_ls] at this
    omega))
  have HPr : Hid (∀ (k : Int) (a b : ByteArray) (V : World), a.size ≤ 4000000 → b.size ≤ 4000000 → Calls Try.prog 13 #[.agg #[.int .i64 k, .string a, .string b]] V fun e w' => e = .returned (.string (ba (Sl.pt (te (k, a, b))))) ∧ Below V.heap.size V w') := Lib.hid (fun k a b V h1 h2 => rprint_any (k, a, b) V h1 h2)
  obtain ⟨n, hn⟩ : ∃ n, x.length = n := ⟨_, rfl⟩
  have HN := Lib.hid hn
  rw [hn] at hxl HSame ⊢
  clear hX hw hn
  go_enter Try.func7, Try.ntmps7
  go_wp2_with fail
  go_loopw [4, 5] (fun q4 q5 wr => ∃ (V : World) (S : ByteArray) (i : Nat), V = wr ∧ i ≤ n ∧ q4 = .string S ∧ q5 = .int .i64 i ∧ S.size ≤ 90000 ∧ Hid (S = ba (Sl.printS ((rws x).take i))) ∧ Hid (Below w.heap.size w V)) (fun _ q5 _ => n - (intOf q5).toNat)
  case atStart => exact ⟨_, ⟨#[]⟩, 0, rfl, Nat.zero_le _, rfl, rfl, by decide, Lib.hid rfl, Lib.hid (Below.refl _ _)⟩
  case round =>
    obtain ⟨V, S, i, rfl, hi, rfl, rfl, hS0, HS, HB⟩ := hrel
    by_cases hlt : i < n
    · have k0 : (0 : Int) ≤ (i : Int) := by omega
      have k1 : (i : Int) < (n : Int) := by omega
      have hix : i < x.length := by rw [HN.out]; exact hlt
      have hir : i < (rws x).length := by rw [rws, List.length_map]; exact hix
      obtain ⟨g, off, rfl, hg, c0, hM⟩ := HX.out i x[i] (List.getElem?_eq_getElem hix)
      have HM := Lib.hid hM
      have HRi : Hid ((rws x)[i] = x[i].2.map stp) := Lib.hid (by simp [rws])
      have HS1 : Hid (headS (rws x) i = Sl.printS ((rws x).take i) ++ (if i = 0 then [] else [44, 32])) := Lib.hid rfl
      have HN1 : Hid (Sl.printS ((rws x).take (i + 1)) = headS (rws x) i ++ Sl.prow gG (x[i].2.map stp)) := Lib.hid (by rw [head_row hir, HRi.out])
      have HL1 : Hid ((headS (rws x) i).length ≤ 20002) := Lib.hid (Nat.le_trans (head_le _ _) (by have := HWX.out; omega))
      have HW1 : Hid (Sl.wss (x[i].2.map stp) ≤ 20000) := Lib.hid (by
        have := Sl.wx_row (List.mem_map_of_mem (f := fun m : Mr => m.2.map stp) (List.getElem_mem hix))
        unfold Sl.wr at this
        have h2 := HWX.out
        rw [rws] at h2
        omega)
      have HL2 := Lib.hid (prow_len (x[i].2.map stp))
      unfold r1 at c0
      have HC0 := Lib.hid (fun (V : World) (hV : Below w.heap.size w V) => And.intro ((hV.cell (p := ⟨g, off + i, none⟩) hg).trans c0) (Nat.lt_of_lt_of_le hg hV.size))
      clear hM c0
      generalize headS (rws x) i = Hh at *
      clear HRi hir
      generalize x[i] = m at *
      obtain ⟨⟨mA, mc⟩, l⟩ := m
      simp only [] at HC0 HM HN1 HW1 HL2
      obtain ⟨nl, hnl⟩ : ∃ nl, l.length = nl := ⟨_, rfl⟩
      have HNL := Lib.hid hnl
      have hl1 : nl ≤ 20000 := by
        have h1 := Sl.wss_len (l.map stp)
        have h2 := HW1.out
        rw [List.length_map] at h1
        omega
      rw [hnl] at HC0
      clear hnl
      go_upto_region 5 with fail
      go_cut [18] from 11 to 88 (fun q wx => (∃ b : Bool, q = .bool b ∧ b = decide (0 < i)) ∧ Hid (Below w.heap.size w wx))
      case first =>
        go_wp2
        go_meet
        exact ⟨⟨_, rfl, by simp⟩, HB⟩
      case rest =>
      obtain ⟨⟨b, rfl, hb⟩, HBb⟩ := hcut
      go_upto_if 18 with fail
      go_cut [4] from 11 to 88 (fun q4 wx => ∃ S1 : ByteArray, q4 = .string S1 ∧ S1.size ≤ 90000 ∧ Hid (S1 = ba Hh) ∧ Hid (Below w.heap.size w wx))
      case first =>
        by_cases h0 : i = 0
        · obtain rfl : b = false := by rw [hb]; simp; omega
          have e1 : Hid (S = ba Hh) := Lib.hid (by rw [HS.out, HS1.out, if_pos h0, List.append_nil])
          clear h0 hb
          go_wp2
          go_meet
          exact ⟨S, rfl, hS0, e1, HBb⟩
        · obtain rfl : b = true := by rw [hb]; simp; omega
          have e1 : Hid (S ++ ⟨#[44, 32]⟩ = ba Hh) := Lib.hid (by rw [HS.out, HS1.out, if_neg h0]; exact ba_sum _ [44, 32])
          clear h0 hb
          go_wp2
          go_meet
          exact ⟨_, rfl, by rw [e1.out, ba_size]; have := HL1.out; omega, e1, HBb⟩
      case rest =>
      obtain ⟨S1, rfl, hS1, HS1b, HBc⟩ := hcut
      clear HS HS1 HB HBb hb
      go_wp2_with fail
      go_loopw [4, 6] (fun q4 q6 wr => ∃ (U : World) (S2 : ByteArray) (k : Nat), U = wr ∧ k ≤ nl ∧ q4 = .string S2 ∧ q6 = .int .i64 k ∧ S2.size ≤ 90000 ∧ Hid (S2 = ba (Hh ++ Sl.prow gG ((l.map stp).take k))) ∧ Hid (Below w.heap.size w U)) (fun _ q6 _ => nl - (intOf q6).toNat)
      case atStart => exact ⟨_, S1, 0, rfl, Nat.zero_le _, rfl, rfl, hS1, Lib.hid (by rw [HS1b.out, List.take_zero]; simp [Sl.prow]), HBc⟩
      case round =>
        obtain ⟨U, S2, k, rfl, hk, rfl, rfl, hS2, HS2, HU⟩ := hrel
        obtain ⟨c0, hgU⟩ := HC0.out U HU.out
        by_cases hkl : k < nl
        · have j0 : (0 : Int) ≤ (k : Int) := by omega
          have j1 : (k : Int) < (nl : Int) := by omega
          have hkx : k < l.length := by rw [HNL.out]; exact hkl
          have hkr : k < (l.map stp).length := by rw [List.length_map]; exact hkx
          obtain ⟨gs, os, rfl, hgs, s0, s1, hT⟩ := HM.out k l[k] (List.getElem?_eq_getElem hkx)
          have HTR := Lib.hid hT
          have HRk : Hid (Sl.prow gG ((l.map stp).take (k + 1)) = Sl.prow gG ((l.map stp).take k) ++ (sepS l[k].2.2 k ++ Sl.pc (l[k].2.1.map te))) := Lib.hid (by rw [row_step hkr, List.getElem_map]; rfl)
          have HPk : Hid ((Sl.prow gG ((l.map stp).take k)).length ≤ 20000 ∧ (Sl.prow gG ((l.map stp).take (k + 1))).length ≤ 20000) := Lib.hid ⟨Nat.le_trans (HL2.out k) HW1.out, Nat.le_trans (HL2.out (k + 1)) HW1.out⟩
          have HWc : Hid (Sl.wc (l[k].2.1.map te) ≤ 20000) := Lib.hid (by
            have := Sl.wr_step (List.mem_map_of_mem (f := stp) (List.getElem_mem hkx))
            unfold Sl.ws at this
            have e : (stp l[k]).c = l[k].2.1.map te := rfl
            rw [e] at this
            have := HW1.out
            omega)
          have HC1 := Lib.hid (fun (V : World) (hV : Below w.heap.size w V) => And.intro ((hV.cell (p := ⟨gs, os + k * 2, none⟩) hgs).trans s0) (And.intro ((hV.cell (p := ⟨gs, os + k * 2 + 1, none⟩) hgs).trans s1) (And.intro (HC0.out V hV).1 (Nat.lt_of_lt_of_le hgs hV.size))))
          clear hT s0 s1 c0 hkr
          generalize Sl.prow gG ((l.map stp).take k) = Pk at *
          generalize l[k] = q at *
          obtain ⟨⟨tA, tc⟩, T, ch⟩ := q
          simp only [] at HC1 HTR HRk HWc
          obtain ⟨nt, hnt⟩ : ∃ nt, T.length = nt := ⟨_, rfl⟩
          have HNT := Lib.hid hnt
          have HPc : Hid (Sl.pc (T.map te) = starS nt ++ (T.map te).flatMap Sl.pt) := Lib.hid (by rw [pc_star, List.length_map, hnt])
          have ht1 : nt ≤ 20000 := by
            have h1 := Sl.wc_len (T.map te)
            have h2 := HWc.out
            rw [List.length_map] at h1
            omega
          have HFl := Lib.hid (fun t => Nat.le_trans (flat_len (T.map te) t) HWc.out)
          rw [hnt] at HC1
          clear hnt
          obtain ⟨s0, s1, c0, hgV⟩ := HC1.out U HU.out
          go_upto_block 4 with fail
          go_cut [4] from 21 to 88 (fun q4 wx => ∃ S3 : ByteArray, q4 = .string S3 ∧ S3.size ≤ 90000 ∧ Hid (S3 = ba (Hh ++ Pk ++ sepS ch k)) ∧ Hid (Below w.heap.size w wx))
          case first =>
            have hz : ∀ s : List UInt8, s.length ≤ 3 → (ba (Hh ++ Pk ++ s)).size ≤ 90000 := fun s h => by
              have h1 := HL1.out
              have h2 := HPk.out.1
              rw [ba_size, List.length_append, List.length_append]
              omega
            have hz3 := hz _ (sep_len ch k)
            by_cases h0 : k = 0
            · have q0 : decide ((0 : Int) < (k : Int)) = false := by simp; omega
              have q1 : decide (0 < k) = false := by simp; omega
              have q2 : ¬ 0 < k := by omega
              have e1 : Hid (S2 = ba (Hh ++ Pk ++ sepS ch k)) := Lib.hid (by rw [HS2.out, sepS, if_pos h0, List.append_nil])
              clear h0 hz
              go_wp2
              go_meet
              exact ⟨_, rfl, hS2, e1, HU⟩
            · have q0 : decide ((0 : Int) < (k : Int)) = true := by simp; omega
              have q1 : decide (0 < k) = true := by simp; omega
              have q2 : 0 < k := by omega
              cases ch with
              | true =>
                have e1 : Hid (S2 ++ ⟨#[32, 62, 32]⟩ = ba (Hh ++ Pk ++ sepS true k)) := Lib.hid (by rw [HS2.out, sepS, if_neg h0, if_pos rfl]; exact ba_sum _ [32, 62, 32])
                clear h0 hz
                go_wp2
                go_meet
                exact ⟨_, rfl, by rw [e1.out]; exact hz3, e1, HU⟩
              | false =>
                have e1 : Hid (S2 ++ ⟨#[32]⟩ = ba (Hh ++ Pk ++ sepS false k)) := Lib.hid (by rw [HS2.out, sepS, if_neg h0, if_neg (by simp)]; exact ba_sum _ [32])
                clear h0 hz
                go_wp2
                go_meet
                exact ⟨_, rfl, by rw [e1.out]; exact hz3, e1, HU⟩
          case rest =>
          obtain ⟨S3, rfl, hS3, HS3, HUd⟩ := hcut
          clear HU HS2 s0 s1 c0 hgU hgV
          obtain ⟨s0, s1, c0, hgV⟩ := HC1.out _ HUd.out
          go_upto_region 14 with fail
          go_cut [59] from 21 to 88 (fun q wx => (∃ b : Bool, q = .bool b ∧ b = decide (nt = 0)) ∧ Hid (Below w.heap.size w wx))
          case first =>
            go_wp2
            go_meet
            exact ⟨⟨_, rfl, by first | rfl | (by_cases h : nt = 0 <;> simp [h])⟩, HUd⟩
          case rest =>
          obtain ⟨⟨b, rfl, hb⟩, HUf⟩ := hcut
          go_upto_if 59 with fail
          go_cut [4] from 21 to 88 (fun q4 wx => ∃ S4 : ByteArray, q4 = .string S4 ∧ S4.size ≤ 90000 ∧ Hid (S4 = ba (Hh ++ Pk ++ sepS ch k ++ starS nt)) ∧ Hid (Below w.heap.size w wx))
          case first =>
            by_cases h0 : nt = 0
            · obtain rfl : b = true := by rw [hb]; simp; omega
              have e1 : Hid (S3 ++ ⟨#[42]⟩ = ba (Hh ++ Pk ++ sepS ch k ++ starS nt)) := Lib.hid (by rw [HS3.out, starS, if_pos h0]; exact ba_sum _ [42])
              have hz : (ba (Hh ++ Pk ++ sepS ch k ++ starS nt)).size ≤ 90000 := by
                have h1 := HL1.out
                have h2 := HPk.out.1
                have h3 := sep_len ch k
                have h4 := star_len nt
                rw [ba_size, List.length_append, List.length_append, List.length_append]
                omega
              clear h0 hb
              go_wp2
              go_meet
              exact ⟨_, rfl, by rw [e1.out]; exact hz, e1, HUf⟩
            · obtain rfl : b = false := by rw [hb]; simp; omega
              have e1 : Hid (S3 = ba (Hh ++ Pk ++ sepS ch k ++ starS nt)) := Lib.hid (by rw [HS3.out, starS, if_neg h0, List.append_nil])
              clear h0 hb
              go_wp2
              go_meet
              exact ⟨_, rfl, hS3, e1, HUf⟩
          case rest =>
          obtain ⟨S4, rfl, hS4, HS4, HUe⟩ := hcut
          clear HS3 HUd HUf hb s0 s1 c0 hgV
          have HHl : Hid ((Hh ++ Pk ++ sepS ch k ++ starS nt).length ≤ 40006) := Lib.hid (by
            have h1 := HL1.out
            have h2 := HPk.out.1
            have h3 := sep_len ch k
            have h4 := star_len nt
            rw [List.length_append, List.length_append, List.length_append]
            omega)
          have HE : Hid (Hh ++ Sl.prow gG ((l.map stp).take (k + 1)) = Hh ++ Pk ++ sepS ch k ++ starS nt ++ (T.map te).flatMap Sl.pt) := Lib.hid (by rw [HRk.out, HPc.out]; simp only [List.append_assoc])
          generalize Hh ++ Pk ++ sepS ch k ++ starS nt = Q at *
          go_wp2_with fail
          go_loopw [4, 7] (fun q4 q7 wr => ∃ (X : World) (S5 : ByteArray) (t : Nat), X = wr ∧ t ≤ nt ∧ q4 = .string S5 ∧ q7 = .int .i64 t ∧ S5.size ≤ 90000 ∧ Hid (S5 = ba (Q ++ ((T.map te).take t).flatMap Sl.pt)) ∧ Hid (Below w.heap.size w X)) (fun _ q7 _ => nt - (intOf q7).toNat)
          case atStart => exact ⟨_, S4, 0, rfl, Nat.zero_le _, rfl, rfl, hS4, Lib.hid (by rw [HS4.out, List.take_zero]; simp), HUe⟩
          case round =>
            obtain ⟨X, S5, t, rfl, ht, rfl, rfl, hS5, HS5, HXb⟩ := hrel
            obtain ⟨s0, s1, c0, hgV⟩ := HC1.out X HXb.out
            have hgX := (HC0.out X HXb.out).2
            by_cases htl : t < nt
            · have i0 : (0 : Int) ≤ (t : Int) := by omega
              have i1 : (t : Int) < (nt : Int) := by omega
              have htx : t < T.length := by rw [HNT.out]; exact htl
              have htr : t < (T.map te).length := by rw [List.length_map]; exact htx
              obtain ⟨gt, ot, rfl, hgt, d0, d1, d2⟩ := (HTR.out.below HXb.out) t T[t] (List.getElem?_eq_getElem htx)
              have HF1 : Hid (((T.map te).take (t + 1)).flatMap Sl.pt = ((T.map te).take t).flatMap Sl.pt ++ Sl.pt (te T[t])) := Lib.hid (by rw [flat_test htr, List.getElem_map])
              have hsz := te_size (List.getElem_mem htx)
              have HPt := Lib.hid (HPr.out T[t].1 T[t].2.1 T[t].2.2 X (by have := HWc.out; omega) (by have := HWc.out; omega))
              have HFt := Lib.hid (And.intro (HFl.out t) (HFl.out (t + 1)))
              clear hsz htr
              generalize T[t] = a at *
              obtain ⟨ak, an, av⟩ := a
              simp only [] at d0 d1 d2 HPt HF1
              generalize Sl.pt (te (ak, an, av)) = pa at *
              go_wp2_with fail
              refine HPt.out.mono ?_
              rintro e w5 ⟨rfl, hb5⟩
              have HB5 := Lib.hid (HXb.out.trans (hb5.mono HXb.out.size))
              have e1 : Hid (S5 ++ ba pa = ba (Q ++ ((T.map te).take (t + 1)).flatMap Sl.pt)) := Lib.hid (by rw [HS5.out, ba_sum, HF1.out, List.append_assoc])
              have hz : (S5 ++ ba pa).size ≤ 90000 := by
                have h1 := HFt.out.2
                have h2 := HHl.out
                rw [e1.out, ba_size, List.length_append]
                omega
              have hzp : S5.size + (ba pa).size ≤ 90000 := by rw [ByteArray.size_append] at hz; exact hz
              clear hb5
              generalize ba pa = Sp at *
              go_wp2
              go_roundw
              case rel => exact ⟨_, _, t + 1, rfl, by omega, rfl, by go_num, hz, e1, HB5⟩
              case measure => simp [intOf] <;> omega
            · obtain rfl : t = nt := by omega
              have e : (T.map te).take t = T.map te := List.take_of_length_le (by rw [List.length_map, HNT.out]; exact Nat.le_refl _)
              rw [e, ← HE.out] at HS5
              clear e
              go_wp2
              go_roundw
              case rel => exact ⟨_, _, k + 1, rfl, by omega, rfl, by go_num, hS5, HS5, HXb⟩
              case measure => simp [intOf] <;> omega
        · obtain rfl : k = nl := by omega
          have e : (l.map stp).take k = l.map stp := List.take_of_length_le (by rw [List.length_map, HNL.out]; exact Nat.le_refl _)
          rw [e, ← HN1.out] at HS2
          clear e
          go_wp2
          go_roundw
          case rel => exact ⟨_, _, i + 1, rfl, by omega, rfl, by go_num, hS2, HS2, HU⟩
          case measure => simp [intOf] <;> omega
    · obtain rfl : i = n := by omega
      have e : (rws x).take i = rws x := List.take_of_length_le (by rw [rws, List.length_map, HN.out]; exact Nat.le_refl _)
      rw [e] at HS
      have HSS := Lib.hid HS.out.symm
      have HP1 := Lib.hid (HP.out V)
      rw [HSS.out] at HP1 HPS
      clear e
      go_wp2_with fail
      refine HP1.out.mono ?_
      rintro e w6 ⟨hcs, hb⟩
      have HB6 := Lib.hid (HB.out.trans (hb.mono HB.out.size))
      have hb6 := HB6.out.size
      clear hb
      rcases hcs with ⟨y, v, rfl, hSr, hp⟩ | ⟨k', rfl, hp⟩
      · obtain ⟨B, d, rfl, hY⟩ := xr_ofR hSr
        have HSm1 := Lib.hid (HSame.out B y d w6 HB6.out hY (HPS.out y hp))
        have HPP := Lib.hid hp
        clear hSr hY hp
        obtain ⟨ny, hny⟩ : ∃ ny, y.length = ny := ⟨_, rfl⟩
        rw [hny] at HSm1 ⊢
        clear hny
        rcases Decidable.em (cx x = cx y) with hq | hq
        · have HQ : Hid (Sl.parse (Sl.printS (rws x)) = .ok (rws x)) := Lib.hid (by
            have := HPP.out
            rw [← HSS.out, ba_ls, ← cx_iff.1 hq] at this
            exact this)
          rw [decide_eq_true hq] at HSm1
          clear hq
          go_wp2_with fail
          refine HSm1.out.mono ?_
          rintro e w7 ⟨rfl, hb⟩
          have HB7 := Lib.hid (HB6.out.trans (hb.mono HB6.out.size))
          clear hb
          go_wp2
          go_ret2
          exact ⟨.inl ⟨by rw [HSS.out]; rfl, HQ.out⟩, HB7.out⟩
        · have HQ : Hid (Sl.parse (Sl.printS (rws x)) ≠ .ok (rws x)) := Lib.hid (fun h => by
            have := HPP.out
            rw [← HSS.out, ba_ls, h] at this
            simp only [Except.ok.injEq] at this
            exact hq (cx_iff.2 this))
          rw [decide_eq_false hq] at HSm1
          clear hq
          go_wp2_with fail
          refine HSm1.out.mono ?_
          rintro e w7 ⟨rfl, hb⟩
          have HB7 := Lib.hid (HB6.out.trans (hb.mono HB6.out.size))
          clear hb
          go_wp2
          go_ret2
          exact ⟨.inr ⟨rfl, HQ.out⟩, HB7.out⟩
      · have HQ : Hid (Sl.parse (Sl.printS (rws x)) ≠ .ok (rws x)) := Lib.hid (fun h => by
          have := hp
          rw [← HSS.out, ba_ls, h] at this
          cases this)
        clear hp
        go_wp2
        go_ret2
        exact ⟨.inr ⟨rfl, HQ.out⟩, HB6.out⟩
end Go.Proofs.Ytcfkcifbojckcaa
