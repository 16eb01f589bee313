/-
  How a row is printed.
-/
import Derived.Test.YtcfkcifbojckcaaSelQ
namespace Go.Proofs.Ytcfkcifbojckcaa
open Go.ChangeShapes Go.WideShapes Go.ChangeAt Go.RowKit
open Go.PlainAid (bt)
set_option linter.unusedVariables false
set_option linter.unusedSimpArgs false

def gG : List UInt8 := [32, 62, 32]
theorem prow_snoc (l : List Sl.Stp) (x : Sl.Stp) : Sl.prow gG (l ++ [x]) = if l = [] then Sl.pc x.c else Sl.prow gG l ++ Sl.pm gG x := by
  cases l with
  | nil => simp [Sl.prow]
  | cons a l => simp [Sl.prow]
set_option maxRecDepth 100000 in
set_option maxHeartbeats 4000000 in
theorem sel_printRow (A : Option Addr) (l : List Ms) (c : Nat) (w : World) (hM : MR w A l) (hl : Sl.wss (l.map stp) ≤ 1000000) :
    Calls Try.prog 10 #[.slice A l.length c] w fun e w' => e = .returned (.string (ba (Sl.prow gG (l.map stp)))) ∧ Below w.heap.size w w' := by
  have HM := Lib.hid hM
  have HP := Lib.hid (fun (m : Ms) (hm : m ∈ l) (V : World) (hT : TR V m.1.1 m.2.1) => sel_printCompound m.1.1 m.2.1 m.1.2 V hT (by have := Sl.wr_step (List.mem_map_of_mem (f := stp) hm); unfold Sl.ws at this; have e : (stp m).c = m.2.1.map te := rfl; rw [e] at this; omega))
  have HL := Lib.hid (fun (k : Nat) (hk : k ≤ l.length) => show (Sl.prow gG ((l.take k).map stp)).length ≤ 1000000 from by
    have h1 := Sl.prow_le gG (by decide) ((l.take k).map stp)
    rw [List.map_take] at h1 ⊢
    have := Sl.wss_take (l.map stp) k
    omega)
  have hln : l.length ≤ 1000000 := by
    have := Sl.wss_len (l.map stp)
    rw [List.length_map] at this
    omega
  have HBt := Lib.hid (fun (A : Option Addr) (n c : Nat) (ch : Bool) (V : World) => sel_between A n c ch V)
  obtain ⟨n, hn⟩ : ∃ n, l.length = n := ⟨_, rfl⟩
  have HN := Lib.hid hn
  rw [hn] at HL hln ⊢
  clear hM hl hn
  obtain ⟨W0, hW0⟩ : ∃ W0, W0 = w.alloc (.cells #[.pointer none, .slice none 0 0] 62) := ⟨_, rfl⟩
  have HB0 : Hid (Below w.heap.size w W0) := Lib.hid (by rw [hW0]; exact (Below.refl _ _).alloc (Nat.le_refl _) _)
  have HD0 : Hid (Bd W0 w.heap.size []) := Lib.hid (by rw [hW0]; exact bd_new w)
  go_enter Try.func10, Try.ntmps10
  go_wp2_with fail
  rw [← hW0]
  clear hW0
  generalize hbk : w.heap.size = b at HB0 HD0 ⊢
  have HBK := Lib.hid hbk
  clear hbk
  go_loopw [8] (fun q wr => ∃ (V : World) (k : Nat), V = wr ∧ k ≤ n ∧ q = .int .i64 k ∧ Hid (Bd V b (Sl.prow gG ((l.take k).map stp))) ∧ Hid (Below b w V)) (fun q _ => n - (intOf q).toNat)
  case atStart => exact ⟨_, 0, rfl, Nat.zero_le _, rfl, HD0, HB0⟩
  case round =>
    clear HB0 HD0
    obtain ⟨V, k, rfl, hk, rfl, HD, HB⟩ := hrel
    have hbl := bd_lt HD.out
    by_cases hlt : k < n
    · have k0 : (0 : Int) ≤ (k : Int) := by omega
      have k1 : (k : Int) < (n : Int) := by omega
      have hkl : k < l.length := by rw [HN.out]; exact hlt
      obtain ⟨g, off, rfl, hg, c0, c1, hTR⟩ := (HM.out.below (by have := HB.out; rwa [← HBK.out] at this)) k l[k] (List.getElem?_eq_getElem hkl)
      have HTW : Hid (TR w l[k].1.1 l[k].2.1) := Lib.hid (by
        obtain ⟨-, -, -, -, -, -, h⟩ := HM.out k l[k] (List.getElem?_eq_getElem hkl)
        exact h)
      have HT2 : Hid (Sl.prow gG ((l.take (k + 1)).map stp) = if k = 0 then Sl.pc (l[k].2.1.map te) else Sl.prow gG ((l.take k).map stp) ++ ((if l[k].2.2 then [32, 62, 32] else [32]) ++ Sl.pc (l[k].2.1.map te))) := Lib.hid (by
        rw [take_more hkl, List.map_append, List.map_cons, List.map_nil, prow_snoc]
        by_cases h0 : k = 0
        · rw [if_pos h0, if_pos (by rw [h0]; rfl)]
          rfl
        · rw [if_neg h0, if_neg (by intro e; have h1 := List.map_eq_nil_iff.1 e; have h2 : (l.take k).length = k := (by rw [List.length_take]; omega); rw [h1] at h2; simp at h2; omega)]
          rfl)
      have hL := HL.out (k + 1) (by omega)
      have hLk := HL.out k (by omega)
      have HPk := Lib.hid (fun (X : World) (hX : TR X l[k].1.1 l[k].2.1) => HP.out l[k] (List.getElem_mem hkl) X hX)
      generalize l[k] = m at *
      obtain ⟨⟨mA, mc⟩, mT, mch⟩ := m
      simp only [] at c0 c1 HPk HT2 HTW
      generalize Sl.pc (mT.map te) = pcx at *
      obtain ⟨nT, hnT⟩ : ∃ nT, mT.length = nT := ⟨_, rfl⟩
      rw [hnT] at c0 HPk
      clear hnT hTR
      have HTX := Lib.hid (fun (X : World) (hX : Below b w X) => HTW.out.below (by rw [HBK.out]; exact hX))
      obtain ⟨V1, hV1⟩ : ∃ V1, V1 = V.alloc (.cells #[.slice mA nT mc, .bool mch] 37) := ⟨_, rfl⟩
      have hb1 : Below V.heap.size V V1 := by rw [hV1]; exact (Below.refl _ _).alloc (Nat.le_refl _) _
      have HB1 := Lib.hid (HB.out.trans (hb1.mono (Nat.le_of_lt hbl)))
      have HD1 := Lib.hid (bd_below HD.out hb1)
      have HTR1 := Lib.hid (HTX.out V1 HB1.out)
      have HX1 : Hid (V1.heap[V.heap.size]? = some (.cells #[.slice mA nT mc, .bool mch] 37 (0, 0))) := Lib.hid (by rw [hV1]; exact heap_alloc_new _ _)
      obtain ⟨kx, hkx⟩ : ∃ kx, kx = V.heap.size := ⟨_, rfl⟩
      have hkb : b < kx := by rw [hkx]; exact hbl
      by_cases h0 : k = 0
      · rw [if_pos h0] at HT2
        have HD1' : Hid (Bd V1 b []) := Lib.hid (by have := HD1.out; rw [h0] at this; exact this)
        subst h0
        simp only [Nat.zero_mul, Nat.add_zero] at c0 c1
        clear hb1
        rw [HT2.out] at hL
        go_wp2_with fail
        rw [← hV1]
        clear hV1 c0 c1
        refine (HPk.out V1 HTR1.out).mono ?_
        rintro e w5 ⟨rfl, hb⟩
        have HB5 := Lib.hid (HB1.out.trans (hb.mono (Nat.le_of_lt (bd_lt HD1.out))))
        have HD5 := Lib.hid (bd_below HD1'.out hb)
        have HW5 := Lib.hid (ws_any b [] (ba pcx) w5 HD5.out (Nat.le_of_lt (bd_lt HD5.out)) (by rw [ba_size]; simp; omega))
        clear hb
        go_wp2_with fail
        refine HW5.out.mono ?_
        rintro e w6 ⟨rfl, hd, hb, -⟩
        have HD6 : Hid (Bd w6 b (Sl.prow gG ((l.take (0 + 1)).map stp))) := Lib.hid (by rw [HT2.out]; exact hd)
        have HB6 := Lib.hid (HB5.out.trans hb)
        clear hd hb
        go_wp2
        go_roundw
        case rel => exact ⟨_, 0 + 1, rfl, by omega, by go_num, HD6, HB6⟩
        case measure => simp [intOf] <;> omega
      · rw [if_neg h0] at HT2
        have q0 : decide ((0 : Int) < (k : Int)) = true := by simp; omega
        rw [HT2.out, List.length_append, List.length_append] at hL
        clear hb1
        generalize Sl.prow gG ((l.take k).map stp) = acc at *
        generalize hsep : (if mch = true then [32, 62, 32] else [32] : List UInt8) = sep at *
        have HB2 := Lib.hid (HBt.out mA nT mc mch V1)
        rw [hsep] at HB2
        clear hsep
        go_wp2_with fail
        rw [← hV1, ← hkx]
        rw [← hkx] at HX1
        clear hV1 c0 c1 hkx
        refine HB2.out.mono ?_
        rintro e w2 ⟨rfl, hb⟩
        have HBb := Lib.hid (HB1.out.trans (hb.mono (Nat.le_of_lt (bd_lt HD1.out))))
        have HDb := Lib.hid (bd_below HD1.out hb)
        have HXb : Hid (w2.heap[kx]? = some (.cells #[.slice mA nT mc, .bool mch] 37 (0, 0))) := Lib.hid ((hb.block kx (lt_block HX1.out)).trans HX1.out)
        have HWb := Lib.hid (ws_any b acc (ba sep) w2 HDb.out (Nat.le_of_lt (bd_lt HDb.out)) (by rw [ba_size]; omega))
        clear hb
        go_wp2_with fail
        refine HWb.out.mono ?_
        rintro e w3 ⟨rfl, hd, hb, ho⟩
        have HBc := Lib.hid (HBb.out.trans hb)
        have HDc := Lib.hid hd
        have HXc : w3.heap[kx]? = some (.cells #[.slice mA nT mc, .bool mch] 37 (0, 0)) := ho kx _ HXb.out (by simp; omega) (fun c fz e => by cases e)
        have d0 : w3.cell? ⟨kx, 0, none⟩ = some (.slice mA nT mc) := by simp [World.cell?, HXc]
        have d1 : w3.cell? ⟨kx, 1, none⟩ = some (.bool mch) := by simp [World.cell?, HXc]
        have HTRc := Lib.hid (HTX.out w3 HBc.out)
        have HPc := Lib.hid (HPk.out w3 HTRc.out)
        clear hd hb ho HXc
        go_wp2_with fail
        refine HPc.out.mono ?_
        rintro e w5 ⟨rfl, hb⟩
        have HB5 := Lib.hid (HBc.out.trans (hb.mono (Nat.le_of_lt (bd_lt HDc.out))))
        have HD5 := Lib.hid (bd_below HDc.out hb)
        have HW5 := Lib.hid (ws_any b (acc ++ (ba sep).data.toList) (ba pcx) w5 HD5.out (Nat.le_of_lt (bd_lt HD5.out)) (by rw [ba_size, List.length_append]; show acc.length + sep.length + _ ≤ _; omega))
        clear hb d0 d1
        go_wp2_with fail
        refine HW5.out.mono ?_
        rintro e w6 ⟨rfl, hd, hb, -⟩
        have HD6 : Hid (Bd w6 b (Sl.prow gG ((l.take (k + 1)).map stp))) := Lib.hid (by rw [HT2.out, ← List.append_assoc]; exact hd)
        have HB6 := Lib.hid (HB5.out.trans hb)
        clear hd hb
        go_wp2
        go_roundw
        case rel => exact ⟨_, k + 1, rfl, by omega, by go_num, HD6, HB6⟩
        case measure => simp [intOf] <;> omega
    · obtain rfl : k = n := by omega
      have e : l.take k = l := List.take_of_length_le (by rw [HN.out]; exact Nat.le_refl _)
      rw [e] at HD
      have HS := Lib.hid (str_any b _ V HD.out (Nat.le_of_lt hbl))
      clear e
      go_wp2_with fail
      refine HS.out.mono ?_
      rintro e w6 ⟨rfl, hb, -⟩
      have HB6 := Lib.hid (HB.out.trans hb)
      clear hb
      go_wp2
      go_ret
      exact ⟨rfl, by rw [HBK.out]; exact HB6.out⟩
end Go.Proofs.Ytcfkcifbojckcaa
