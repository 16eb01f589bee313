/-
  The law ApplyMoves: what is moved, and moved back, is where it was; what is removed, and laid there again, too.
-/
import Derived.Test.YtfmciefodohdgaaGreatDoorG16
import Derived.Test.YtfmciefodohdgaaGreatDoorG18
import Derived.Test.YtfmciefodohdgaaGreatDoorG19
import Derived.Test.YtfmciefodohdgaaGreatDoorZApLu
namespace Go.Proofs.YtfmciefodohdgaaGreatDoor
open Go.ChangeShapes Go.WideShapes Go.ChangeAt Go.RowKit
set_option linter.unusedVariables false
set_option linter.unusedSimpArgs false

set_option maxRecDepth 100000 in
set_option maxHeartbeats 8000000 in
theorem moves_law (A : Option Addr) (l : List Ops.Po) (c : Nat) (idn ton atn : Nat) (mx : Int) (w : World) (hL : Ops.OL w A l) (hl : l.length ≤ 9223372036854775807) (h1 : idn ≤ 255) (h2 : ton ≤ 255) (h3 : atn ≤ 255) (hK : Ops.KT w) (hm : w.cell? ⟨1, 0, none⟩ = some (.int .i64 mx)) :
    Calls Tryz.prog 6 #[.slice A l.length c, .int .u8 idn, .int .u8 ton, .int .u8 atn] w (GivesV (.bool true) w) := by
  have hg0 : 1 < w.heap.size := World.block_lt_of_cell? _ _ hm
  have HL := Lib.hid hL
  have HK := Lib.hid hK
  have HBD := Lib.hid (bounded7 A l c w hL hl)
  have HS := Lib.hid (fun (V : World) (hb : Below w.heap.size w V) => shown7 mx V (hK.below hb) ((hb.cell (p := ⟨1, 0, none⟩) hg0).trans hm))
  have HLE : Hid (bdO l = true → l.length ≤ 150) := Lib.hid (fun h => by
    unfold bdO at h
    rw [Bool.and_eq_true, decide_eq_true_eq] at h
    exact h.2)
  have HON := Lib.hid (fun (V : World) (k : Nat) (A' : Option Addr) (G : List Mn) (c' : Nat) (o' : Ops.Po) (hb : Below w.heap.size w V) (h : OneAt V l k A' G) (hf : Ops.Fit o') => one_at h c' o' hf (hK.below hb))
  have H1 := Lib.hid (fun (V : World) (A' : Option Addr) (G : List Mn) (c' n : Nat) (o' : Ops.Po) (hb : Below w.heap.size w V) (hF : FR V A' G) (hG : mayB G = true) (hn : G.length = n) (hf : Ops.Fit o') => (show Calls Tryz.prog 16 #[.slice A' n c', Ops.opv o'] V (OneRes G o' V) from hn ▸ one_any A' G c' o' V hF hG hf (hK.below hb)))
  have HSA := Lib.hid (fun (V : World) (A' B' : Option Addr) (F G : List Mn) (c' d' n m : Nat) (hF : FR V A' F) (hG : FR V B' G) (h1 : mayB F = true) (h2 : mayB G = true) (hn : F.length = n) (hm : G.length = m) (he : sameF F G = true) => (show Calls Tryz.prog 21 #[.slice A' n c', .slice B' m d'] V (GivesV (.bool true) V) from he ▸ hn ▸ hm ▸ same_any A' B' F G c' d' V hF hG (may_sz2 h1) (may_sz2 h2)))
  obtain ⟨n, hnn⟩ : ∃ n, l.length = n := ⟨_, rfl⟩
  have HNN := Lib.hid hnn
  rw [hnn] at HBD HLE hl ⊢
  clear hL hK hm hnn
  generalize bdO l = BL at *
  go_enter Tryz.func6, Tryz.ntmps6
  go_wp2_with fail
  refine HBD.out.mono ?_
  rintro e w' ⟨rfl, hw⟩
  obtain rfl := hw.symm
  cases BL with
  | false =>
    go_wp2_with fail
    refine (HS.out w (Below.refl w.heap.size w)).mono ?_
    rintro e w1 ⟨rfl, hb⟩
    have HB := Lib.hid ((Below.refl w.heap.size w).trans (hb.mono (Below.refl w.heap.size w).size))
    clear hb
    go_wp2
    go_ret
    exact ⟨rfl, HB.out⟩
  | true =>
  have hln := HLE.out rfl
  go_wp2_with fail
  refine (HS.out w (Below.refl _ _)).mono ?_
  rintro e w1 ⟨rfl, hb⟩
  have HB := Lib.hid hb
  clear hb
  go_wp2_with fail
  refine (new_any w1).mono ?_
  rintro e w2 ⟨A0, rfl, hA, hb⟩
  have HST := Lib.hid (OneAt.start l hA)
  have HB2 := Lib.hid (HB.out.trans (hb.mono HB.out.size))
  clear hA hb
  go_wp2_with fail
  go_loopw [9, 10] (fun qf qi wr => ∃ (k : Nat) (Af : Option Addr) (G : List Mn) (cf : Nat), qf = .slice Af G.length cf ∧ qi = .int .i64 k ∧ k ≤ n ∧ Hid (OneAt wr l k Af G) ∧ Hid (Below w.heap.size w wr)) (fun _ qi _ => n - (intOf qi).toNat)
  case atStart => exact ⟨0, A0, [newM], 1, rfl, rfl, Nat.zero_le _, HST, HB2⟩
  case round =>
    obtain ⟨k, Af, G, cf, rfl, rfl, hk, HG, HBr⟩ := hrel
    by_cases hlt : k < n
    · have k0 : (0 : Int) ≤ (k : Int) := by omega
      have k1 : (k : Int) < (n : Int) := by omega
      have hkl : k < l.length := by rw [HNN.out]; exact hlt
      obtain ⟨hfk, gl, off, rfl, hgl, a0, a1, a2, a3, a4, a5⟩ := (HL.out.below HBr.out) k l[k] (List.getElem?_eq_getElem hkl)
      have HOK := Lib.hid (HON.out wr k Af G cf l[k] HBr.out HG.out hfk)
      have HNX := Lib.hid (fun (w' : World) (base g cap : Nat) (G' : List Mn) (h : OF w' base (.slice (some ⟨g, 0, none⟩) G'.length cap) G') (hc : G'.map core = (oneP G l[k]).1.map core) => HG.out.step hkl h hc)
      generalize l[k] = p at *
      go_wp2_with fail
      refine HOK.out.mono ?_
      rintro e w3 ⟨g, cap, G', rfl, hO, hc, hb⟩
      have HG2 := Lib.hid (HNX.out w3 _ g cap G' hO hc)
      have HB3 := Lib.hid (HBr.out.trans (hb.mono HBr.out.size))
      clear hO hc hb a0 a1 a2 a3 a4 a5 hfk hkl
      generalize errP G p = er at *
      go_wp2
      go_roundw
      case rel => exact ⟨k + 1, _, G', cap, rfl, by go_num, by omega, HG2, HB3⟩
      case measure => simp [intOf] <;> omega
    · obtain rfl : k = n := by omega
      have HMAY := Lib.hid HG.out.may
      have HGF := Lib.hid HG.out.fr
      obtain ⟨gn, hgn⟩ : ∃ gn, G.length = gn := ⟨_, rfl⟩
      have HGN := Lib.hid hgn
      have hg60 : gn ≤ 60 := by rw [← hgn]; exact (may_sz HMAY.out).1
      have hg1 : 0 < gn := by rw [← hgn]; exact (may_iff.1 HMAY.out).1.1
      rw [hgn]
      clear hgn HON HNN HL
      have HMY := Lib.hid (may_any Af G cf wr HGF.out (may_sz1 HMAY.out))
      rw [HMAY.out, HGN.out] at HMY
      go_wp2_with fail
      refine HMY.out.mono ?_
      rintro e w3 ⟨rfl, hb⟩
      have HB3 := Lib.hid (HBr.out.trans (hb.mono HBr.out.size))
      have HF3 := Lib.hid (HGF.out.below hb)
      clear hb
      obtain ⟨i, hi⟩ : ∃ i, i = idn % gn := ⟨_, rfl⟩
      obtain ⟨t, ht⟩ : ∃ t, t = ton % gn := ⟨_, rfl⟩
      obtain ⟨a, ha⟩ : ∃ a, a = atn % 8 := ⟨_, rfl⟩
      have hil : i < gn := by rw [hi]; exact Nat.mod_lt _ hg1
      have htl : t < gn := by rw [ht]; exact Nat.mod_lt _ hg1
      have hal : a < 8 := by rw [ha]; exact Nat.mod_lt _ (by omega)
      have q1 : ((idn : Int)).tmod (gn : Int) = (i : Int) := by rw [hi]; exact (Int.ofNat_tmod idn gn).symm
      have q2 : ((ton : Int)).tmod (gn : Int) = (t : Int) := by rw [ht]; exact (Int.ofNat_tmod ton gn).symm
      have q3 : ((atn : Int)).tmod 8 = (a : Int) := by rw [ha]; exact (Int.ofNat_tmod atn 8).symm
      have z1 : IntKind.i64.wrap (idn : Int) = (idn : Int) := by rw [IntKind.wrap_i64]; omega
      have z2 : IntKind.i64.wrap (ton : Int) = (ton : Int) := by rw [IntKind.wrap_i64]; omega
      have z3 : IntKind.i64.wrap (atn : Int) = (atn : Int) := by rw [IntKind.wrap_i64]; omega
      have z4 : IntKind.i64.wrap (i : Int) = (i : Int) := by rw [IntKind.wrap_i64]; omega
      have z5 : IntKind.i64.wrap (t : Int) = (t : Int) := by rw [IntKind.wrap_i64]; omega
      have z6 : IntKind.i64.wrap (a : Int) = (a : Int) := by rw [IntKind.wrap_i64]; omega
      have z7 : ¬ ((gn : Int) = 0) := by omega
      have z8 : ((gn : Int) == 0) = false := by simp; omega
      clear hi ht ha
      have i0 : (0 : Int) ≤ (i : Int) := by omega
      have i1 : (i : Int) < (gn : Int) := by omega
      have HIL : Hid (i < G.length) := Lib.hid (by rw [HGN.out]; exact hil)
      have HTL : Hid (t < G.length) := Lib.hid (by rw [HGN.out]; exact htl)
      obtain ⟨hfit, g0, off, rfl, hg0', hnode⟩ := HF3.out i G[i] (List.getElem?_eq_getElem HIL.out)
      have c4 : w3.cell? ⟨g0, off + i * 6 + 4, none⟩ = some (.int .i64 (par G i)) := by rw [par_at HIL.out]; exact hnode.c4
      clear hnode hfit
      rcases linked_up (may_iff.1 HMAY.out).2.2.1 i HIL.out with hp | hp
      · rw [hp] at c4
        go_wp2
        go_ret
        exact ⟨rfl, HB3.out⟩
      obtain ⟨p, hp1, hp2⟩ := isB_nat hp
      clear hp
      obtain ⟨b1, b2, b3, b4, b5⟩ := place_at HMAY.out HIL.out hp1
      obtain ⟨pl, hpl⟩ : ∃ pl, (kidsOf G p).findIdx (fun x => decide (x = (i : Int))) = pl := ⟨_, rfl⟩
      have HMV := Lib.hid (fun (G' : List Mn) (he : errP G (insO i t a) = 0) (hc : G'.map core = (oneP G (insO i t a)).1.map core) => moved_back HMAY.out HIL.out HTL.out hp1 he hc)
      have HRV := Lib.hid (fun (G' : List Mn) (hc : G'.map core = (oneP G (remO i)).1.map core) => removed_back HMAY.out HIL.out hp1 hc)
      rw [hpl] at b3 b4 b5 HMV HRV
      rw [hp1] at c4
      obtain ⟨-, g0', off', hA', hg', hnode⟩ := HF3.out p G[p] (List.getElem?_eq_getElem hp2)
      cases hA'
      have c5 := hnode.c5
      have HIR := Lib.hid hnode.ir
      clear hnode hg' 
      have hkk := may_kids HMAY.out _ (List.getElem_mem hp2)
      rw [kidsOf_at hp2] at b3 b4 b5
      have HKD := Lib.hid b5
      have HK4 := Lib.hid b4
      have HPL : Hid (p < G.length) := Lib.hid hp2
      have p0 : (0 : Int) ≤ (p : Int) := by omega
      have p1 : (p : Int) < (gn : Int) := by have := HPL.out; rw [HGN.out] at this; omega
      have hpl60 : pl < 60 := by omega
      have HN0 := Lib.hid b2
      clear b2 b4 b5 hpl hp1
      generalize (G[p]).kids = kids at *
      generalize (G[p]).kA = kA at *
      obtain ⟨kl, hkl⟩ : ∃ kl, kids.length = kl := ⟨_, rfl⟩
      have HKL := Lib.hid hkl
      rw [hkl] at b3 hkk c5
      clear hkl
      go_wp2_with fail
      go_loopw [13] (fun qp wx => ∃ j : Nat, qp = .int .i64 j ∧ j ≤ pl ∧ w3 = wx) (fun qp _ => pl - (intOf qp).toNat)
      case atStart => exact ⟨0, rfl, Nat.zero_le _, rfl⟩
      case round =>
        obtain ⟨j, rfl, hj, rfl⟩ := hrel
        have j0 : (0 : Int) ≤ (j : Int) := by omega
        have j1 : (j : Int) < (kl : Int) := by omega
        obtain ⟨gk, ok, rfl, hgk, d0⟩ := HIR.out j (by rw [HKL.out]; omega)
        by_cases hjl : j < pl
        · have hne := HKD.out j hjl
          have hnb : (kids.getD j 0 != (i : Int)) = true := by simpa using hne
          clear hne
          generalize kids.getD j 0 = y at *
          go_wp2
          go_roundw
          case rel => exact ⟨j + 1, by go_num, by omega, by first | trivial | rfl⟩
          case measure => simp [intOf] <;> omega
        · obtain rfl : j = pl := by omega
          rw [HK4.out] at d0
          have hnb : ((i : Int) != (i : Int)) = false := by simp
          obtain ⟨X, hX⟩ : ∃ X, X = w3.alloc (.cells #[.int .i64 4, .int .i64 i, .int .i64 p, .int .i64 j, .string ⟨#[]⟩, .string ⟨#[]⟩] 35) := ⟨_, rfl⟩
          have HXb : Hid (Below w3.heap.size w3 X) := Lib.hid (by rw [hX]; exact (Below.refl _ _).alloc (Nat.le_refl _) _)
          have HXO : Hid (OpAt X w3.heap.size (insO i p j)) := Lib.hid (by rw [hX]; exact heap_alloc_new _ _)
          have HFX := Lib.hid (HF3.out.below HXb.out)
          have HBX := Lib.hid (HB3.out.trans (HXb.out.mono HB3.out.size))
          have HFI : Hid (Ops.Fit (insO i t a)) := Lib.hid (by refine ⟨?_, ?_, ?_, ?_⟩ <;> unfold Ops.I64 insO <;> simp only [] <;> omega)
          have HFB : Hid (Ops.Fit (insO i p j)) := Lib.hid (by refine ⟨?_, ?_, ?_, ?_⟩ <;> unfold Ops.I64 insO <;> simp only [] <;> omega)
          have HFR : Hid (Ops.Fit (remO i)) := Lib.hid (by refine ⟨?_, ?_, ?_, ?_⟩ <;> unfold Ops.I64 remO <;> simp only [] <;> omega)
          have HCI := Lib.hid (H1.out X (some ⟨g0, off, none⟩) G cf gn (insO i t a) HBX.out HFX.out HMAY.out HGN.out HFI.out)
          unfold Ops.opv insO at HCI
          simp only [] at HCI
          go_upto_region 18 with fail
          rw [← hX]
          clear hX d0 c4 c5
          go_wp2_with fail
          refine HCI.out.mono ?_
          rintro e w4 ⟨g4, cap4, G4, rfl, hO, hc, hb⟩
          have HF4 := Lib.hid hO.fr
          have HE4 : Hid (G4.map core = (oneP G (insO i t a)).1.map core) := Lib.hid hc
          have HB4 := Lib.hid (HBX.out.trans (hb.mono HBX.out.size))
          have HFG4 := Lib.hid (HFX.out.below hb)
          have HXO4 := Lib.hid (HXO.out.below hb)
          clear hO hc hb
          have hl4 : G4.length = gn := by rw [len_like HE4.out, oneP]; split; · rw [do_ins, ins_len]; exact HGN.out
                                          · exact HGN.out
          rw [hl4]
          have HL4 := Lib.hid hl4
          have HM4 : Hid (mayB G4 = true) := Lib.hid (by rw [mayB_like HE4.out]; exact may_one HMAY.out _)
          have HER : Hid (errP G ⟨4, i, t, a, ⟨#[]⟩, ⟨#[]⟩⟩ = 0 → errP G (insO i t a) = 0) := Lib.hid (fun h => h)
          clear hl4
          obtain ⟨er, her⟩ : ∃ er, errP G ⟨4, i, t, a, ⟨#[]⟩, ⟨#[]⟩⟩ = er := ⟨_, rfl⟩
          rw [her] at HER ⊢
          clear her
          -- the rest: what is removed, and laid there again
          by_cases he : er = 0
          · have heb : (er == 0) = true := by simp [he]
            obtain ⟨m1, m2⟩ := HMV.out G4 (HER.out he) HE4.out
            subst he
            have HCB := Lib.hid (H1.out w4 (some ⟨g4, 0, none⟩) G4 cap4 gn (insO i p j) HB4.out HF4.out HM4.out HL4.out HFB.out)
            unfold Ops.opv insO at HCB
            simp only [] at HCB
            have HM1 := Lib.hid m1
            have HM2 := Lib.hid m2
            clear m1 m2
            obtain ⟨x0, x1, x2, x3, x4, x5⟩ := block6 HXO4.out
            unfold insO at x0 x1 x2 x3 x4 x5
            simp only [] at x0 x1 x2 x3 x4 x5
            go_wp2_with fail
            refine HCB.out.mono ?_
            rintro e w5 ⟨g5, cap5, G5, rfl, hO, hc, hb⟩
            have HE5 : Hid (G5.map core = G.map core) := Lib.hid (hc.trans HM2.out)
            have HF5 := Lib.hid hO.fr
            have HB5 := Lib.hid (HB4.out.trans (hb.mono HB4.out.size))
            have HFG5 := Lib.hid (HFG4.out.below hb)
            have HXO5 := Lib.hid (HXO4.out.below hb)
            have hl5 : G5.length = gn := by rw [len_like HE5.out]; exact HGN.out
            rw [hl5, show errP G4 ⟨4, i, p, j, ⟨#[]⟩, ⟨#[]⟩⟩ = 0 from HM1.out]
            have HCS := Lib.hid (HSA.out w5 (some ⟨g5, 0, none⟩) (some ⟨g0, off, none⟩) G5 G cap5 cf gn gn HF5.out HFG5.out (by rw [mayB_like HE5.out]; exact HMAY.out) HMAY.out hl5 HGN.out (sameF_of HE5.out))
            clear hO hc hb hl5 x0 x1 x2 x3 x4 x5
            go_wp2_with fail
            refine HCS.out.mono ?_
            rintro e w6 ⟨rfl, hb⟩
            have HB6 := Lib.hid (HB5.out.trans (hb.mono HB5.out.size))
            have HFG6 := Lib.hid (HFG5.out.below hb)
            have HXO6 := Lib.hid (HXO5.out.below hb)
            clear hb
            have HCR := Lib.hid (H1.out w6 (some ⟨g0, off, none⟩) G cf gn (remO i) HB6.out HFG6.out HMAY.out HGN.out HFR.out)
            unfold Ops.opv remO at HCR
            simp only [] at HCR
            go_wp2_with fail
            refine HCR.out.mono ?_
            rintro e w7 ⟨g7, cap7, G7, rfl, hO, hc, hb⟩
            have HE7 : Hid (G7.map core = (oneP G (remO i)).1.map core) := Lib.hid hc
            have HF7 := Lib.hid hO.fr
            have HB7 := Lib.hid (HB6.out.trans (hb.mono HB6.out.size))
            have HFG7 := Lib.hid (HFG6.out.below hb)
            have HXO7 := Lib.hid (HXO6.out.below hb)
            obtain ⟨r1, r2, r3, r4⟩ := HRV.out G7 HE7.out
            have HR2 := Lib.hid r2
            have HR3 := Lib.hid r3
            have HR4 := Lib.hid r4
            have hl7 : G7.length = gn := by rw [len_like HE7.out, oneP, if_pos r1, do_rem, rem_len]; exact HGN.out
            rw [hl7, show errP G ⟨5, i, 0, 0, ⟨#[]⟩, ⟨#[]⟩⟩ = 0 from r1]
            have HM7 : Hid (mayB G7 = true) := Lib.hid (by rw [mayB_like HE7.out]; exact may_one HMAY.out _)
            have HL7 := Lib.hid hl7
            clear hO hc hb hl7 r1 r2 r3 r4
            have HCQ := Lib.hid (H1.out w7 (some ⟨g7, 0, none⟩) G7 cap7 gn (insO i p j) HB7.out HF7.out HM7.out HL7.out HFB.out)
            unfold Ops.opv insO at HCQ
            simp only [] at HCQ
            obtain ⟨x0, x1, x2, x3, x4, x5⟩ := block6 HXO7.out
            unfold insO at x0 x1 x2 x3 x4 x5
            simp only [] at x0 x1 x2 x3 x4 x5
            go_wp2_with fail
            refine HCQ.out.mono ?_
            rintro e w8 ⟨g8, cap8, G8, rfl, hO, hc, hb⟩
            have HE8 : Hid (G8.map core = G.map core) := Lib.hid (hc.trans HR4.out)
            have HB8 := Lib.hid (HB7.out.trans (hb.mono HB7.out.size))
            have HFG8 := Lib.hid (HFG7.out.below hb)
            have HF78 := Lib.hid (HF7.out.below hb)
            have hl8 : G8.length = gn := by rw [len_like HE8.out]; exact HGN.out
            rw [hl8, show errP G7 ⟨4, i, p, j, ⟨#[]⟩, ⟨#[]⟩⟩ = 0 from HR3.out]
            have HCS8 := Lib.hid (HSA.out w8 (some ⟨g8, 0, none⟩) (some ⟨g0, off, none⟩) G8 G cap8 cf gn gn hO.fr HFG8.out (by rw [mayB_like HE8.out]; exact HMAY.out) HMAY.out hl8 HGN.out (sameF_of HE8.out))
            have hil7 : i < G7.length := by rw [HL7.out]; exact hil
            obtain ⟨-, g9, off9, hA9, hg9, hnd9⟩ := HF78.out i G7[i] (List.getElem?_eq_getElem hil7)
            cases hA9
            have e4 : w8.cell? ⟨g7, 0 + i * 6 + 4, none⟩ = some (.int .i64 (-1)) := by rw [← HR2.out, par_at hil7]; exact hnd9.c4
            have e4' : w8.cell? ⟨g7, i * 6 + 4, none⟩ = some (.int .i64 (-1)) := by rw [← Nat.zero_add (i * 6)]; exact e4
            clear hO hc hb hl8 hnd9 hil7 x0 x1 x2 x3 x4 x5
            go_wp2_with fail
            refine HCS8.out.mono ?_
            rintro e w9 ⟨rfl, hb⟩
            have HB9 := Lib.hid (HB8.out.trans (hb.mono HB8.out.size))
            clear hb
            go_wp2
            go_ret
            exact ⟨rfl, HB9.out⟩
          · have heb : (er == 0) = false := by simpa using he
            clear he
            have HCR := Lib.hid (H1.out w4 (some ⟨g0, off, none⟩) G cf gn (remO i) HB4.out HFG4.out HMAY.out HGN.out HFR.out)
            unfold Ops.opv remO at HCR
            simp only [] at HCR
            go_wp2_with fail
            refine HCR.out.mono ?_
            rintro e w7 ⟨g7, cap7, G7, rfl, hO, hc, hb⟩
            have HE7 : Hid (G7.map core = (oneP G (remO i)).1.map core) := Lib.hid hc
            have HF7 := Lib.hid hO.fr
            have HB7 := Lib.hid (HB4.out.trans (hb.mono HB4.out.size))
            have HFG7 := Lib.hid (HFG4.out.below hb)
            have HXO7 := Lib.hid (HXO4.out.below hb)
            obtain ⟨r1, r2, r3, r4⟩ := HRV.out G7 HE7.out
            have HR2 := Lib.hid r2
            have HR3 := Lib.hid r3
            have HR4 := Lib.hid r4
            have hl7 : G7.length = gn := by rw [len_like HE7.out, oneP, if_pos r1, do_rem, rem_len]; exact HGN.out
            rw [hl7, show errP G ⟨5, i, 0, 0, ⟨#[]⟩, ⟨#[]⟩⟩ = 0 from r1]
            have HM7 : Hid (mayB G7 = true) := Lib.hid (by rw [mayB_like HE7.out]; exact may_one HMAY.out _)
            have HL7 := Lib.hid hl7
            clear hO hc hb hl7 r1 r2 r3 r4
            have HCQ := Lib.hid (H1.out w7 (some ⟨g7, 0, none⟩) G7 cap7 gn (insO i p j) HB7.out HF7.out HM7.out HL7.out HFB.out)
            unfold Ops.opv insO at HCQ
            simp only [] at HCQ
            obtain ⟨x0, x1, x2, x3, x4, x5⟩ := block6 HXO7.out
            unfold insO at x0 x1 x2 x3 x4 x5
            simp only [] at x0 x1 x2 x3 x4 x5
            go_wp2_with fail
            refine HCQ.out.mono ?_
            rintro e w8 ⟨g8, cap8, G8, rfl, hO, hc, hb⟩
            have HE8 : Hid (G8.map core = G.map core) := Lib.hid (hc.trans HR4.out)
            have HB8 := Lib.hid (HB7.out.trans (hb.mono HB7.out.size))
            have HFG8 := Lib.hid (HFG7.out.below hb)
            have HF78 := Lib.hid (HF7.out.below hb)
            have hl8 : G8.length = gn := by rw [len_like HE8.out]; exact HGN.out
            rw [hl8, show errP G7 ⟨4, i, p, j, ⟨#[]⟩, ⟨#[]⟩⟩ = 0 from HR3.out]
            have HCS8 := Lib.hid (HSA.out w8 (some ⟨g8, 0, none⟩) (some ⟨g0, off, none⟩) G8 G cap8 cf gn gn hO.fr HFG8.out (by rw [mayB_like HE8.out]; exact HMAY.out) HMAY.out hl8 HGN.out (sameF_of HE8.out))
            have hil7 : i < G7.length := by rw [HL7.out]; exact hil
            obtain ⟨-, g9, off9, hA9, hg9, hnd9⟩ := HF78.out i G7[i] (List.getElem?_eq_getElem hil7)
            cases hA9
            have e4 : w8.cell? ⟨g7, 0 + i * 6 + 4, none⟩ = some (.int .i64 (-1)) := by rw [← HR2.out, par_at hil7]; exact hnd9.c4
            have e4' : w8.cell? ⟨g7, i * 6 + 4, none⟩ = some (.int .i64 (-1)) := by rw [← Nat.zero_add (i * 6)]; exact e4
            clear hO hc hb hl8 hnd9 hil7 x0 x1 x2 x3 x4 x5
            go_wp2_with fail
            refine HCS8.out.mono ?_
            rintro e w9 ⟨rfl, hb⟩
            have HB9 := Lib.hid (HB8.out.trans (hb.mono HB8.out.size))
            clear hb
            go_wp2
            go_ret
            exact ⟨rfl, HB9.out⟩
set_option maxRecDepth 100000 in
/-- The law, of what came in. -/
theorem moves_true {H : Type} {enc : TypeId × Value → H} {W : World} {base : Nat} {v0 v1 v2 v3 : Value} {d0 d1 d2 d3 : DataW H} {p0 p1 p2 p3 : List MemPlace} (hm : ∃ mx, W.cell? ⟨1, 0, none⟩ = some (.int .i64 mx)) (hK : Ops.KT W) (o0 : Value.okWide Tryz.prog W .any base 22 v0) (o1 : Value.okWide Tryz.prog W .any base 5 v1) (o2 : Value.okWide Tryz.prog W .any base 5 v2) (o3 : Value.okWide Tryz.prog W .any base 5 v3)
    (h0 : DataW.Trod enc Tryz.prog W 0 (fun _ => true) true 22 v0 d0 p0) (h1 : DataW.Trod enc Tryz.prog W 0 (fun _ => true) true 5 v1 d1 p1) (h2 : DataW.Trod enc Tryz.prog W 0 (fun _ => true) true 5 v2 d2 p2) (h3 : DataW.Trod enc Tryz.prog W 0 (fun _ => true) true 5 v3 d3 p3) (l0 : ∀ x ∈ p0, x.block < W.heap.size) (l1 : ∀ x ∈ p1, x.block < W.heap.size) (l2 : ∀ x ∈ p2, x.block < W.heap.size) (l3 : ∀ x ∈ p3, x.block < W.heap.size) :
    Calls Tryz.prog 6 #[v0, v1, v2, v3] W fun e W' => e = .returned (.bool true) ∧ Below W.heap.size W W' := by
  obtain ⟨mx, hm⟩ := hm
  obtain ⟨A, cap, l, rfl, e1, e2, hL, -⟩ := Ops.ol_open o0 h0 l0
  obtain ⟨a1, rfl, rfl, rfl, w1⟩ := open_int Tryz.underlying5 o1 h1
  obtain ⟨a2, rfl, rfl, rfl, w2⟩ := open_int Tryz.underlying5 o2 h2
  obtain ⟨a3, rfl, rfl, rfl, w3⟩ := open_int Tryz.underlying5 o3 h3
  obtain ⟨f1, g1⟩ := u8_wf w1
  obtain ⟨f2, g2⟩ := u8_wf w2
  obtain ⟨f3, g3⟩ := u8_wf w3
  obtain ⟨n1, rfl⟩ := Int.eq_ofNat_of_zero_le f1
  obtain ⟨n2, rfl⟩ := Int.eq_ofNat_of_zero_le f2
  obtain ⟨n3, rfl⟩ := Int.eq_ofNat_of_zero_le f3
  exact moves_law A l cap n1 n2 n3 mx W hL (Nat.le_trans e1 e2) (by omega) (by omega) (by omega) hK hm
end Go.Proofs.YtfmciefodohdgaaGreatDoor
