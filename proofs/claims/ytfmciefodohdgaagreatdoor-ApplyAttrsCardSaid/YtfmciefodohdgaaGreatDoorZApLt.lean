/-
  The law ApplyAttrs: an attribute that is set is there, in its place; one that is taken away is not; others stay.
-/
import Derived.Test.YtfmciefodohdgaaGreatDoorG16
import Derived.Test.YtfmciefodohdgaaGreatDoorG18
import Derived.Test.YtfmciefodohdgaaGreatDoorG19
import Derived.Test.YtfmciefodohdgaaGreatDoorG24
import Derived.Test.YtfmciefodohdgaaGreatDoorG04
import Derived.Test.YtfmciefodohdgaaGreatDoorZApLu
import Derived.Deep.RegionHeld3
import Derived.Deep.QuietTactic
import Derived.BigQuiet
namespace Go.Proofs.YtfmciefodohdgaaGreatDoor
open Go.ChangeShapes Go.WideShapes Go.ChangeAt Go.RowKit
set_option linter.unusedVariables false
set_option linter.unusedSimpArgs false

set_option maxRecDepth 100000 in
set_option maxHeartbeats 8000000 in
theorem attrs_law (A : Option Addr) (l : List Ops.Po) (c : Nat) (idn : Nat) (nm tx : ByteArray) (mx : Int) (w : World) (hL : Ops.OL w A l) (hl : l.length ≤ 9223372036854775807) (h1 : idn ≤ 255) (hK : Ops.KT w) (hm : w.cell? ⟨1, 0, none⟩ = some (.int .i64 mx)) :
    Calls Tryz.prog 9 #[.slice A l.length c, .int .u8 idn, .string nm, .string tx] w (GivesV (.bool true) w) := by
  have hg0 : 1 < w.heap.size := World.block_lt_of_cell? _ _ hm
  have HL := Lib.hid hL
  have HK := Lib.hid hK
  have HBD := Lib.hid (bounded7 A l c w hL hl)
  have HS := Lib.hid (fun (V : World) (hb : Below w.heap.size w V) => shown7 mx V (hK.below hb) ((hb.cell (p := ⟨1, 0, none⟩) hg0).trans hm))
  have HLE : Hid (bdO l = true → l.length ≤ 150) := Lib.hid (fun h => by
    unfold bdO at h
    rw [Bool.and_eq_true, decide_eq_true_eq] at h
    exact h.2)
  have HON := Lib.hid (fun (V : World) (k : Nat) (A' : Option Addr) (G : List Mn) (c' : Nat) (o' : Ops.Po) (hb : Below w.heap.size w V) (h : OneAt V l k A' G) (hf : Ops.Fit o') => one_at h c' o' hf (hK.below hb))
  have H1 := Lib.hid (fun (V : World) (A' : Option Addr) (G : List Mn) (c' n : Nat) (o' : Ops.Po) (hb : Below w.heap.size w V) (hF : FR V A' G) (hG : mayB G = true) (hn : G.length = n) (hf : Ops.Fit o') => (show Calls Tryz.prog 16 #[.slice A' n c', Ops.opv o'] V (OneRes G o' V) from hn ▸ one_any A' G c' o' V hF hG hf (hK.below hb)))
  have HSA := Lib.hid (fun (V : World) (A' B' : Option Addr) (F G : List Mn) (c' d' n m : Nat) (hF : FR V A' F) (hG : FR V B' G) (h1 : mayB F = true) (h2 : mayB G = true) (hn : F.length = n) (hm : G.length = m) (he : sameF F G = true) => (show Calls Tryz.prog 21 #[.slice A' n c', .slice B' m d'] V (GivesV (.bool true) V) from he ▸ hn ▸ hm ▸ same_any A' B' F G c' d' V hF hG (may_sz2 h1) (may_sz2 h2)))
  obtain ⟨n, hnn⟩ : ∃ n, l.length = n := ⟨_, rfl⟩
  have HNN := Lib.hid hnn
  rw [hnn] at HBD HLE hl ⊢
  clear hL hK hm hnn
  generalize bdO l = BL at *
  go_enter Tryz.func9, Tryz.ntmps9
  go_wp2_with fail
  refine HBD.out.mono ?_
  rintro e w' ⟨rfl, hw⟩
  obtain rfl := hw.symm
  cases BL with
  | false =>
    go_wp2_with fail
    refine (HS.out w (Below.refl w.heap.size w)).mono ?_
    rintro e w1 ⟨rfl, hb⟩
    have HB := Lib.hid ((Below.refl w.heap.size w).trans (hb.mono (Below.refl w.heap.size w).size))
    clear hb
    go_wp2
    go_ret
    exact ⟨rfl, HB.out⟩
  | true =>
  have hln := HLE.out rfl
  by_cases hx0 : 100 < nm.size
  · have b0 : decide ((100 : Int) < (nm.size : Int)) = true := by simp; omega
    go_wp2_with fail
    refine (HS.out w (Below.refl w.heap.size w)).mono ?_
    rintro e w1 ⟨rfl, hb⟩
    have HB := Lib.hid ((Below.refl w.heap.size w).trans (hb.mono (Below.refl w.heap.size w).size))
    clear hb
    go_wp2
    go_ret
    exact ⟨rfl, HB.out⟩
  have b0 : decide ((100 : Int) < (nm.size : Int)) = false := by simp; omega
  by_cases hx1 : 100 < tx.size
  · have b1 : decide ((100 : Int) < (tx.size : Int)) = true := by simp; omega
    go_wp2_with fail
    refine (HS.out w (Below.refl w.heap.size w)).mono ?_
    rintro e w1 ⟨rfl, hb⟩
    have HB := Lib.hid ((Below.refl w.heap.size w).trans (hb.mono (Below.refl w.heap.size w).size))
    clear hb
    go_wp2
    go_ret
    exact ⟨rfl, HB.out⟩
  have b1 : decide ((100 : Int) < (tx.size : Int)) = false := by simp; omega
  go_wp2_with fail
  refine (HS.out w (Below.refl _ _)).mono ?_
  rintro e w1 ⟨rfl, hb⟩
  have HB := Lib.hid hb
  clear hb
  go_wp2_with fail
  refine (new_any w1).mono ?_
  rintro e w2 ⟨A0, rfl, hA, hb⟩
  have HST := Lib.hid (OneAt.start l hA)
  have HB2 := Lib.hid (HB.out.trans (hb.mono HB.out.size))
  clear hA hb
  go_wp2_with fail
  go_loopw [9, 10] (fun qf qi wr => ∃ (k : Nat) (Af : Option Addr) (G : List Mn) (cf : Nat), qf = .slice Af G.length cf ∧ qi = .int .i64 k ∧ k ≤ n ∧ Hid (OneAt wr l k Af G) ∧ Hid (Below w.heap.size w wr)) (fun _ qi _ => n - (intOf qi).toNat)
  case atStart => exact ⟨0, A0, [newM], 1, rfl, rfl, Nat.zero_le _, HST, HB2⟩
  case round =>
    obtain ⟨k, Af, G, cf, rfl, rfl, hk, HG, HBr⟩ := hrel
    by_cases hlt : k < n
    · have k0 : (0 : Int) ≤ (k : Int) := by omega
      have k1 : (k : Int) < (n : Int) := by omega
      have hkl : k < l.length := by rw [HNN.out]; exact hlt
      obtain ⟨hfk, gl, off, rfl, hgl, a0, a1, a2, a3, a4, a5⟩ := (HL.out.below HBr.out) k l[k] (List.getElem?_eq_getElem hkl)
      have HOK := Lib.hid (HON.out wr k Af G cf l[k] HBr.out HG.out hfk)
      have HNX := Lib.hid (fun (w' : World) (base g cap : Nat) (G' : List Mn) (h : OF w' base (.slice (some ⟨g, 0, none⟩) G'.length cap) G') (hc : G'.map core = (oneP G l[k]).1.map core) => HG.out.step hkl h hc)
      generalize l[k] = p at *
      go_wp2_with fail
      refine HOK.out.mono ?_
      rintro e w3 ⟨g, cap, G', rfl, hO, hc, hb⟩
      have HG2 := Lib.hid (HNX.out w3 _ g cap G' hO hc)
      have HB3 := Lib.hid (HBr.out.trans (hb.mono HBr.out.size))
      clear hO hc hb a0 a1 a2 a3 a4 a5 hfk hkl
      generalize errP G p = er at *
      go_wp2
      go_roundw
      case rel => exact ⟨k + 1, _, G', cap, rfl, by go_num, by omega, HG2, HB3⟩
      case measure => simp [intOf] <;> omega
    · obtain rfl : k = n := by omega
      have HMAY := Lib.hid HG.out.may
      have HGF := Lib.hid HG.out.fr
      obtain ⟨gn, hgn⟩ : ∃ gn, G.length = gn := ⟨_, rfl⟩
      have HGN := Lib.hid hgn
      have hg60 : gn ≤ 60 := by rw [← hgn]; exact (may_sz HMAY.out).1
      have hg1 : 0 < gn := by rw [← hgn]; exact (may_iff.1 HMAY.out).1.1
      rw [hgn]
      clear hgn HON HNN HL
      have HMY := Lib.hid (may_any Af G cf wr HGF.out (may_sz1 HMAY.out))
      rw [HMAY.out, HGN.out] at HMY
      go_wp2_with fail
      refine HMY.out.mono ?_
      rintro e w3 ⟨rfl, hb⟩
      have HB3 := Lib.hid (HBr.out.trans (hb.mono HBr.out.size))
      have HF3 := Lib.hid (HGF.out.below hb)
      clear hb
      obtain ⟨i, hi⟩ : ∃ i, i = idn % gn := ⟨_, rfl⟩
      have hil : i < gn := by rw [hi]; exact Nat.mod_lt _ hg1
      have q1 : ((idn : Int)).tmod (gn : Int) = (i : Int) := by rw [hi]; exact (Int.ofNat_tmod idn gn).symm
      have z1 : IntKind.i64.wrap (idn : Int) = (idn : Int) := by rw [IntKind.wrap_i64]; omega
      have z4 : IntKind.i64.wrap (i : Int) = (i : Int) := by rw [IntKind.wrap_i64]; omega
      have z7 : ¬ ((gn : Int) = 0) := by omega
      have z8 : ((gn : Int) == 0) = false := by simp; omega
      clear hi
      have i0 : (0 : Int) ≤ (i : Int) := by omega
      have i1 : (i : Int) < (gn : Int) := by omega
      have HIL : Hid (i < G.length) := Lib.hid (by rw [HGN.out]; exact hil)
      have hx0' : nm.size ≤ 100 := by omega
      have hx1' : tx.size ≤ 100 := by omega
      obtain ⟨-, g0, off, rfl, -, -⟩ := HF3.out i G[i] (List.getElem?_eq_getElem HIL.out)
      have HC1 := Lib.hid (H1.out w3 (some ⟨g0, off, none⟩) G cf gn (setO i nm tx) HB3.out HF3.out HMAY.out HGN.out (set_fit (by omega)))
      unfold Ops.opv setO at HC1
      simp only [] at HC1
      go_wp2_with fail
      refine HC1.out.mono ?_
      rintro e w4 ⟨g4, cap4, G4, rfl, hO, hc, hb⟩
      have HF4 := Lib.hid hO.fr
      have HE4 : Hid (G4.map core = (oneP G (setO i nm tx)).1.map core) := Lib.hid hc
      have HB4 := Lib.hid (HB3.out.trans (hb.mono HB3.out.size))
      have HFG4 := Lib.hid (HF3.out.below hb)
      have HM4 : Hid (mayB G4 = true) := Lib.hid (by rw [mayB_like HE4.out]; exact may_one HMAY.out _)
      clear hO hc hb
      have HER := Lib.hid (set_errs HIL.out hx0' hx1')
      by_cases he : errP G (setO i nm tx) = 0
      · obtain ⟨nd, len8, l4, a4, e7, hD⟩ := set_del HMAY.out HIL.out hx0' hx1' he HE4.out
        rw [show errP G ⟨6, (i : Int), 0, 0, nm, tx⟩ = 0 from he]
        rw [HGN.out] at l4
        rw [l4]
        have HC2 := Lib.hid (H1.out w4 (some ⟨g4, 0, none⟩) G4 cap4 gn (delO i nm) HB4.out HF4.out HM4.out l4 (del_fit (by omega)))
        unfold Ops.opv delO at HC2
        simp only [] at HC2
        go_wp2_with fail
        refine HC2.out.mono ?_
        rintro e w5 ⟨g5, cap5, G5, rfl, hO, hc, hb⟩
        have HF5 := Lib.hid hO.fr
        have HM5 : Hid (mayB G5 = true) := Lib.hid (by rw [mayB_like hc]; exact may_one HM4.out _)
        have HB5 := Lib.hid (HB4.out.trans (hb.mono HB4.out.size))
        have HFG5 := Lib.hid (HFG4.out.below hb)
        have HF45 := Lib.hid (HF4.out.below hb)
        rw [show errP G4 ⟨7, (i : Int), 0, 0, nm, ⟨#[]⟩⟩ = 0 from e7]
        obtain ⟨l5, a5, s5⟩ := hD G5 hc
        rw [HGN.out] at l5
        rw [l5]
        clear hO hc hb hD e7
        have hi4 : i < G4.length := by rw [l4]; exact hil
        have hi5 : i < G5.length := by rw [l5]; exact hil
        obtain ⟨aA, aC, f3, hAR⟩ := attr_row HFG5.out HIL.out
        obtain ⟨bA, bC, m3, hBR⟩ := attr_row HF45.out hi4
        obtain ⟨dA, dC, h3, -⟩ := attr_row HF5.out hi5
        rw [a4 hi4] at m3 hBR
        rw [a5 hi5] at h3
        obtain ⟨L, hLd⟩ : ∃ L, (G[i]'HIL.out).attrs = L := ⟨_, rfl⟩
        rw [hLd] at nd len8 f3 hAR m3 hBR h3 s5
        clear hLd a4 a5 hi4 hi5
        simp only [Nat.zero_add] at m3 h3
        have HAR := Lib.hid hAR
        have HBR := Lib.hid hBR
        have HS5 := Lib.hid s5
        have HL4 := Lib.hid l4
        have HL5 := Lib.hid l5
        have hdl := delA_len (n := nm) (setA_nd (n := nm) (t := tx) nd)
        rw [setA_has, if_pos rfl] at hdl
        have hml := setA_len (l := L) (n := nm) (t := tx)
        have HCN := Lib.hid (setA_cnt (n := nm) (t := tx) nd)
        have HPO := Lib.hid (fun h => has_pos (l := L) (n := nm) h)
        clear hAR hBR s5 l4 l5 nd
        obtain ⟨hn, hhn⟩ : ∃ hn, (delA (setA L nm tx) nm).length = hn := ⟨_, rfl⟩
        rw [hhn] at hdl h3
        generalize setA L nm tx = M at *
        obtain ⟨mn, hmn⟩ : ∃ mn, M.length = mn := ⟨_, rfl⟩
        obtain ⟨ln, hln⟩ : ∃ ln, L.length = ln := ⟨_, rfl⟩
        have HMN := Lib.hid hmn
        have HLN := Lib.hid hln
        rw [hmn] at hml hdl m3
        rw [hln] at hml len8 f3 HPO
        have hm9 : mn ≤ 9 := by rw [hml]; split <;> omega
        clear hhn hmn hln he
        have HML := Lib.hid hml
        clear hml
        go_wp2_with fail
        go_loopw [16, 17] (fun q16 q17 wr => ∃ (k : Nat) (hv : Int), q17 = .int .i64 k ∧ q16 = .int .i64 hv ∧ k ≤ ln ∧ Hid (hv = if hasA (L.take k) nm = true then 1 else 0) ∧ w5 = wr) (fun _ q17 _ => ln - (intOf q17).toNat)
        case atStart => exact ⟨0, 0, rfl, rfl, Nat.zero_le _, Lib.hid (by simp [hasA]), rfl⟩
        case round =>
          obtain ⟨k, hv, rfl, rfl, hk, HH, rfl⟩ := hrel
          by_cases hlt : k < ln
          · have k0 : (0 : Int) ≤ (k : Int) := by omega
            have k1 : (k : Int) < (ln : Int) := by omega
            have hkl : k < L.length := by rw [HLN.out]; exact hlt
            obtain ⟨ga, oa, rfl, hga, c0, c1⟩ := HAR.out k hkl
            have HH2 := Lib.hid (has_more (n := nm) hkl)
            generalize L.getD k default = ak at *
            obtain ⟨an, av⟩ := ak
            simp only [] at c0 c1 HH2
            clear hkl c1
            by_cases hq : an = nm
            · have HH3 : Hid ((1 : Int) = if hasA (L.take (k + 1)) nm = true then 1 else 0) := Lib.hid (by rw [HH2.out, decide_eq_true hq]; simp)
              rw [hq] at c0
              clear hq HH HH2
              go_wp2
              go_roundw
              case rel => exact ⟨k + 1, 1, by go_num, rfl, by omega, HH3, by first | trivial | rfl⟩
              case measure => simp [intOf] <;> omega
            · have HH3 : Hid (hv = if hasA (L.take (k + 1)) nm = true then 1 else 0) := Lib.hid (by rw [HH2.out, decide_eq_false hq, Bool.or_false]; exact HH.out)
              have hs : (an.toList == nm.toList) = false := by rw [beq_eq_false_iff_ne, Ne, toList_inj]; exact hq
              clear hq HH HH2
              go_wp2
              go_roundw
              case rel => exact ⟨k + 1, hv, by go_num, rfl, by omega, HH3, by first | trivial | rfl⟩
              case measure => simp [intOf] <;> omega
          · obtain rfl : k = ln := by omega
            have HHV : Hid (hv = if hasA L nm = true then 1 else 0) := Lib.hid (by have := HH.out; rwa [List.take_of_length_le (by rw [HLN.out]; exact Nat.le_refl _)] at this)
            clear HH
            go_wp2_with fail
            go_loopw [18, 19] (fun q18 q19 wr => ∃ (j cv : Nat), q19 = .int .i64 j ∧ q18 = .int .i64 cv ∧ j ≤ mn ∧ cv ≤ j ∧ Hid (cv = cntA (M.take j) nm tx) ∧ w5 = wr) (fun _ q19 _ => mn - (intOf q19).toNat)
            case atStart => exact ⟨0, 0, rfl, rfl, Nat.zero_le _, Nat.le_refl _, Lib.hid rfl, rfl⟩
            case round =>
              obtain ⟨j, cv, rfl, rfl, hj, hcv, HC, rfl⟩ := hrel
              by_cases hjl : j < mn
              · have k0 : (0 : Int) ≤ (j : Int) := by omega
                have k1 : (j : Int) < (mn : Int) := by omega
                have hkl : j < M.length := by rw [HMN.out]; exact hjl
                obtain ⟨ga, oa, rfl, hga, c0, c1⟩ := HBR.out j hkl
                have HH2 := Lib.hid (cnt_more (n := nm) (t := tx) hkl)
                generalize M.getD j default = ak at *
                obtain ⟨an, av⟩ := ak
                simp only [] at c0 c1 HH2
                clear hkl
                by_cases hq : an = nm
                · rw [hq] at c0
                  by_cases hr : av = tx
                  · have HH3 : Hid (cv + 1 = cntA (M.take (j + 1)) nm tx) := Lib.hid (by rw [HH2.out, if_pos ⟨hq, hr⟩, HC.out])
                    rw [hr] at c1
                    clear hq hr HC HH2
                    go_wp2
                    go_roundw
                    case rel => exact ⟨j + 1, cv + 1, by go_num, by go_num, by omega, by omega, HH3, by first | trivial | rfl⟩
                    case measure => simp [intOf] <;> omega
                  · have HH3 : Hid (cv = cntA (M.take (j + 1)) nm tx) := Lib.hid (by rw [HH2.out, if_neg (fun h => hr h.2), Nat.add_zero, HC.out])
                    have hs : (av.toList == tx.toList) = false := by rw [beq_eq_false_iff_ne, Ne, toList_inj]; exact hr
                    clear hq hr HC HH2
                    go_wp2
                    go_roundw
                    case rel => exact ⟨j + 1, cv, by go_num, rfl, by omega, by omega, HH3, by first | trivial | rfl⟩
                    case measure => simp [intOf] <;> omega
                · have HH3 : Hid (cv = cntA (M.take (j + 1)) nm tx) := Lib.hid (by rw [HH2.out, if_neg (fun h => hq h.1), Nat.add_zero, HC.out])
                  have hs : (an.toList == nm.toList) = false := by rw [beq_eq_false_iff_ne, Ne, toList_inj]; exact hq
                  clear hq HC HH2
                  go_wp2
                  go_roundw
                  case rel => exact ⟨j + 1, cv, by go_num, rfl, by omega, by omega, HH3, by first | trivial | rfl⟩
                  case measure => simp [intOf] <;> omega
              · obtain rfl : j = mn := by omega
                have hc1 : cv = 1 := by
                  have := HC.out
                  rw [List.take_of_length_le (by rw [HMN.out]; exact Nat.le_refl _), HCN.out] at this
                  exact this
                subst hc1
                clear HC
                have hv1 := HHV.out
                have hml := HML.out
                rcases Bool.eq_false_or_eq_true (hasA L nm) with hh | hh
                · rw [hh, if_pos rfl] at hv1 hml
                  have hpo := HPO.out hh
                  subst hv1
                  have s1 : IntKind.i64.wrap ((k : Int) + 1) = (k : Int) + 1 := by rw [IntKind.wrap_i64]; omega
                  have s2 : IntKind.i64.wrap ((k : Int) + 1 - 1) = (j : Int) := by rw [IntKind.wrap_i64]; omega
                  have s2' : IntKind.i64.wrap (k : Int) = (j : Int) := by rw [IntKind.wrap_i64]; omega
                  have s3 : IntKind.i64.wrap ((k : Int) - 1) = (hn : Int) := by rw [IntKind.wrap_i64]; omega
                  clear hh HHV HML hml hdl hm9 hpo len8
                  go_wp2_with fail
                  try simp only [List.append_eq, List.cons_append, List.nil_append]
                  go_quiet (fail)
                  go_wp2
                  go_ret
                  exact ⟨rfl, below_drewN HB5.out _⟩
                · rw [hh, if_neg (by simp)] at hv1 hml
                  have t5 := HS5.out hh
                  subst hv1
                  have s1 : IntKind.i64.wrap ((k : Int) + 1) = (j : Int) := by rw [IntKind.wrap_i64]; omega
                  have s2 : IntKind.i64.wrap (j : Int) = (j : Int) := by rw [IntKind.wrap_i64]; omega
                  have s3 : IntKind.i64.wrap (k : Int) = (hn : Int) := by rw [IntKind.wrap_i64]; omega
                  have HTV : Hid (∀ V, Below w5.heap.size w5 V → Calls Tryz.prog 21 #[.slice (some ⟨g5, 0, none⟩) gn cap5, .slice (some ⟨g0, off, none⟩) gn cf] V (GivesV (.bool true) V)) := Lib.hid (fun V hb => HSA.out V _ _ G5 G cap5 cf gn gn (HF5.out.below hb) (HFG5.out.below hb) HM5.out HMAY.out HL5.out HGN.out (sameF_of t5))
                  have HCV : Hid (∀ V, Below w5.heap.size w5 V → V.cell? ⟨g0, off + i * 6 + 3, none⟩ = some (.slice aA k aC) ∧ V.cell? ⟨g4, i * 6 + 3, none⟩ = some (.slice bA j bC) ∧ V.cell? ⟨g5, i * 6 + 3, none⟩ = some (.slice dA hn dC)) := Lib.hid (fun V hb => ⟨(hb.cell (World.block_lt_of_cell? _ _ f3)).trans f3, (hb.cell (World.block_lt_of_cell? _ _ m3)).trans m3, (hb.cell (World.block_lt_of_cell? _ _ h3)).trans h3⟩)
                  clear hh HHV HML hml hdl hm9 len8 t5
                  go_wp2_with fail
                  try simp only [List.append_eq, List.cons_append, List.nil_append]
                  go_region_held3 (fun V => V.cell? ⟨g0, off + i * 6 + 3, none⟩ = some (.slice aA k aC) ∧ V.cell? ⟨g4, i * 6 + 3, none⟩ = some (.slice bA j bC) ∧ V.cell? ⟨g5, i * 6 + 3, none⟩ = some (.slice dA hn dC))
                    (first | with_reducible exact HCV.out _ (Below.refl _ _) | with_reducible exact HCV.out _ (Below.refl _ _).drew | with_reducible exact HCV.out _ HB1.out)
                    (first
                      | (go_at_call 21; refine (HTV.out _ (Below.refl _ _).drew).mono ?_; rintro e w7 ⟨rfl, hb⟩; have HB1 := Lib.hid ((Below.refl w5.heap.size w5).drew.trans (hb.mono (by simp))); clear hb))
                  go_wp2
                  go_ret
                  exact ⟨rfl, HB5.out.trans (HB1.out.mono HB5.out.size)⟩
      · have t4 : G4.map core = G.map core := by rw [HE4.out, oneP, if_neg he]
        have l4 : G4.length = gn := by rw [len_like t4]; exact HGN.out
        rw [l4]
        have HCS := Lib.hid (HSA.out w4 (some ⟨g0, off, none⟩) (some ⟨g4, 0, none⟩) G G4 cf cap4 gn gn HFG4.out HF4.out HMAY.out HM4.out HGN.out l4 (sameF_of t4.symm))
        have her := HER.out.resolve_left he
        clear t4 l4 HER
        rcases her with h | h | h <;>
        · rw [show errP G ⟨6, (i : Int), 0, 0, nm, tx⟩ = _ from h]
          clear h he
          go_wp2_with fail
          refine HCS.out.mono ?_
          rintro e w5 ⟨rfl, hb⟩
          have HB5 := Lib.hid (HB4.out.trans (hb.mono HB4.out.size))
          clear hb
          go_wp2
          go_ret
          exact ⟨rfl, HB5.out⟩
end Go.Proofs.YtfmciefodohdgaaGreatDoor
