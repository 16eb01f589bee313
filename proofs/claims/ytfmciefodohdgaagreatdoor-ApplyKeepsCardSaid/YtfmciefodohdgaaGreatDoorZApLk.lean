/-
  The law ApplyKeeps: an operation turns the nodes that it names, their parents, and no other one.
-/
import Derived.Test.YtfmciefodohdgaaGreatDoorZApLu
import Derived.Test.YtfmciefodohdgaaGreatDoorG21
import Derived.Deep.RegionHeld3
import Derived.Deep.QuietTactic
import Derived.BigQuiet
namespace Go.Proofs.YtfmciefodohdgaaGreatDoor
open Go.ChangeShapes Go.WideShapes Go.ChangeAt Go.RowKit
set_option linter.unusedVariables false
set_option linter.unusedSimpArgs false

set_option maxRecDepth 100000 in
set_option maxHeartbeats 8000000 in
theorem keeps_law (A : Option Addr) (l : List Ops.Po) (c : Nat) (o : Ops.Po) (mx : Int) (w : World) (hL : Ops.OL w A l) (hl : l.length ≤ 9223372036854775807) (hf : Ops.Fit o) (hK : Ops.KT w) (hm : w.cell? ⟨1, 0, none⟩ = some (.int .i64 mx)) :
    Calls Tryz.prog 10 #[.slice A l.length c, Ops.opv o] w (GivesV (.bool true) w) := by
  have hg0 : 1 < w.heap.size := World.block_lt_of_cell? _ _ hm
  have HL := Lib.hid hL
  have HK := Lib.hid hK
  have HBD := Lib.hid (fun (V : World) (hb : Below w.heap.size w V) => bounded7 A l c V (hL.below hb) hl)
  have HB1 := Lib.hid (fun (V : World) (A' : Option Addr) (h : Ops.OL V A' [o]) => bounded7 A' [o] 1 V h (by simp))
  have HS := Lib.hid (fun (V : World) (hb : Below w.heap.size w V) => shown7 mx V (hK.below hb) ((hb.cell (p := ⟨1, 0, none⟩) hg0).trans hm))
  have HFO := Lib.hid hf
  have HR1 := Lib.hid (fun (V : World) (A' : Option Addr) (h : Ops.OL V A' [o]) => h)
  have HLE : Hid (bdO l = true → l.length ≤ 150) := Lib.hid (fun h => by
    unfold bdO at h
    rw [Bool.and_eq_true, decide_eq_true_eq] at h
    exact h.2)
  have HON := Lib.hid (fun (V : World) (k : Nat) (A' : Option Addr) (G : List Mn) (c' : Nat) (o' : Ops.Po) (hb : Below w.heap.size w V) (h : OneAt V l k A' G) (hf : Ops.Fit o') => one_at h c' o' hf (hK.below hb))
  have H1 := Lib.hid (fun (V : World) (A' : Option Addr) (G : List Mn) (c' n : Nat) (o' : Ops.Po) (hb : Below w.heap.size w V) (hF : FR V A' G) (hG : mayB G = true) (hn : G.length = n) (hf : Ops.Fit o') => (show Calls Tryz.prog 16 #[.slice A' n c', Ops.opv o'] V (OneRes G o' V) from hn ▸ one_any A' G c' o' V hF hG hf (hK.below hb)))
  have HSA := Lib.hid (fun (V : World) (A' B' : Option Addr) (F G : List Mn) (c' d' n m : Nat) (hF : FR V A' F) (hG : FR V B' G) (h1 : mayB F = true) (h2 : mayB G = true) (hn : F.length = n) (hm : G.length = m) (he : sameF F G = true) => (show Calls Tryz.prog 21 #[.slice A' n c', .slice B' m d'] V (GivesV (.bool true) V) from he ▸ hn ▸ hm ▸ same_any A' B' F G c' d' V hF hG (may_sz2 h1) (may_sz2 h2)))
  obtain ⟨kd, id, dst, ps, nm0, tx⟩ := o
  unfold Ops.opv at *
  simp only [] at *
  obtain ⟨W, hW⟩ : ∃ W, W = w.alloc (.cells #[.int .i64 kd, .int .i64 id, .int .i64 dst, .int .i64 ps, .string nm0, .string tx] 35) := ⟨_, rfl⟩
  have HWb : Hid (Below w.heap.size w W) := Lib.hid (by rw [hW]; exact (Below.refl _ _).alloc (Nat.le_refl _) _)
  have HOp : Hid (OpAt W w.heap.size ⟨kd, id, dst, ps, nm0, tx⟩) := Lib.hid (by rw [hW]; exact heap_alloc_new _ _)
  have HBW := Lib.hid (HBD.out W HWb.out)
  obtain ⟨n, hnn⟩ : ∃ n, l.length = n := ⟨_, rfl⟩
  have HNN := Lib.hid hnn
  rw [hnn] at HBW HLE hl ⊢
  clear hL hK hm hf hnn HBD
  generalize bdO l = BL at *
  go_enter Tryz.func10, Tryz.ntmps10
  go_upto_region 1 with fail
  rw [← hW]
  clear hW
  obtain ⟨x0, x1, x2, x3, x4, x5⟩ := block6 HOp.out
  go_wp2_with fail
  refine HBW.out.mono ?_
  rintro e w' ⟨rfl, hw⟩
  obtain rfl := hw.symm
  cases BL with
  | false =>
    go_wp2_with fail
    refine (HS.out W HWb.out).mono ?_
    rintro e w1 ⟨rfl, hb⟩
    have HB := Lib.hid (HWb.out.trans (hb.mono HWb.out.size))
    clear hb
    go_wp2
    go_ret
    exact ⟨rfl, HB.out⟩
  | true =>
  have hln := HLE.out rfl
  obtain ⟨X, hX⟩ : ∃ X, X = W.alloc (.cells #[.int .i64 kd, .int .i64 id, .int .i64 dst, .int .i64 ps, .string nm0, .string tx] 35) := ⟨_, rfl⟩
  have HXW : Hid (Below W.heap.size W X) := Lib.hid (by rw [hX]; exact (Below.refl _ _).alloc (Nat.le_refl _) _)
  have HXb := Lib.hid (HWb.out.trans (HXW.out.mono HWb.out.size))
  have HXO := Lib.hid (HOp.out.below HXW.out)
  have HBX := Lib.hid (HB1.out X (some ⟨W.heap.size, 0, none⟩) (ol_one HFO.out (by rw [hX]; exact heap_alloc_new _ _)))
  go_wp2_with fail
  rw [← hX]
  clear hX
  refine HBX.out.mono ?_
  rintro e w' ⟨rfl, hw⟩
  obtain rfl := hw.symm
  clear x0 x1 x2 x3 x4 x5
  rcases Bool.eq_false_or_eq_true (bdO [⟨kd, id, dst, ps, nm0, tx⟩]) with hbo | hbo
  · rw [hbo]
    clear hbo
    go_wp2_with fail
    refine (HS.out X HXb.out).mono ?_
    rintro e w1 ⟨rfl, hb⟩
    have HB := Lib.hid (HXb.out.trans (hb.mono HXb.out.size))
    have HO1 := Lib.hid (HXO.out.below hb)
    clear hb
    go_wp2_with fail
    refine (new_far w1).mono ?_
    rintro e w2 ⟨A0, rfl, hA, hfar, hb⟩
    have HST := Lib.hid (OneAt.start l hA)
    have HB2 := Lib.hid (HB.out.trans (hb.mono HB.out.size))
    have HO2 := Lib.hid (HO1.out.below hb)
    clear hA hb hfar
    go_wp2_with fail
    go_loopw [5, 6] (fun q7 q8 wr => ∃ (k : Nat) (Af : Option Addr) (G : List Mn) (cf : Nat), q7 = .slice Af G.length cf ∧ q8 = .int .i64 k ∧ k ≤ n ∧ Hid (OneAt wr l k Af G) ∧ Hid (Below w.heap.size w wr) ∧ Hid (OpAt wr w.heap.size ⟨kd, id, dst, ps, nm0, tx⟩) ∧ Hid (G.length ≤ cf)) (fun _ q8 _ => n - (intOf q8).toNat)
    case atStart => exact ⟨0, A0, [newM], 1, rfl, rfl, Nat.zero_le _, HST, HB2, HO2, Lib.hid (Nat.le_refl _)⟩
    case round =>
      obtain ⟨k, Af, G, cf, rfl, rfl, hk, HG, HBr, HOr, HCf⟩ := hrel
      by_cases hlt : k < n
      · have k0 : (0 : Int) ≤ (k : Int) := by omega
        have k1 : (k : Int) < (n : Int) := by omega
        have hkl : k < l.length := by rw [HNN.out]; exact hlt
        obtain ⟨hfk, gl, off, rfl, hgl, a0, a1, a2, a3, a4, a5⟩ := (HL.out.below HBr.out) k l[k] (List.getElem?_eq_getElem hkl)
        have HOK := Lib.hid (HON.out wr k Af G cf l[k] HBr.out HG.out hfk)
        have HNX := Lib.hid (fun (w' : World) (base g cap : Nat) (G' : List Mn) (h : OF w' base (.slice (some ⟨g, 0, none⟩) G'.length cap) G') (hc : G'.map core = (oneP G l[k]).1.map core) => HG.out.step hkl h hc)
        generalize l[k] = p at *
        go_wp2_with fail
        refine HOK.out.mono ?_
        rintro e w3 ⟨g, cap, G', rfl, hO, hc, hb⟩
        have HG2 := Lib.hid (HNX.out w3 _ g cap G' hO hc)
        have HB3 := Lib.hid (HBr.out.trans (hb.mono HBr.out.size))
        have HO3 := Lib.hid (HOr.out.below hb)
        have HCP2 := Lib.hid (own_cap hO).1
        clear hO hc hb a0 a1 a2 a3 a4 a5 hfk hkl
        generalize errP G p = er at *
        go_wp2
        go_roundw
        case rel => exact ⟨k + 1, _, G', cap, rfl, by go_num, by omega, HG2, HB3, HO3, HCP2⟩
        case measure => simp [intOf] <;> omega
      · obtain rfl : k = n := by omega
        have HMAY := Lib.hid HG.out.may
        have HGF := Lib.hid HG.out.fr
        obtain ⟨gn, hgn⟩ : ∃ gn, G.length = gn := ⟨_, rfl⟩
        have HGN := Lib.hid hgn
        have hg60 : gn ≤ 60 := by rw [← hgn]; exact (may_sz HMAY.out).1
        have hg1 : 0 < gn := by rw [← hgn]; exact (may_iff.1 HMAY.out).1.1
        have hcf := HCf.out
        rw [hgn] at hcf ⊢
        have HLV := HG
        clear hgn HON HNN HL HB1 HR1
        have hg1' : 0 < G.length := by rw [HGN.out]; exact hg1
        obtain ⟨-, g0, off, rfl, -, -⟩ := HGF.out 0 G[0] (List.getElem?_eq_getElem hg1')
        clear hg1'
        have HCI := Lib.hid (H1.out wr (some ⟨g0, off, none⟩) G cf gn ⟨kd, id, dst, ps, nm0, tx⟩ HBr.out HGF.out HMAY.out HGN.out HFO.out)
        unfold Ops.opv at HCI
        simp only [] at HCI
        obtain ⟨x0, x1, x2, x3, x4, x5⟩ := block6 HOr.out
        go_wp2_with fail
        refine HCI.out.mono ?_
        rintro e w4 ⟨g4, cap4, G4, rfl, hO, hc, hb⟩
        have HF4 := Lib.hid hO.fr
        have hcp := (own_cap hO).1
        have HE4 : Hid (G4.map core = (oneP G ⟨kd, id, dst, ps, nm0, tx⟩).1.map core) := Lib.hid hc
        have HB4 := Lib.hid (HBr.out.trans (hb.mono HBr.out.size))
        have HFG4 := Lib.hid (HGF.out.below hb)
        have HO4 := Lib.hid (HOr.out.below hb)
        have HM4 : Hid (mayB G4 = true) := Lib.hid (by rw [mayB_like HE4.out]; exact may_one HMAY.out _)
        clear hO hc hb x0 x1 x2 x3 x4 x5
        by_cases he : errP G ⟨kd, id, dst, ps, nm0, tx⟩ = 0
        · obtain ⟨⟨l1, l2⟩, hke⟩ := keeps HMAY.out he HE4.out
          have HKE := Lib.hid hke
          have HIS : Hid (4 ≤ kd → ∃ i0 : Nat, id = i0 ∧ i0 < gn) := Lib.hid (fun h => by
            obtain ⟨i0, h1, h2⟩ := isB_nat (err_isB he h).1
            exact ⟨i0, h1, by rw [← HGN.out]; exact h2⟩)
          rw [he]
          rw [HGN.out] at l1 l2
          obtain ⟨m4, hm4⟩ : ∃ m4, G4.length = m4 := ⟨_, rfl⟩
          have HL4 := Lib.hid hm4
          rw [hm4] at l1 l2 hcp ⊢
          have HEE := Lib.hid he
          clear he hke hm4
          go_wp2_with fail
          go_loopw [9, 10] (fun q9 q10 wr => ∃ j : Nat, q9 = .int .i64 j ∧ j ≤ gn ∧ Hid (Below w4.heap.size w4 wr)) (fun q9 _ _ => gn - (intOf q9).toNat)
          case atStart => exact ⟨0, rfl, Nat.zero_le _, Lib.hid (Below.refl _ _)⟩
          case round =>
            obtain ⟨j, rfl, hj, HBx⟩ := hrel
            by_cases hjl : j < gn
            · have j0 : (0 : Int) ≤ (j : Int) := by omega
              have j1 : (j : Int) < (gn : Int) := by omega
              have j2 : (j : Int) < (m4 : Int) := by omega
              have j3 : IntKind.i64.wrap ((j : Int) + 1) = (j : Int) + 1 := by rw [IntKind.wrap_i64]; omega
              have j4 : (j : Int) + 1 ≤ (cf : Int) := by omega
              have j5 : (j : Int) + 1 ≤ (cap4 : Int) := by omega
              have j6 : (0 : Int) ≤ (j : Int) + 1 := by omega
              have j7 : ((j : Int) + 1).toNat = j + 1 := by omega
              have j8 : j + 1 ≤ cf := by omega
              have j9 : j + 1 ≤ cap4 := by omega
              have j10 : ¬ cf = j := by omega
              have j11 : ¬ cap4 = j := by omega
              have HFx := Lib.hid (HFG4.out.below HBx.out)
              have HGx := Lib.hid (HF4.out.below HBx.out)
              obtain ⟨x0, x1, x2, x3, x4, x5⟩ := block6 (HO4.out.below HBx.out)
              by_cases hk4 : 4 ≤ kd
              · have d1 : decide ((4 : Int) ≤ kd) = true := by simpa using hk4
                obtain ⟨i0, hi0, hil⟩ := HIS.out hk4
                subst hi0
                have i00 : (0 : Int) ≤ (i0 : Int) := by omega
                have i01 : (i0 : Int) < (gn : Int) := by omega
                have c4 : wr.cell? ⟨g0, off + i0 * 6 + 4, none⟩ = some (.int .i64 (par G i0)) := by
                  have hi1 : i0 < G.length := by rw [HGN.out]; exact hil
                  obtain ⟨-, g9, o9, hA9, -, hn9⟩ := HFx.out i0 G[i0] (List.getElem?_eq_getElem hi1)
                  cases hA9
                  rw [par_at hi1]
                  exact hn9.c4
                by_cases hji : j = i0
                · subst hji
                  have e1 : ((j : Int) == (j : Int)) = true := by simp
                  by_cases hp : par G j = (j : Int)
                  · rw [hp] at c4
                    have e5 : ((j : Int) == (j : Int)) = true := by simp
                    go_wp2_with fail
                    go_quiet (fail)
                    go_wp2
                    go_roundw
                    case rel => exact ⟨j + 1, by go_num, by omega, Lib.hid (below_drewN HBx.out _)⟩
                    case measure => simp [intOf] <;> omega
                  · obtain ⟨pr0, hpr0⟩ : ∃ pr0, par G j = pr0 := ⟨_, rfl⟩
                    rw [hpr0] at c4 hp
                    have e5 : (pr0 == (j : Int)) = false := by simpa using hp
                    go_wp2_with fail
                    go_quiet (fail)
                    go_wp2
                    go_roundw
                    case rel => exact ⟨j + 1, by go_num, by omega, Lib.hid (below_drewN HBx.out _)⟩
                    case measure => simp [intOf] <;> omega
                · have e1 : ((j : Int) == (i0 : Int)) = false := by simp; omega
                  by_cases hk : kd = 4
                  · have e2 : (kd == 4) = true := by simp [hk]
                    clear hk
                    by_cases hd : dst = (j : Int)
                    · subst hd
                      have e3 : ((j : Int) == (j : Int)) = true := by simp
                      by_cases hp : par G i0 = (j : Int)
                      · rw [hp] at c4
                        have e5 : ((j : Int) == (j : Int)) = true := by simp
                        go_wp2_with fail
                        go_quiet (fail)
                        go_wp2
                        go_roundw
                        case rel => exact ⟨j + 1, by go_num, by omega, Lib.hid (below_drewN HBx.out _)⟩
                        case measure => simp [intOf] <;> omega
                      · obtain ⟨pr0, hpr0⟩ : ∃ pr0, par G i0 = pr0 := ⟨_, rfl⟩
                        rw [hpr0] at c4 hp
                        have e5 : (pr0 == (j : Int)) = false := by simpa using hp
                        go_wp2_with fail
                        go_quiet (fail)
                        go_wp2
                        go_roundw
                        case rel => exact ⟨j + 1, by go_num, by omega, Lib.hid (below_drewN HBx.out _)⟩
                        case measure => simp [intOf] <;> omega
                    · have e3 : ((j : Int) == dst) = false := by simpa using (fun h => hd h.symm)
                      by_cases hp : par G i0 = (j : Int)
                      · rw [hp] at c4
                        have e5 : ((j : Int) == (j : Int)) = true := by simp
                        go_wp2_with fail
                        go_quiet (fail)
                        go_wp2
                        go_roundw
                        case rel => exact ⟨j + 1, by go_num, by omega, Lib.hid (below_drewN HBx.out _)⟩
                        case measure => simp [intOf] <;> omega
                      · obtain ⟨pr0, hpr0⟩ : ∃ pr0, par G i0 = pr0 := ⟨_, rfl⟩
                        rw [hpr0] at c4 hp
                        have e5 : (pr0 == (j : Int)) = false := by simpa using hp
                        have hnm : namedB G ⟨kd, (i0 : Int), dst, ps, nm0, tx⟩ j = false := named_no (.inr ⟨by simp only []; omega, fun _ => by simp only []; omega, by simp only [Int.toNat_natCast]; rw [hpr0]; exact hp⟩)
                        have HTV : Hid (∀ V, Below wr.heap.size wr V → Calls Tryz.prog 21 #[.slice (some ⟨g0, off + j * 6, none⟩) 1 (cf - j), .slice (some ⟨g4, j * 6, none⟩) 1 (cap4 - j)] V (GivesV (.bool true) V)) := Lib.hid (fun V hb => by
                          have := same_one g0 off g4 0 (cf - j) (cap4 - j) V (HFx.out.below hb) (HGx.out.below hb) HMAY.out HM4.out (by rw [HGN.out]; exact hjl) (by rw [HL4.out]; omega) (HKE.out j (by rw [HGN.out]; exact hjl) (by rw [HL4.out]; omega) hnm)
                          rw [Nat.zero_add] at this
                          exact this)
                        clear hnm
                        go_wp2_with fail
                        go_region_held3 (fun V => True)
                          (exact True.intro)
                          (first
                            | (go_at_call 21; refine (HTV.out _ (Below.refl _ _).drew).mono ?_; rintro e w5 ⟨rfl, hb⟩; have HB1 := Lib.hid ((Below.refl wr.heap.size wr).drew.trans (hb.mono (by simp))); clear hb))
                        go_wp2
                        go_roundw
                        case rel => exact ⟨j + 1, by go_num, by omega, Lib.hid (HBx.out.trans (HB1.out.mono HBx.out.size))⟩
                        case measure => simp [intOf] <;> omega
                  · have e2 : (kd == 4) = false := by simpa using hk
                    by_cases hp : par G i0 = (j : Int)
                    · rw [hp] at c4
                      have e5 : ((j : Int) == (j : Int)) = true := by simp
                      go_wp2_with fail
                      go_quiet (fail)
                      go_wp2
                      go_roundw
                      case rel => exact ⟨j + 1, by go_num, by omega, Lib.hid (below_drewN HBx.out _)⟩
                      case measure => simp [intOf] <;> omega
                    · obtain ⟨pr0, hpr0⟩ : ∃ pr0, par G i0 = pr0 := ⟨_, rfl⟩
                      rw [hpr0] at c4 hp
                      have e5 : (pr0 == (j : Int)) = false := by simpa using hp
                      have hnm : namedB G ⟨kd, (i0 : Int), dst, ps, nm0, tx⟩ j = false := named_no (.inr ⟨by simp only []; omega, fun h => absurd h hk, by simp only [Int.toNat_natCast]; rw [hpr0]; exact hp⟩)
                      have HTV : Hid (∀ V, Below wr.heap.size wr V → Calls Tryz.prog 21 #[.slice (some ⟨g0, off + j * 6, none⟩) 1 (cf - j), .slice (some ⟨g4, j * 6, none⟩) 1 (cap4 - j)] V (GivesV (.bool true) V)) := Lib.hid (fun V hb => by
                        have := same_one g0 off g4 0 (cf - j) (cap4 - j) V (HFx.out.below hb) (HGx.out.below hb) HMAY.out HM4.out (by rw [HGN.out]; exact hjl) (by rw [HL4.out]; omega) (HKE.out j (by rw [HGN.out]; exact hjl) (by rw [HL4.out]; omega) hnm)
                        rw [Nat.zero_add] at this
                        exact this)
                      clear hnm
                      go_wp2_with fail
                      go_region_held3 (fun V => True)
                        (exact True.intro)
                        (first
                          | (go_at_call 21; refine (HTV.out _ (Below.refl _ _).drew).mono ?_; rintro e w5 ⟨rfl, hb⟩; have HB1 := Lib.hid ((Below.refl wr.heap.size wr).drew.trans (hb.mono (by simp))); clear hb))
                      go_wp2
                      go_roundw
                      case rel => exact ⟨j + 1, by go_num, by omega, Lib.hid (HBx.out.trans (HB1.out.mono HBx.out.size))⟩
                      case measure => simp [intOf] <;> omega
              · have d1 : decide ((4 : Int) ≤ kd) = false := by simpa using hk4
                have hnm : namedB G ⟨kd, id, dst, ps, nm0, tx⟩ j = false := named_no (.inl (by simp only []; exact hk4))
                have HTV : Hid (∀ V, Below wr.heap.size wr V → Calls Tryz.prog 21 #[.slice (some ⟨g0, off + j * 6, none⟩) 1 (cf - j), .slice (some ⟨g4, j * 6, none⟩) 1 (cap4 - j)] V (GivesV (.bool true) V)) := Lib.hid (fun V hb => by
                  have := same_one g0 off g4 0 (cf - j) (cap4 - j) V (HFx.out.below hb) (HGx.out.below hb) HMAY.out HM4.out (by rw [HGN.out]; exact hjl) (by rw [HL4.out]; omega) (HKE.out j (by rw [HGN.out]; exact hjl) (by rw [HL4.out]; omega) hnm)
                  rw [Nat.zero_add] at this
                  exact this)
                clear hnm
                go_wp2_with fail
                go_region_held3 (fun V => True)
                  (exact True.intro)
                  (first
                    | (go_at_call 21; refine (HTV.out _ (Below.refl _ _).drew).mono ?_; rintro e w5 ⟨rfl, hb⟩; have HB1 := Lib.hid ((Below.refl wr.heap.size wr).drew.trans (hb.mono (by simp))); clear hb))
                go_wp2
                go_roundw
                case rel => exact ⟨j + 1, by go_num, by omega, Lib.hid (HBx.out.trans (HB1.out.mono HBx.out.size))⟩
                case measure => simp [intOf] <;> omega
            · obtain rfl : j = gn := by omega
              have s1 : IntKind.i64.wrap ((j : Int) + 1) = (j : Int) + 1 := by rw [IntKind.wrap_i64]; omega
              have s2 : decide ((j : Int) ≤ (m4 : Int)) = true := by simp; omega
              have s3 : decide ((m4 : Int) ≤ (j : Int) + 1) = true := by simp; omega
              go_wp2
              go_ret
              exact ⟨rfl, HB4.out.trans (HBx.out.mono HB4.out.size)⟩
        · have heb : (errP G ⟨kd, id, dst, ps, nm0, tx⟩ != 0) = true := by simpa using he
          have t4 : G4.map core = G.map core := by rw [HE4.out, oneP, if_neg he]
          have l4 : G4.length = gn := by rw [len_like t4]; exact HGN.out
          rw [l4]
          have HCS := Lib.hid (HSA.out w4 (some ⟨g0, off, none⟩) (some ⟨g4, 0, none⟩) G G4 cf cap4 gn gn HFG4.out HF4.out HMAY.out HM4.out HGN.out l4 (sameF_of t4.symm))
          generalize errP G ⟨kd, id, dst, ps, nm0, tx⟩ = er at *
          clear t4 l4
          go_wp2_with fail
          refine HCS.out.mono ?_
          rintro e w5 ⟨rfl, hb⟩
          have HB5 := Lib.hid (HB4.out.trans (hb.mono HB4.out.size))
          clear hb
          go_wp2
          go_ret
          exact ⟨rfl, HB5.out⟩
  · rw [hbo]
    clear hbo
    go_wp2_with fail
    refine (HS.out X HXb.out).mono ?_
    rintro e w1 ⟨rfl, hb⟩
    have HB := Lib.hid (HXb.out.trans (hb.mono HXb.out.size))
    clear hb
    go_wp2
    go_ret
    exact ⟨rfl, HB.out⟩
end Go.Proofs.YtfmciefodohdgaaGreatDoor
