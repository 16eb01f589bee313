/-
  The law ApplyFresh: a node that is made has the next number, stands alone, and is what was said; all others stay.
-/
import Derived.Test.YtfmciefodohdgaaGreatDoorG16
import Derived.Test.YtfmciefodohdgaaGreatDoorG18
import Derived.Test.YtfmciefodohdgaaGreatDoorG19
import Derived.Test.YtfmciefodohdgaaGreatDoorG20
import Derived.Test.YtfmciefodohdgaaGreatDoorZApLu
import Derived.Deep.RegionHeld3
namespace Go.Proofs.YtfmciefodohdgaaGreatDoor
open Go.ChangeShapes Go.WideShapes Go.ChangeAt Go.RowKit
set_option linter.unusedVariables false
set_option linter.unusedSimpArgs false

set_option maxRecDepth 100000 in
set_option maxHeartbeats 8000000 in
theorem fresh_law (A : Option Addr) (l : List Ops.Po) (c : Nat) (nm tx : ByteArray) (kdn : Nat) (mx : Int) (w : World) (hL : Ops.OL w A l) (hl : l.length ≤ 9223372036854775807) (h1 : kdn ≤ 255) (hK : Ops.KT w) (hm : w.cell? ⟨1, 0, none⟩ = some (.int .i64 mx)) :
    Calls Tryz.prog 7 #[.slice A l.length c, .string nm, .string tx, .int .u8 kdn] w (GivesV (.bool true) w) := by
  have hg0 : 1 < w.heap.size := World.block_lt_of_cell? _ _ hm
  have HL := Lib.hid hL
  have HK := Lib.hid hK
  have HBD := Lib.hid (bounded7 A l c w hL hl)
  have HS := Lib.hid (fun (V : World) (hb : Below w.heap.size w V) => shown7 mx V (hK.below hb) ((hb.cell (p := ⟨1, 0, none⟩) hg0).trans hm))
  have HLE : Hid (bdO l = true → l.length ≤ 150) := Lib.hid (fun h => by
    unfold bdO at h
    rw [Bool.and_eq_true, decide_eq_true_eq] at h
    exact h.2)
  have HON := Lib.hid (fun (V : World) (k : Nat) (A' : Option Addr) (G : List Mn) (c' : Nat) (o' : Ops.Po) (hb : Below w.heap.size w V) (h : OneAt V l k A' G) (hf : Ops.Fit o') => one_at h c' o' hf (hK.below hb))
  have H1 := Lib.hid (fun (V : World) (A' : Option Addr) (G : List Mn) (c' n : Nat) (o' : Ops.Po) (hb : Below w.heap.size w V) (hF : FR V A' G) (hG : mayB G = true) (hn : G.length = n) (hf : Ops.Fit o') => (show Calls Tryz.prog 16 #[.slice A' n c', Ops.opv o'] V (OneRes G o' V) from hn ▸ one_any A' G c' o' V hF hG hf (hK.below hb)))
  have HSA := Lib.hid (fun (V : World) (A' B' : Option Addr) (F G : List Mn) (c' d' n m : Nat) (hF : FR V A' F) (hG : FR V B' G) (h1 : mayB F = true) (h2 : mayB G = true) (hn : F.length = n) (hm : G.length = m) (he : sameF F G = true) => (show Calls Tryz.prog 21 #[.slice A' n c', .slice B' m d'] V (GivesV (.bool true) V) from he ▸ hn ▸ hm ▸ same_any A' B' F G c' d' V hF hG (may_sz2 h1) (may_sz2 h2)))
  obtain ⟨n, hnn⟩ : ∃ n, l.length = n := ⟨_, rfl⟩
  have HNN := Lib.hid hnn
  rw [hnn] at HBD HLE hl ⊢
  clear hL hK hm hnn
  generalize bdO l = BL at *
  go_enter Tryz.func7, Tryz.ntmps7
  go_wp2_with fail
  refine HBD.out.mono ?_
  rintro e w' ⟨rfl, hw⟩
  obtain rfl := hw.symm
  cases BL with
  | false =>
    go_wp2_with fail
    refine (HS.out w (Below.refl w.heap.size w)).mono ?_
    rintro e w1 ⟨rfl, hb⟩
    have HB := Lib.hid ((Below.refl w.heap.size w).trans (hb.mono (Below.refl w.heap.size w).size))
    clear hb
    go_wp2
    go_ret
    exact ⟨rfl, HB.out⟩
  | true =>
  have hln := HLE.out rfl
  by_cases hx0 : 100 < nm.size
  · have b0 : decide ((100 : Int) < (nm.size : Int)) = true := by simp; omega
    go_wp2_with fail
    refine (HS.out w (Below.refl w.heap.size w)).mono ?_
    rintro e w1 ⟨rfl, hb⟩
    have HB := Lib.hid ((Below.refl w.heap.size w).trans (hb.mono (Below.refl w.heap.size w).size))
    clear hb
    go_wp2
    go_ret
    exact ⟨rfl, HB.out⟩
  have b0 : decide ((100 : Int) < (nm.size : Int)) = false := by simp; omega
  by_cases hx1 : 100 < tx.size
  · have b1 : decide ((100 : Int) < (tx.size : Int)) = true := by simp; omega
    go_wp2_with fail
    refine (HS.out w (Below.refl w.heap.size w)).mono ?_
    rintro e w1 ⟨rfl, hb⟩
    have HB := Lib.hid ((Below.refl w.heap.size w).trans (hb.mono (Below.refl w.heap.size w).size))
    clear hb
    go_wp2
    go_ret
    exact ⟨rfl, HB.out⟩
  have b1 : decide ((100 : Int) < (tx.size : Int)) = false := by simp; omega
  go_wp2_with fail
  refine (HS.out w (Below.refl _ _)).mono ?_
  rintro e w1 ⟨rfl, hb⟩
  have HB := Lib.hid hb
  clear hb
  go_wp2_with fail
  refine (new_any w1).mono ?_
  rintro e w2 ⟨A0, rfl, hA, hb⟩
  have HST := Lib.hid (OneAt.start l hA)
  have HB2 := Lib.hid (HB.out.trans (hb.mono HB.out.size))
  clear hA hb
  go_wp2_with fail
  go_loopw [9, 10] (fun qf qi wr => ∃ (k : Nat) (Af : Option Addr) (G : List Mn) (cf : Nat), qf = .slice Af G.length cf ∧ qi = .int .i64 k ∧ k ≤ n ∧ Hid (OneAt wr l k Af G) ∧ Hid (Below w.heap.size w wr)) (fun _ qi _ => n - (intOf qi).toNat)
  case atStart => exact ⟨0, A0, [newM], 1, rfl, rfl, Nat.zero_le _, HST, HB2⟩
  case round =>
    obtain ⟨k, Af, G, cf, rfl, rfl, hk, HG, HBr⟩ := hrel
    by_cases hlt : k < n
    · have k0 : (0 : Int) ≤ (k : Int) := by omega
      have k1 : (k : Int) < (n : Int) := by omega
      have hkl : k < l.length := by rw [HNN.out]; exact hlt
      obtain ⟨hfk, gl, off, rfl, hgl, a0, a1, a2, a3, a4, a5⟩ := (HL.out.below HBr.out) k l[k] (List.getElem?_eq_getElem hkl)
      have HOK := Lib.hid (HON.out wr k Af G cf l[k] HBr.out HG.out hfk)
      have HNX := Lib.hid (fun (w' : World) (base g cap : Nat) (G' : List Mn) (h : OF w' base (.slice (some ⟨g, 0, none⟩) G'.length cap) G') (hc : G'.map core = (oneP G l[k]).1.map core) => HG.out.step hkl h hc)
      generalize l[k] = p at *
      go_wp2_with fail
      refine HOK.out.mono ?_
      rintro e w3 ⟨g, cap, G', rfl, hO, hc, hb⟩
      have HG2 := Lib.hid (HNX.out w3 _ g cap G' hO hc)
      have HB3 := Lib.hid (HBr.out.trans (hb.mono HBr.out.size))
      clear hO hc hb a0 a1 a2 a3 a4 a5 hfk hkl
      generalize errP G p = er at *
      go_wp2
      go_roundw
      case rel => exact ⟨k + 1, _, G', cap, rfl, by go_num, by omega, HG2, HB3⟩
      case measure => simp [intOf] <;> omega
    · obtain rfl : k = n := by omega
      have HMAY := Lib.hid HG.out.may
      have HGF := Lib.hid HG.out.fr
      obtain ⟨gn, hgn⟩ : ∃ gn, G.length = gn := ⟨_, rfl⟩
      have HGN := Lib.hid hgn
      have hg60 : gn ≤ 60 := by rw [← hgn]; exact (may_sz HMAY.out).1
      have hg1 : 0 < gn := by rw [← hgn]; exact (may_iff.1 HMAY.out).1.1
      rw [hgn]
      clear hgn HON HNN HL
      obtain ⟨r, hr⟩ : ∃ r, r = kdn % 3 := ⟨_, rfl⟩
      have hr3 : r < 3 := by rw [hr]; exact Nat.mod_lt _ (by omega)
      have q1 : ((kdn : Int)).tmod 3 = (r : Int) := by rw [hr]; exact (Int.ofNat_tmod kdn 3).symm
      have z1 : IntKind.u8.wrap (r : Int) = (r : Int) := by rw [IntKind.wrap_u8]; omega
      have z2 : IntKind.i64.wrap (r : Int) = (r : Int) := by rw [IntKind.wrap_i64]; omega
      have z3 : IntKind.i64.wrap (1 + (r : Int)) = 1 + (r : Int) := by rw [IntKind.wrap_i64]; omega
      clear hr
      by_cases hr0 : r = 0
      · subst hr0
        obtain ⟨X, hX⟩ : ∃ X, X = wr.alloc (.cells #[.int .i64 1, .int .i64 0, .int .i64 0, .int .i64 0, .string nm, .string ⟨#[]⟩] 35) := ⟨_, rfl⟩
        have HYb : Hid (Below wr.heap.size wr X) := Lib.hid (by rw [hX]; exact (Below.refl _ _).alloc (Nat.le_refl _) _)
        have HYO : Hid (OpAt X wr.heap.size (frO 1 nm ⟨#[]⟩)) := Lib.hid (by rw [hX]; exact heap_alloc_new _ _)
        have HFO : Hid (FrO 1 nm ⟨#[]⟩) := Lib.hid (.inl ⟨rfl, by omega, rfl⟩)
        have b9 : decide ((0 : Int) < ((0 : Nat) : Int)) = false := by decide
        go_upto_region 9 with fail
        rw [← hX]
        clear hX
        have HCI := Lib.hid (H1.out X Af G cf gn (frO 1 nm ⟨#[]⟩) (HBr.out.trans (HYb.out.mono HBr.out.size)) (HGF.out.below HYb.out) HMAY.out HGN.out (fr_fit HFO.out))
        unfold Ops.opv frO at HCI
        simp only [] at HCI
        obtain ⟨x0, x1, x2, x3, x4, x5⟩ := block6 HYO.out
        unfold frO at x0 x1 x2 x3 x4 x5
        simp only [] at x0 x1 x2 x3 x4 x5
        go_wp2_with fail
        refine HCI.out.mono ?_
        rintro e w4 ⟨g4, cap4, G4, rfl, hO, hc, hb⟩
        have HF4 := Lib.hid hO.fr
        have HCP := Lib.hid (own_cap hO)
        have HE4 : Hid (G4.map core = (oneP G (frO 1 nm ⟨#[]⟩)).1.map core) := Lib.hid hc
        have HB4 := Lib.hid ((HBr.out.trans (HYb.out.mono HBr.out.size)).trans (hb.mono (HBr.out.trans (HYb.out.mono HBr.out.size)).size))
        have HFG4 := Lib.hid ((HGF.out.below HYb.out).below hb)
        have HO4 := Lib.hid (HYO.out.below hb)
        have HER := Lib.hid (fr_err (may_sz HMAY.out).1 HFO.out)
        have HDO := Lib.hid (fun he => fr_do HFO.out he HE4.out)
        have HOP : Hid ((oneP G (frO 1 nm ⟨#[]⟩)).1 = if errP G (frO 1 nm ⟨#[]⟩) = 0 then doP G (frO 1 nm ⟨#[]⟩) else G) := Lib.hid (by unfold oneP; split <;> rfl)
        clear hO hc hb x0 x1 x2 x3 x4 x5
        obtain ⟨er, her⟩ : ∃ er, errP G ⟨1, 0, 0, 0, nm, ⟨#[]⟩⟩ = er := ⟨_, rfl⟩
        rw [show errP G (frO 1 nm ⟨#[]⟩) = er from her] at HER HDO HOP
        rw [her]
        clear her
        by_cases he : er = 0
        · subst he
          obtain ⟨l4, t4, n4⟩ := HDO.out rfl
          rw [HGN.out] at l4 t4
          obtain ⟨m4, hm4⟩ : ∃ m4, gn + 1 = m4 := ⟨_, rfl⟩
          rw [hm4] at l4
          obtain ⟨p1, p2⟩ := HCP.out
          rw [l4] at p1
          have m1 : (gn : Int) < (m4 : Int) := by omega
          have m0 : (0 : Int) ≤ (gn : Int) := by omega
          have m2 : gn ≤ cap4 := by omega
          have m3 : IntKind.i64.wrap ((gn : Int) + 1) = (m4 : Int) := by rw [IntKind.wrap_i64]; omega
          have m5 : (gn : Int) ≤ (cap4 : Int) := by omega
          rw [l4]
          have HL4 := Lib.hid l4
          have HN4 : Hid (∀ hn : gn < G4.length, core G4[gn] = ⟨1, nm, ⟨#[]⟩, [], -1, [], none, 0, none, 0⟩) := Lib.hid (fun hn => by
            have := n4 (by rw [HGN.out]; exact hn)
            simp only [HGN.out] at this
            exact this)
          clear l4 n4 p1 p2
          have hn4 : gn < G4.length := by rw [HL4.out]; omega
          obtain ⟨-, g9, off9, hA9, hg9, hnd⟩ := HF4.out gn G4[gn] (List.getElem?_eq_getElem hn4)
          cases hA9
          have hcr := HN4.out hn4
          have HTV : Hid (∀ V, Below w4.heap.size w4 V → Calls Tryz.prog 21 #[.slice (some ⟨g4, 0, none⟩) gn cap4, .slice Af gn cf] V (GivesV (.bool true) V)) := Lib.hid (fun V hb => HSA.out V (some ⟨g4, 0, none⟩) Af (G4.take gn) G cap4 cf gn gn (fr_take (HF4.out.below hb) gn) (HFG4.out.below hb) (by rw [mayB_like t4]; exact HMAY.out) HMAY.out (by rw [List.length_take, HL4.out]; omega) HGN.out (sameF_of t4))
          clear t4
          generalize G4[gn] = nd at *
          obtain ⟨nk, nn, nt, na, np, nkd, naA, naC, nkA, nkC⟩ := nd
          unfold core at hcr
          simp only [Mn.mk.injEq, true_and, and_true] at hcr
          obtain ⟨i1, i2, i3, i4, i5, i6⟩ := hcr
          obtain ⟨c0, c1, c2, c3, c4, c5, -, -⟩ := hnd
          simp only [Nat.zero_add, i1, i2, i3, i4, i5, i6, List.length_nil] at c0 c1 c2 c3 c4 c5
          clear i1 i2 i3 i4 i5 i6
          obtain ⟨x0, x1, x2, x3, x4, x5⟩ := block6 HO4.out
          unfold frO at x0 x1 x2 x3 x4 x5
          simp only [] at x0 x1 x2 x3 x4 x5
          have hO4 := lt_of_block HO4.out
          have HCV : Hid (∀ V, Below w4.heap.size w4 V → V.cell? ⟨g4, gn * 6, none⟩ = some (.int .i64 1) ∧ V.cell? ⟨g4, gn * 6 + 1, none⟩ = some (.string nm) ∧ V.cell? ⟨g4, gn * 6 + 2, none⟩ = some (.string ⟨#[]⟩) ∧ V.cell? ⟨g4, gn * 6 + 3, none⟩ = some (.slice naA 0 naC) ∧ V.cell? ⟨g4, gn * 6 + 4, none⟩ = some (.int .i64 (-1)) ∧ V.cell? ⟨g4, gn * 6 + 5, none⟩ = some (.slice nkA 0 nkC) ∧ V.cell? ⟨wr.heap.size, 0, none⟩ = some (.int .i64 1) ∧ V.cell? ⟨wr.heap.size, 4, none⟩ = some (.string nm) ∧ V.cell? ⟨wr.heap.size, 5, none⟩ = some (.string ⟨#[]⟩)) := Lib.hid (fun V hb => ⟨(hb.cell hg9).trans c0, (hb.cell hg9).trans c1, (hb.cell hg9).trans c2, (hb.cell hg9).trans c3, (hb.cell hg9).trans c4, (hb.cell hg9).trans c5, (hb.cell hO4).trans x0, (hb.cell hO4).trans x4, (hb.cell hO4).trans x5⟩)
          go_wp2_with fail
          simp only [List.append_eq, List.cons_append, List.nil_append]
          go_region_held3 (fun V => V.cell? ⟨g4, gn * 6, none⟩ = some (.int .i64 1) ∧ V.cell? ⟨g4, gn * 6 + 1, none⟩ = some (.string nm) ∧ V.cell? ⟨g4, gn * 6 + 2, none⟩ = some (.string ⟨#[]⟩) ∧ V.cell? ⟨g4, gn * 6 + 3, none⟩ = some (.slice naA 0 naC) ∧ V.cell? ⟨g4, gn * 6 + 4, none⟩ = some (.int .i64 (-1)) ∧ V.cell? ⟨g4, gn * 6 + 5, none⟩ = some (.slice nkA 0 nkC) ∧ V.cell? ⟨wr.heap.size, 0, none⟩ = some (.int .i64 1) ∧ V.cell? ⟨wr.heap.size, 4, none⟩ = some (.string nm) ∧ V.cell? ⟨wr.heap.size, 5, none⟩ = some (.string ⟨#[]⟩))
            (first | with_reducible exact HCV.out _ (Below.refl _ _) | with_reducible exact HCV.out _ (Below.refl _ _).drew | with_reducible exact HCV.out _ HB1.out)
            (first
              | (go_at_call 21; refine (HTV.out _ (Below.refl _ _).drew).mono ?_; rintro e w5 ⟨rfl, hb⟩; have HB1 := Lib.hid ((Below.refl w4.heap.size w4).drew.trans (hb.mono (by simp))); clear hb))
          go_wp2
          go_ret
          exact ⟨rfl, HB4.out.trans (HB1.out.mono HB4.out.size)⟩
        · have heb : (er != 0) = true := by simpa using he
          rw [if_neg he] at HOP
          have t4 : G4.map core = G.map core := by rw [HE4.out, HOP.out]
          have l4 : G4.length = gn := by rw [len_like t4]; exact HGN.out
          rw [l4]
          have HCS := Lib.hid (HSA.out w4 Af (some ⟨g4, 0, none⟩) G G4 cf cap4 gn gn HFG4.out HF4.out HMAY.out (by rw [mayB_like t4]; exact HMAY.out) HGN.out l4 (sameF_of t4.symm))
          rcases HER.out with h | h | ⟨h, h60⟩
          · exact absurd h he
          · subst h
            clear t4 l4
            go_wp2_with fail
            refine HCS.out.mono ?_
            rintro e w5 ⟨rfl, hb⟩
            have HB5 := Lib.hid (HB4.out.trans (hb.mono HB4.out.size))
            clear hb
            go_wp2
            go_ret
            exact ⟨rfl, HB5.out⟩
          · subst h
            rw [HGN.out] at h60
            subst h60
            clear t4 l4
            go_wp2_with fail
            refine HCS.out.mono ?_
            rintro e w5 ⟨rfl, hb⟩
            have HB5 := Lib.hid (HB4.out.trans (hb.mono HB4.out.size))
            clear hb
            go_wp2
            go_ret
            exact ⟨rfl, HB5.out⟩
      · have b9 : decide ((0 : Int) < (r : Int)) = true := by simp; omega
        obtain ⟨X, hX⟩ : ∃ X, X = wr.alloc (.cells #[.int .i64 (1 + (r : Int)), .int .i64 0, .int .i64 0, .int .i64 0, .string ⟨#[]⟩, .string tx] 35) := ⟨_, rfl⟩
        have HYb : Hid (Below wr.heap.size wr X) := Lib.hid (by rw [hX]; exact (Below.refl _ _).alloc (Nat.le_refl _) _)
        have HYO : Hid (OpAt X wr.heap.size (frO (1 + (r : Int)) ⟨#[]⟩ tx)) := Lib.hid (by rw [hX]; exact heap_alloc_new _ _)
        have HFO : Hid (FrO (1 + (r : Int)) ⟨#[]⟩ tx) := Lib.hid (.inr ⟨by omega, rfl, by omega⟩)
        obtain ⟨kd, hkd⟩ : ∃ kd, 1 + (r : Int) = kd := ⟨_, rfl⟩
        rw [hkd] at HYO HFO z3 hX
        go_upto_region 11 with fail
        rw [← hX]
        clear hX
        have HCI := Lib.hid (H1.out X Af G cf gn (frO kd ⟨#[]⟩ tx) (HBr.out.trans (HYb.out.mono HBr.out.size)) (HGF.out.below HYb.out) HMAY.out HGN.out (fr_fit HFO.out))
        unfold Ops.opv frO at HCI
        simp only [] at HCI
        obtain ⟨x0, x1, x2, x3, x4, x5⟩ := block6 HYO.out
        unfold frO at x0 x1 x2 x3 x4 x5
        simp only [] at x0 x1 x2 x3 x4 x5
        go_wp2_with fail
        refine HCI.out.mono ?_
        rintro e w4 ⟨g4, cap4, G4, rfl, hO, hc, hb⟩
        have HF4 := Lib.hid hO.fr
        have HCP := Lib.hid (own_cap hO)
        have HE4 : Hid (G4.map core = (oneP G (frO kd ⟨#[]⟩ tx)).1.map core) := Lib.hid hc
        have HB4 := Lib.hid ((HBr.out.trans (HYb.out.mono HBr.out.size)).trans (hb.mono (HBr.out.trans (HYb.out.mono HBr.out.size)).size))
        have HFG4 := Lib.hid ((HGF.out.below HYb.out).below hb)
        have HO4 := Lib.hid (HYO.out.below hb)
        have HER := Lib.hid (fr_err (may_sz HMAY.out).1 HFO.out)
        have HDO := Lib.hid (fun he => fr_do HFO.out he HE4.out)
        have HOP : Hid ((oneP G (frO kd ⟨#[]⟩ tx)).1 = if errP G (frO kd ⟨#[]⟩ tx) = 0 then doP G (frO kd ⟨#[]⟩ tx) else G) := Lib.hid (by unfold oneP; split <;> rfl)
        clear hO hc hb x0 x1 x2 x3 x4 x5
        obtain ⟨er, her⟩ : ∃ er, errP G ⟨kd, 0, 0, 0, ⟨#[]⟩, tx⟩ = er := ⟨_, rfl⟩
        rw [show errP G (frO kd ⟨#[]⟩ tx) = er from her] at HER HDO HOP
        rw [her]
        clear her
        by_cases he : er = 0
        · subst he
          obtain ⟨l4, t4, n4⟩ := HDO.out rfl
          rw [HGN.out] at l4 t4
          obtain ⟨m4, hm4⟩ : ∃ m4, gn + 1 = m4 := ⟨_, rfl⟩
          rw [hm4] at l4
          obtain ⟨p1, p2⟩ := HCP.out
          rw [l4] at p1
          have m1 : (gn : Int) < (m4 : Int) := by omega
          have m0 : (0 : Int) ≤ (gn : Int) := by omega
          have m2 : gn ≤ cap4 := by omega
          have m3 : IntKind.i64.wrap ((gn : Int) + 1) = (m4 : Int) := by rw [IntKind.wrap_i64]; omega
          have m5 : (gn : Int) ≤ (cap4 : Int) := by omega
          rw [l4]
          have HL4 := Lib.hid l4
          have HN4 : Hid (∀ hn : gn < G4.length, core G4[gn] = ⟨kd, ⟨#[]⟩, tx, [], -1, [], none, 0, none, 0⟩) := Lib.hid (fun hn => by
            have := n4 (by rw [HGN.out]; exact hn)
            simp only [HGN.out] at this
            exact this)
          clear l4 n4 p1 p2
          have hn4 : gn < G4.length := by rw [HL4.out]; omega
          obtain ⟨-, g9, off9, hA9, hg9, hnd⟩ := HF4.out gn G4[gn] (List.getElem?_eq_getElem hn4)
          cases hA9
          have hcr := HN4.out hn4
          have HTV : Hid (∀ V, Below w4.heap.size w4 V → Calls Tryz.prog 21 #[.slice (some ⟨g4, 0, none⟩) gn cap4, .slice Af gn cf] V (GivesV (.bool true) V)) := Lib.hid (fun V hb => HSA.out V (some ⟨g4, 0, none⟩) Af (G4.take gn) G cap4 cf gn gn (fr_take (HF4.out.below hb) gn) (HFG4.out.below hb) (by rw [mayB_like t4]; exact HMAY.out) HMAY.out (by rw [List.length_take, HL4.out]; omega) HGN.out (sameF_of t4))
          clear t4
          generalize G4[gn] = nd at *
          obtain ⟨nk, nn, nt, na, np, nkd, naA, naC, nkA, nkC⟩ := nd
          unfold core at hcr
          simp only [Mn.mk.injEq, true_and, and_true] at hcr
          obtain ⟨i1, i2, i3, i4, i5, i6⟩ := hcr
          obtain ⟨c0, c1, c2, c3, c4, c5, -, -⟩ := hnd
          simp only [Nat.zero_add, i1, i2, i3, i4, i5, i6, List.length_nil] at c0 c1 c2 c3 c4 c5
          clear i1 i2 i3 i4 i5 i6
          obtain ⟨x0, x1, x2, x3, x4, x5⟩ := block6 HO4.out
          unfold frO at x0 x1 x2 x3 x4 x5
          simp only [] at x0 x1 x2 x3 x4 x5
          have hO4 := lt_of_block HO4.out
          have HCV : Hid (∀ V, Below w4.heap.size w4 V → V.cell? ⟨g4, gn * 6, none⟩ = some (.int .i64 kd) ∧ V.cell? ⟨g4, gn * 6 + 1, none⟩ = some (.string ⟨#[]⟩) ∧ V.cell? ⟨g4, gn * 6 + 2, none⟩ = some (.string tx) ∧ V.cell? ⟨g4, gn * 6 + 3, none⟩ = some (.slice naA 0 naC) ∧ V.cell? ⟨g4, gn * 6 + 4, none⟩ = some (.int .i64 (-1)) ∧ V.cell? ⟨g4, gn * 6 + 5, none⟩ = some (.slice nkA 0 nkC) ∧ V.cell? ⟨wr.heap.size, 0, none⟩ = some (.int .i64 kd) ∧ V.cell? ⟨wr.heap.size, 4, none⟩ = some (.string ⟨#[]⟩) ∧ V.cell? ⟨wr.heap.size, 5, none⟩ = some (.string tx)) := Lib.hid (fun V hb => ⟨(hb.cell hg9).trans c0, (hb.cell hg9).trans c1, (hb.cell hg9).trans c2, (hb.cell hg9).trans c3, (hb.cell hg9).trans c4, (hb.cell hg9).trans c5, (hb.cell hO4).trans x0, (hb.cell hO4).trans x4, (hb.cell hO4).trans x5⟩)
          go_wp2_with fail
          simp only [List.append_eq, List.cons_append, List.nil_append]
          go_region_held3 (fun V => V.cell? ⟨g4, gn * 6, none⟩ = some (.int .i64 kd) ∧ V.cell? ⟨g4, gn * 6 + 1, none⟩ = some (.string ⟨#[]⟩) ∧ V.cell? ⟨g4, gn * 6 + 2, none⟩ = some (.string tx) ∧ V.cell? ⟨g4, gn * 6 + 3, none⟩ = some (.slice naA 0 naC) ∧ V.cell? ⟨g4, gn * 6 + 4, none⟩ = some (.int .i64 (-1)) ∧ V.cell? ⟨g4, gn * 6 + 5, none⟩ = some (.slice nkA 0 nkC) ∧ V.cell? ⟨wr.heap.size, 0, none⟩ = some (.int .i64 kd) ∧ V.cell? ⟨wr.heap.size, 4, none⟩ = some (.string ⟨#[]⟩) ∧ V.cell? ⟨wr.heap.size, 5, none⟩ = some (.string tx))
            (first | with_reducible exact HCV.out _ (Below.refl _ _) | with_reducible exact HCV.out _ (Below.refl _ _).drew | with_reducible exact HCV.out _ HB1.out)
            (first
              | (go_at_call 21; refine (HTV.out _ (Below.refl _ _).drew).mono ?_; rintro e w5 ⟨rfl, hb⟩; have HB1 := Lib.hid ((Below.refl w4.heap.size w4).drew.trans (hb.mono (by simp))); clear hb))
          go_wp2
          go_ret
          exact ⟨rfl, HB4.out.trans (HB1.out.mono HB4.out.size)⟩
        · have heb : (er != 0) = true := by simpa using he
          rw [if_neg he] at HOP
          have t4 : G4.map core = G.map core := by rw [HE4.out, HOP.out]
          have l4 : G4.length = gn := by rw [len_like t4]; exact HGN.out
          rw [l4]
          have HCS := Lib.hid (HSA.out w4 Af (some ⟨g4, 0, none⟩) G G4 cf cap4 gn gn HFG4.out HF4.out HMAY.out (by rw [mayB_like t4]; exact HMAY.out) HGN.out l4 (sameF_of t4.symm))
          rcases HER.out with h | h | ⟨h, h60⟩
          · exact absurd h he
          · subst h
            clear t4 l4
            go_wp2_with fail
            refine HCS.out.mono ?_
            rintro e w5 ⟨rfl, hb⟩
            have HB5 := Lib.hid (HB4.out.trans (hb.mono HB4.out.size))
            clear hb
            go_wp2
            go_ret
            exact ⟨rfl, HB5.out⟩
          · subst h
            rw [HGN.out] at h60
            subst h60
            clear t4 l4
            go_wp2_with fail
            refine HCS.out.mono ?_
            rintro e w5 ⟨rfl, hb⟩
            have HB5 := Lib.hid (HB4.out.trans (hb.mono HB4.out.size))
            clear hb
            go_wp2
            go_ret
            exact ⟨rfl, HB5.out⟩
end Go.Proofs.YtfmciefodohdgaaGreatDoor
