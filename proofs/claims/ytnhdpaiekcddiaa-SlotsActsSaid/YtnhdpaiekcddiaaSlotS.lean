/-
  The law SlotsStale, at any input.
-/
import Derived.Test.YtnhdpaiekcddiaaSlotR
namespace Go.Proofs.Ytnhdpaiekcddiaa
open Go.ChangeShapes Go.WideShapes Go.ChangeAt Go.RowKit
set_option linter.unusedVariables false

theorem hd01 : hd ((0 : Nat) : Int) 1 = 16777216 := rfl
theorem full1_live {n : Nat} (hn : 0 < n) : (full n 1).lv 16777216 = true := by
  refine lv_of (i := 0) rfl ?_ (full_gen hn)
  show ((List.replicate 1 true ++ List.replicate (n - 1) false)).getD 0 false = true
  rfl
theorem lv_gen2 {s : St} (h : s.gens.getD 0 0 = 2) : s.lv 16777216 = false := by
  unfold St.lv
  have : ((16777216 : Int) % 16777216).toNat = 0 := rfl
  rw [this, h]
  simp
theorem gb_gen2 {n : Nat} (hn : 0 < n) : ((full n 1).gb 0 2).gens.getD 0 0 = 2 := by
  show ((List.replicate n (1 : Int)).set 0 2).getD 0 0 = 2
  rw [getD_set, if_pos ⟨rfl, by simpa using hn⟩]
theorem gb_ok {n : Nat} (hn : 0 < n) (h : n ≤ 500) : Ok n 2 ((full n 1).gb 0 2) :=
  (full_ok h (by omega)).gb hn rfl (by decide) (by decide) (by decide)

/-- A slot is taken, or none is free: the generations stay. -/
def TakesOn (n : Nat) (G : Int) (s : St) (w : World) (en : Ending) (w' : World) : Prop := ∃ s' h e, GivesT s' h e w en w' ∧ Ok n G s' ∧ s'.gens = s.gens
theorem take_on {n : Nat} {G : Int} {s : St} {vg vu vf : Value} {b : Nat} {w : World} (ho : Ok n G s) (hG : G ≤ 1099511627775) (hA : Ar w b vg vu vf s) : Calls Try.prog 13 #[.agg #[vg, vu, vf]] w (TakesOn n G s w) := by
  by_cases hf : s.free = []
  · exact (takeN ho hA hf).mono fun _ _ h => ⟨s, 0, 2, h, ho, rfl⟩
  · obtain ⟨fr, i, hfr, hi⟩ := ho.last hf
    exact (takeO ho hG hA hfr hi).mono fun _ _ h => ⟨s.tk i, _, 0, h, ho.tk hfr, rfl⟩

set_option maxHeartbeats 8000000 in
set_option maxRecDepth 100000 in
theorem stale_law (a0 a1 : Int) (w0 : (Lit.int .u8 a0).wf = true) (w1 : (Lit.int .u8 a1).wf = true) (w : World) :
    Calls Try.prog 5 #[.int .u8 a0, .int .u8 a1] w (GivesV (.bool true) w) := by
  obtain ⟨l0, u0⟩ := u8_wf w0
  obtain ⟨l1, u1⟩ := u8_wf w1
  clear w0 w1
  obtain ⟨m, rfl⟩ := Int.eq_ofNat_of_zero_le l0
  obtain ⟨r, rfl⟩ := Int.eq_ofNat_of_zero_le l1
  obtain ⟨n, hn⟩ : ∃ n : Nat, 1 + m % 20 = n := ⟨_, rfl⟩
  have hn' : (1 : Int) + (m : Int) % 20 = (n : Int) := by omega
  have hn0 : 0 < n := by omega
  have hn1 : n ≤ 20 := by omega
  obtain ⟨M, hM⟩ : ∃ M : Nat, r % 30 = M := ⟨_, rfl⟩
  have hM' : (r : Int) % 30 = (M : Int) := by omega
  have HN := Lib.hid hn'
  have HMr := Lib.hid hM'
  have hMb : M ≤ 30 := by omega
  clear hn hn' hM hM'
  go_enter Try.func5, Try.ntmps5
  go_wp2_with fail
  rw [HN.out]
  refine (new_ok n _ (by omega)).mono ?_
  rw [← full_zero]
  rintro e w1 ⟨v1, v2, v3, rfl, hA, hb⟩
  obtain ⟨pg, cg, pu, cu, pf, cf, rfl, rfl, rfl⟩ := hA.form
  have hsz := hb.size
  have HB1 := Lib.hid hb
  have HX := Lib.hid (Box.new 29 hA)
  clear hA hb
  go_wp2_with fail
  obtain ⟨V, hV⟩ : ∃ V, V = w1.alloc (.cells #[.slice pg (full n 0).gens.length cg, .slice pu (full n 0).used.length cu, .slice pf (full n 0).free.length cf] 29) := ⟨_, rfl⟩
  have HBV : Hid (Below w.heap.size w V) := Lib.hid (by subst hV; exact HB1.out.alloc HB1.out.size _)
  rw [← hV] at HX ⊢
  clear hV
  obtain ⟨k, hk⟩ : ∃ k, k = w1.heap.size := ⟨_, rfl⟩
  rw [← hk] at HX hsz ⊢
  clear hk HB1
  have HT : Hid ((full n 0).tk 0 = full n 1) := Lib.hid (full_tk hn0)
  refine (takeO (full_ok (by omega) (by omega)) (by omega) HX.out.ar (full_free hn0) hn0).mono ?_
  rw [HT.out, full_gen hn0, hd01]
  rintro e w2 ⟨v1, v2, v3, rfl, hA, hb⟩
  obtain ⟨pg2, cg2, pu2, cu2, pf2, cf2, rfl, rfl, rfl⟩ := hA.form
  have HXk := Lib.hid (HX.out.below hb)
  obtain ⟨d0, d1, d2, y0, y1, y2⟩ := block3 HXk.out.blk
  have HY := Lib.hid (Box.set HXk.out.blk hA (by decide) (by decide) (by decide))
  have HB2 : Hid (Below w.heap.size w w2) := Lib.hid (HBV.out.trans (hb.mono HBV.out.size))
  clear hA hb HX
  have HO1 : Hid (Ok n 1 (full n 1)) := Lib.hid (full_ok (by omega) hn0)
  have HLV : Hid ((full n 1).lv 16777216 = true) := Lib.hid (full1_live hn0)
  have HO2 : Hid (Ok n 2 ((full n 1).gb 0 2) ∧ ((full n 1).gb 0 2).gens.getD 0 0 = 2) := Lib.hid ⟨gb_ok hn0 (by omega), gb_gen2 hn0⟩
  have hfl : (full n 1).free.length ≤ 20 := by have := HO1.out.free_le; omega
  obtain ⟨F, hF⟩ : ∃ F, full n 1 = F := ⟨_, rfl⟩
  rw [hF] at HO1 HLV HO2 HY hfl ⊢
  clear hF HT
  go_upto_region 5 with fail
  obtain ⟨V2, hV⟩ : ∃ V, V = ((w2.setCell ⟨k, 0, none⟩ (.slice pg2 F.gens.length cg2)).setCell ⟨k, 1, none⟩ (.slice pu2 F.used.length cu2)).setCell ⟨k, 2, none⟩ (.slice pf2 F.free.length cf2) := ⟨_, rfl⟩
  have HBV2 : Hid (Below w.heap.size w V2) := Lib.hid (by subst hV; exact below_set3 HB2.out hsz _ _ _)
  rw [← hV] at HY ⊢
  clear hV d0 d1 d2 y0 y1 y2 HB2 HBV
  obtain ⟨i0, hi, hz0, hz1, hz2⟩ := info_parts info_F
  have hI := Lib.hid hi
  have hZ0 := Lib.hid hz0
  have hZ1 := Lib.hid hz1
  have hZ2 := Lib.hid hz2
  clear hi hz0 hz1 hz2
  obtain ⟨c0, c1, c2, z0, z1, z2⟩ := block3 HY.out.blk
  have hkV := lt_of_block HY.out.blk
  go_cut [9] from 34 to 37 (fun o wx => ∃ (p : Option Addr) (cap : Nat), o = .slice p F.free.length cap ∧ Hid (wx.ownsRow V2.heap.size 3 1 (.slice p F.free.length cap) F.free.length (ivs F.free)) ∧ Hid (Below V2.heap.size V2 wx))
  case first =>
    have hown0 : (V2.alloc (.cells #[] 3)).ownsRow V2.heap.size 3 1 (.slice (some ⟨V2.heap.size, 0, none⟩) 0 0) 0 [] := World.ownsRow_made V2 #[] 0 (Nat.le_refl _) (by simp [maxLen]) rfl
    have HO0 := Lib.hid hown0
    clear hown0
    rcases HY.out.ar.f.2 with ⟨h9, hn9⟩ | ⟨g, cp, cur, h9, _⟩
    · injection h9 with h9 h9' h9''
      subst h9
      rw [hn9] at c2
      have HN9 := Lib.hid hn9
      clear hn9 h9' h9''
      go_wp2
      go_meet
      have hnil : F.free = [] := List.eq_nil_of_length_eq_zero HN9.out
      rw [hnil]
      exact ⟨_, _, rfl, HO0, Lib.hid ((Below.refl _ _).alloc (Nat.le_refl _) _)⟩
    · injection h9 with h9 h9' h9''
      subst h9 h9''
      clear h9'
      have HOf := Lib.hid (HY.out.ar.f.alloc (.cells #[] 3))
      have HL9 : Hid (F.free.length = (ivs F.free).length) := Lib.hid (ivs_length _).symm
      go_wp2_with (at_builtin; refine wpList_append_own _ rfl _ _ 27 rfl V2.heap.size 3 i0 (.int .i64 0) 1 8 Try.underlying27 hI.out hZ0.out hZ1.out hZ2.out rfl (by decide) _ 0 [] rfl HO0.out ⟨g, 0, none⟩ F.free.length cf2 (ivs F.free) rfl (by rw [Nat.mul_one]; exact ivs_length _) (HOf.out.cells rfl) (ivs_one _) (by unfold maxLen; omega) (by omega) (by simp) ?_; intro v' w3 hown' hgrow _; have HO' : Hid (w3.ownsRow V2.heap.size 3 1 v' (0 + F.free.length) ([] ++ ivs F.free)) := Lib.hid hown'; have HG : Hid ((V2.alloc (.cells #[] 3)).grownBy w3 (some V2.heap.size)) := Lib.hid hgrow; clear hown' hgrow)
      have HO2' := HO'.out
      rw [Nat.zero_add, List.nil_append] at HO2'
      obtain ⟨p', cp', rfl, _⟩ := own_form HO2'
      go_meet
      exact ⟨_, _, rfl, Lib.hid HO2', Lib.hid (((Below.refl _ _).alloc (Nat.le_refl _) _).grown HG.out (by simp) (fun k e => by cases e; exact Nat.le_refl _))⟩
  case rest =>
    obtain ⟨p9, c9, rfl, HW9, HBc⟩ := hcut
    have HYc := Lib.hid (HY.out.below HBc.out)
    have HBc2 : Hid (Below w.heap.size w wc) := Lib.hid (HBV2.out.trans (HBc.out.mono HBV2.out.size))
    clear c0 c1 c2 z0 z1 z2 HY
    obtain ⟨c0, c1, c2, z0, z1, z2⟩ := block3 HYc.out.blk
    go_wp2_with fail
    refine (giveO (i := 0) HO1.out (by decide) HYc.out.ar (by decide) (by decide) HLV.out rfl).mono ?_
    rintro e w4 ⟨v1, v2, v3, rfl, hA, hb⟩
    obtain ⟨pg4, cg4, pu4, cu4, pf4, cf4, h41, h42, h43⟩ := hA.form
    have hA' : Ar w4 wc.heap.size v1 v2 v3 (F.gb 0 2) := hA
    obtain ⟨T, hT⟩ : ∃ T, F.gb 0 2 = T := ⟨_, rfl⟩
    have hT' : F.gb 0 ((16777216 : Int) / 16777216 + 1) = T := hT
    rw [hT] at hA' HO2
    rw [hT'] at h41 h42 h43
    subst h41 h42 h43
    have HX4 := Lib.hid (Box.new 29 hA')
    have HYk := Lib.hid (HYc.out.below hb)
    have HW4 := Lib.hid (own_below HW9.out hb)
    have HB4 : Hid (Below w.heap.size w w4) := Lib.hid (HBc2.out.trans (hb.mono HBc2.out.size))
    have HS4 := Lib.hid hb.size
    clear hA hA' hb hT hT' HYc HW9 c0 c1 c2 z0 z1 z2
    go_wp2_with fail
    obtain ⟨V4, hV⟩ : ∃ V, V = w4.alloc (.cells #[.slice pg4 T.gens.length cg4, .slice pu4 T.used.length cu4, .slice pf4 T.free.length cf4] 29) := ⟨_, rfl⟩
    have HBV4 : Hid (Below w.heap.size w V4) := Lib.hid (by subst hV; exact HB4.out.alloc HB4.out.size _)
    have HYV : Hid (Box 29 V4 k pg2 cg2 pu2 cu2 pf2 cf2 F) := Lib.hid (by subst hV; exact HYk.out.below ((Below.refl _ _).alloc (Nat.le_refl _) _))
    have HWV : Hid (V4.ownsRow V2.heap.size 3 1 (.slice p9 F.free.length c9) F.free.length (ivs F.free)) := Lib.hid (by subst hV; exact HW4.out.alloc _)
    rw [← hV] at HX4 ⊢
    clear hV HYk HW4
    obtain ⟨k2, hk2⟩ : ∃ k2, k2 = w4.heap.size := ⟨_, rfl⟩
    have hk2s : w.heap.size ≤ k2 := by have := HB4.out.size; omega
    rw [← hk2] at HX4 ⊢
    have hkk : k2 ≠ k := by
      have h1 := HBc.out.size
      have h2 := HS4.out
      omega
    clear hk2
    go_loopw [12] (fun i wr => ∃ (q : Nat) (T : St) (pg4 : Option Addr) (cg4 : Nat) (pu4 : Option Addr) (cu4 : Nat) (pf4 : Option Addr) (cf4 : Nat), q ≤ M ∧ i = .int .i64 q ∧ Hid (Ok n 2 T ∧ T.gens.getD 0 0 = 2) ∧ Hid (Box 29 wr k2 pg4 cg4 pu4 cu4 pf4 cf4 T) ∧ Hid (Box 29 wr k pg2 cg2 pu2 cu2 pf2 cf2 F) ∧
        Hid (wr.ownsRow V2.heap.size 3 1 (.slice p9 F.free.length c9) F.free.length (ivs F.free)) ∧ Hid (Below w.heap.size w wr)) (fun i _ => M - (intOf i).toNat)
    case atStart => exact ⟨0, T, pg4, cg4, pu4, cu4, pf4, cf4, Nat.zero_le _, rfl, HO2, HX4, HYV, HWV, HBV4⟩
    case round =>
      clear HO2 HX4 HYV HWV HBV4
      obtain ⟨q, T, pg4, cg4, pu4, cu4, pf4, cf4, hq, rfl, HO2, HX, HY, HW, HB⟩ := hrel
      obtain ⟨c0, c1, c2, z0, z1, z2⟩ := block3 HX.out.blk
      have hMr := HMr.out
      by_cases hlt : q < M
      · have hdec : (q : Int) < (r : Int) % 30 := by omega
        clear hMr
        go_wp2_with fail
        refine (take_on HO2.out.1 (by decide) HX.out.ar).mono ?_
        rintro e w5 ⟨T', h', e', ⟨v1, v2, v3, rfl, hA, hb⟩, hO', hg'⟩
        obtain ⟨pg5, cg5, pu5, cu5, pf5, cf5, rfl, rfl, rfl⟩ := hA.form
        have HO5 : Hid (Ok n 2 T' ∧ T'.gens.getD 0 0 = 2) := Lib.hid ⟨hO', by rw [hg']; exact HO2.out.2⟩
        have HX5 := Lib.hid (HX.out.below hb)
        have HY5 := Lib.hid (HY.out.below hb)
        have HW5 := Lib.hid (own_below HW.out hb)
        have HB5 : Hid (Below w.heap.size w w5) := Lib.hid (HB.out.trans (hb.mono HB.out.size))
        have HA5 := Lib.hid hA
        clear hA hb hO' hg' c0 c1 c2 z0 z1 z2
        obtain ⟨c0, c1, c2, z0, z1, z2⟩ := block3 HX5.out.blk
        go_wp2
        go_roundw
        case rel =>
          refine ⟨q + 1, T', pg5, cg5, pu5, cu5, pf5, cf5, by omega, by go_num, HO5, Lib.hid (Box.set HX5.out.blk HA5.out (by decide) (by decide) (by decide)), Lib.hid ⟨?_, ?_⟩, Lib.hid ?_, Lib.hid (below_set3 HB5.out hk2s _ _ _)⟩
          · rw [heap_set_other _ _ _ hkk, heap_set_other _ _ _ hkk, heap_set_other _ _ _ hkk]
            exact HY5.out.blk
          · exact HY5.out.ar.set3t HX5.out.blk (by decide) (by decide) (by decide) _ _ _
          · have hne := own_apart HW5.out HX5.out.blk (by decide)
            exact ownsRow_setCell_other (ownsRow_setCell_other (ownsRow_setCell_other HW5.out hne _) hne _) hne _
        case measure => simp [intOf] <;> omega
      · have hdec : ¬ (q : Int) < (r : Int) % 30 := by omega
        clear hMr
        obtain ⟨d0, d1, d2, y0, y1, y2⟩ := block3 HY.out.blk
        go_wp2_with fail
        refine (liveO HO1.out HY.out.ar (by decide) (by decide)).mono ?_
        rw [HLV.out]
        rintro e w6 ⟨rfl, hb⟩
        have HX6 := Lib.hid (HX.out.below hb)
        have HY6 := Lib.hid (HY.out.below hb)
        have HW6 := Lib.hid (own_below HW.out hb)
        have HB6 : Hid (Below w.heap.size w w6) := Lib.hid (HB.out.trans (hb.mono HB.out.size))
        clear hb c0 c1 c2 z0 z1 z2 d0 d1 d2 y0 y1 y2
        obtain ⟨c0, c1, c2, z0, z1, z2⟩ := block3 HX6.out.blk
        obtain ⟨d0, d1, d2, y0, y1, y2⟩ := block3 HY6.out.blk
        go_wp2_with fail
        refine (liveO HO2.out.1 HX6.out.ar (by decide) (by decide)).mono ?_
        rw [lv_gen2 HO2.out.2]
        rintro e w7 ⟨rfl, hb⟩
        have HY7 := Lib.hid (HY6.out.below hb)
        have HW7 := Lib.hid (own_below HW6.out hb)
        have HB7 : Hid (Below w.heap.size w w7) := Lib.hid (HB6.out.trans (hb.mono HB6.out.size))
        clear hb c0 c1 c2 z0 z1 z2 d0 d1 d2 y0 y1 y2
        obtain ⟨d0, d1, d2, y0, y1, y2⟩ := block3 HY7.out.blk
        clear HX HX6 HY HY6 HW HW6 HB HB6 hdec
        go_wp2
        go_loopw [13] (fun i wr => ∃ q : Nat, q ≤ F.free.length ∧ i = .int .i64 q ∧ Hid (∃ d, wr = w7.drewN d)) (fun i _ => F.free.length - (intOf i).toNat)
        case atStart => exact ⟨0, Nat.zero_le _, rfl, Lib.hid ⟨0, rfl⟩⟩
        case round =>
          clear hq hlt
          obtain ⟨q, hq, rfl, hd⟩ := hrel
          obtain ⟨d, rfl⟩ := hd.out
          by_cases hlt : q < F.free.length
          · have q0 : (0 : Int) ≤ (q : Int) := by omega
            have q1 : (q : Int) < (F.free.length : Int) := by omega
            obtain ⟨g, rfl, _, _⟩ := own_some HY7.out.ar.f (by omega)
            obtain ⟨g', rfl, _, _⟩ := own_some HW7.out (by omega)
            have e0 := own_at_int HY7.out.ar.f hlt
            have e1 := own_at_int HW7.out hlt
            generalize F.free.getD q 0 = x at *
            go_wp2
            go_quiet (fail)
            go_wp2
            go_roundw
            case rel => exact ⟨q + 1, by omega, by go_num, Lib.hid ⟨d + nq, by simp⟩⟩
            case measure => simp [intOf] <;> omega
          · go_wp2_with fail
            refine (shown_any _).mono ?_
            rintro e w8 ⟨rfl, hb⟩
            have HB8 := Lib.hid hb
            clear hb
            go_wp2
            go_ret
            exact ⟨rfl, (below_drewN HB7.out d).trans (HB8.out.mono (by have := HB7.out.size; simpa using this))⟩
end Go.Proofs.Ytnhdpaiekcddiaa
