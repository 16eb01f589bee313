/-
  The law SlotsOnce, at any input.
-/
import Derived.Test.YtnhdpaiekcddiaaSlotU
namespace Go.Proofs.Ytnhdpaiekcddiaa
open Go.ChangeShapes Go.WideShapes Go.ChangeAt Go.RowKit Go.Maps
set_option linter.unusedVariables false

/-- The list L holds the live handles of s, each once. -/
structure Lives (n : Nat) (s : St) (L : List Int) : Prop where
  once : L.Nodup
  live : ∀ h ∈ L, s.lv h = true ∧ 0 ≤ h ∧ h ≤ 18446744073709551615
  many : L.length + s.free.length = n
theorem Lives.al {n : Nat} {G : Int} {s : St} {L : List Int} (h : Lives n s L) (ho : Ok n G s) : (s.al n).length = L.length := by
  rw [al_count, List.take_of_length_le (by rw [ho.used]; exact Nat.le_refl _)]
  have h1 := h.many
  have h2 := ho.sum
  omega
theorem Lives.tk {n : Nat} {G : Int} {s : St} {L : List Int} {fr : List Int} {i : Nat} (h : Lives n s L) (ho : Ok n G s) (hG : G ≤ 1099511627775) (hfr : s.free = fr ++ [(i : Int)]) (hi : i < n) : Lives n (s.tk i) (L ++ [hd i (s.gens.getD i 0)]) := by
  have hs := ho.small
  have hg := ho.gen hi
  have hu : s.used.getD i false = false := ho.free i (by rw [hfr]; simp)
  refine ⟨?_, fun x hx => ?_, ?_⟩
  · rw [List.nodup_append]
    refine ⟨h.once, by simp, fun a ha b hb e => ?_⟩
    have : b = hd i (s.gens.getD i 0) := by simpa using hb
    subst this
    subst e
    have hl := (h.live _ ha).1
    obtain ⟨j, hj, _, hju, _⟩ := ho.live hl
    rw [hd_index (by omega)] at hj
    obtain rfl : i = j := by omega
    rw [hu] at hju
    cases hju
  · rcases List.mem_append.1 hx with hx | hx
    · exact ⟨lv_tk_other (h.live x hx).1, (h.live x hx).2⟩
    · have : x = hd i (s.gens.getD i 0) := by simpa using hx
      subst this
      refine ⟨lv_tk_new (by rw [ho.used]; exact hi) (by omega), ?_, ?_⟩ <;> (unfold hd; omega)
  · have h1 := h.many
    show (L ++ [_]).length + s.free.dropLast.length = n
    rw [hfr] at h1 ⊢
    simp at h1 ⊢
    omega
theorem Lives.gb {n : Nat} {G : Int} {s : St} {L : List Int} {j i : Nat} {g : Int} (h : Lives n s L) (ho : Ok n G s) (hj : j < L.length) (hi : L.getD j 0 % 16777216 = i) : Lives n (s.gb i g) (L.take j ++ L.drop (j + 1)) := by
  have hsplit : L = L.take j ++ L.getD j 0 :: L.drop (j + 1) := by
    rw [getD_at 0 hj, List.getElem_cons_drop, List.take_append_drop]
  have hnd := h.once
  rw [hsplit, List.nodup_append, List.nodup_cons] at hnd
  have hmemj : L.getD j 0 ∈ L := by rw [getD_at 0 hj]; exact List.getElem_mem hj
  refine ⟨?_, fun x hx => ?_, ?_⟩
  · rw [List.nodup_append]
    exact ⟨hnd.1, hnd.2.1.2, fun a ha b hb => hnd.2.2 a ha b (List.mem_cons_of_mem _ hb)⟩
  · have hxL : x ∈ L := by
      rcases List.mem_append.1 hx with hx | hx
      · exact List.mem_of_mem_take hx
      · exact List.mem_of_mem_drop hx
    have hne : x ≠ L.getD j 0 := by
      rintro rfl
      rcases List.mem_append.1 hx with hx | hx
      · exact hnd.2.2 _ hx _ List.mem_cons_self rfl
      · exact hnd.2.1.1 hx
    have hl := h.live x hxL
    refine ⟨?_, hl.2⟩
    rw [lv_gb_other (fun e => hne (lv_same hl.1 (h.live _ hmemj).1 (e.trans hi.symm))) (by omega)]
    exact hl.1
  · have h1 := h.many
    show _ + (s.free ++ [(i : Int)]).length = n
    rw [List.length_append, List.length_append, List.length_take, List.length_drop]
    simp
    omega

set_option maxHeartbeats 16000000 in
set_option maxRecDepth 100000 in
theorem once_law (m : Nat) (hm : m ≤ 255) (A : Option Addr) (N ca : Nat) (zs : List Int) (w : World) (hZ : UU w A N zs) (hN : N ≤ maxLen) :
    Calls Try.prog 4 #[.int .u8 m, .slice A N ca] w (GivesV (.bool true) w) := by
  unfold maxLen at hN
  by_cases hlong : 150 < N
  · have HZ := Lib.hid hZ
    clear hZ
    go_enter Try.func4, Try.ntmps4
    go_wp2_with fail
    refine (shown_any _).mono ?_
    rintro e w1 ⟨rfl, hb⟩
    have HB := Lib.hid hb
    clear hb
    go_wp2
    go_ret
    exact ⟨rfl, HB.out⟩
  · have HZ := Lib.hid hZ
    clear hZ
    have hmm := @run_makeMap Try.prog
    obtain ⟨i0, hi, hz0, hz1, hz2⟩ := info_parts info_G
    have hI := Lib.hid hi
    have hZ0 := Lib.hid hz0
    have hZ1 := Lib.hid hz1
    have hZ2 := Lib.hid hz2
    clear hi hz0 hz1 hz2
    obtain ⟨n, hn⟩ : ∃ n : Nat, m % 20 = n := ⟨_, rfl⟩
    have hn' : (m : Int) % 20 = (n : Int) := by omega
    have hn1 : n ≤ 20 := by omega
    have HNn := Lib.hid hn'
    clear hn hn'
    go_enter Try.func4, Try.ntmps4
    go_wp2_with fail
    refine (shown_any _).mono ?_
    rintro e w1 ⟨rfl, hb⟩
    have HB1 := Lib.hid hb
    clear hb
    go_wp2_with fail
    rw [HNn.out]
    refine (new_ok n _ (by omega)).mono ?_
    rintro e w2 ⟨v1, v2, v3, rfl, hA, hb⟩
    obtain ⟨pg, cg, pu, cu, pf, cf, rfl, rfl, rfl⟩ := hA.form
    have HX := Lib.hid (Box.new 29 hA)
    have HB2 : Hid (Below w.heap.size w w2) := Lib.hid (HB1.out.trans (hb.mono HB1.out.size))
    have hsz : w.heap.size ≤ w2.heap.size := HB2.out.size
    have HOK : Hid (Ok n (1 + ((0 : Nat) : Int)) (fresh n)) := Lib.hid (fresh_ok (by omega))
    have HLI : Hid (Lives n (fresh n) []) := Lib.hid ⟨List.nodup_nil, fun h hh => by simp at hh, by simp [fresh, downs_length]⟩
    clear hA hb HB1
    obtain ⟨F, hF⟩ : ∃ F, fresh n = F := ⟨_, rfl⟩
    rw [hF] at HX HOK HLI ⊢
    clear hF
    go_wp2_with fail
    obtain ⟨V, hV⟩ : ∃ V, V = ((w2.alloc (.cells #[.slice pg F.gens.length cg, .slice pu F.used.length cu, .slice pf F.free.length cf] 29)).alloc (.map #[] 0)).alloc (.cells #[] 23) := ⟨_, rfl⟩
    have HXV : Hid (Box 29 V w2.heap.size pg cg pu cu pf cf F) := Lib.hid (by
      subst hV
      exact (HX.out.below ((Below.refl _ _).alloc (Nat.le_refl _) _)).below ((Below.refl _ _).alloc (Nat.le_refl _) _))
    have HMV : Hid (V.ownsMap Try.prog 23 (plainElem (H := Unit) Try.prog 3) (w2.heap.size + 1) 0 (.map [])) := Lib.hid (by
      subst hV
      have := World.ownsMap_made (w2.alloc (.cells #[.slice pg F.gens.length cg, .slice pu F.used.length cu, .slice pf F.free.length cf] 29)) Try.prog 23 (plainElem (H := Unit) Try.prog 3)
      rw [show (w2.alloc (.cells #[.slice pg F.gens.length cg, .slice pu F.used.length cu, .slice pf F.free.length cf] 29)).heap.size = w2.heap.size + 1 by simp] at this
      exact this.alloc _)
    have HLV : Hid (V.ownsRow w.heap.size 23 1 (.slice (some ⟨w2.heap.size + 1 + 1, 0, none⟩) 0 0) 0 []) := Lib.hid (by
      subst hV
      have := World.ownsRow_made (e := 23) (size := 1) (base := w.heap.size) ((w2.alloc (.cells #[.slice pg F.gens.length cg, .slice pu F.used.length cu, .slice pf F.free.length cf] 29)).alloc (.map #[] 0)) #[] 0 (by simp; omega) (by simp [maxLen]) rfl
      rw [show ((w2.alloc (.cells #[.slice pg F.gens.length cg, .slice pu F.used.length cu, .slice pf F.free.length cf] 29)).alloc (.map #[] 0)).heap.size = w2.heap.size + 1 + 1 by simp] at this
      exact this)
    have HBV : Hid (Below w.heap.size w V) := Lib.hid (by subst hV; exact ((HB2.out.alloc HB2.out.size _).alloc (by simp; omega) _).alloc (by simp; omega) _)
    have HAP : Hid (∀ r, (Value.slice (some ⟨w2.heap.size + 1 + 1, 0, none⟩) 0 0).ownBlock = some r → (Value.slice pg F.gens.length cg).ownBlock ≠ some r) := Lib.hid (fun r hr he => by
      have h1 := (HX.out.ar.g.lt r he).2
      have : w2.heap.size + 1 + 1 = r := by simpa [Value.ownBlock] using hr
      simp at h1
      omega)
    have hB : w.heap.size ≤ w2.heap.size + 1 := by omega
    rw [← hV]
    clear hV HX
    obtain ⟨k, hk⟩ : ∃ k, k = w2.heap.size := ⟨_, rfl⟩
    rw [← hk] at HXV HMV HLV HAP hsz hB ⊢
    clear hk HB2
    obtain ⟨B, hBe⟩ : ∃ B, B = k + 1 := ⟨_, rfl⟩
    rw [← hBe] at HMV HLV HAP hB ⊢
    clear hBe
    go_loopw [8, 9] (fun l i wr => ∃ (q : Nat) (F : St) (pg : Option Addr) (cg : Nat) (pu : Option Addr) (cu : Nat) (pf : Option Addr) (cf : Nat) (L : List Int) (p : Option Addr) (cap : Nat) (D : DataW Unit), q ≤ N ∧ i = .int .i64 q ∧ l = .slice p L.length cap ∧ Hid (Ok n (1 + (q : Int)) F) ∧ Hid (Lives n F L) ∧ Hid (Says n F D) ∧ Hid (Box 29 wr k pg cg pu cu pf cf F) ∧
        Hid (wr.ownsRow w.heap.size 23 1 (.slice p L.length cap) L.length (gvs L)) ∧ Hid (∀ r, (Value.slice p L.length cap).ownBlock = some r → (Value.slice pg F.gens.length cg).ownBlock ≠ some r) ∧ Hid (wr.ownsMap Try.prog 23 (plainElem (H := Unit) Try.prog 3) B q D) ∧ Hid (Below w.heap.size w wr)) (fun _ i _ => N - (intOf i).toNat)
    case atStart => exact ⟨0, F, pg, cg, pu, cu, pf, cf, [], _, _, _, Nat.zero_le _, rfl, rfl, HOK, HLI, Lib.hid (Says.none _ _), HXV, HLV, HAP, HMV, HBV⟩
    case round =>
      clear HXV HMV HLV HAP HBV HOK HLI
      obtain ⟨q, F, pg, cg, pu, cu, pf, cf, L, p, cap, D, hq, rfl, rfl, HOK, HLI, HSD, HX, HL, HAP, HM, HB⟩ := hrel
      obtain ⟨c0, c1, c2, z0, z1, z2⟩ := block3 HX.out.blk
      have hmany := HLI.out.many
      have hLn : L.length ≤ n := by omega
      by_cases hlt : q < N
      · obtain ⟨b, off, rfl, hbw, ca0, a0, a1⟩ := HZ.out.at_ HB.out hlt
        obtain ⟨x, hx⟩ : ∃ x, zs.getD q 0 = x := ⟨_, rfl⟩
        rw [hx] at ca0 a0 a1
        clear hx
        have q0 : (0 : Int) ≤ (q : Int) := by omega
        have q1 : (q : Int) < (N : Int) := by omega
        by_cases h3 : 0 < x % 3
        · by_cases hfe : F.free = []
          · have hful : L.length = n := by rw [hfe] at hmany; simpa using hmany
            have hm20 := HNn.out
            have hcmp0 : decide ((L.length : Int) < (n : Int)) = false := by rw [decide_eq_false_iff_not]; omega
            have hcmpN : decide (L.length < n) = false := by rw [decide_eq_false_iff_not]; omega
            have HOKe : Hid (Ok n (1 + ((q + 1 : Nat) : Int)) F) := Lib.hid (HOK.out.mono (by omega))
            have HLIe := HLI
            have HSe := HSD
            have HFE := Lib.hid hfe
            clear hfe hmany hful
            go_wp2_with fail
            refine (takeN HOK.out HX.out.ar HFE.out).mono ?_
            rintro e w3 ⟨v1, v2, v3, rfl, hA, hb⟩
            obtain ⟨pg3, cg3, pu3, cu3, pf3, cf3, rfl, rfl, rfl⟩ := hA.form
            have HN3 := Lib.hid (Box.new 29 hA)
            have HAP3 : Hid (∀ r, (Value.slice p L.length cap).ownBlock = some r → (Value.slice pg3 F.gens.length cg3).ownBlock ≠ some r) := Lib.hid (fun r hr he => by
              have h1 := (hA.g.lt r he).1
              have h2 := (HL.out.lt r hr).2
              omega)
            have HX3 := Lib.hid (HX.out.below hb)
            have HL3 := Lib.hid (own_below HL.out hb)
            have HM3 := Lib.hid (map_below HM.out hb)
            have HB3 : Hid (Below w.heap.size w w3) := Lib.hid (HB.out.trans (hb.mono HB.out.size))
            clear hA hb c0 c1 c2 z0 z1 z2
            go_upto_region 13 with fail
            obtain ⟨V3, hV⟩ : ∃ V, V = w3.alloc (.cells #[.slice pg3 F.gens.length cg3, .slice pu3 F.used.length cu3, .slice pf3 F.free.length cf3] 29) := ⟨_, rfl⟩
            have hal : Below w3.heap.size w3 V3 := by subst hV; exact (Below.refl _ _).alloc (Nat.le_refl _) _
            have HXV : Hid (Box 29 V3 k pg cg pu cu pf cf F) := Lib.hid (HX3.out.below hal)
            have HLV : Hid (V3.ownsRow w.heap.size 23 1 (.slice p L.length cap) L.length (gvs L)) := Lib.hid (own_below HL3.out hal)
            have HMV := Lib.hid (map_below HM3.out hal)
            have HBV : Hid (Below w.heap.size w V3) := Lib.hid (HB3.out.trans (hal.mono HB3.out.size))
            rw [← hV] at HN3 ⊢
            clear hV hal
            obtain ⟨c0, c1, c2, z0, z1, z2⟩ := block3 HXV.out.blk
            obtain ⟨x0, x1, x2, _, _, _⟩ := block3 HN3.out.blk
            go_wp2_with fail
            obtain ⟨V4, hV⟩ : ∃ V, V = ((V3.setCell ⟨k, 0, none⟩ (.slice pg3 F.gens.length cg3)).setCell ⟨k, 1, none⟩ (.slice pu3 F.used.length cu3)).setCell ⟨k, 2, none⟩ (.slice pf3 F.free.length cf3) := ⟨_, rfl⟩
            have HXe : Hid (Box 29 V4 k pg3 cg3 pu3 cu3 pf3 cf3 F) := Lib.hid (by rw [hV]; exact Box.set HXV.out.blk HN3.out.ar (by decide) (by decide) (by decide))
            have HLe : Hid (V4.ownsRow w.heap.size 23 1 (.slice p L.length cap) L.length (gvs L)) := Lib.hid (by
              rw [hV]
              have hne := own_apart HLV.out HXV.out.blk (by decide)
              exact ownsRow_setCell_other (ownsRow_setCell_other (ownsRow_setCell_other HLV.out hne _) hne _) hne _)
            have HMe : Hid (V4.ownsMap Try.prog 23 (plainElem (H := Unit) Try.prog 3) B (q + 1) D) := Lib.hid (by rw [hV]; exact (map_set3 HMV.out (map_ne HMV.out HXV.out.blk) _ _ _).mono (by omega))
            have HBe : Hid (Below w.heap.size w V4) := Lib.hid (by rw [hV]; exact below_set3 HBV.out hsz _ _ _)
            rw [← hV]
            clear hV c0 c1 c2 z0 z1 z2 x0 x1 x2
            have HAPe := HAP3
            clear hm20 hcmp0 hcmpN
            refine (allO HOKe.out (by omega) HXe.out.ar).mono ?_
            rintro e w9 ⟨v9, rfl, ho9, hb9⟩
            rw [gvs_length] at ho9
            obtain ⟨p9, c9, rfl, _, _, _⟩ := own_form ho9
            rw [HLIe.out.al HOKe.out]
            have HX9 := Lib.hid (HXe.out.below hb9)
            have HL9 := Lib.hid (own_below HLe.out hb9)
            have HM9 := Lib.hid (map_below HMe.out hb9)
            have HB9 : Hid (Below w.heap.size w w9) := Lib.hid (HBe.out.trans (hb9.mono HBe.out.size))
            clear ho9 hb9
            obtain ⟨f0, f1, f2, _, _, _⟩ := block3 HX9.out.blk
            have hm20 := HNn.out
            have hmany := HLIe.out.many
            have hcmp : ((F.free.length : Int) != (n : Int) - (L.length : Int)) = false := by rw [bne_eq_false_iff_eq]; omega
            go_wp2
            clear hcmp hm20
            go_roundw
            case rel => exact ⟨q + 1, F, pg3, cg3, pu3, cu3, pf3, cf3, L, p, cap, D, by omega, by go_num, rfl, HOKe, HLIe, HSe, HX9, HL9, HAPe, HM9, HB9⟩
            case measure => simp [intOf] <;> omega
          · obtain ⟨fr, i, hfr, hin⟩ := HOK.out.last hfe
            have hO := HOK.out
            have hu : F.used.getD i false = false := hO.free i (by rw [hfr]; simp)
            have hgb := hO.gen hin
            have hlen1 : L.length < n := by rw [hfr] at hmany; simp at hmany; omega
            have hm20 := HNn.out
            have hcmp0 : decide ((L.length : Int) < (n : Int)) = true := by rw [decide_eq_true_eq]; omega
            have hcmpN : decide (L.length < n) = true := by rw [decide_eq_true_eq]; omega
            have HOKe : Hid (Ok n (1 + ((q + 1 : Nat) : Int)) (F.tk i)) := Lib.hid ((hO.tk hfr).mono (by omega))
            have HLIe : Hid (Lives n (F.tk i) (L ++ [hd i (F.gens.getD i 0)])) := Lib.hid (HLI.out.tk hO (by omega) hfr hin)
            have HNO : Hid (¬ Old n F (hd i (F.gens.getD i 0))) := Lib.hid (not_old (by omega) hu)
            have HOT : Hid (Old n (F.tk i) (hd i (F.gens.getD i 0))) := Lib.hid (Old.new hin (by omega) hO.used)
            have HSt : Hid (Says n (F.tk i) D) := Lib.hid (HSD.out.mono (fun _ h => h.tk))
            have HFR := Lib.hid hfr
            have HAT : Hid (D.atKey (.int .u64 (hd i (F.gens.getD i 0))) (.lit (.int .i64 0)) = .lit (.int .i64 0)) := Lib.hid (HSD.out _ HNO.out)
            have hT := takeO hO (by omega) HX.out.ar hfr hin
            have b0 : 0 ≤ hd i (F.gens.getD i 0) := by unfold hd; omega
            have b1 : hd i (F.gens.getD i 0) ≤ 18446744073709551615 := by unfold hd; omega
            have b2 : (hd i (F.gens.getD i 0) == 0) = false := by rw [beq_eq_false_iff_ne]; unfold hd; omega
            have HTK := Lib.hid hT
            generalize hd i (F.gens.getD i 0) = H at *
            have HSe : Hid (Says n (F.tk i) (D.put (.int .u64 H) (.lit (.int .i64 1)))) := Lib.hid (HSt.out.put HOT.out _)
            have HAT1 : Hid ((D.put (.int .u64 H) (.lit (.int .i64 1))).atKey (.int .u64 H) (.lit (.int .i64 0)) = .lit (.int .i64 1)) := Lib.hid (atKey_put_same (k := Lit.int .u64 H) HM.out.isMap trivial _ _)
            generalize F.tk i = T at *
            clear hfe hmany hlen1 hO hu hgb hfr hT hin
            go_wp2_with fail
            refine HTK.out.mono ?_
            rintro e w3 ⟨v1, v2, v3, rfl, hA, hb⟩
            obtain ⟨pg3, cg3, pu3, cu3, pf3, cf3, rfl, rfl, rfl⟩ := hA.form
            have HN3 := Lib.hid (Box.new 29 hA)
            have HAP3 : Hid (∀ r, (Value.slice p L.length cap).ownBlock = some r → (Value.slice pg3 T.gens.length cg3).ownBlock ≠ some r) := Lib.hid (fun r hr he => by
              have h1 := (hA.g.lt r he).1
              have h2 := (HL.out.lt r hr).2
              omega)
            have HGL3 : Hid (∀ r, (Value.slice pg3 T.gens.length cg3).ownBlock = some r → r < w3.heap.size) := Lib.hid (fun r he => (hA.g.lt r he).2)
            have HX3 := Lib.hid (HX.out.below hb)
            have HL3 := Lib.hid (own_below HL.out hb)
            have HM3 := Lib.hid (map_below HM.out hb)
            have HB3 : Hid (Below w.heap.size w w3) := Lib.hid (HB.out.trans (hb.mono HB.out.size))
            clear hA hb c0 c1 c2 z0 z1 z2 HTK
            go_upto_region 13 with fail
            obtain ⟨V3, hV⟩ : ∃ V, V = w3.alloc (.cells #[.slice pg3 T.gens.length cg3, .slice pu3 T.used.length cu3, .slice pf3 T.free.length cf3] 29) := ⟨_, rfl⟩
            have hal : Below w3.heap.size w3 V3 := by subst hV; exact (Below.refl _ _).alloc (Nat.le_refl _) _
            have HXW : Hid (Box 29 V3 k pg cg pu cu pf cf F) := Lib.hid (HX3.out.below hal)
            have HLW : Hid (V3.ownsRow w.heap.size 23 1 (.slice p L.length cap) L.length (gvs L)) := Lib.hid (own_below HL3.out hal)
            have HMW := Lib.hid (map_below HM3.out hal)
            have HBW : Hid (Below w.heap.size w V3) := Lib.hid (HB3.out.trans (hal.mono HB3.out.size))
            have hs3 := hal.size
            rw [← hV] at HN3 ⊢
            clear hV hal
            go_upto_region 19 with (first
              | (at_lookup; refine wpList_lookup_own_int _ rfl _ _ 51 rfl 23 3 .i64 lawK Try.underlying51 Try.underlying3 (zeroI _) B q _ rfl HMW.out _ _ rfl (keyU b0 b1) ?_; intro c hat hwc; obtain rfl : c = 0 := (by have h1 := hat.symm.trans HAT.out; injection h1 with h1; injection h1); clear hat hwc)
              | (at_mapUpdate; refine wpList_mapUpdate_own _ rfl _ _ _ 51 rfl 23 3 lawK Try.underlying51 _ B q _ rfl HMW.out (by unfold maxLen; omega) _ _ _ rfl rfl (keyU b0 b1) _ [] (plainElem_int Try.underlying3 (by decide)) ?_; intro w5 hown5 hgrow5
                 have HM5 : Hid (w5.ownsMap Try.prog 23 (plainElem (H := Unit) Try.prog 3) B (q + 1) (D.put (.int .u64 H) (.lit (.int .i64 1)))) := Lib.hid hown5
                 have HG5 : Hid (V3.grownBy w5 (some B)) := Lib.hid hgrow5
                 clear hown5 hgrow5)
              | (at_lookup; refine wpList_lookup_own_int _ rfl _ _ 51 rfl 23 3 .i64 lawK Try.underlying51 Try.underlying3 (zeroI _) B (q + 1) _ rfl HM5.out _ _ rfl (keyU b0 b1) ?_; intro c hat hwc; obtain rfl : c = 1 := (by have h1 := hat.symm.trans HAT1.out; injection h1 with h1; injection h1); clear hat hwc))
            have hkB := map_ne HMW.out HXW.out.blk
            have htB := map_ne HMW.out HN3.out.blk
            have HX5 : Hid (Box 29 w5 k pg cg pu cu pf cf F) := Lib.hid (HXW.out.grown HG5.out (by intro e; cases e; exact hkB rfl) (map_row HMW.out HXW.out.ar.g) (map_row HMW.out HXW.out.ar.u) (map_row HMW.out HXW.out.ar.f))
            have HN5 : Hid (Box 29 w5 w3.heap.size pg3 cg3 pu3 cu3 pf3 cf3 T) := Lib.hid (HN3.out.grown HG5.out (by intro e; cases e; exact htB rfl) (map_row HMW.out HN3.out.ar.g) (map_row HMW.out HN3.out.ar.u) (map_row HMW.out HN3.out.ar.f))
            have HL5 : Hid (w5.ownsRow w.heap.size 23 1 (.slice p L.length cap) L.length (gvs L)) := Lib.hid (HLW.out.kept HG5.out (.inr (map_row HMW.out HLW.out)))
            have HB5 : Hid (Below w.heap.size w w5) := Lib.hid (HBW.out.grown HG5.out HBW.out.size (fun r e => by cases e; exact hB))
            have hs5 := HG5.out.size
            have hsw5 := HB5.out.size
            clear hkB htB
            go_upto_region 20 with (at_builtin; refine wpList_append_own_at _ rfl _ _ 25 rfl w.heap.size 23 i0 (.int .u64 0) 1 8 Try.underlying25 hI.out hZ0.out hZ1.out hZ2.out rfl (by decide) _ _ _ rfl (HL5.out.alloc _) ⟨w5.heap.size, 0, none⟩ 1 1 [.int .u64 H] rfl rfl (cell_one_new _ _ _) (by simp [Value.oneCell']) (by unfold maxLen; omega) (by omega) (by simp; omega) ?_; intro v' w6 hown' hgrow _ hat; obtain ⟨g', cap', rfl⟩ := own_succ hown'; have HO6 : Hid (w6.ownsRow w.heap.size 23 1 (.slice (some ⟨g', 0, none⟩) (L.length + 1) cap') (L.length + 1) (gvs L ++ [.int .u64 H])) := Lib.hid hown'; have HG6 : Hid ((w5.alloc (.cells #[.int .u64 H] 23)).grownBy w6 (Value.slice p L.length cap).ownBlock) := Lib.hid hgrow; have HA6 : Hid ((Value.slice (some ⟨g', 0, none⟩) (L.length + 1) cap').ownBlock = (Value.slice p L.length cap).ownBlock ∨ (Value.slice (some ⟨g', 0, none⟩) (L.length + 1) cap').ownBlock = some (w5.alloc (.cells #[.int .u64 H] 23)).heap.size) := Lib.hid hat; clear hown' hgrow hat)
            have hal5 : Below w5.heap.size w5 (w5.alloc (.cells #[.int .u64 H] 23)) := (Below.refl _ _).alloc (Nat.le_refl _) _
            have hXk := HX5.out.below hal5
            have hNk := HN5.out.below hal5
            have HXV : Hid (Box 29 w6 k pg cg pu cu pf cf F) := Lib.hid (hXk.grown2 HG6.out (Ne.symm (own_apart HL5.out HX5.out.blk (by decide))) (apart_or HAP.out) (own_other hXk.ar.u (own_below HL5.out hal5) (by decide)) (own_other hXk.ar.f (own_below HL5.out hal5) (by decide)))
            have HNV : Hid (Box 29 w6 w3.heap.size pg3 cg3 pu3 cu3 pf3 cf3 T) := Lib.hid (hNk.grown2 HG6.out (Ne.symm (own_apart HL5.out HN5.out.blk (by decide))) (apart_or HAP3.out) (own_other hNk.ar.u (own_below HL5.out hal5) (by decide)) (own_other hNk.ar.f (own_below HL5.out hal5) (by decide)))
            have HLV : Hid (w6.ownsRow w.heap.size 23 1 (.slice (some ⟨g', 0, none⟩) (L ++ [H]).length cap') (L ++ [H]).length (gvs (L ++ [H]))) := Lib.hid (by
              have := HO6.out
              simp only [List.length_append, List.length_cons, List.length_nil, Nat.zero_add, gvs, List.map_append, List.map_cons, List.map_nil] at this ⊢
              exact this)
            have HMV : Hid (w6.ownsMap Try.prog 23 (plainElem (H := Unit) Try.prog 3) B (q + 1) (D.put (.int .u64 H) (.lit (.int .i64 1)))) := Lib.hid ((HM5.out.alloc _).kept HG6.out (Ne.symm (map_row HM5.out HL5.out)))
            have HBV : Hid (Below w.heap.size w w6) := Lib.hid ((HB5.out.alloc HB5.out.size _).grown HG6.out (HB5.out.alloc HB5.out.size _).size (fun r e => (HL5.out.lt r e).1))
            have HAPe : Hid (∀ r, (Value.slice (some ⟨g', 0, none⟩) (L ++ [H]).length cap').ownBlock = some r → (Value.slice pg3 T.gens.length cg3).ownBlock ≠ some r) := Lib.hid (fun r hr he => by
              have hr' : (Value.slice (some ⟨g', 0, none⟩) (L.length + 1) cap').ownBlock = some r := hr
              rcases HA6.out with e | e
              · exact HAP3.out r (e.symm.trans hr') he
              · have h1 := HGL3.out r he
                rw [hr'] at e
                simp at e
                omega)
            clear hXk hNk hal5
            have hLe : (L ++ [H]).length = L.length + 1 := by simp
            rw [← hLe]
            have HLE := Lib.hid hLe
            clear hLe
            have HN3' := HNV
            clear HN3
            have HN3 := HN3'
            clear HN3'
            obtain ⟨c0, c1, c2, z0, z1, z2⟩ := block3 HXV.out.blk
            obtain ⟨x0, x1, x2, _, _, _⟩ := block3 HNV.out.blk
            generalize L ++ [H] = L' at *
            clear hcmp0 hcmpN hm20
            go_wp2_with fail
            obtain ⟨V4, hV⟩ : ∃ V, V = ((w6.setCell ⟨k, 0, none⟩ (.slice pg3 T.gens.length cg3)).setCell ⟨k, 1, none⟩ (.slice pu3 T.used.length cu3)).setCell ⟨k, 2, none⟩ (.slice pf3 T.free.length cf3) := ⟨_, rfl⟩
            have HXe : Hid (Box 29 V4 k pg3 cg3 pu3 cu3 pf3 cf3 T) := Lib.hid (by rw [hV]; exact Box.set HXV.out.blk HN3.out.ar (by decide) (by decide) (by decide))
            have HLe : Hid (V4.ownsRow w.heap.size 23 1 (.slice (some ⟨g', 0, none⟩) L'.length cap') L'.length (gvs L')) := Lib.hid (by
              rw [hV]
              have hne := own_apart HLV.out HXV.out.blk (by decide)
              exact ownsRow_setCell_other (ownsRow_setCell_other (ownsRow_setCell_other HLV.out hne _) hne _) hne _)
            have HMe : Hid (V4.ownsMap Try.prog 23 (plainElem (H := Unit) Try.prog 3) B (q + 1) (D.put (.int .u64 H) (.lit (.int .i64 1)))) := Lib.hid (by rw [hV]; exact (map_set3 HMV.out (map_ne HMV.out HXV.out.blk) _ _ _).mono (by omega))
            have HBe : Hid (Below w.heap.size w V4) := Lib.hid (by rw [hV]; exact below_set3 HBV.out hsz _ _ _)
            rw [← hV]
            clear hV c0 c1 c2 z0 z1 z2 x0 x1 x2
            refine (allO HOKe.out (by omega) HXe.out.ar).mono ?_
            rintro e w9 ⟨v9, rfl, ho9, hb9⟩
            rw [gvs_length] at ho9
            obtain ⟨p9, c9, rfl, _, _, _⟩ := own_form ho9
            rw [HLIe.out.al HOKe.out]
            have HX9 := Lib.hid (HXe.out.below hb9)
            have HL9 := Lib.hid (own_below HLe.out hb9)
            have HM9 := Lib.hid (map_below HMe.out hb9)
            have HB9 : Hid (Below w.heap.size w w9) := Lib.hid (HBe.out.trans (hb9.mono HBe.out.size))
            clear ho9 hb9
            obtain ⟨f0, f1, f2, _, _, _⟩ := block3 HX9.out.blk
            have hm20 := HNn.out
            have hmany := HLIe.out.many
            have hcmp : ((T.free.length : Int) != (n : Int) - (L'.length : Int)) = false := by rw [bne_eq_false_iff_eq]; omega
            go_wp2
            clear hcmp hm20
            go_roundw
            case rel => exact ⟨q + 1, T, pg3, cg3, pu3, cu3, pf3, cf3, L', some ⟨g', 0, none⟩, cap', _, by omega, by go_num, rfl, HOKe, HLIe, HSe, HX9, HL9, HAPe, HM9, HB9⟩
            case measure => simp [intOf] <;> omega
        · have HOKm : Hid (Ok n (1 + ((q + 1 : Nat) : Int)) F) := Lib.hid (HOK.out.mono (by omega))
          by_cases h5 : L.length = 0
          · have hlz : decide (0 < (L.length : Int)) = false := by rw [h5]; rfl
            have hlzN : decide (0 < L.length) = false := by rw [h5]; rfl
            have HOKe := HOKm
            have HLIe := HLI
            have HSe := HSD
            have HXe := HX
            have HLe := HL
            have HMe : Hid (wr.ownsMap Try.prog 23 (plainElem (H := Unit) Try.prog 3) B (q + 1) D) := Lib.hid (HM.out.mono (by omega))
            have HBe := HB
            have HAPe := HAP
            have H5 := Lib.hid h5
            clear h5 hmany
            go_wp2_with fail
            clear hlz hlzN
            refine (allO HOKe.out (by omega) HXe.out.ar).mono ?_
            rintro e w9 ⟨v9, rfl, ho9, hb9⟩
            rw [gvs_length] at ho9
            obtain ⟨p9, c9, rfl, _, _, _⟩ := own_form ho9
            rw [HLIe.out.al HOKe.out]
            have HX9 := Lib.hid (HXe.out.below hb9)
            have HL9 := Lib.hid (own_below HLe.out hb9)
            have HM9 := Lib.hid (map_below HMe.out hb9)
            have HB9 : Hid (Below w.heap.size w w9) := Lib.hid (HBe.out.trans (hb9.mono HBe.out.size))
            clear ho9 hb9
            obtain ⟨f0, f1, f2, _, _, _⟩ := block3 HX9.out.blk
            have hm20 := HNn.out
            have hmany := HLIe.out.many
            have hcmp : ((F.free.length : Int) != (n : Int) - (L.length : Int)) = false := by rw [bne_eq_false_iff_eq]; omega
            go_wp2
            clear hcmp hm20
            go_roundw
            case rel => exact ⟨q + 1, F, pg, cg, pu, cu, pf, cf, L, p, cap, D, by omega, by go_num, rfl, HOKe, HLIe, HSe, HX9, HL9, HAPe, HM9, HB9⟩
            case measure => simp [intOf] <;> omega
          · obtain ⟨ℓ, hℓ⟩ : ∃ ℓ, L.length = ℓ := ⟨_, rfl⟩
            have hℓ0 : 0 < ℓ := by omega
            have hℓi : (0 : Int) < (ℓ : Int) := by omega
            have hℓn : ℓ ≤ 20 := by omega
            obtain ⟨y, hy⟩ : ∃ y : Nat, IntKind.u16.wrap (x.tdiv 3) = (y : Int) := quo16 a0 a1 (by decide)
            have hyb : y ≤ 65535 := quo16_le a0 a1 (by decide) hy
            obtain ⟨j, hj⟩ : ∃ j : Nat, (y : Int) % (ℓ : Int) = j := ⟨y % ℓ, by omega⟩
            have hjt : (y : Int).tmod (ℓ : Int) = j := by rw [Int.tmod_eq_emod_of_nonneg (by omega)]; exact hj
            have hjl : (j : Int) < (ℓ : Int) := by rw [← hj]; exact Int.emod_lt_of_pos _ (by omega)
            have hjl' : j < ℓ := by omega
            have hjL : j < L.length := by omega
            have j0 : (0 : Int) ≤ (j : Int) := by omega
            rw [hℓ] at HL HAP ⊢
            obtain ⟨g, rfl, hgw, hgr⟩ := own_some HL.out hℓ0
            obtain ⟨_, cap', hce, hcap, hcapm, _⟩ := own_form HL.out
            obtain rfl : cap = cap' := by cases hce; rfl
            clear hce
            have ch := own_at_gen HL.out hjl'
            obtain ⟨h, hh⟩ : ∃ h, L.getD j 0 = h := ⟨_, rfl⟩
            have hmem : h ∈ L := by rw [← hh, getD_at 0 hjL]; exact List.getElem_mem hjL
            rw [hh] at ch
            have hO := HOK.out
            obtain ⟨hlv, h0, h1⟩ := HLI.out.live h hmem
            obtain ⟨i, hi, hin, hus, hgen⟩ := hO.live hlv
            have hgb := hO.gen hin
            have HOKe : Hid (Ok n (1 + ((q + 1 : Nat) : Int)) (F.gb i (h / 16777216 + 1))) := Lib.hid (hO.gb hin hus (by omega) (by omega) (by omega))
            have HLIe : Hid (Lives n (F.gb i (h / 16777216 + 1)) (L.take j ++ L.drop (j + 1))) := Lib.hid (HLI.out.gb hO hjL (by rw [hh]; exact hi))
            have HSe : Hid (Says n (F.gb i (h / 16777216 + 1)) D) := Lib.hid (HSD.out.mono (fun _ ho => ho.gb hO (by omega)))
            have HGV : Hid (∀ W, Below wr.heap.size wr W → Calls Try.prog 15 #[.agg #[.slice pg F.gens.length cg, .slice pu F.used.length cu, .slice pf F.free.length cf], .int .u64 h] W (GivesE (F.gb i (h / 16777216 + 1)) 0 W)) := Lib.hid (fun W hb => giveO hO (by omega) (HX.out.ar.below hb) h0 h1 hlv hi)
            have HLc : Hid (L.length = ℓ) := Lib.hid hℓ
            generalize F.gb i (h / 16777216 + 1) = T at *
            clear hh hmem hO hlv hi hin hus hgen hgb hmany hℓ h5 hjL hLn
            have HCV : Hid (∀ w', Below wr.heap.size wr w' → w'.cell? ⟨k, 0, none⟩ = some (.slice pg F.gens.length cg) ∧ w'.cell? ⟨k, 1, none⟩ = some (.slice pu F.used.length cu) ∧ w'.cell? ⟨k, 2, none⟩ = some (.slice pf F.free.length cf) ∧ w'.cell? ⟨g, j, none⟩ = some (.int .u64 h)) := Lib.hid (fun w' hb => by
              obtain ⟨c0, c1, c2, _, _, _⟩ := block3 (HX.out.below hb).blk
              exact ⟨c0, c1, c2, (hb.cell (p := ⟨g, j, none⟩) hgr).trans ch⟩)
            go_upto_region 23 with fail
            clear hj hjt hy
            go_cut [14, 15] from 93 to 101 (fun t e wx => ∃ (kt : Nat) (pg3 : Option Addr) (cg3 : Nat) (pu3 : Option Addr) (cu3 : Nat) (pf3 : Option Addr) (cf3 : Nat), t = .pointer (some ⟨kt, 0, none⟩) ∧ e = .int .i64 0 ∧ Hid (Box 29 wx kt pg3 cg3 pu3 cu3 pf3 cf3 T) ∧ Hid (Below wr.heap.size wr wx) ∧ Hid (∀ r, (Value.slice pg3 T.gens.length cg3).ownBlock = some r → wr.heap.size ≤ r))
            case first =>
              go_region_held3 (fun w' => w'.cell? ⟨k, 0, none⟩ = some (.slice pg F.gens.length cg) ∧ w'.cell? ⟨k, 1, none⟩ = some (.slice pu F.used.length cu) ∧ w'.cell? ⟨k, 2, none⟩ = some (.slice pf F.free.length cf) ∧ w'.cell? ⟨g, j, none⟩ = some (.int .u64 h))
                (first
                  | exact HCV.out _ (Below.refl _ _).drew
                  | exact HCV.out _ ((Below.refl _ _).drew.alloc (Nat.le_refl _) _)
                  | exact HCV.out _ ((Below.refl _ _).alloc (Nat.le_refl _) _).drew
                  | exact HCV.out _ HB5.out
                  | exact HCV.out _ (HB5.out.alloc HB5.out.size _)
                  | exact HCV.out _ (below_set3 HB5.out (Nat.le_refl _) _ _ _))
                (first
                  | (go_at_call 15
                     refine (HGV.out _ (Below.refl _ _).drew).mono ?_
                     rintro e w5 ⟨v1, v2, v3, rfl, hA5, hb5⟩
                     obtain ⟨pg3, cg3, pu3, cu3, pf3, cf3, rfl, rfl, rfl⟩ := hA5.form
                     have HA5 := Lib.hid hA5
                     have HB5 : Hid (Below wr.heap.size wr w5) := Lib.hid ((Below.refl _ _).drew.trans hb5)
                     clear hA5 hb5)
                  | (go_at_call 15
                     refine (HGV.out _ ((Below.refl _ _).alloc (Nat.le_refl _) _).drew).mono ?_
                     rintro e w5 ⟨v1, v2, v3, rfl, hA5, hb5⟩
                     obtain ⟨pg3, cg3, pu3, cu3, pf3, cf3, rfl, rfl, rfl⟩ := hA5.form
                     have HA5 := Lib.hid hA5
                     have HB5 : Hid (Below wr.heap.size wr w5) := Lib.hid (((Below.refl _ _).alloc (Nat.le_refl _) _).drew.trans (hb5.mono (by simp)))
                     have HT5 : Hid (w5.heap[wr.heap.size]? = some (.cells #[.slice none 0 0, .slice none 0 0, .slice none 0 0] 29 (0, 0))) := Lib.hid ((hb5.block _ (by simp)).trans (heap_alloc_new wr _))
                     obtain ⟨t0, t1, t2, s0, s1, s2⟩ := block3 HT5.out
                     clear hA5 hb5))
              · go_wp2
                go_meet
                exact ⟨_, pg3, cg3, pu3, cu3, pf3, cf3, rfl, rfl, Lib.hid (Box.new 29 HA5.out), Lib.hid (HB5.out.alloc HB5.out.size _), Lib.hid (fun r he => (HA5.out.g.lt r he).1)⟩
              · go_wp2
                go_meet
                exact ⟨_, pg3, cg3, pu3, cu3, pf3, cf3, rfl, rfl, Lib.hid (Box.set HT5.out HA5.out (by decide) (by decide) (by decide)), Lib.hid (below_set3 HB5.out (Nat.le_refl _) _ _ _), Lib.hid (fun r he => by have := (HA5.out.g.lt r he).1; simp at this; omega)⟩
            case rest =>
              obtain ⟨kt, pg3, cg3, pu3, cu3, pf3, cf3, rfl, rfl, HN3, HBc, HGc⟩ := hcut
              have HXc := Lib.hid (HX.out.below HBc.out)
              have HLc1 := Lib.hid (own_below HL.out HBc.out)
              have HMc := Lib.hid (map_below HM.out HBc.out)
              have HBw : Hid (Below w.heap.size w wc) := Lib.hid (HB.out.trans (HBc.out.mono HB.out.size))
              have hsc := HBc.out.size
              clear c0 c1 c2 z0 z1 z2
              obtain ⟨c0, c1, c2, z0, z1, z2⟩ := block3 HXc.out.blk
              obtain ⟨x0, x1, x2, _, _, _⟩ := block3 HN3.out.blk
              go_upto_region 27 with fail
              obtain ⟨V4, hV⟩ : ∃ V, V = ((wc.setCell ⟨k, 0, none⟩ (.slice pg3 T.gens.length cg3)).setCell ⟨k, 1, none⟩ (.slice pu3 T.used.length cu3)).setCell ⟨k, 2, none⟩ (.slice pf3 T.free.length cf3) := ⟨_, rfl⟩
              have HX4 : Hid (Box 29 V4 k pg3 cg3 pu3 cu3 pf3 cf3 T) := Lib.hid (by rw [hV]; exact Box.set HXc.out.blk HN3.out.ar (by decide) (by decide) (by decide))
              have HL4 : Hid (V4.ownsRow w.heap.size 23 1 (.slice (some ⟨g, 0, none⟩) ℓ cap) ℓ (gvs L)) := Lib.hid (by
                rw [hV]
                have hne := own_apart HLc1.out HXc.out.blk (by decide)
                exact ownsRow_setCell_other (ownsRow_setCell_other (ownsRow_setCell_other HLc1.out hne _) hne _) hne _)
              have HM4 : Hid (V4.ownsMap Try.prog 23 (plainElem (H := Unit) Try.prog 3) B (q + 1) D) := Lib.hid (by rw [hV]; exact (map_set3 HMc.out (map_ne HMc.out HXc.out.blk) _ _ _).mono (by omega))
              have HB4 : Hid (Below w.heap.size w V4) := Lib.hid (by rw [hV]; exact below_set3 HBw.out hsz _ _ _)
              rw [← hV]
              clear hV c0 c1 c2 z0 z1 z2 x0 x1 x2
              have hg4 := (own_some HL4.out hℓ0)
              have hgV : g < V4.heap.size := by obtain ⟨_, e, _, hlt⟩ := hg4; cases e; exact hlt
              clear hg4
              have hs4 := HB4.out.size
              have jc : (j : Int) ≤ (cap : Int) := by omega
              have hjw : IntKind.i64.wrap ((j : Int) + 1) = (j : Int) + 1 := IntWalk.i64_in _ (by omega)
              have hj1 : (0 : Int) ≤ (j : Int) + 1 := by omega
              have hj2 : (j : Int) + 1 ≤ (ℓ : Int) := by omega
              obtain ⟨ad, hsl, hadc⟩ := slice_from (A := g) (cap := cap) (ℓ := ℓ) (j := j) hjl' hcap
              have HO0 : Hid ((V4.alloc (.cells #[] 23)).drew.ownsRow V4.heap.size 23 1 (.slice (some ⟨V4.heap.size, 0, none⟩) 0 0) 0 []) := Lib.hid (World.ownsRow_made (base := V4.heap.size) V4 #[] 0 (Nat.le_refl _) (by simp [maxLen]) rfl).drew
              have HLt : Hid ((gvs L).length = ℓ) := Lib.hid (by rw [gvs_length]; exact HLc.out)
              have HC4 : Hid (∀ r u, ((gvs L).take j)[r]? = some u → (V4.alloc (.cells #[] 23)).drew.cell? ((⟨g, 0, none⟩ : Addr).add r) = some u) := Lib.hid (fun r u hu => (HL4.out.alloc (.cells #[] 23)).cells rfl r u (by rw [List.getElem?_take] at hu; split at hu; exact hu; cases hu))
              go_region_held3 (fun w' => True)
                (trivial)
                (first
                  | (refine step_own rfl (.tmp 105) (.tmp 108) 25 rfl V4.heap.size 23 i0 (.int .u64 0) 1 8 Try.underlying25 hI.out hZ0.out hZ1.out hZ2.out rfl (by decide) _ 0 [] (by rfl) HO0.out ⟨g, 0, none⟩ j cap ((gvs L).take j) (by rfl) (by rw [List.length_take, HLt.out]; omega) HC4.out (fun u hu => gvs_one _ u (List.mem_of_mem_take hu)) (by unfold maxLen; omega) (by omega) (by simp) ?_
                     intro v7 w7 ho7 hg7 hat7
                     have HO7 : Hid (w7.ownsRow V4.heap.size 23 1 v7 (0 + j) ([] ++ (gvs L).take j)) := Lib.hid ho7
                     have HG7 : Hid ((V4.alloc (.cells #[] 23)).drew.grownBy w7 (some V4.heap.size)) := Lib.hid hg7
                     have HB7 : Hid (Below V4.heap.size V4 w7) := Lib.hid ((((Below.refl _ V4).alloc (Nat.le_refl _) _).drew).grown HG7.out (by simp) (fun r e => by cases e; exact Nat.le_refl _))
                     have HL7 : Hid (w7.ownsRow w.heap.size 23 1 (.slice (some ⟨g, 0, none⟩) ℓ cap) ℓ (gvs L)) := Lib.hid (own_below HL4.out HB7.out)
                     have hs7 := HB7.out.size
                     clear ho7 hg7 hat7)
                  | (refine step_own rfl (.tmp 109) (.tmp 113) 25 rfl V4.heap.size 23 i0 (.int .u64 0) 1 8 Try.underlying25 hI.out hZ0.out hZ1.out hZ2.out rfl (by decide) v7 (0 + j) ([] ++ (gvs L).take j) (by rfl) HO7.out ad (ℓ - (j + 1)) (cap - (j + 1)) ((gvs L).drop (j + 1)) (by rfl) (by rw [List.length_drop, HLt.out]; omega) (fun r u hu => hadc w7 (gvs L) (HL7.out.cells rfl) r u hu HLt.out) (fun u hu => gvs_one _ u (List.mem_of_mem_drop hu)) (by unfold maxLen; omega) (by omega) (by omega) ?_
                     intro v8 w8 ho8 hg8 hat8
                     obtain ⟨p8, c8, rfl, _, _, _⟩ := own_form ho8
                     have HO8 := Lib.hid ho8
                     have HB8 : Hid (Below V4.heap.size V4 w8) := Lib.hid (HB7.out.grown hg8 (by omega) (fun r e => (HO7.out.lt r e).1))
                     clear ho8 hg8 hat8))
              clear hjw hj1 hj2 hsl hadc jc
              have hLe : j + (ℓ - (j + 1)) = (L.take j ++ L.drop (j + 1)).length := by rw [List.length_append, List.length_take, List.length_drop, HLc.out]; omega
              have HLe : Hid (w8.ownsRow w.heap.size 23 1 (.slice p8 (L.take j ++ L.drop (j + 1)).length c8) (L.take j ++ L.drop (j + 1)).length (gvs (L.take j ++ L.drop (j + 1)))) := Lib.hid (by
                have := own_drop HO8.out hs4
                rw [Nat.zero_add, hLe, List.nil_append] at this
                rw [show gvs (L.take j ++ L.drop (j + 1)) = (gvs L).take j ++ (gvs L).drop (j + 1) by simp [gvs]]
                exact this)
              have HAPe : Hid (∀ r, (Value.slice p8 (L.take j ++ L.drop (j + 1)).length c8).ownBlock = some r → (Value.slice pg3 T.gens.length cg3).ownBlock ≠ some r) := Lib.hid (fun r hr he => by
                have h1 := (HX4.out.ar.g.lt r he).2
                have h2 := (HO8.out.lt r (own_len hr)).1
                omega)
              rw [hLe]
              clear hLe
              have HXe := Lib.hid (HX4.out.below HB8.out)
              have HMe := Lib.hid (map_below HM4.out HB8.out)
              have HBe : Hid (Below w.heap.size w w8) := Lib.hid (HB4.out.trans (HB8.out.mono HB4.out.size))
              generalize L.take j ++ L.drop (j + 1) = L' at *
              obtain ⟨f0', f1', f2', _, _, _⟩ := block3 HXe.out.blk
              go_wp2_with fail
              refine (allO HOKe.out (by omega) HXe.out.ar).mono ?_
              rintro e w9 ⟨v9, rfl, ho9, hb9⟩
              rw [gvs_length] at ho9
              obtain ⟨p9, c9, rfl, _, _, _⟩ := own_form ho9
              rw [HLIe.out.al HOKe.out]
              have HX9 := Lib.hid (HXe.out.below hb9)
              have HL9 := Lib.hid (own_below HLe.out hb9)
              have HM9 := Lib.hid (map_below HMe.out hb9)
              have HB9 : Hid (Below w.heap.size w w9) := Lib.hid (HBe.out.trans (hb9.mono HBe.out.size))
              clear ho9 hb9
              obtain ⟨f0, f1, f2, _, _, _⟩ := block3 HX9.out.blk
              have hm20 := HNn.out
              have hmany := HLIe.out.many
              have hcmp : ((T.free.length : Int) != (n : Int) - (L'.length : Int)) = false := by rw [bne_eq_false_iff_eq]; omega
              go_wp2
              clear hcmp hm20
              go_roundw
              case rel => exact ⟨q + 1, T, pg3, cg3, pu3, cu3, pf3, cf3, L', p8, c8, D, by omega, by go_num, rfl, HOKe, HLIe, HSe, HX9, HL9, HAPe, HM9, HB9⟩
              case measure => simp [intOf] <;> omega
      · go_wp2
        go_ret
        exact ⟨rfl, HB.out⟩
end Go.Proofs.Ytnhdpaiekcddiaa
