/-
  The law SlotsActs, at any input.
-/
import Derived.Test.YtnhdpaiekcddiaaSlotNb
namespace Go.Proofs.Ytnhdpaiekcddiaa
open Go.ChangeShapes Go.WideShapes Go.ChangeAt Go.RowKit
set_option linter.unusedVariables false

/-- What the document's Take hands back: an arena T, whose generations lie in new memory, or where they lay. -/
def GivesR (vg0 : Value) (s : St) (h e : Int) (w : World) (en : Ending) (w' : World) : Prop :=
  ∃ vg vu vf, en = .returned (.tuple #[.agg #[vg, vu, vf], .int .u64 h, .int .i64 e]) ∧ Ar w' 0 vg vu vf s ∧ (∀ r, r < w.heap.size → vg0.ownBlock ≠ some r → vg.ownBlock ≠ some r) ∧ Below w.heap.size w w'
/-- The same of its Give. -/
def GivesS (vg0 : Value) (s : St) (e : Int) (w : World) (en : Ending) (w' : World) : Prop :=
  ∃ vg vu vf, en = .returned (.tuple #[.agg #[vg, vu, vf], .int .i64 e]) ∧ Ar w' 0 vg vu vf s ∧ (∀ r, r < w.heap.size → vg0.ownBlock ≠ some r → vg.ownBlock ≠ some r) ∧ Below w.heap.size w w'
section
variable {n : Nat} {G : Int} {s : St} {vg vu vf : Value} {b : Nat} {w : World}
theorem rtakeN (ho : Ok n G s) (hA : Ar w b vg vu vf s) (hf : s.free = []) : Calls Try.prog 14 #[.agg #[vg, vu, vf]] w (GivesR vg s 0 2 w) :=
  (rtake_full vg vu vf s b w hA (by rw [hf]; rfl)).mono fun _ _ ⟨he, hb⟩ => ⟨vg, vu, vf, he, (hA.drop (Nat.zero_le _)).below hb, fun _ _ h => h, hb⟩
theorem rtakeO (ho : Ok n G s) (hG : G ≤ 1099511627775) (hA : Ar w b vg vu vf s) {fr : List Int} {i : Nat} (hfr : s.free = fr ++ [(i : Int)]) (hi : i < n) : Calls Try.prog 14 #[.agg #[vg, vu, vf]] w (GivesR vg (s.tk i) (hd i (s.gens.getD i 0)) 0 w) := by
  have h1 := ho.gens
  have h2 := ho.used
  have h3 := ho.small
  have h4 := ho.free_le
  have h5 := ho.gen hi
  refine (rtake_ok i fr _ vg vu vf s b w hA (by omega) (by omega) (by omega) hfr (by omega) (by omega) rfl (by omega) (by omega)).mono ?_
  rintro e w' ⟨v1, v2, v3, he, hA', hb⟩
  exact ⟨v1, v2, v3, he, hA'.drop (Nat.zero_le _), fun r hr _ e => by have := (hA'.g.lt r e).1; omega, hb⟩
theorem rgiveN {h : Int} (ho : Ok n G s) (hA : Ar w b vg vu vf s) (h0 : 0 ≤ h) (h1 : h ≤ 18446744073709551615) (hl : s.lv h = false) : Calls Try.prog 16 #[.agg #[vg, vu, vf], .int .u64 h] w (GivesS vg s 30 w) := by
  have g1 := ho.gens
  have g2 := ho.used
  have g3 := ho.small
  have g4 := ho.free_le
  exact (rgive_no h vg vu vf s b w hA (by omega) (by omega) (by omega) h0 h1 hl).mono fun _ _ ⟨he, hb⟩ => ⟨vg, vu, vf, he, (hA.drop (Nat.zero_le _)).below hb, fun _ _ h => h, hb⟩
theorem rgiveO {h : Int} {i : Nat} (ho : Ok n G s) (hG : G ≤ 1099511627774) (hA : Ar w b vg vu vf s) (h0 : 0 ≤ h) (h1 : h ≤ 18446744073709551615) (hl : s.lv h = true) (hi : h % 16777216 = i) : Calls Try.prog 16 #[.agg #[vg, vu, vf], .int .u64 h] w (GivesS vg (s.gb i (h / 16777216 + 1)) 0 w) := by
  have g1 := ho.gens
  have g2 := ho.used
  have g3 := ho.small
  have g4 := ho.free_le
  obtain ⟨i', hi', hin, hu, hg⟩ := ho.live hl
  obtain rfl : i' = i := by omega
  have g5 := ho.gen hin
  have e : (h + 16777216) % 18446744073709551616 / 16777216 = h / 16777216 + 1 := by omega
  rw [← e]
  refine (rgive_ok h i' vg vu vf s b w hA (by omega) (by omega) (by omega) h0 h1 hl hi (by omega)).mono ?_
  rintro e w' ⟨v1, v2, v3, he, hA', hb⟩
  exact ⟨v1, v2, v3, he, hA'.drop (Nat.zero_le _), fun r hr _ e => by have := (hA'.g.lt r e).1; omega, hb⟩
theorem rallO (ho : Ok n G s) (hG : G ≤ 1099511627775) (hA : Ar w b vg vu vf s) : Calls Try.prog 20 #[.agg #[vg, vu, vf]] w (GivesRow 23 (gvs (s.al n)) w) := by
  have g1 := ho.gens
  have g2 := ho.used
  have g3 := ho.small
  have := refall_any vg vu vf s b w hA (by omega) (by omega) (fun i hi => by have := ho.gen (i := i) (by omega); omega)
  rw [g1] at this
  exact this
theorem rliveO {h : Int} (ho : Ok n G s) (hA : Ar w b vg vu vf s) (h0 : 0 ≤ h) (h1 : h ≤ 18446744073709551615) : Calls Try.prog 21 #[.agg #[vg, vu, vf], .int .u64 h] w (GivesV (.bool (s.lv h)) w) := by
  have g1 := ho.gens
  have g2 := ho.used
  have g3 := ho.small
  exact reflive_any h vg vu vf s b w hA h0 h1 (by omega) (by omega)
theorem sameO {n' : Nat} {G' : Int} {s' : St} {vg' vu' vf' : Value} {b' : Nat} (ho : Ok n G s) (ho' : Ok n' G' s') (hA : Ar w b vg vu vf s) (hA' : Ar w b' vg' vu' vf' s') : Calls Try.prog 11 #[.agg #[vg, vu, vf], .agg #[vg', vu', vf']] w (GivesV (.bool (sameB s s')) w) := by
  have g1 := ho.gens
  have g2 := ho.used
  have g3 := ho.small
  have g4 := ho.free_le
  have k1 := ho'.gens
  have k2 := ho'.used
  have k3 := ho'.small
  have k4 := ho'.free_le
  exact same_any vg vu vf vg' vu' vf' s s' b b' w hA hA' (by omega) (by omega) (by omega) (by omega) (by omega) (by omega)
end
/-- New of any number: an arena, and the same error's number of both. -/
theorem news (m : Int) (h0 : -9223372036854775808 ≤ m) (h1 : m ≤ 9223372036854775807) : ∃ (n : Nat) (e : Int), n ≤ 500 ∧ (∀ w, Calls Try.prog 9 #[.int .i64 m] w (GivesE (fresh n) e w)) ∧ ∀ w, Calls Try.prog 10 #[.int .i64 m] w (GivesE (fresh n) e w) := by
  by_cases h : m < 0 ∨ 500 < m
  · exact ⟨0, 1, by omega, fun w => new_bad m w h h0 h1, fun w => rnew_bad m w h h0 h1⟩
  · obtain ⟨n, rfl⟩ := Int.eq_ofNat_of_zero_le (show 0 ≤ m by omega)
    exact ⟨n, 0, by omega, fun w => new_ok n w (by omega), fun w => rnew_ok n w (by omega)⟩
theorem sameB_tk {n : Nat} {G : Int} {s : St} {fr : List Int} {i : Nat} (ho : Ok n G s) (hfr : s.free = fr ++ [(i : Int)]) : sameB (s.tk i) s = false := by
  have hne : (s.tk i).free ≠ s.free := by
    intro e
    have := congrArg List.length e
    simp [St.tk, hfr] at this
  unfold sameB
  rw [decide_eq_false hne]
  simp

set_option maxHeartbeats 64000000 in
set_option maxRecDepth 100000 in
theorem acts_law (m : Int) (hm0 : -9223372036854775808 ≤ m) (hm1 : m ≤ 9223372036854775807) (A : Option Addr) (N ca : Nat) (zs : List Int) (o : Int) (ho0 : 0 ≤ o) (ho1 : o ≤ 18446744073709551615) (w : World) (hZ : UU w A N zs) (hN : N ≤ maxLen) :
    Calls Try.prog 3 #[.int .i64 m, .slice A N ca, .int .u64 o] w (GivesV (.bool true) w) := by
  unfold maxLen at hN
  by_cases hlong : 150 < N
  · have HZ := Lib.hid hZ
    clear hZ
    go_enter Try.func3, Try.ntmps3
    go_wp2_with fail
    refine (shown_any _).mono ?_
    rintro e w1 ⟨rfl, hb⟩
    have HB := Lib.hid hb
    clear hb
    go_wp2
    go_ret
    exact ⟨rfl, HB.out⟩
  · have HZ := Lib.hid hZ
    clear hZ
    obtain ⟨i0, hi, hz0, hz1, hz2⟩ := info_parts info_G
    have hI := Lib.hid hi
    have hZ0 := Lib.hid hz0
    have hZ1 := Lib.hid hz1
    have hZ2 := Lib.hid hz2
    clear hi hz0 hz1 hz2
    obtain ⟨n, er, hn, hn1, hn2⟩ := news m hm0 hm1
    have HN1 := Lib.hid hn1
    have HN2 := Lib.hid hn2
    clear hn1 hn2
    have HOK : Hid (Ok n (1 + ((0 : Nat) : Int)) (fresh n)) := Lib.hid (fresh_ok hn)
    have HSR := Lib.hid (sameB_refl (fresh n))
    obtain ⟨F, hF⟩ : ∃ F, fresh n = F := ⟨_, rfl⟩
    rw [hF] at HN1 HN2 HOK HSR
    clear hF
    go_enter Try.func3, Try.ntmps3
    go_wp2_with fail
    refine (shown_any _).mono ?_
    rintro e w1 ⟨rfl, hb⟩
    have HB1 := Lib.hid hb
    clear hb
    go_wp2_with fail
    refine (HN1.out _).mono ?_
    rintro e w2 ⟨v1, v2, v3, rfl, hA, hb⟩
    obtain ⟨pg, cg, pu, cu, pf, cf, rfl, rfl, rfl⟩ := hA.form
    have HX2 := Lib.hid (Box.new 29 hA)
    have HB2 : Hid (Below w.heap.size w w2) := Lib.hid (HB1.out.trans (hb.mono HB1.out.size))
    have hsz : w.heap.size ≤ w2.heap.size := HB2.out.size
    clear hA hb HB1
    go_wp2_with fail
    obtain ⟨V, hV⟩ : ∃ V, V = w2.alloc (.cells #[.slice pg F.gens.length cg, .slice pu F.used.length cu, .slice pf F.free.length cf] 29) := ⟨_, rfl⟩
    have HBV : Hid (Below w.heap.size w V) := Lib.hid (by subst hV; exact HB2.out.alloc HB2.out.size _)
    rw [← hV] at HX2 ⊢
    clear hV
    refine (HN2.out _).mono ?_
    rintro e w3 ⟨v1, v2, v3, rfl, hA, hb⟩
    obtain ⟨qg, dg, qu, du, qf, df, rfl, rfl, rfl⟩ := hA.form
    have HY3 := Lib.hid (Box.new 33 hA)
    have HX3 := Lib.hid (HX2.out.below hb)
    have HB3 : Hid (Below w.heap.size w w3) := Lib.hid (HBV.out.trans (hb.mono HBV.out.size))
    have hsz' : w.heap.size ≤ w3.heap.size := HB3.out.size
    clear hA hb HBV
    go_wp2_with fail
    obtain ⟨V3, hV⟩ : ∃ V, V = w3.alloc (.cells #[.slice qg F.gens.length dg, .slice qu F.used.length du, .slice qf F.free.length df] 33) := ⟨_, rfl⟩
    have hal : Below w3.heap.size w3 V3 := by subst hV; exact (Below.refl _ _).alloc (Nat.le_refl _) _
    have HBV : Hid (Below w.heap.size w V3) := Lib.hid (HB3.out.trans (hal.mono HB3.out.size))
    have HXV := Lib.hid (HX3.out.below hal)
    rw [← hV] at HY3 ⊢
    clear hV hal
    obtain ⟨k, hk⟩ : ∃ k, k = w2.heap.size := ⟨_, rfl⟩
    obtain ⟨k', hk'⟩ : ∃ k', k' = w3.heap.size := ⟨_, rfl⟩
    rw [← hk] at HXV hsz ⊢
    rw [← hk'] at HY3 hsz' ⊢
    clear hk hk' HX2 HX3 HB2 HB3
    have herr : (er != er) = false := by simp
    have HCV : Hid (∀ w', Below V3.heap.size V3 w' → w'.cell? ⟨k, 0, none⟩ = some (.slice pg F.gens.length cg) ∧ w'.cell? ⟨k, 1, none⟩ = some (.slice pu F.used.length cu) ∧ w'.cell? ⟨k, 2, none⟩ = some (.slice pf F.free.length cf) ∧ w'.cell? ⟨k', 0, none⟩ = some (.slice qg F.gens.length dg) ∧ w'.cell? ⟨k', 1, none⟩ = some (.slice qu F.used.length du) ∧ w'.cell? ⟨k', 2, none⟩ = some (.slice qf F.free.length df)) := Lib.hid (fun w' hb => by
      obtain ⟨c0, c1, c2, _, _, _⟩ := block3 (HXV.out.below hb).blk
      obtain ⟨d0, d1, d2, _, _, _⟩ := block3 (HY3.out.below hb).blk
      exact ⟨c0, c1, c2, d0, d1, d2⟩)
    go_region_held3 (fun w' => w'.cell? ⟨k, 0, none⟩ = some (.slice pg F.gens.length cg) ∧ w'.cell? ⟨k, 1, none⟩ = some (.slice pu F.used.length cu) ∧ w'.cell? ⟨k, 2, none⟩ = some (.slice pf F.free.length cf) ∧ w'.cell? ⟨k', 0, none⟩ = some (.slice qg F.gens.length dg) ∧ w'.cell? ⟨k', 1, none⟩ = some (.slice qu F.used.length du) ∧ w'.cell? ⟨k', 2, none⟩ = some (.slice qf F.free.length df))
      (first
        | exact HCV.out _ (Below.refl _ _).drew
        | exact HCV.out _ HB5.out
        | exact HCV.out _ HB4.out)
      (first
        | (go_at_call 12
           refine (its_any _ _ _ F 0 _ HXV.out.ar.drew).mono ?_
           rintro e w4 ⟨rfl, hb4⟩
           have HB4 : Hid (Below V3.heap.size V3 w4) := Lib.hid ((Below.refl _ _).drew.trans hb4)
           clear hb4)
        | (go_at_call 11
           refine (sameO HOK.out HOK.out (HXV.out.ar.below HB4.out) (HY3.out.ar.below HB4.out)).mono ?_
           rw [HSR.out]
           rintro e w5 ⟨rfl, hb5⟩
           have HB5 : Hid (Below V3.heap.size V3 w5) := Lib.hid (HB4.out.trans (hb5.mono HB4.out.size))
           clear hb5))
    go_wp2
    have hb5 := HB5.out
    have HX5 := Lib.hid (HXV.out.below hb5)
    have HY5 := Lib.hid (HY3.out.below hb5)
    have HBw5 : Hid (Below w.heap.size w w5) := Lib.hid (HBV.out.trans (hb5.mono HBV.out.size))
    clear hb5
    obtain ⟨V5, hV⟩ : ∃ V, V = w5.alloc (.cells #[.int .u64 o] 23) := ⟨_, rfl⟩
    have hal : Below w5.heap.size w5 V5 := by subst hV; exact (Below.refl _ _).alloc (Nat.le_refl _) _
    have HBV5 : Hid (Below w.heap.size w V5) := Lib.hid (HBw5.out.trans (hal.mono HBw5.out.size))
    have HX6 := Lib.hid (HX5.out.below hal)
    have HY6 := Lib.hid (HY5.out.below hal)
    have HT6 : Hid (V5.ownsRow w.heap.size 23 1 (.slice (some ⟨w5.heap.size, 0, none⟩) [o].length 1) [o].length (gvs [o])) := Lib.hid (by
      subst hV
      exact World.ownsRow_lit w5 #[.int .u64 o] 1 HBw5.out.size (by simp [maxLen]) rfl)
    have HP6 : Hid (∀ r, (Value.slice (some ⟨w5.heap.size, 0, none⟩) [o].length 1).ownBlock = some r → (Value.slice pg F.gens.length cg).ownBlock ≠ some r) := Lib.hid (fun r hr he => by
      have h1 := (HX5.out.ar.g.lt r he).2
      have : w5.heap.size = r := by simpa [Value.ownBlock] using hr
      omega)
    have HQ6 : Hid (∀ r, (Value.slice (some ⟨w5.heap.size, 0, none⟩) [o].length 1).ownBlock = some r → (Value.slice qg F.gens.length dg).ownBlock ≠ some r) := Lib.hid (fun r hr he => by
      have h1 := (HY5.out.ar.g.lt r he).2
      have : w5.heap.size = r := by simpa [Value.ownBlock] using hr
      omega)
    have HL6 : Hid (∀ x ∈ [o], 0 ≤ x ∧ x ≤ 18446744073709551615) := Lib.hid (fun x hx => by
      have : x = o := by simpa using hx
      subst this
      exact ⟨ho0, ho1⟩)
    rw [← hV]
    clear hV hal
    go_loopw [11, 12] (fun t i wr => ∃ (q : Nat) (F : St) (pg : Option Addr) (cg : Nat) (pu : Option Addr) (cu : Nat) (pf : Option Addr) (cf : Nat) (qg : Option Addr) (dg : Nat) (qu : Option Addr) (du : Nat) (qf : Option Addr) (df : Nat) (L : List Int) (p : Option Addr) (cap : Nat), q ≤ N ∧ i = .int .i64 q ∧ t = .slice p L.length cap ∧ 0 < L.length ∧ L.length ≤ q + 1 ∧ Hid (Ok n (1 + (q : Int)) F) ∧ Hid (Box 29 wr k pg cg pu cu pf cf F) ∧ Hid (Box 33 wr k' qg dg qu du qf df F) ∧ Hid (wr.ownsRow w.heap.size 23 1 (.slice p L.length cap) L.length (gvs L)) ∧ Hid (∀ x ∈ L, 0 ≤ x ∧ x ≤ 18446744073709551615) ∧ Hid (∀ r, (Value.slice p L.length cap).ownBlock = some r → (Value.slice pg F.gens.length cg).ownBlock ≠ some r) ∧ Hid (∀ r, (Value.slice p L.length cap).ownBlock = some r → (Value.slice qg F.gens.length dg).ownBlock ≠ some r) ∧ Hid (Below w.heap.size w wr)) (fun _ i _ => N - (intOf i).toNat)
    case atStart => exact ⟨0, F, pg, cg, pu, cu, pf, cf, qg, dg, qu, du, qf, df, [o], _, _, Nat.zero_le _, rfl, rfl, by simp, by simp, HOK, HX6, HY6, HT6, HL6, HP6, HQ6, HBV5⟩
    case round =>
      clear HX6 HY6 HT6 HL6 HP6 HQ6 HBV5 HX5 HY5 HBw5 HXV HY3 HCV HB4 HB5 HOK HSR HN1 HN2 herr
      obtain ⟨q, F, pg, cg, pu, cu, pf, cf, qg, dg, qu, du, qf, df, L, p, cap, hq, rfl, rfl, hL0, hL1, HOK, HX, HY, HL, HLB, HP, HQ, HB⟩ := hrel
      obtain ⟨c0, c1, c2, z0, z1, z2⟩ := block3 HX.out.blk
      obtain ⟨e0, e1, e2, f0, f1, f2⟩ := block3 HY.out.blk
      by_cases hlt : q < N
      · obtain ⟨b, off, rfl, hbw, ca0, a0, a1⟩ := HZ.out.at_ HB.out hlt
        obtain ⟨x, hx⟩ : ∃ x, zs.getD q 0 = x := ⟨_, rfl⟩
        rw [hx] at ca0 a0 a1
        clear hx
        have q0 : (0 : Int) ≤ (q : Int) := by omega
        have q1 : (q : Int) < (N : Int) := by omega
        go_upto_if 66 with fail
        go_cut [11, 13, 14, 15, 16, 17, 18, 19, 20, 21, 22, 23] from 55 to 176 (fun t s13 s14 s15 s16 s17 s18 s19 s20 s21 s22 s23 wx => ∃ (F : St) (pg : Option Addr) (cg : Nat) (pu : Option Addr) (cu : Nat) (pf : Option Addr) (cf : Nat) (qg : Option Addr) (dg : Nat) (qu : Option Addr) (du : Nat) (qf : Option Addr) (df : Nat) (L : List Int) (p : Option Addr) (cap : Nat), t = .slice p L.length cap ∧ 0 < L.length ∧ L.length ≤ q + 2 ∧ Hid (Ok n (1 + ((q + 1 : Nat) : Int)) F) ∧ Hid (Box 29 wx k pg cg pu cu pf cf F) ∧ Hid (Box 33 wx k' qg dg qu du qf df F) ∧ Hid (wx.ownsRow w.heap.size 23 1 (.slice p L.length cap) L.length (gvs L)) ∧ Hid (∀ x ∈ L, 0 ≤ x ∧ x ≤ 18446744073709551615) ∧ Hid (∀ r, (Value.slice p L.length cap).ownBlock = some r → (Value.slice pg F.gens.length cg).ownBlock ≠ some r) ∧ Hid (∀ r, (Value.slice p L.length cap).ownBlock = some r → (Value.slice qg F.gens.length dg).ownBlock ≠ some r) ∧ Hid (Below w.heap.size w wx))
        case first =>
          by_cases h3 : 0 < x % 3
          · by_cases hfe : F.free = []
            · obtain ⟨T, H, HT1, HT2, HTe, HSB, hH0, hH1⟩ : ∃ (T : St) (H : Int), Hid (Calls Try.prog 13 #[.agg #[.slice pg F.gens.length cg, .slice pu F.used.length cu, .slice pf F.free.length cf]] wr (GivesT T H 2 wr)) ∧ Hid (∀ W, Below wr.heap.size wr W → Calls Try.prog 14 #[.agg #[.slice qg F.gens.length dg, .slice qu F.used.length du, .slice qf F.free.length df]] W (GivesR (.slice qg F.gens.length dg) T H 2 W)) ∧ Hid (Ok n (1 + ((q + 1 : Nat) : Int)) T) ∧ Hid (sameB T F = true) ∧ 0 ≤ H ∧ H ≤ 18446744073709551615 := ⟨F, 0, Lib.hid (takeN HOK.out HX.out.ar hfe), Lib.hid (fun W hb => rtakeN HOK.out (HY.out.ar.below hb) hfe), Lib.hid (HOK.out.mono (by omega)), Lib.hid (sameB_refl F), by omega, by omega⟩
              clear hfe
              go_wp2_with fail
              refine HT1.out.mono ?_
              rintro e w3 ⟨v1, v2, v3, rfl, hA, hb⟩
              obtain ⟨pg3, cg3, pu3, cu3, pf3, cf3, rfl, rfl, rfl⟩ := hA.form
              have HN3 := Lib.hid (Box.new 29 hA)
              have HG3 : Hid (∀ r, (Value.slice pg3 T.gens.length cg3).ownBlock = some r → wr.heap.size ≤ r) := Lib.hid (fun r he => (hA.g.lt r he).1)
              have HBr3 := Lib.hid hb
              clear hA hb c0 c1 c2 z0 z1 z2 e0 e1 e2 f0 f1 f2
              go_upto_region 13 with fail
              obtain ⟨V3, hV⟩ : ∃ V, V = w3.alloc (.cells #[.slice pg3 T.gens.length cg3, .slice pu3 T.used.length cu3, .slice pf3 T.free.length cf3] 29) := ⟨_, rfl⟩
              have hal : Below w3.heap.size w3 V3 := by subst hV; exact (Below.refl _ _).alloc (Nat.le_refl _) _
              have HBV3 : Hid (Below wr.heap.size wr V3) := Lib.hid (HBr3.out.trans (hal.mono HBr3.out.size))
              rw [← hV] at HN3 ⊢
              clear hV hal
              have HY3 := Lib.hid (HY.out.below HBV3.out)
              obtain ⟨e0, e1, e2, f0, f1, f2⟩ := block3 HY3.out.blk
              go_wp2_with fail
              refine (HT2.out _ HBV3.out).mono ?_
              rintro e w4 ⟨v1, v2, v3, rfl, hA, hap, hb⟩
              obtain ⟨qg4, dg4, qu4, du4, qf4, df4, rfl, rfl, rfl⟩ := hA.form
              have HM4 := Lib.hid (Box.new 33 hA)
              have HQ4 : Hid (∀ r, (Value.slice p L.length cap).ownBlock = some r → (Value.slice qg4 T.gens.length dg4).ownBlock ≠ some r) := Lib.hid (fun r hr => hap r (by have := (HL.out.lt r hr).2; have := HBV3.out.size; omega) (HQ.out r hr))
              have HBr4 : Hid (Below wr.heap.size wr w4) := Lib.hid (HBV3.out.trans (hb.mono HBV3.out.size))
              have HN4 := Lib.hid (HN3.out.below hb)
              clear hA hb hap HN3 HY3 e0 e1 e2 f0 f1 f2
              go_upto_region 14 with fail
              obtain ⟨V4, hV⟩ : ∃ V, V = w4.alloc (.cells #[.slice qg4 T.gens.length dg4, .slice qu4 T.used.length du4, .slice qf4 T.free.length df4] 33) := ⟨_, rfl⟩
              have hal : Below w4.heap.size w4 V4 := by subst hV; exact (Below.refl _ _).alloc (Nat.le_refl _) _
              have HBV4 : Hid (Below wr.heap.size wr V4) := Lib.hid (HBr4.out.trans (hal.mono HBr4.out.size))
              have HN5 := Lib.hid (HN4.out.below hal)
              rw [← hV] at HM4 ⊢
              clear hV hal HN4
              have HX4 := Lib.hid (HX.out.below HBV4.out)
              have HCV : Hid (∀ w', Below V4.heap.size V4 w' → w'.cell? ⟨w3.heap.size, 0, none⟩ = some (.slice pg3 T.gens.length cg3) ∧ w'.cell? ⟨w3.heap.size, 1, none⟩ = some (.slice pu3 T.used.length cu3) ∧ w'.cell? ⟨w3.heap.size, 2, none⟩ = some (.slice pf3 T.free.length cf3) ∧ w'.cell? ⟨k, 0, none⟩ = some (.slice pg F.gens.length cg) ∧ w'.cell? ⟨k, 1, none⟩ = some (.slice pu F.used.length cu) ∧ w'.cell? ⟨k, 2, none⟩ = some (.slice pf F.free.length cf)) := Lib.hid (fun w' hb => by
                obtain ⟨c0, c1, c2, _, _, _⟩ := block3 (HN5.out.below hb).blk
                obtain ⟨d0, d1, d2, _, _, _⟩ := block3 (HX4.out.below hb).blk
                exact ⟨c0, c1, c2, d0, d1, d2⟩)
              have hHH : (H != H) = false := by simp
              go_region_held3 (fun w' => w'.cell? ⟨w3.heap.size, 0, none⟩ = some (.slice pg3 T.gens.length cg3) ∧ w'.cell? ⟨w3.heap.size, 1, none⟩ = some (.slice pu3 T.used.length cu3) ∧ w'.cell? ⟨w3.heap.size, 2, none⟩ = some (.slice pf3 T.free.length cf3) ∧ w'.cell? ⟨k, 0, none⟩ = some (.slice pg F.gens.length cg) ∧ w'.cell? ⟨k, 1, none⟩ = some (.slice pu F.used.length cu) ∧ w'.cell? ⟨k, 2, none⟩ = some (.slice pf F.free.length cf))
                (first
                  | exact HCV.out _ (Below.refl _ _).drew
                  | exact HCV.out _ HB7.out
                  | exact HCV.out _ HB6.out
                  | exact HCV.out _ HB5.out)
                (first
                  | (go_at_call 12
                     refine (its_any _ _ _ T 0 _ HN5.out.ar.drew).mono ?_
                     rintro e w5 ⟨rfl, hb5⟩
                     have HB5 : Hid (Below V4.heap.size V4 w5) := Lib.hid ((Below.refl _ _).drew.trans hb5)
                     clear hb5)
                  | (go_at_call 12
                     refine (its_any _ _ _ F 0 _ (HX4.out.ar.below HB5.out)).mono ?_
                     rintro e w6 ⟨rfl, hb6⟩
                     have HB6 : Hid (Below V4.heap.size V4 w6) := Lib.hid (HB5.out.trans (hb6.mono HB5.out.size))
                     clear hb6)
                  | (go_at_call 11
                     refine (sameO HTe.out HOK.out (HN5.out.ar.below HB6.out) (HX4.out.ar.below HB6.out)).mono ?_
                     rw [HSB.out]
                     rintro e w7 ⟨rfl, hb7⟩
                     have HB7 : Hid (Below V4.heap.size V4 w7) := Lib.hid (HB6.out.trans (hb7.mono HB6.out.size))
                     clear hb7))
              clear hHH
              have HX7 := Lib.hid (HX4.out.below HB7.out)
              have HN7 := Lib.hid (HN5.out.below HB7.out)
              have HM7 := Lib.hid (HM4.out.below HB7.out)
              have HBr7 : Hid (Below wr.heap.size wr w7) := Lib.hid (HBV4.out.trans (HB7.out.mono HBV4.out.size))
              have HY7 := Lib.hid (HY.out.below HBr7.out)
              have HL7 := Lib.hid (own_below HL.out HBr7.out)
              have HBw7 : Hid (Below w.heap.size w w7) := Lib.hid (HB.out.trans (HBr7.out.mono HB.out.size))
              have hkk : k ≠ k' := blk_ne HX7.out.blk HY7.out.blk (by decide)
              have hku : k ≠ w4.heap.size := blk_ne HX7.out.blk HM7.out.blk (by decide)
              obtain ⟨c0, c1, c2, z0, z1, z2⟩ := block3 HX7.out.blk
              obtain ⟨x0, x1, x2, _, _, _⟩ := block3 HN7.out.blk
              go_upto_region 17 with fail
              obtain ⟨U1, hU⟩ : ∃ U, U = ((w7.setCell ⟨k, 0, none⟩ (.slice pg3 T.gens.length cg3)).setCell ⟨k, 1, none⟩ (.slice pu3 T.used.length cu3)).setCell ⟨k, 2, none⟩ (.slice pf3 T.free.length cf3) := ⟨_, rfl⟩
              have HXU : Hid (Box 29 U1 k pg3 cg3 pu3 cu3 pf3 cf3 T) := Lib.hid (by rw [hU]; exact Box.set HX7.out.blk HN7.out.ar (by decide) (by decide) (by decide))
              have HYU : Hid (Box 33 U1 k' qg dg qu du qf df F) := Lib.hid (by
                rw [hU]
                exact ⟨by rw [heap_set_other _ _ _ hkk, heap_set_other _ _ _ hkk, heap_set_other _ _ _ hkk]; exact HY7.out.blk, HY7.out.ar.set3t HX7.out.blk (by decide) (by decide) (by decide) _ _ _⟩)
              have HMU : Hid (Box 33 U1 w4.heap.size qg4 dg4 qu4 du4 qf4 df4 T) := Lib.hid (by
                rw [hU]
                exact ⟨by rw [heap_set_other _ _ _ hku, heap_set_other _ _ _ hku, heap_set_other _ _ _ hku]; exact HM7.out.blk, HM7.out.ar.set3t HX7.out.blk (by decide) (by decide) (by decide) _ _ _⟩)
              have HLU : Hid (U1.ownsRow w.heap.size 23 1 (.slice p L.length cap) L.length (gvs L)) := Lib.hid (by
                rw [hU]
                have hne := own_apart HL7.out HX7.out.blk (by decide)
                exact ownsRow_setCell_other (ownsRow_setCell_other (ownsRow_setCell_other HL7.out hne _) hne _) hne _)
              have HBU : Hid (Below w.heap.size w U1) := Lib.hid (by rw [hU]; exact below_set3 HBw7.out hsz _ _ _)
              rw [← hU]
              clear hU c0 c1 c2 z0 z1 z2 x0 x1 x2
              obtain ⟨c0, c1, c2, z0, z1, z2⟩ := block3 HYU.out.blk
              obtain ⟨x0, x1, x2, _, _, _⟩ := block3 HMU.out.blk
              go_upto_region 18 with fail
              obtain ⟨U2, hU⟩ : ∃ U, U = ((U1.setCell ⟨k', 0, none⟩ (.slice qg4 T.gens.length dg4)).setCell ⟨k', 1, none⟩ (.slice qu4 T.used.length du4)).setCell ⟨k', 2, none⟩ (.slice qf4 T.free.length df4) := ⟨_, rfl⟩
              have HXW : Hid (Box 29 U2 k pg3 cg3 pu3 cu3 pf3 cf3 T) := Lib.hid (by
                rw [hU]
                exact ⟨by rw [heap_set_other _ _ _ (Ne.symm hkk), heap_set_other _ _ _ (Ne.symm hkk), heap_set_other _ _ _ (Ne.symm hkk)]; exact HXU.out.blk, HXU.out.ar.set3t HYU.out.blk (by decide) (by decide) (by decide) _ _ _⟩)
              have HYW : Hid (Box 33 U2 k' qg4 dg4 qu4 du4 qf4 df4 T) := Lib.hid (by rw [hU]; exact Box.set HYU.out.blk HMU.out.ar (by decide) (by decide) (by decide))
              have HLW : Hid (U2.ownsRow w.heap.size 23 1 (.slice p L.length cap) L.length (gvs L)) := Lib.hid (by
                rw [hU]
                have hne := own_apart HLU.out HYU.out.blk (by decide)
                exact ownsRow_setCell_other (ownsRow_setCell_other (ownsRow_setCell_other HLU.out hne _) hne _) hne _)
              have HBW : Hid (Below w.heap.size w U2) := Lib.hid (by rw [hU]; exact below_set3 HBU.out hsz' _ _ _)
              have HP3 : Hid (∀ r, (Value.slice p L.length cap).ownBlock = some r → (Value.slice pg3 T.gens.length cg3).ownBlock ≠ some r) := Lib.hid (fun r hr he => by
                have h1 := HG3.out r he
                have h2 := (HL.out.lt r hr).2
                omega)
              rw [← hU]
              clear hU c0 c1 c2 z0 z1 z2 x0 x1 x2
              have hs2 := HBW.out.size
              go_wp2_with (at_builtin; refine wpList_append_own_at _ rfl _ _ 25 rfl w.heap.size 23 i0 (.int .u64 0) 1 8 Try.underlying25 hI.out hZ0.out hZ1.out hZ2.out rfl (by decide) _ _ _ rfl (HLW.out.alloc _) ⟨U2.heap.size, 0, none⟩ 1 1 [.int .u64 H] rfl rfl (cell_one_new _ _ _) (by simp [Value.oneCell']) (by unfold maxLen; omega) (by omega) (by simp; omega) ?_; intro v' w8 hown' hgrow _ hat; obtain ⟨g', cap', rfl⟩ := own_succ hown'; have HO8 : Hid (w8.ownsRow w.heap.size 23 1 (.slice (some ⟨g', 0, none⟩) (L.length + 1) cap') (L.length + 1) (gvs L ++ [.int .u64 H])) := Lib.hid hown'; have HG8 : Hid ((U2.alloc (.cells #[.int .u64 H] 23)).grownBy w8 (Value.slice p L.length cap).ownBlock) := Lib.hid hgrow; have HA8 : Hid ((Value.slice (some ⟨g', 0, none⟩) (L.length + 1) cap').ownBlock = (Value.slice p L.length cap).ownBlock ∨ (Value.slice (some ⟨g', 0, none⟩) (L.length + 1) cap').ownBlock = some (U2.alloc (.cells #[.int .u64 H] 23)).heap.size) := Lib.hid hat; clear hown' hgrow hat)
              have hal5 : Below U2.heap.size U2 (U2.alloc (.cells #[.int .u64 H] 23)) := (Below.refl _ _).alloc (Nat.le_refl _) _
              have hXk := HXW.out.below hal5
              have hYk := HYW.out.below hal5
              have hLk := own_below HLW.out hal5
              have HX8 : Hid (Box 29 w8 k pg3 cg3 pu3 cu3 pf3 cf3 T) := Lib.hid (hXk.grown2 HG8.out (Ne.symm (own_apart hLk hXk.blk (by decide))) (apart_or HP3.out) (own_other hXk.ar.u hLk (by decide)) (own_other hXk.ar.f hLk (by decide)))
              have HY8 : Hid (Box 33 w8 k' qg4 dg4 qu4 du4 qf4 df4 T) := Lib.hid (hYk.grown2 HG8.out (Ne.symm (own_apart hLk hYk.blk (by decide))) (apart_or HQ4.out) (own_other hYk.ar.u hLk (by decide)) (own_other hYk.ar.f hLk (by decide)))
              have HL8 : Hid (w8.ownsRow w.heap.size 23 1 (.slice (some ⟨g', 0, none⟩) (L ++ [H]).length cap') (L ++ [H]).length (gvs (L ++ [H]))) := Lib.hid (by
                have := HO8.out
                simp only [List.length_append, List.length_cons, List.length_nil, Nat.zero_add, gvs, List.map_append, List.map_cons, List.map_nil] at this ⊢
                exact this)
              have HB8 : Hid (Below w.heap.size w w8) := Lib.hid ((HBW.out.alloc HBW.out.size _).grown HG8.out (HBW.out.alloc HBW.out.size _).size (fun r e => (HLW.out.lt r e).1))
              have hnew : ∀ (vg : Value), (∀ r, (Value.slice p L.length cap).ownBlock = some r → vg.ownBlock ≠ some r) → (∀ r, vg.ownBlock = some r → r < U2.heap.size) → ∀ r, (Value.slice (some ⟨g', 0, none⟩) (L ++ [H]).length cap').ownBlock = some r → vg.ownBlock ≠ some r := fun vg h1 h2 r hr he => by
                have hr' : (Value.slice (some ⟨g', 0, none⟩) (L.length + 1) cap').ownBlock = some r := own_len hr
                rcases HA8.out with e | e
                · exact h1 r (e.symm.trans hr') he
                · have h3 := h2 r he
                  rw [hr'] at e
                  simp at e
                  omega
              have HP8 := Lib.hid (hnew _ HP3.out (fun r he => (HXW.out.ar.g.lt r he).2))
              have HQ8 := Lib.hid (hnew _ HQ4.out (fun r he => (HYW.out.ar.g.lt r he).2))
              have HLB8 : Hid (∀ x ∈ L ++ [H], 0 ≤ x ∧ x ≤ 18446744073709551615) := Lib.hid (fun x hx => by
                rcases List.mem_append.1 hx with hx | hx
                · exact HLB.out x hx
                · have : x = H := by simpa using hx
                  subst this
                  exact ⟨hH0, hH1⟩)
              clear hnew hXk hYk hLk hal5
              go_meet
              exact ⟨T, pg3, cg3, pu3, cu3, pf3, cf3, qg4, dg4, qu4, du4, qf4, df4, L ++ [H], some ⟨g', 0, none⟩, cap', by simp, by simp, by simp; omega, HTe, HX8, HY8, HL8, HLB8, HP8, HQ8, HB8⟩
            · obtain ⟨T, H, HT1, HT2, HTe, HSB, hH0, hH1⟩ : ∃ (T : St) (H : Int), Hid (Calls Try.prog 13 #[.agg #[.slice pg F.gens.length cg, .slice pu F.used.length cu, .slice pf F.free.length cf]] wr (GivesT T H 0 wr)) ∧ Hid (∀ W, Below wr.heap.size wr W → Calls Try.prog 14 #[.agg #[.slice qg F.gens.length dg, .slice qu F.used.length du, .slice qf F.free.length df]] W (GivesR (.slice qg F.gens.length dg) T H 0 W)) ∧ Hid (Ok n (1 + ((q + 1 : Nat) : Int)) T) ∧ Hid (sameB T F = false) ∧ 0 ≤ H ∧ H ≤ 18446744073709551615 := by
                obtain ⟨fr, i, hfr, hin⟩ := HOK.out.last hfe
                have hO := HOK.out
                have hgb := hO.gen hin
                have hsm := hO.small
                exact ⟨F.tk i, hd i (F.gens.getD i 0), Lib.hid (takeO hO (by omega) HX.out.ar hfr hin), Lib.hid (fun W hb => rtakeO hO (by omega) (HY.out.ar.below hb) hfr hin), Lib.hid ((hO.tk hfr).mono (by omega)), Lib.hid (sameB_tk hO hfr), by unfold hd; omega, by unfold hd; omega⟩
              clear hfe
              go_wp2_with fail
              refine HT1.out.mono ?_
              rintro e w3 ⟨v1, v2, v3, rfl, hA, hb⟩
              obtain ⟨pg3, cg3, pu3, cu3, pf3, cf3, rfl, rfl, rfl⟩ := hA.form
              have HN3 := Lib.hid (Box.new 29 hA)
              have HG3 : Hid (∀ r, (Value.slice pg3 T.gens.length cg3).ownBlock = some r → wr.heap.size ≤ r) := Lib.hid (fun r he => (hA.g.lt r he).1)
              have HBr3 := Lib.hid hb
              clear hA hb c0 c1 c2 z0 z1 z2 e0 e1 e2 f0 f1 f2
              go_upto_region 13 with fail
              obtain ⟨V3, hV⟩ : ∃ V, V = w3.alloc (.cells #[.slice pg3 T.gens.length cg3, .slice pu3 T.used.length cu3, .slice pf3 T.free.length cf3] 29) := ⟨_, rfl⟩
              have hal : Below w3.heap.size w3 V3 := by subst hV; exact (Below.refl _ _).alloc (Nat.le_refl _) _
              have HBV3 : Hid (Below wr.heap.size wr V3) := Lib.hid (HBr3.out.trans (hal.mono HBr3.out.size))
              rw [← hV] at HN3 ⊢
              clear hV hal
              have HY3 := Lib.hid (HY.out.below HBV3.out)
              obtain ⟨e0, e1, e2, f0, f1, f2⟩ := block3 HY3.out.blk
              go_wp2_with fail
              refine (HT2.out _ HBV3.out).mono ?_
              rintro e w4 ⟨v1, v2, v3, rfl, hA, hap, hb⟩
              obtain ⟨qg4, dg4, qu4, du4, qf4, df4, rfl, rfl, rfl⟩ := hA.form
              have HM4 := Lib.hid (Box.new 33 hA)
              have HQ4 : Hid (∀ r, (Value.slice p L.length cap).ownBlock = some r → (Value.slice qg4 T.gens.length dg4).ownBlock ≠ some r) := Lib.hid (fun r hr => hap r (by have := (HL.out.lt r hr).2; have := HBV3.out.size; omega) (HQ.out r hr))
              have HBr4 : Hid (Below wr.heap.size wr w4) := Lib.hid (HBV3.out.trans (hb.mono HBV3.out.size))
              have HN4 := Lib.hid (HN3.out.below hb)
              clear hA hb hap HN3 HY3 e0 e1 e2 f0 f1 f2
              go_upto_region 14 with fail
              obtain ⟨V4, hV⟩ : ∃ V, V = w4.alloc (.cells #[.slice qg4 T.gens.length dg4, .slice qu4 T.used.length du4, .slice qf4 T.free.length df4] 33) := ⟨_, rfl⟩
              have hal : Below w4.heap.size w4 V4 := by subst hV; exact (Below.refl _ _).alloc (Nat.le_refl _) _
              have HBV4 : Hid (Below wr.heap.size wr V4) := Lib.hid (HBr4.out.trans (hal.mono HBr4.out.size))
              have HN5 := Lib.hid (HN4.out.below hal)
              rw [← hV] at HM4 ⊢
              clear hV hal HN4
              have HX4 := Lib.hid (HX.out.below HBV4.out)
              have HCV : Hid (∀ w', Below V4.heap.size V4 w' → w'.cell? ⟨w3.heap.size, 0, none⟩ = some (.slice pg3 T.gens.length cg3) ∧ w'.cell? ⟨w3.heap.size, 1, none⟩ = some (.slice pu3 T.used.length cu3) ∧ w'.cell? ⟨w3.heap.size, 2, none⟩ = some (.slice pf3 T.free.length cf3) ∧ w'.cell? ⟨k, 0, none⟩ = some (.slice pg F.gens.length cg) ∧ w'.cell? ⟨k, 1, none⟩ = some (.slice pu F.used.length cu) ∧ w'.cell? ⟨k, 2, none⟩ = some (.slice pf F.free.length cf)) := Lib.hid (fun w' hb => by
                obtain ⟨c0, c1, c2, _, _, _⟩ := block3 (HN5.out.below hb).blk
                obtain ⟨d0, d1, d2, _, _, _⟩ := block3 (HX4.out.below hb).blk
                exact ⟨c0, c1, c2, d0, d1, d2⟩)
              have hHH : (H != H) = false := by simp
              go_region_held3 (fun w' => w'.cell? ⟨w3.heap.size, 0, none⟩ = some (.slice pg3 T.gens.length cg3) ∧ w'.cell? ⟨w3.heap.size, 1, none⟩ = some (.slice pu3 T.used.length cu3) ∧ w'.cell? ⟨w3.heap.size, 2, none⟩ = some (.slice pf3 T.free.length cf3) ∧ w'.cell? ⟨k, 0, none⟩ = some (.slice pg F.gens.length cg) ∧ w'.cell? ⟨k, 1, none⟩ = some (.slice pu F.used.length cu) ∧ w'.cell? ⟨k, 2, none⟩ = some (.slice pf F.free.length cf))
                (first
                  | exact HCV.out _ (Below.refl _ _).drew
                  | exact HCV.out _ HB7.out
                  | exact HCV.out _ HB6.out
                  | exact HCV.out _ HB5.out)
                (first
                  | (go_at_call 12
                     refine (its_any _ _ _ T 0 _ HN5.out.ar.drew).mono ?_
                     rintro e w5 ⟨rfl, hb5⟩
                     have HB5 : Hid (Below V4.heap.size V4 w5) := Lib.hid ((Below.refl _ _).drew.trans hb5)
                     clear hb5)
                  | (go_at_call 12
                     refine (its_any _ _ _ F 0 _ (HX4.out.ar.below HB5.out)).mono ?_
                     rintro e w6 ⟨rfl, hb6⟩
                     have HB6 : Hid (Below V4.heap.size V4 w6) := Lib.hid (HB5.out.trans (hb6.mono HB5.out.size))
                     clear hb6)
                  | (go_at_call 11
                     refine (sameO HTe.out HOK.out (HN5.out.ar.below HB6.out) (HX4.out.ar.below HB6.out)).mono ?_
                     rw [HSB.out]
                     rintro e w7 ⟨rfl, hb7⟩
                     have HB7 : Hid (Below V4.heap.size V4 w7) := Lib.hid (HB6.out.trans (hb7.mono HB6.out.size))
                     clear hb7))
              clear hHH
              have HX7 := Lib.hid (HX4.out.below HB7.out)
              have HN7 := Lib.hid (HN5.out.below HB7.out)
              have HM7 := Lib.hid (HM4.out.below HB7.out)
              have HBr7 : Hid (Below wr.heap.size wr w7) := Lib.hid (HBV4.out.trans (HB7.out.mono HBV4.out.size))
              have HY7 := Lib.hid (HY.out.below HBr7.out)
              have HL7 := Lib.hid (own_below HL.out HBr7.out)
              have HBw7 : Hid (Below w.heap.size w w7) := Lib.hid (HB.out.trans (HBr7.out.mono HB.out.size))
              have hkk : k ≠ k' := blk_ne HX7.out.blk HY7.out.blk (by decide)
              have hku : k ≠ w4.heap.size := blk_ne HX7.out.blk HM7.out.blk (by decide)
              obtain ⟨c0, c1, c2, z0, z1, z2⟩ := block3 HX7.out.blk
              obtain ⟨x0, x1, x2, _, _, _⟩ := block3 HN7.out.blk
              go_upto_region 17 with fail
              obtain ⟨U1, hU⟩ : ∃ U, U = ((w7.setCell ⟨k, 0, none⟩ (.slice pg3 T.gens.length cg3)).setCell ⟨k, 1, none⟩ (.slice pu3 T.used.length cu3)).setCell ⟨k, 2, none⟩ (.slice pf3 T.free.length cf3) := ⟨_, rfl⟩
              have HXU : Hid (Box 29 U1 k pg3 cg3 pu3 cu3 pf3 cf3 T) := Lib.hid (by rw [hU]; exact Box.set HX7.out.blk HN7.out.ar (by decide) (by decide) (by decide))
              have HYU : Hid (Box 33 U1 k' qg dg qu du qf df F) := Lib.hid (by
                rw [hU]
                exact ⟨by rw [heap_set_other _ _ _ hkk, heap_set_other _ _ _ hkk, heap_set_other _ _ _ hkk]; exact HY7.out.blk, HY7.out.ar.set3t HX7.out.blk (by decide) (by decide) (by decide) _ _ _⟩)
              have HMU : Hid (Box 33 U1 w4.heap.size qg4 dg4 qu4 du4 qf4 df4 T) := Lib.hid (by
                rw [hU]
                exact ⟨by rw [heap_set_other _ _ _ hku, heap_set_other _ _ _ hku, heap_set_other _ _ _ hku]; exact HM7.out.blk, HM7.out.ar.set3t HX7.out.blk (by decide) (by decide) (by decide) _ _ _⟩)
              have HLU : Hid (U1.ownsRow w.heap.size 23 1 (.slice p L.length cap) L.length (gvs L)) := Lib.hid (by
                rw [hU]
                have hne := own_apart HL7.out HX7.out.blk (by decide)
                exact ownsRow_setCell_other (ownsRow_setCell_other (ownsRow_setCell_other HL7.out hne _) hne _) hne _)
              have HBU : Hid (Below w.heap.size w U1) := Lib.hid (by rw [hU]; exact below_set3 HBw7.out hsz _ _ _)
              rw [← hU]
              clear hU c0 c1 c2 z0 z1 z2 x0 x1 x2
              obtain ⟨c0, c1, c2, z0, z1, z2⟩ := block3 HYU.out.blk
              obtain ⟨x0, x1, x2, _, _, _⟩ := block3 HMU.out.blk
              go_upto_region 18 with fail
              obtain ⟨U2, hU⟩ : ∃ U, U = ((U1.setCell ⟨k', 0, none⟩ (.slice qg4 T.gens.length dg4)).setCell ⟨k', 1, none⟩ (.slice qu4 T.used.length du4)).setCell ⟨k', 2, none⟩ (.slice qf4 T.free.length df4) := ⟨_, rfl⟩
              have HXW : Hid (Box 29 U2 k pg3 cg3 pu3 cu3 pf3 cf3 T) := Lib.hid (by
                rw [hU]
                exact ⟨by rw [heap_set_other _ _ _ (Ne.symm hkk), heap_set_other _ _ _ (Ne.symm hkk), heap_set_other _ _ _ (Ne.symm hkk)]; exact HXU.out.blk, HXU.out.ar.set3t HYU.out.blk (by decide) (by decide) (by decide) _ _ _⟩)
              have HYW : Hid (Box 33 U2 k' qg4 dg4 qu4 du4 qf4 df4 T) := Lib.hid (by rw [hU]; exact Box.set HYU.out.blk HMU.out.ar (by decide) (by decide) (by decide))
              have HLW : Hid (U2.ownsRow w.heap.size 23 1 (.slice p L.length cap) L.length (gvs L)) := Lib.hid (by
                rw [hU]
                have hne := own_apart HLU.out HYU.out.blk (by decide)
                exact ownsRow_setCell_other (ownsRow_setCell_other (ownsRow_setCell_other HLU.out hne _) hne _) hne _)
              have HBW : Hid (Below w.heap.size w U2) := Lib.hid (by rw [hU]; exact below_set3 HBU.out hsz' _ _ _)
              have HP3 : Hid (∀ r, (Value.slice p L.length cap).ownBlock = some r → (Value.slice pg3 T.gens.length cg3).ownBlock ≠ some r) := Lib.hid (fun r hr he => by
                have h1 := HG3.out r he
                have h2 := (HL.out.lt r hr).2
                omega)
              rw [← hU]
              clear hU c0 c1 c2 z0 z1 z2 x0 x1 x2
              have hs2 := HBW.out.size
              go_wp2_with (at_builtin; refine wpList_append_own_at _ rfl _ _ 25 rfl w.heap.size 23 i0 (.int .u64 0) 1 8 Try.underlying25 hI.out hZ0.out hZ1.out hZ2.out rfl (by decide) _ _ _ rfl (HLW.out.alloc _) ⟨U2.heap.size, 0, none⟩ 1 1 [.int .u64 H] rfl rfl (cell_one_new _ _ _) (by simp [Value.oneCell']) (by unfold maxLen; omega) (by omega) (by simp; omega) ?_; intro v' w8 hown' hgrow _ hat; obtain ⟨g', cap', rfl⟩ := own_succ hown'; have HO8 : Hid (w8.ownsRow w.heap.size 23 1 (.slice (some ⟨g', 0, none⟩) (L.length + 1) cap') (L.length + 1) (gvs L ++ [.int .u64 H])) := Lib.hid hown'; have HG8 : Hid ((U2.alloc (.cells #[.int .u64 H] 23)).grownBy w8 (Value.slice p L.length cap).ownBlock) := Lib.hid hgrow; have HA8 : Hid ((Value.slice (some ⟨g', 0, none⟩) (L.length + 1) cap').ownBlock = (Value.slice p L.length cap).ownBlock ∨ (Value.slice (some ⟨g', 0, none⟩) (L.length + 1) cap').ownBlock = some (U2.alloc (.cells #[.int .u64 H] 23)).heap.size) := Lib.hid hat; clear hown' hgrow hat)
              have hal5 : Below U2.heap.size U2 (U2.alloc (.cells #[.int .u64 H] 23)) := (Below.refl _ _).alloc (Nat.le_refl _) _
              have hXk := HXW.out.below hal5
              have hYk := HYW.out.below hal5
              have hLk := own_below HLW.out hal5
              have HX8 : Hid (Box 29 w8 k pg3 cg3 pu3 cu3 pf3 cf3 T) := Lib.hid (hXk.grown2 HG8.out (Ne.symm (own_apart hLk hXk.blk (by decide))) (apart_or HP3.out) (own_other hXk.ar.u hLk (by decide)) (own_other hXk.ar.f hLk (by decide)))
              have HY8 : Hid (Box 33 w8 k' qg4 dg4 qu4 du4 qf4 df4 T) := Lib.hid (hYk.grown2 HG8.out (Ne.symm (own_apart hLk hYk.blk (by decide))) (apart_or HQ4.out) (own_other hYk.ar.u hLk (by decide)) (own_other hYk.ar.f hLk (by decide)))
              have HL8 : Hid (w8.ownsRow w.heap.size 23 1 (.slice (some ⟨g', 0, none⟩) (L ++ [H]).length cap') (L ++ [H]).length (gvs (L ++ [H]))) := Lib.hid (by
                have := HO8.out
                simp only [List.length_append, List.length_cons, List.length_nil, Nat.zero_add, gvs, List.map_append, List.map_cons, List.map_nil] at this ⊢
                exact this)
              have HB8 : Hid (Below w.heap.size w w8) := Lib.hid ((HBW.out.alloc HBW.out.size _).grown HG8.out (HBW.out.alloc HBW.out.size _).size (fun r e => (HLW.out.lt r e).1))
              have hnew : ∀ (vg : Value), (∀ r, (Value.slice p L.length cap).ownBlock = some r → vg.ownBlock ≠ some r) → (∀ r, vg.ownBlock = some r → r < U2.heap.size) → ∀ r, (Value.slice (some ⟨g', 0, none⟩) (L ++ [H]).length cap').ownBlock = some r → vg.ownBlock ≠ some r := fun vg h1 h2 r hr he => by
                have hr' : (Value.slice (some ⟨g', 0, none⟩) (L.length + 1) cap').ownBlock = some r := own_len hr
                rcases HA8.out with e | e
                · exact h1 r (e.symm.trans hr') he
                · have h3 := h2 r he
                  rw [hr'] at e
                  simp at e
                  omega
              have HP8 := Lib.hid (hnew _ HP3.out (fun r he => (HXW.out.ar.g.lt r he).2))
              have HQ8 := Lib.hid (hnew _ HQ4.out (fun r he => (HYW.out.ar.g.lt r he).2))
              have HLB8 : Hid (∀ x ∈ L ++ [H], 0 ≤ x ∧ x ≤ 18446744073709551615) := Lib.hid (fun x hx => by
                rcases List.mem_append.1 hx with hx | hx
                · exact HLB.out x hx
                · have : x = H := by simpa using hx
                  subst this
                  exact ⟨hH0, hH1⟩)
              clear hnew hXk hYk hLk hal5
              go_meet
              exact ⟨T, pg3, cg3, pu3, cu3, pf3, cf3, qg4, dg4, qu4, du4, qf4, df4, L ++ [H], some ⟨g', 0, none⟩, cap', by simp, by simp, by simp; omega, HTe, HX8, HY8, HL8, HLB8, HP8, HQ8, HB8⟩
          · obtain ⟨ℓ, hℓ⟩ : ∃ ℓ, L.length = ℓ := ⟨_, rfl⟩
            have hℓ0 : 0 < ℓ := by omega
            have hℓi : (0 : Int) < (ℓ : Int) := by omega
            obtain ⟨y, hy⟩ : ∃ y : Nat, IntKind.u16.wrap (x.tdiv 3) = (y : Int) := quo16 a0 a1 (by decide)
            have hyb : y ≤ 65535 := quo16_le a0 a1 (by decide) hy
            obtain ⟨j, hj⟩ : ∃ j : Nat, (y : Int) % (L.length : Int) = j := ⟨y % L.length, by omega⟩
            have hjt : (y : Int).tmod (L.length : Int) = j := by rw [Int.tmod_eq_emod_of_nonneg (by omega)]; exact hj
            have hjl : (j : Int) < (L.length : Int) := by rw [← hj]; exact Int.emod_lt_of_pos _ (by omega)
            have hjl' : j < L.length := by omega
            have hLz : (0 : Int) < (L.length : Int) := by omega
            have j0 : (0 : Int) ≤ (j : Int) := by omega
            obtain ⟨g, rfl, hgw, hgr⟩ := own_some HL.out hL0
            have ch := own_at_gen HL.out hjl'
            obtain ⟨h, hh⟩ : ∃ h, L.getD j 0 = h := ⟨_, rfl⟩
            obtain ⟨hh0, hh1⟩ := HLB.out h (by rw [← hh, getD_at 0 hjl']; exact List.getElem_mem hjl')
            rw [hh] at ch
            clear hh hℓ hℓ0 hℓi
            go_upto_region 20 with fail
            clear hj hjt hy
            rcases Bool.eq_false_or_eq_true (F.lv h) with hlv | hlv
            · obtain ⟨T, HT1, HT2, HTe, HLT⟩ : ∃ (T : St), Hid (Calls Try.prog 15 #[.agg #[.slice pg F.gens.length cg, .slice pu F.used.length cu, .slice pf F.free.length cf], .int .u64 h] wr (GivesE T 0 wr)) ∧ Hid (∀ W, Below wr.heap.size wr W → Calls Try.prog 16 #[.agg #[.slice qg F.gens.length dg, .slice qu F.used.length du, .slice qf F.free.length df], .int .u64 h] W (GivesS (.slice qg F.gens.length dg) T 0 W)) ∧ Hid (Ok n (1 + ((q + 1 : Nat) : Int)) T) ∧ Hid (T.lv h = false) := by
                have hO := HOK.out
                obtain ⟨i, hi, hin, hus, hgen⟩ := hO.live hlv
                have hgb := hO.gen hin
                exact ⟨F.gb i (h / 16777216 + 1), Lib.hid (giveO hO (by omega) HX.out.ar hh0 hh1 hlv hi), Lib.hid (fun W hb => rgiveO hO (by omega) (HY.out.ar.below hb) hh0 hh1 hlv hi), Lib.hid (hO.gb hin hus (by omega) (by omega) (by omega)), Lib.hid (lv_gb hi)⟩
              have HLF := Lib.hid hlv
              clear hlv
              go_wp2_with fail
              refine HT1.out.mono ?_
              rintro e w3 ⟨v1, v2, v3, rfl, hA, hb⟩
              obtain ⟨pg3, cg3, pu3, cu3, pf3, cf3, rfl, rfl, rfl⟩ := hA.form
              have HN3 := Lib.hid (Box.new 29 hA)
              have HG3 : Hid (∀ r, (Value.slice pg3 T.gens.length cg3).ownBlock = some r → wr.heap.size ≤ r) := Lib.hid (fun r he => (hA.g.lt r he).1)
              have HBr3 := Lib.hid hb
              clear hA hb c0 c1 c2 z0 z1 z2 e0 e1 e2 f0 f1 f2
              go_upto_region 21 with fail
              obtain ⟨V3, hV⟩ : ∃ V, V = w3.alloc (.cells #[.slice pg3 T.gens.length cg3, .slice pu3 T.used.length cu3, .slice pf3 T.free.length cf3] 29) := ⟨_, rfl⟩
              have hal : Below w3.heap.size w3 V3 := by subst hV; exact (Below.refl _ _).alloc (Nat.le_refl _) _
              have HBV3 : Hid (Below wr.heap.size wr V3) := Lib.hid (HBr3.out.trans (hal.mono HBr3.out.size))
              rw [← hV] at HN3 ⊢
              clear hV hal
              have HY3 := Lib.hid (HY.out.below HBV3.out)
              obtain ⟨e0, e1, e2, f0, f1, f2⟩ := block3 HY3.out.blk
              go_wp2_with fail
              refine (HT2.out _ HBV3.out).mono ?_
              rintro e w4 ⟨v1, v2, v3, rfl, hA, hap, hb⟩
              obtain ⟨qg4, dg4, qu4, du4, qf4, df4, rfl, rfl, rfl⟩ := hA.form
              have HM4 := Lib.hid (Box.new 33 hA)
              have HQ4 : Hid (∀ r, (Value.slice (some ⟨g, 0, none⟩) L.length cap).ownBlock = some r → (Value.slice qg4 T.gens.length dg4).ownBlock ≠ some r) := Lib.hid (fun r hr => hap r (by have := (HL.out.lt r hr).2; have := HBV3.out.size; omega) (HQ.out r hr))
              have HBr4 : Hid (Below wr.heap.size wr w4) := Lib.hid (HBV3.out.trans (hb.mono HBV3.out.size))
              have HN4 := Lib.hid (HN3.out.below hb)
              clear hA hb hap HN3 HY3 e0 e1 e2 f0 f1 f2
              go_upto_region 22 with fail
              obtain ⟨V4, hV⟩ : ∃ V, V = w4.alloc (.cells #[.slice qg4 T.gens.length dg4, .slice qu4 T.used.length du4, .slice qf4 T.free.length df4] 33) := ⟨_, rfl⟩
              have hal : Below w4.heap.size w4 V4 := by subst hV; exact (Below.refl _ _).alloc (Nat.le_refl _) _
              have HBV4 : Hid (Below wr.heap.size wr V4) := Lib.hid (HBr4.out.trans (hal.mono HBr4.out.size))
              have HN5 := Lib.hid (HN4.out.below hal)
              rw [← hV] at HM4 ⊢
              clear hV hal HN4
              have HX4 := Lib.hid (HX.out.below HBV4.out)
              obtain ⟨c0, c1, c2, z0, z1, z2⟩ := block3 HX4.out.blk
              go_wp2_with fail
              refine (liveO HOK.out HX4.out.ar hh0 hh1).mono ?_
              rw [HLF.out]
              rintro e w5 ⟨rfl, hb5⟩
              have HB5 := Lib.hid hb5
              clear hb5 c0 c1 c2 z0 z1 z2
              have HN6 := Lib.hid (HN5.out.below HB5.out)
              obtain ⟨c0, c1, c2, z0, z1, z2⟩ := block3 HN6.out.blk
              go_wp2_with fail
              refine (liveO HTe.out HN6.out.ar hh0 hh1).mono ?_
              rw [HLT.out]
              rintro e w7 ⟨rfl, hb7⟩
              have HB7 : Hid (Below V4.heap.size V4 w7) := Lib.hid (HB5.out.trans (hb7.mono HB5.out.size))
              clear hb7 c0 c1 c2 z0 z1 z2 HN6
              have HX7 := Lib.hid (HX4.out.below HB7.out)
              have HN7 := Lib.hid (HN5.out.below HB7.out)
              have HM7 := Lib.hid (HM4.out.below HB7.out)
              have HBr7 : Hid (Below wr.heap.size wr w7) := Lib.hid (HBV4.out.trans (HB7.out.mono HBV4.out.size))
              have HY7 := Lib.hid (HY.out.below HBr7.out)
              have HL7 := Lib.hid (own_below HL.out HBr7.out)
              have HBw7 : Hid (Below w.heap.size w w7) := Lib.hid (HB.out.trans (HBr7.out.mono HB.out.size))
              have hkk : k ≠ k' := blk_ne HX7.out.blk HY7.out.blk (by decide)
              have hku : k ≠ w4.heap.size := blk_ne HX7.out.blk HM7.out.blk (by decide)
              obtain ⟨c0, c1, c2, z0, z1, z2⟩ := block3 HX7.out.blk
              obtain ⟨x0, x1, x2, _, _, _⟩ := block3 HN7.out.blk
              go_upto_region 25 with fail
              obtain ⟨U1, hU⟩ : ∃ U, U = ((w7.setCell ⟨k, 0, none⟩ (.slice pg3 T.gens.length cg3)).setCell ⟨k, 1, none⟩ (.slice pu3 T.used.length cu3)).setCell ⟨k, 2, none⟩ (.slice pf3 T.free.length cf3) := ⟨_, rfl⟩
              have HXU : Hid (Box 29 U1 k pg3 cg3 pu3 cu3 pf3 cf3 T) := Lib.hid (by rw [hU]; exact Box.set HX7.out.blk HN7.out.ar (by decide) (by decide) (by decide))
              have HYU : Hid (Box 33 U1 k' qg dg qu du qf df F) := Lib.hid (by
                rw [hU]
                exact ⟨by rw [heap_set_other _ _ _ hkk, heap_set_other _ _ _ hkk, heap_set_other _ _ _ hkk]; exact HY7.out.blk, HY7.out.ar.set3t HX7.out.blk (by decide) (by decide) (by decide) _ _ _⟩)
              have HMU : Hid (Box 33 U1 w4.heap.size qg4 dg4 qu4 du4 qf4 df4 T) := Lib.hid (by
                rw [hU]
                exact ⟨by rw [heap_set_other _ _ _ hku, heap_set_other _ _ _ hku, heap_set_other _ _ _ hku]; exact HM7.out.blk, HM7.out.ar.set3t HX7.out.blk (by decide) (by decide) (by decide) _ _ _⟩)
              have HLU : Hid (U1.ownsRow w.heap.size 23 1 (.slice (some ⟨g, 0, none⟩) L.length cap) L.length (gvs L)) := Lib.hid (by
                rw [hU]
                have hne := own_apart HL7.out HX7.out.blk (by decide)
                exact ownsRow_setCell_other (ownsRow_setCell_other (ownsRow_setCell_other HL7.out hne _) hne _) hne _)
              have HBU : Hid (Below w.heap.size w U1) := Lib.hid (by rw [hU]; exact below_set3 HBw7.out hsz _ _ _)
              rw [← hU]
              clear hU c0 c1 c2 z0 z1 z2 x0 x1 x2
              obtain ⟨c0, c1, c2, z0, z1, z2⟩ := block3 HYU.out.blk
              obtain ⟨x0, x1, x2, _, _, _⟩ := block3 HMU.out.blk
              go_wp2
              obtain ⟨U2, hU⟩ : ∃ U, U = ((U1.setCell ⟨k', 0, none⟩ (.slice qg4 T.gens.length dg4)).setCell ⟨k', 1, none⟩ (.slice qu4 T.used.length du4)).setCell ⟨k', 2, none⟩ (.slice qf4 T.free.length df4) := ⟨_, rfl⟩
              have HXW : Hid (Box 29 U2 k pg3 cg3 pu3 cu3 pf3 cf3 T) := Lib.hid (by
                rw [hU]
                exact ⟨by rw [heap_set_other _ _ _ (Ne.symm hkk), heap_set_other _ _ _ (Ne.symm hkk), heap_set_other _ _ _ (Ne.symm hkk)]; exact HXU.out.blk, HXU.out.ar.set3t HYU.out.blk (by decide) (by decide) (by decide) _ _ _⟩)
              have HYW : Hid (Box 33 U2 k' qg4 dg4 qu4 du4 qf4 df4 T) := Lib.hid (by rw [hU]; exact Box.set HYU.out.blk HMU.out.ar (by decide) (by decide) (by decide))
              have HLW : Hid (U2.ownsRow w.heap.size 23 1 (.slice (some ⟨g, 0, none⟩) L.length cap) L.length (gvs L)) := Lib.hid (by
                rw [hU]
                have hne := own_apart HLU.out HYU.out.blk (by decide)
                exact ownsRow_setCell_other (ownsRow_setCell_other (ownsRow_setCell_other HLU.out hne _) hne _) hne _)
              have HBW : Hid (Below w.heap.size w U2) := Lib.hid (by rw [hU]; exact below_set3 HBU.out hsz' _ _ _)
              have HP3 : Hid (∀ r, (Value.slice (some ⟨g, 0, none⟩) L.length cap).ownBlock = some r → (Value.slice pg3 T.gens.length cg3).ownBlock ≠ some r) := Lib.hid (fun r hr he => by
                have h1 := HG3.out r he
                have h2 := (HL.out.lt r hr).2
                omega)
              rw [← hU]
              clear hU c0 c1 c2 z0 z1 z2 x0 x1 x2
              go_meet
              exact ⟨T, pg3, cg3, pu3, cu3, pf3, cf3, qg4, dg4, qu4, du4, qf4, df4, L, some ⟨g, 0, none⟩, cap, rfl, hL0, by omega, HTe, HXW, HYW, HLW, HLB, HP3, HQ4, HBW⟩
            · obtain ⟨T, HT1, HT2, HTe, HLT⟩ : ∃ (T : St), Hid (Calls Try.prog 15 #[.agg #[.slice pg F.gens.length cg, .slice pu F.used.length cu, .slice pf F.free.length cf], .int .u64 h] wr (GivesE T 30 wr)) ∧ Hid (∀ W, Below wr.heap.size wr W → Calls Try.prog 16 #[.agg #[.slice qg F.gens.length dg, .slice qu F.used.length du, .slice qf F.free.length df], .int .u64 h] W (GivesS (.slice qg F.gens.length dg) T 30 W)) ∧ Hid (Ok n (1 + ((q + 1 : Nat) : Int)) T) ∧ Hid (T.lv h = false) := ⟨F, Lib.hid (giveN HOK.out HX.out.ar hh0 hh1 hlv), Lib.hid (fun W hb => rgiveN HOK.out (HY.out.ar.below hb) hh0 hh1 hlv), Lib.hid (HOK.out.mono (by omega)), Lib.hid hlv⟩
              have HLF := Lib.hid hlv
              clear hlv
              go_wp2_with fail
              refine HT1.out.mono ?_
              rintro e w3 ⟨v1, v2, v3, rfl, hA, hb⟩
              obtain ⟨pg3, cg3, pu3, cu3, pf3, cf3, rfl, rfl, rfl⟩ := hA.form
              have HN3 := Lib.hid (Box.new 29 hA)
              have HG3 : Hid (∀ r, (Value.slice pg3 T.gens.length cg3).ownBlock = some r → wr.heap.size ≤ r) := Lib.hid (fun r he => (hA.g.lt r he).1)
              have HBr3 := Lib.hid hb
              clear hA hb c0 c1 c2 z0 z1 z2 e0 e1 e2 f0 f1 f2
              go_upto_region 21 with fail
              obtain ⟨V3, hV⟩ : ∃ V, V = w3.alloc (.cells #[.slice pg3 T.gens.length cg3, .slice pu3 T.used.length cu3, .slice pf3 T.free.length cf3] 29) := ⟨_, rfl⟩
              have hal : Below w3.heap.size w3 V3 := by subst hV; exact (Below.refl _ _).alloc (Nat.le_refl _) _
              have HBV3 : Hid (Below wr.heap.size wr V3) := Lib.hid (HBr3.out.trans (hal.mono HBr3.out.size))
              rw [← hV] at HN3 ⊢
              clear hV hal
              have HY3 := Lib.hid (HY.out.below HBV3.out)
              obtain ⟨e0, e1, e2, f0, f1, f2⟩ := block3 HY3.out.blk
              go_wp2_with fail
              refine (HT2.out _ HBV3.out).mono ?_
              rintro e w4 ⟨v1, v2, v3, rfl, hA, hap, hb⟩
              obtain ⟨qg4, dg4, qu4, du4, qf4, df4, rfl, rfl, rfl⟩ := hA.form
              have HM4 := Lib.hid (Box.new 33 hA)
              have HQ4 : Hid (∀ r, (Value.slice (some ⟨g, 0, none⟩) L.length cap).ownBlock = some r → (Value.slice qg4 T.gens.length dg4).ownBlock ≠ some r) := Lib.hid (fun r hr => hap r (by have := (HL.out.lt r hr).2; have := HBV3.out.size; omega) (HQ.out r hr))
              have HBr4 : Hid (Below wr.heap.size wr w4) := Lib.hid (HBV3.out.trans (hb.mono HBV3.out.size))
              have HN4 := Lib.hid (HN3.out.below hb)
              clear hA hb hap HN3 HY3 e0 e1 e2 f0 f1 f2
              go_upto_region 22 with fail
              obtain ⟨V4, hV⟩ : ∃ V, V = w4.alloc (.cells #[.slice qg4 T.gens.length dg4, .slice qu4 T.used.length du4, .slice qf4 T.free.length df4] 33) := ⟨_, rfl⟩
              have hal : Below w4.heap.size w4 V4 := by subst hV; exact (Below.refl _ _).alloc (Nat.le_refl _) _
              have HBV4 : Hid (Below wr.heap.size wr V4) := Lib.hid (HBr4.out.trans (hal.mono HBr4.out.size))
              have HN5 := Lib.hid (HN4.out.below hal)
              rw [← hV] at HM4 ⊢
              clear hV hal HN4
              have HX4 := Lib.hid (HX.out.below HBV4.out)
              obtain ⟨c0, c1, c2, z0, z1, z2⟩ := block3 HX4.out.blk
              go_wp2_with fail
              refine (liveO HOK.out HX4.out.ar hh0 hh1).mono ?_
              rw [HLF.out]
              rintro e w5 ⟨rfl, hb5⟩
              have HB5 := Lib.hid hb5
              clear hb5 c0 c1 c2 z0 z1 z2
              have HN6 := Lib.hid (HN5.out.below HB5.out)
              obtain ⟨c0, c1, c2, z0, z1, z2⟩ := block3 HN6.out.blk
              go_wp2_with fail
              refine (liveO HTe.out HN6.out.ar hh0 hh1).mono ?_
              rw [HLT.out]
              rintro e w7 ⟨rfl, hb7⟩
              have HB7 : Hid (Below V4.heap.size V4 w7) := Lib.hid (HB5.out.trans (hb7.mono HB5.out.size))
              clear hb7 c0 c1 c2 z0 z1 z2 HN6
              have HX7 := Lib.hid (HX4.out.below HB7.out)
              have HN7 := Lib.hid (HN5.out.below HB7.out)
              have HM7 := Lib.hid (HM4.out.below HB7.out)
              have HBr7 : Hid (Below wr.heap.size wr w7) := Lib.hid (HBV4.out.trans (HB7.out.mono HBV4.out.size))
              have HY7 := Lib.hid (HY.out.below HBr7.out)
              have HL7 := Lib.hid (own_below HL.out HBr7.out)
              have HBw7 : Hid (Below w.heap.size w w7) := Lib.hid (HB.out.trans (HBr7.out.mono HB.out.size))
              have hkk : k ≠ k' := blk_ne HX7.out.blk HY7.out.blk (by decide)
              have hku : k ≠ w4.heap.size := blk_ne HX7.out.blk HM7.out.blk (by decide)
              obtain ⟨c0, c1, c2, z0, z1, z2⟩ := block3 HX7.out.blk
              obtain ⟨x0, x1, x2, _, _, _⟩ := block3 HN7.out.blk
              go_upto_region 25 with fail
              obtain ⟨U1, hU⟩ : ∃ U, U = ((w7.setCell ⟨k, 0, none⟩ (.slice pg3 T.gens.length cg3)).setCell ⟨k, 1, none⟩ (.slice pu3 T.used.length cu3)).setCell ⟨k, 2, none⟩ (.slice pf3 T.free.length cf3) := ⟨_, rfl⟩
              have HXU : Hid (Box 29 U1 k pg3 cg3 pu3 cu3 pf3 cf3 T) := Lib.hid (by rw [hU]; exact Box.set HX7.out.blk HN7.out.ar (by decide) (by decide) (by decide))
              have HYU : Hid (Box 33 U1 k' qg dg qu du qf df F) := Lib.hid (by
                rw [hU]
                exact ⟨by rw [heap_set_other _ _ _ hkk, heap_set_other _ _ _ hkk, heap_set_other _ _ _ hkk]; exact HY7.out.blk, HY7.out.ar.set3t HX7.out.blk (by decide) (by decide) (by decide) _ _ _⟩)
              have HMU : Hid (Box 33 U1 w4.heap.size qg4 dg4 qu4 du4 qf4 df4 T) := Lib.hid (by
                rw [hU]
                exact ⟨by rw [heap_set_other _ _ _ hku, heap_set_other _ _ _ hku, heap_set_other _ _ _ hku]; exact HM7.out.blk, HM7.out.ar.set3t HX7.out.blk (by decide) (by decide) (by decide) _ _ _⟩)
              have HLU : Hid (U1.ownsRow w.heap.size 23 1 (.slice (some ⟨g, 0, none⟩) L.length cap) L.length (gvs L)) := Lib.hid (by
                rw [hU]
                have hne := own_apart HL7.out HX7.out.blk (by decide)
                exact ownsRow_setCell_other (ownsRow_setCell_other (ownsRow_setCell_other HL7.out hne _) hne _) hne _)
              have HBU : Hid (Below w.heap.size w U1) := Lib.hid (by rw [hU]; exact below_set3 HBw7.out hsz _ _ _)
              rw [← hU]
              clear hU c0 c1 c2 z0 z1 z2 x0 x1 x2
              obtain ⟨c0, c1, c2, z0, z1, z2⟩ := block3 HYU.out.blk
              obtain ⟨x0, x1, x2, _, _, _⟩ := block3 HMU.out.blk
              go_wp2
              obtain ⟨U2, hU⟩ : ∃ U, U = ((U1.setCell ⟨k', 0, none⟩ (.slice qg4 T.gens.length dg4)).setCell ⟨k', 1, none⟩ (.slice qu4 T.used.length du4)).setCell ⟨k', 2, none⟩ (.slice qf4 T.free.length df4) := ⟨_, rfl⟩
              have HXW : Hid (Box 29 U2 k pg3 cg3 pu3 cu3 pf3 cf3 T) := Lib.hid (by
                rw [hU]
                exact ⟨by rw [heap_set_other _ _ _ (Ne.symm hkk), heap_set_other _ _ _ (Ne.symm hkk), heap_set_other _ _ _ (Ne.symm hkk)]; exact HXU.out.blk, HXU.out.ar.set3t HYU.out.blk (by decide) (by decide) (by decide) _ _ _⟩)
              have HYW : Hid (Box 33 U2 k' qg4 dg4 qu4 du4 qf4 df4 T) := Lib.hid (by rw [hU]; exact Box.set HYU.out.blk HMU.out.ar (by decide) (by decide) (by decide))
              have HLW : Hid (U2.ownsRow w.heap.size 23 1 (.slice (some ⟨g, 0, none⟩) L.length cap) L.length (gvs L)) := Lib.hid (by
                rw [hU]
                have hne := own_apart HLU.out HYU.out.blk (by decide)
                exact ownsRow_setCell_other (ownsRow_setCell_other (ownsRow_setCell_other HLU.out hne _) hne _) hne _)
              have HBW : Hid (Below w.heap.size w U2) := Lib.hid (by rw [hU]; exact below_set3 HBU.out hsz' _ _ _)
              have HP3 : Hid (∀ r, (Value.slice (some ⟨g, 0, none⟩) L.length cap).ownBlock = some r → (Value.slice pg3 T.gens.length cg3).ownBlock ≠ some r) := Lib.hid (fun r hr he => by
                have h1 := HG3.out r he
                have h2 := (HL.out.lt r hr).2
                omega)
              rw [← hU]
              clear hU c0 c1 c2 z0 z1 z2 x0 x1 x2
              go_meet
              exact ⟨T, pg3, cg3, pu3, cu3, pf3, cf3, qg4, dg4, qu4, du4, qf4, df4, L, some ⟨g, 0, none⟩, cap, rfl, hL0, by omega, HTe, HXW, HYW, HLW, HLB, HP3, HQ4, HBW⟩
        case rest =>
          clear HX HY HL HLB HP HQ HB HOK c0 c1 c2 z0 z1 z2 e0 e1 e2 f0 f1 f2 ca0 hL0 hL1
          obtain ⟨F, pg, cg, pu, cu, pf, cf, qg, dg, qu, du, qf, df, L, p, cap, rfl, hL0, hL1, HOK, HX, HY, HL, HLB, HP, HQ, HB⟩ := hcut
          have HSR := Lib.hid (sameB_refl F)
          have HCV : Hid (∀ w', Below wc.heap.size wc w' → w'.cell? ⟨k, 0, none⟩ = some (.slice pg F.gens.length cg) ∧ w'.cell? ⟨k, 1, none⟩ = some (.slice pu F.used.length cu) ∧ w'.cell? ⟨k, 2, none⟩ = some (.slice pf F.free.length cf) ∧ w'.cell? ⟨k', 0, none⟩ = some (.slice qg F.gens.length dg) ∧ w'.cell? ⟨k', 1, none⟩ = some (.slice qu F.used.length du) ∧ w'.cell? ⟨k', 2, none⟩ = some (.slice qf F.free.length df)) := Lib.hid (fun w' hb => by
            obtain ⟨c0, c1, c2, _, _, _⟩ := block3 (HX.out.below hb).blk
            obtain ⟨d0, d1, d2, _, _, _⟩ := block3 (HY.out.below hb).blk
            exact ⟨c0, c1, c2, d0, d1, d2⟩)
          have hsm := HOK.out.small
          go_wp2_with fail
          go_region_held3 (fun w' => w'.cell? ⟨k, 0, none⟩ = some (.slice pg F.gens.length cg) ∧ w'.cell? ⟨k, 1, none⟩ = some (.slice pu F.used.length cu) ∧ w'.cell? ⟨k, 2, none⟩ = some (.slice pf F.free.length cf) ∧ w'.cell? ⟨k', 0, none⟩ = some (.slice qg F.gens.length dg) ∧ w'.cell? ⟨k', 1, none⟩ = some (.slice qu F.used.length du) ∧ w'.cell? ⟨k', 2, none⟩ = some (.slice qf F.free.length df))
            (first
              | exact HCV.out _ (Below.refl _ _).drew
              | exact HCV.out _ HB8.out
              | exact HCV.out _ HB7.out
              | exact HCV.out _ HB6.out
              | exact HCV.out _ HB5.out
              | exact HCV.out _ HB4.out)
            (first
              | (go_at_call 12
                 refine (its_any _ _ _ F 0 _ HX.out.ar.drew).mono ?_
                 rintro e w4 ⟨rfl, hb4⟩
                 have HB4 : Hid (Below wc.heap.size wc w4) := Lib.hid ((Below.refl _ _).drew.trans hb4)
                 clear hb4)
              | (go_at_call 11
                 refine (sameO HOK.out HOK.out (HX.out.ar.below HB4.out) (HY.out.ar.below HB4.out)).mono ?_
                 rw [HSR.out]
                 rintro e w5 ⟨rfl, hb5⟩
                 have HB5 : Hid (Below wc.heap.size wc w5) := Lib.hid (HB4.out.trans (hb5.mono HB4.out.size))
                 clear hb5)
              | (go_at_call 19
                 refine (allO HOK.out (by omega) (HX.out.ar.below HB5.out)).mono ?_
                 rintro e w6 ⟨v6, rfl, ho6, hb6⟩
                 rw [gvs_length] at ho6
                 obtain ⟨p6, c6, rfl, -, -, -⟩ := own_form ho6
                 have HO6 := Lib.hid ho6
                 have HB6 : Hid (Below wc.heap.size wc w6) := Lib.hid (HB5.out.trans (hb6.mono HB5.out.size))
                 clear hb6 ho6)
              | (go_at_call 20
                 refine (rallO HOK.out (by omega) (HY.out.ar.below HB6.out)).mono ?_
                 rintro e w7 ⟨v7, rfl, ho7, hb7⟩
                 rw [gvs_length] at ho7
                 obtain ⟨p7, c7, rfl, -, -, -⟩ := own_form ho7
                 have HO7 := Lib.hid ho7
                 have HO67 := Lib.hid (own_below HO6.out hb7)
                 have HB7 : Hid (Below wc.heap.size wc w7) := Lib.hid (HB6.out.trans (hb7.mono HB6.out.size))
                 clear hb7 ho7)
              | (go_at_call 18
                 refine (handles_any _ _ (F.al n) (F.al n) _ _ _ HO67.out HO7.out (by have := al_length F n; omega) (by have := al_length F n; omega)).mono ?_
                 rw [decide_eq_true rfl]
                 rintro e w8 ⟨rfl, hb8⟩
                 have HB8 : Hid (Below wc.heap.size wc w8) := Lib.hid (HB7.out.trans (hb8.mono HB7.out.size))
                 clear hb8))
          clear HO6 HO7 HO67
          have HX8 := Lib.hid (HX.out.below HB8.out)
          have HY8 := Lib.hid (HY.out.below HB8.out)
          have HL8 := Lib.hid (own_below HL.out HB8.out)
          have HBw8 : Hid (Below w.heap.size w w8) := Lib.hid (HB.out.trans (HB8.out.mono HB.out.size))
          go_wp2
          go_loopw [24] (fun i wx => ∃ j : Nat, j ≤ L.length ∧ i = .int .i64 j ∧ Hid (Below w8.heap.size w8 wx)) (fun i _ => L.length - (intOf i).toNat)
          case atStart => exact ⟨0, Nat.zero_le _, rfl, Lib.hid (Below.refl _ _)⟩
          case round =>
            obtain ⟨j, hj, rfl, HBr⟩ := hrel
            have HXr := Lib.hid (HX8.out.below HBr.out)
            have HYr := Lib.hid (HY8.out.below HBr.out)
            have HLr := Lib.hid (own_below HL8.out HBr.out)
            by_cases hlt2 : j < L.length
            · obtain ⟨g, rfl, _, hgr⟩ := own_some HLr.out (by omega)
              have ch := own_at_gen HLr.out hlt2
              obtain ⟨h, hh⟩ : ∃ h, L.getD j 0 = h := ⟨_, rfl⟩
              obtain ⟨hh0, hh1⟩ := HLB.out h (by rw [← hh, getD_at 0 hlt2]; exact List.getElem_mem hlt2)
              rw [hh] at ch
              clear hh
              have j0 : (0 : Int) ≤ (j : Int) := by omega
              have j1 : (j : Int) < (L.length : Int) := by omega
              have HCW : Hid (∀ w', Below wr.heap.size wr w' → w'.cell? ⟨k, 0, none⟩ = some (.slice pg F.gens.length cg) ∧ w'.cell? ⟨k, 1, none⟩ = some (.slice pu F.used.length cu) ∧ w'.cell? ⟨k, 2, none⟩ = some (.slice pf F.free.length cf) ∧ w'.cell? ⟨k', 0, none⟩ = some (.slice qg F.gens.length dg) ∧ w'.cell? ⟨k', 1, none⟩ = some (.slice qu F.used.length du) ∧ w'.cell? ⟨k', 2, none⟩ = some (.slice qf F.free.length df) ∧ w'.cell? ⟨g, j, none⟩ = some (.int .u64 h)) := Lib.hid (fun w' hb => by
                obtain ⟨c0, c1, c2, _, _, _⟩ := block3 (HXr.out.below hb).blk
                obtain ⟨d0, d1, d2, _, _, _⟩ := block3 (HYr.out.below hb).blk
                exact ⟨c0, c1, c2, d0, d1, d2, (hb.cell (p := ⟨g, j, none⟩) hgr).trans ch⟩)
              obtain ⟨bl, hbl⟩ : ∃ bl, F.lv h = bl := ⟨_, rfl⟩
              have HBL := Lib.hid hbl
              clear hbl
              have hbb : (bl != bl) = false := by simp
              go_wp2_with fail
              go_region_held3 (fun w' => w'.cell? ⟨k, 0, none⟩ = some (.slice pg F.gens.length cg) ∧ w'.cell? ⟨k, 1, none⟩ = some (.slice pu F.used.length cu) ∧ w'.cell? ⟨k, 2, none⟩ = some (.slice pf F.free.length cf) ∧ w'.cell? ⟨k', 0, none⟩ = some (.slice qg F.gens.length dg) ∧ w'.cell? ⟨k', 1, none⟩ = some (.slice qu F.used.length du) ∧ w'.cell? ⟨k', 2, none⟩ = some (.slice qf F.free.length df) ∧ w'.cell? ⟨g, j, none⟩ = some (.int .u64 h))
                (first
                  | exact HCW.out _ (Below.refl _ _).drew
                  | exact HCW.out _ HC5.out
                  | exact HCW.out _ HC4.out)
                (first
                  | (go_at_call 17
                     refine (liveO HOK.out HXr.out.ar.drew hh0 hh1).mono ?_
                     rw [HBL.out]
                     rintro e w4' ⟨rfl, hb4⟩
                     have HC4 : Hid (Below wr.heap.size wr w4') := Lib.hid ((Below.refl _ _).drew.trans hb4)
                     clear hb4)
                  | (go_at_call 21
                     refine (rliveO HOK.out (HYr.out.ar.below HC4.out) hh0 hh1).mono ?_
                     rw [HBL.out]
                     rintro e w5' ⟨rfl, hb5⟩
                     have HC5 : Hid (Below wr.heap.size wr w5') := Lib.hid (HC4.out.trans (hb5.mono HC4.out.size))
                     clear hb5))
              go_wp2
              go_roundw
              case rel => exact ⟨j + 1, by omega, by go_num, Lib.hid (HBr.out.trans (HC5.out.mono HBr.out.size))⟩
              case measure => simp [intOf] <;> omega
            · go_wp2
              go_roundw
              case rel =>
                refine ⟨q + 1, F, pg, cg, pu, cu, pf, cf, qg, dg, qu, du, qf, df, L, p, cap, by omega, by go_num, rfl, hL0, by omega, HOK, HXr, HYr, HLr, HLB, HP, HQ, Lib.hid (HBw8.out.trans (HBr.out.mono HBw8.out.size))⟩
              case measure => simp [intOf] <;> omega
      · go_wp2
        go_ret
        exact ⟨rfl, HB.out⟩
end Go.Proofs.Ytnhdpaiekcddiaa
