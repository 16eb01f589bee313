/-
  The law VecStays: a change to the same items changes nothing.
-/
import Derived.Test.YtbldjlkofaiikaaVecSt
import Derived.Test.YtbldjlkofaiikaaVecPt
import Derived.Deep.RegionHeld3
namespace Go.Proofs.Ytbldjlkofaiikaa
open Go.ChangeShapes Go.WideShapes Go.ChangeAt Go.RowKit
set_option linter.unusedVariables false
set_option linter.unusedSimpArgs false

set_option maxRecDepth 100000 in
set_option maxHeartbeats 16000000 in
theorem stays_law (A : Option Addr) (cap : Nat) (zs : List Int) (w : World) (hc : zs.length ≤ cap) (hcm : cap ≤ maxLen) (hR : RL w A zs) (hU : U64 zs) :
    Calls Try.prog 4 #[.slice A zs.length cap] w (GivesV (.bool true) w) := by
  unfold maxLen at hcm
  have HR := Lib.hid hR
  have HU := Lib.hid hU
  clear hR hU
  by_cases hn : 200 < zs.length
  · have hn' : (200 : Int) < (zs.length : Int) := by omega
    go_enter Try.func4, Try.ntmps4
    go_wp2_with fail
    refine (shown_true w).mono ?_
    rintro e w1 ⟨rfl, hb⟩
    have HB := Lib.hid hb
    clear hb
    go_wp2
    go_ret
    exact ⟨rfl, HB.out⟩
  have hn' : ¬ (200 : Int) < (zs.length : Int) := by omega
  obtain ⟨T, hT, hTe, hTs, hK, ⟨rows, hW, hTg, hrs⟩, r0, r1⟩ := first_wf (n := 100) (by decide) (by decide) (zs := zs) (by omega) HU.out
  have hsame := change_same hK (by decide) hW
  have hroot := root_zero hW
  have HC := Lib.hid (fun (w : World) (vg vu vf vc : Value) (hA : PA w 0 vg vu vf vc (freshP 100)) (hI : RL w A zs) => change_rl 0 0 zs A cap vg vu vf vc (freshP 100) 0 100 1 w hA (freshP_ok (by decide)) hI hc (by omega) (by omega) HU.out (by decide) (by decide) (by decide) (by decide) (by decide))
  rw [hT] at HC
  have HN := Lib.hid (fun w => newV_ok 100 w (by decide))
  have HC2 := Lib.hid (fun (w : World) (vg vu vf vc : Value) (pi : Option Addr) (ci : Nat) (hA : PA w 0 vg vu vf vc T.p) (hI : RL w pi zs) (h1 : zs.length ≤ ci) (h2 : ci ≤ 9223372036854775807) => change_rl T.v.root T.v.size zs pi ci vg vu vf vc T.p 0 100 1 w hA hK hI h1 h2 (by omega) HU.out r0 r1 (by omega) (by decide) (by decide))
  rw [show (⟨T.v.root, T.v.size⟩ : Vc) = T.v from rfl, hsame] at HC2
  have HPo := Lib.hid (fun (w : World) (vg vu vf vc : Value) (hA : PA w 0 vg vu vf vc T.p) => pool_pl vg vu vf vc T.p 0 100 1 w hA hK)
  have HSq := Lib.hid (fun (w : World) (vg vu vf vc vg' vu' vf' vc' : Value) (b b' d d' : Nat) (h1 : Ar w b vg vu vf T.p.st) (h2 : w.ownsRow d 95 5 vc T.p.ch.length (cvs T.p.ch)) (h3 : Ar w b' vg' vu' vf' T.p.st) (h4 : w.ownsRow d' 95 5 vc' T.p.ch.length (cvs T.p.ch)) => sameQ vg vu vf vc vg' vu' vf' vc' T.p b b' d d' 100 1 w h1 h2 h3 h4 hK)
  have HRt := Lib.hid hroot
  clear hT hK hW hrs hsame hroot
  generalize freshP 100 = p0 at *
  obtain ⟨p1, ⟨rt1, sz1⟩, gn1, er1⟩ := T
  simp only [] at *
  subst hTe hTs hTg
  go_enter Try.func4, Try.ntmps4
  go_wp2_with fail
  refine (shown_true w).mono ?_
  rintro e w0 ⟨rfl, hb0⟩
  have HB0 := Lib.hid hb0
  clear hb0
  go_wp2_with fail
  refine (HN.out w0).mono ?_
  rintro e w1 ⟨a1, a2, a3, a4, rfl, hpa, hb⟩
  obtain ⟨pg1, cg1, pu1, cu1, pf1, cf1, pc1, cc1, rfl, rfl, rfl, rfl⟩ := hpa.form
  obtain ⟨V1, hV1⟩ : ∃ V1, V1 = w1.alloc (.cells #[.slice pg1 p0.st.gens.length cg1, .slice pu1 p0.st.used.length cu1, .slice pf1 p0.st.free.length cf1, .slice pc1 p0.ch.length cc1] 31) := ⟨_, rfl⟩
  have HB1 : Hid (Below w.heap.size w V1) := Lib.hid (by rw [hV1]; exact (HB0.out.trans (hb.mono HB0.out.size)).alloc (Nat.le_trans HB0.out.size hb.size) _)
  have HX1 : Hid (PX V1 w1.heap.size (.slice pg1 p0.st.gens.length cg1) (.slice pu1 p0.st.used.length cu1) (.slice pf1 p0.st.free.length cf1) (.slice pc1 p0.ch.length cc1) p0) := Lib.hid (by rw [hV1]; exact ⟨heap_alloc_new _ _, (hpa.drop (Nat.zero_le _)).below ((Below.refl _ _).alloc (Nat.le_refl _) _)⟩)
  have hw01 : w.heap.size ≤ w1.heap.size := Nat.le_trans HB0.out.size hb.size
  go_upto_region 4 with fail
  rw [← hV1]
  clear hV1 hpa hb
  obtain ⟨x0, x1, x2, x3, -⟩ := block4 HX1.out.blk
  go_wp2_with fail
  refine (HC.out V1 _ _ _ _ HX1.out.pa (HR.out.below HB1.out)).mono ?_
  rintro e w2 ⟨b1, b2, b3, b4, b5, rfl, hpa, hol, hb⟩
  obtain ⟨pg2, cg2, pu2, cu2, pf2, cf2, pc2, cc2, rfl, rfl, rfl, rfl⟩ := hpa.form
  obtain ⟨p5_2, c5_2, rfl, -, -, -⟩ := own_form hol
  obtain ⟨S2, hS2, hSx, hSb, hSs, hSj⟩ := lay_step HX1.out hb hpa HB1.out hw01
  obtain ⟨V2, hV2, hVx, hVv, hVb, hVs⟩ := lay_vec hSx hSb (rt1) (zs.length)
  have HX2 := Lib.hid hVx
  have HV2 : Hid (VX V2 w2.heap.size ⟨rt1, zs.length⟩) := Lib.hid (by rw [← hSs]; exact hVv)
  have HB2 := Lib.hid hVb
  have hX' := HX1.out.below hb
  obtain ⟨d0, d1, d2, d3, y0, y1, y2, y3⟩ := block4 hX'.blk
  have hlt1 := lt_of_block hX'.blk
  have ne1 : w1.heap.size ≠ w2.heap.size := by omega
  have ne2 : w2.heap.size ≠ w1.heap.size := by omega
  clear hX'
  go_upto_region 5 with fail
  rw [← hS2, ← hV2]
  clear hS2 hV2 hSx hSb hSs hSj hVx hVv hVb hVs hpa hol hb d0 d1 d2 d3 y0 y1 y2 y3 x0 x1 x2 x3 hlt1 ne1 ne2 hw01 HX1 HB1 HB0 HC HN
  obtain ⟨k3, hk3⟩ : ∃ k, k = w1.heap.size := ⟨_, rfl⟩
  obtain ⟨k5, hk5⟩ : ∃ k, k = w2.heap.size := ⟨_, rfl⟩
  rw [← hk3] at HX2 ⊢
  rw [← hk5] at HV2 ⊢
  clear hk3 hk5
  generalize V2 = W at *
  have HKP : Hid (∀ w', Below W.heap.size W w' → w'.cell? ⟨k3, 0, none⟩ = some (.slice pg2 p1.st.gens.length cg2) ∧ w'.cell? ⟨k3, 1, none⟩ = some (.slice pu2 p1.st.used.length cu2) ∧ w'.cell? ⟨k3, 2, none⟩ = some (.slice pf2 p1.st.free.length cf2) ∧ w'.cell? ⟨k3, 3, none⟩ = some (.slice pc2 p1.ch.length cc2) ∧ w'.cell? ⟨k5, 0, none⟩ = some (.int .u64 rt1) ∧ w'.cell? ⟨k5, 1, none⟩ = some (.int .i64 zs.length)) := Lib.hid (fun w' hb => by
    obtain ⟨c0, c1, c2, c3, -⟩ := block4 ((hb.block _ (lt_of_block HX2.out.blk)).trans HX2.out.blk)
    obtain ⟨e0, e1⟩ := block2 ((hb.block _ (lt_of_block HV2.out)).trans HV2.out)
    exact ⟨c0, c1, c2, c3, e0, e1⟩)
  have HRW : Hid (∀ w', Below W.heap.size W w' → RL w' A zs) := Lib.hid (fun w' hb => HR.out.below (HB2.out.trans (hb.mono HB2.out.size)))
  have HPW : Hid (∀ w', Below W.heap.size W w' → PA w' 0 (.slice pg2 p1.st.gens.length cg2) (.slice pu2 p1.st.used.length cu2) (.slice pf2 p1.st.free.length cf2) (.slice pc2 p1.ch.length cc2) p1) := Lib.hid (fun w' hb => (HX2.out.below hb).pa)
  obtain ⟨x0, x1, x2, x3, u0, u1⟩ := HKP.out W (Below.refl _ _)
  obtain ⟨iG, hi0, hz0, hz1, hz2⟩ := info_parts info_G
  have HIG := Lib.hid (And.intro hi0 (And.intro hz0 (And.intro hz1 hz2)))
  clear hi0 hz0 hz1 hz2
  have hn2 : zs.length ≤ 200 := by omega
  clear hn hn'
  go_cut [8, 9, 10, 11] from 33 to 43 (fun a b c d wx => ∃ (k8 k9 : Nat) (vg vu vf vc : Value) (q : Option Addr) (cp : Nat), a = .pointer (some ⟨k8, 0, none⟩) ∧ b = .pointer (some ⟨k9, 0, none⟩) ∧ c = .slice q 0 cp ∧ d = .int .i64 0 ∧ Hid (PX wx k8 vg vu vf vc p1) ∧ Hid (VX wx k9 ⟨rt1, zs.length⟩) ∧ Hid (Below W.heap.size W wx))
  case first =>
   go_region_held3 (fun w' => w'.cell? ⟨k3, 0, none⟩ = some (.slice pg2 p1.st.gens.length cg2) ∧ w'.cell? ⟨k3, 1, none⟩ = some (.slice pu2 p1.st.used.length cu2) ∧ w'.cell? ⟨k3, 2, none⟩ = some (.slice pf2 p1.st.free.length cf2) ∧ w'.cell? ⟨k3, 3, none⟩ = some (.slice pc2 p1.ch.length cc2) ∧ w'.cell? ⟨k5, 0, none⟩ = some (.int .u64 rt1) ∧ w'.cell? ⟨k5, 1, none⟩ = some (.int .i64 zs.length))
    ((refine HKP.out _ ?_
      repeat' (first
        | with_reducible exact HBt.out
        | with_reducible exact HBs.out
        | with_reducible exact Below.refl _ _
        | with_reducible refine alloc' ?_ _
        | with_reducible refine Below.drew ?_
        | ((with_reducible refine Below.setCell ?_ ?_ _); rotate_left; focus (first | (show _ ≤ _; omega) | (show _ ≤ _; simp; omega) | (show _ ≤ _; simp; done))))))
    (first
      | (refine step_rl rfl (.tmp 36) (.tmp 37) 24 rfl W.heap.size iG (.int .u64 0) 8 Try.underlying24 HIG.out.1 HIG.out.2.1 HIG.out.2.2.1 HIG.out.2.2.2 rfl ?_ 0 [] ?_ ?_ A zs cap (by rfl) (HRW.out _ ?_) (by unfold maxLen; omega) (by omega) (by first | (show _ ≤ _; omega) | (show _ ≤ _; simp; done) | (show _ ≤ _; simp; omega)) ?_
         rotate_left
         · rfl
         · exact own_e (by first | exact eh1 _ _ | exact eh2a _ _ _ | exact eh2b _ _ _ | exact eh3a _ _ _ _ | exact eh3b _ _ _ _ | exact eh3c _ _ _ _) (by omega)
         · repeat' (first | with_reducible exact Below.refl _ _ | with_reducible refine alloc' ?_ _ | with_reducible refine Below.drew ?_)
         intro v4 ws ho4 hk4 hb4
         rw [Nat.zero_add, List.nil_append] at ho4
         obtain ⟨p4, c4, rfl, hc4, hm4, -⟩ := own_form ho4
         have HO4 := Lib.hid ho4
         have HBs : Hid (Below W.heap.size W ws) := Lib.hid (Below.trans (by repeat' (first | with_reducible exact Below.refl _ _ | with_reducible refine alloc' ?_ _ | with_reducible refine Below.drew ?_)) hb4)
         have hss := HBs.out.size
         first | (have HP4 : Hid (ws.heap[W.heap.size]? = some (.cells #[.slice none 0 0, .slice none 0 0, .slice none 0 0, .slice none 0 0] 31 (0, 0))) := Lib.hid (hk4 _ _ _ (by decide) (by first | exact eh1 _ _ | exact eh2a _ _ _ | exact eh3a _ _ _ _))) | (have HP4 : Hid (ws.heap[W.heap.size + 1]? = some (.cells #[.slice none 0 0, .slice none 0 0, .slice none 0 0, .slice none 0 0] 31 (0, 0))) := Lib.hid (hk4 _ _ _ (by decide) (by first | exact eh2b _ _ _ | exact eh3b _ _ _ _))) | (have HP4 : Hid (ws.heap[W.heap.size + 1 + 1]? = some (.cells #[.slice none 0 0, .slice none 0 0, .slice none 0 0, .slice none 0 0] 31 (0, 0))) := Lib.hid (hk4 _ _ _ (by decide) (by exact eh3c _ _ _ _))) | skip
         first | (have HQ4 : Hid (ws.heap[W.heap.size]? = some (.cells #[.int .u64 0, .int .i64 0] 43 (0, 0))) := Lib.hid (hk4 _ _ _ (by decide) (by first | exact eh1 _ _ | exact eh2a _ _ _ | exact eh3a _ _ _ _))) | (have HQ4 : Hid (ws.heap[W.heap.size + 1]? = some (.cells #[.int .u64 0, .int .i64 0] 43 (0, 0))) := Lib.hid (hk4 _ _ _ (by decide) (by first | exact eh2b _ _ _ | exact eh3b _ _ _ _))) | (have HQ4 : Hid (ws.heap[W.heap.size + 1 + 1]? = some (.cells #[.int .u64 0, .int .i64 0] 43 (0, 0))) := Lib.hid (hk4 _ _ _ (by decide) (by exact eh3c _ _ _ _))) | skip
         clear ho4 hk4 hb4)
      | (go_at_call 14
         refine (HC2.out _ _ _ _ _ p4 c4 (HPW.out _ (by repeat' (first | with_reducible exact HBs.out | with_reducible refine alloc' ?_ _ | with_reducible refine Below.drew ?_))) (RL.of_own (by first | exact HO4.out | exact HO4.out.alloc _ | exact (HO4.out.alloc _).alloc _)) hc4 (by have := hm4; unfold maxLen at this; omega)).mono ?_
         rintro e wt ⟨b1, b2, b3, b4, b5, rfl, hpa5, hol5, hb5⟩
         obtain ⟨pg5, cg5, pu5, cu5, pf5, cf5, pc5, cc5, rfl, rfl, rfl, rfl⟩ := hpa5.form
         obtain ⟨q5, r5, rfl, -, -, -⟩ := own_form hol5
         have HPt : Hid (PA wt 0 (.slice pg5 p1.st.gens.length cg5) (.slice pu5 p1.st.used.length cu5) (.slice pf5 p1.st.free.length cf5) (.slice pc5 p1.ch.length cc5) p1) := Lib.hid (hpa5.drop (Nat.zero_le _))
         have HBt : Hid (Below W.heap.size W wt) := Lib.hid (Below.trans (by repeat' (first | with_reducible exact HBs.out | with_reducible refine alloc' ?_ _ | with_reducible refine Below.drew ?_)) (hb5.mono (by first | (show _ ≤ _; omega) | (show _ ≤ _; simp; done) | (show _ ≤ _; simp; omega))))
         have hst := HBt.out.size
         first
           | (have HP5 := Lib.hid ((hb5.block _ (lt_of_block (by first | exact HP4.out | exact up1 HP4.out _ | exact up1 (up1 HP4.out _) _))).trans (by first | exact HP4.out | exact up1 HP4.out _ | exact up1 (up1 HP4.out _) _)); obtain ⟨d0, d1, d2, d3, y0, y1, y2, y3⟩ := block4 HP5.out; obtain ⟨p5a, p5b, p5c⟩ := lt_ne HP5.out)
           | (have HP5 : Hid (wt.heap[ws.heap.size]? = some (.cells #[.slice none 0 0, .slice none 0 0, .slice none 0 0, .slice none 0 0] 31 (0, 0))) := Lib.hid ((hb5.block _ (lt_of_block (by first | exact eh1 _ _ | exact eh2a _ _ _))).trans (by first | exact eh1 _ _ | exact eh2a _ _ _)); obtain ⟨d0, d1, d2, d3, y0, y1, y2, y3⟩ := block4 HP5.out; obtain ⟨p5a, p5b, p5c⟩ := lt_ne HP5.out)
           | (have HP5 : Hid (wt.heap[ws.heap.size + 1]? = some (.cells #[.slice none 0 0, .slice none 0 0, .slice none 0 0, .slice none 0 0] 31 (0, 0))) := Lib.hid ((hb5.block _ (lt_of_block (eh2b _ _ _))).trans (eh2b _ _ _)); obtain ⟨d0, d1, d2, d3, y0, y1, y2, y3⟩ := block4 HP5.out; obtain ⟨p5a, p5b, p5c⟩ := lt_ne HP5.out)
           | skip
         first
           | (have HQ5 := Lib.hid ((hb5.block _ (lt_of_block (by first | exact HQ4.out | exact up1 HQ4.out _ | exact up1 (up1 HQ4.out _) _))).trans (by first | exact HQ4.out | exact up1 HQ4.out _ | exact up1 (up1 HQ4.out _) _)); obtain ⟨e0, e1, f0, f1⟩ := block2f HQ5.out; obtain ⟨q5a, q5b, q5c⟩ := lt_ne HQ5.out)
           | (have HQ5 : Hid (wt.heap[ws.heap.size]? = some (.cells #[.int .u64 0, .int .i64 0] 43 (0, 0))) := Lib.hid ((hb5.block _ (lt_of_block (by first | exact eh1 _ _ | exact eh2a _ _ _))).trans (by first | exact eh1 _ _ | exact eh2a _ _ _)); obtain ⟨e0, e1, f0, f1⟩ := block2f HQ5.out; obtain ⟨q5a, q5b, q5c⟩ := lt_ne HQ5.out)
           | (have HQ5 : Hid (wt.heap[ws.heap.size + 1]? = some (.cells #[.int .u64 0, .int .i64 0] 43 (0, 0))) := Lib.hid ((hb5.block _ (lt_of_block (eh2b _ _ _))).trans (eh2b _ _ _)); obtain ⟨e0, e1, f0, f1⟩ := block2f HQ5.out; obtain ⟨q5a, q5b, q5c⟩ := lt_ne HQ5.out)
           | skip
         first | (have hpq := ne_types HP5.out HQ5.out (by decide); obtain ⟨pq5, qp5⟩ := hpq) | skip
         clear hpa5 hol5 hb5))
   all_goals
     go_wp2
     go_meet
     first
       | with_reducible exact ⟨_, _, .slice pg5 p1.st.gens.length cg5, .slice pu5 p1.st.used.length cu5, .slice pf5 p1.st.free.length cf5, .slice pc5 p1.ch.length cc5, _, _, rfl, rfl, rfl, rfl, fin_out (finD HPt.out HBt.out HP5.out HQ5.out (by first | omega | (simp; done) | (simp; omega)) (by first | omega | (simp; done) | (simp; omega)))⟩
       | with_reducible exact ⟨_, _, .slice pg5 p1.st.gens.length cg5, .slice pu5 p1.st.used.length cu5, .slice pf5 p1.st.free.length cf5, .slice pc5 p1.ch.length cc5, _, _, rfl, rfl, rfl, rfl, fin_out (finB HPt.out HBt.out HP5.out (by first | omega | (simp; done) | (simp; omega)))⟩
       | with_reducible exact ⟨_, _, .slice pg5 p1.st.gens.length cg5, .slice pu5 p1.st.used.length cu5, .slice pf5 p1.st.free.length cf5, .slice pc5 p1.ch.length cc5, _, _, rfl, rfl, rfl, rfl, fin_out (finC HPt.out HBt.out HQ5.out (by first | omega | (simp; done) | (simp; omega)))⟩
       | with_reducible exact ⟨_, _, .slice pg5 p1.st.gens.length cg5, .slice pu5 p1.st.used.length cu5, .slice pf5 p1.st.free.length cf5, .slice pc5 p1.ch.length cc5, _, _, rfl, rfl, rfl, rfl, fin_out (finA1 HPt.out HBt.out)⟩
       | with_reducible exact ⟨_, _, .slice pg5 p1.st.gens.length cg5, .slice pu5 p1.st.used.length cu5, .slice pf5 p1.st.free.length cf5, .slice pc5 p1.ch.length cc5, _, _, rfl, rfl, rfl, rfl, fin_out (finA2 HPt.out HBt.out)⟩
       | with_reducible exact ⟨_, _, .slice pg5 p1.st.gens.length cg5, .slice pu5 p1.st.used.length cu5, .slice pf5 p1.st.free.length cf5, .slice pc5 p1.ch.length cc5, _, _, rfl, rfl, rfl, rfl, fin_out (finB2 HPt.out HBt.out HP5.out (by first | omega | (simp; done) | (simp; omega)))⟩
       | with_reducible exact ⟨_, _, .slice pg5 p1.st.gens.length cg5, .slice pu5 p1.st.used.length cu5, .slice pf5 p1.st.free.length cf5, .slice pc5 p1.ch.length cc5, _, _, rfl, rfl, rfl, rfl, fin_out (finC2 HPt.out HBt.out HQ5.out (by first | omega | (simp; done) | (simp; omega)))⟩
  case rest =>
   obtain ⟨k8, k9, vg, vu, vf, vc, q, cp, rfl, rfl, rfl, rfl, HX8, HV9, HBc⟩ := hcut
   clear x0 x1 x2 x3 u0 u1
   have HKC : Hid (∀ w', Below wc.heap.size wc w' → w'.cell? ⟨k3, 0, none⟩ = some (.slice pg2 p1.st.gens.length cg2) ∧ w'.cell? ⟨k3, 1, none⟩ = some (.slice pu2 p1.st.used.length cu2) ∧ w'.cell? ⟨k3, 2, none⟩ = some (.slice pf2 p1.st.free.length cf2) ∧ w'.cell? ⟨k3, 3, none⟩ = some (.slice pc2 p1.ch.length cc2) ∧ w'.cell? ⟨k5, 0, none⟩ = some (.int .u64 rt1) ∧ w'.cell? ⟨k5, 1, none⟩ = some (.int .i64 zs.length) ∧ w'.cell? ⟨k8, 0, none⟩ = some vg ∧ w'.cell? ⟨k8, 1, none⟩ = some vu ∧ w'.cell? ⟨k8, 2, none⟩ = some vf ∧ w'.cell? ⟨k8, 3, none⟩ = some vc ∧ w'.cell? ⟨k9, 0, none⟩ = some (.int .u64 rt1) ∧ w'.cell? ⟨k9, 1, none⟩ = some (.int .i64 zs.length)) := Lib.hid (fun w' hb => by
    obtain ⟨c0, c1, c2, c3, e0, e1⟩ := HKP.out w' (HBc.out.trans (hb.mono HBc.out.size))
    obtain ⟨g0, g1, g2, g3, -⟩ := block4 ((hb.block _ (lt_of_block HX8.out.blk)).trans HX8.out.blk)
    obtain ⟨h0, h1⟩ := block2 ((hb.block _ (lt_of_block HV9.out)).trans HV9.out)
    exact ⟨c0, c1, c2, c3, e0, e1, g0, g1, g2, g3, h0, h1⟩)
   have HPc : Hid (∀ w', Below wc.heap.size wc w' → PA w' 0 (.slice pg2 p1.st.gens.length cg2) (.slice pu2 p1.st.used.length cu2) (.slice pf2 p1.st.free.length cf2) (.slice pc2 p1.ch.length cc2) p1) := Lib.hid (fun w' hb => HPW.out w' (HBc.out.trans (hb.mono HBc.out.size)))
   have HQc : Hid (∀ w', Below wc.heap.size wc w' → PA w' 0 vg vu vf vc p1) := Lib.hid (fun w' hb => (HX8.out.below hb).pa)
   have HBwc : Hid (Below w.heap.size w wc) := Lib.hid (HB2.out.trans (HBc.out.mono HB2.out.size))
   have hE : ∀ W, (Op.equalIn 10000 43 (.agg #[.int .u64 rt1, .int .i64 zs.length]) (.agg #[.int .u64 rt1, .int .i64 zs.length])).run Try.prog W = .ok true W := fun W => by
    rw [eqV rt1 zs.length rt1 zs.length W]
    simp
   obtain ⟨bb, hb1, hb2⟩ : ∃ bb, (rt1 == 0) = bb ∧ ((zs.length : Int) == 0) = bb := ⟨_, rfl, by
    have h := HRt.out
    rw [Bool.eq_iff_iff, beq_iff_eq, beq_iff_eq, h]
    omega⟩
   have hb3 : (bb == bb) = true := by cases bb <;> rfl
   obtain ⟨x0, x1, x2, x3, u0, u1, g0, g1, g2, g3, h0, h1⟩ := HKC.out wc (Below.refl _ _)
   clear HKP HPW HRW HX2 HV2 HX8 HV9 HRt HC2
   go_upto_region 6 with fail
   go_region_held3 (fun w' => w'.cell? ⟨k3, 0, none⟩ = some (.slice pg2 p1.st.gens.length cg2) ∧ w'.cell? ⟨k3, 1, none⟩ = some (.slice pu2 p1.st.used.length cu2) ∧ w'.cell? ⟨k3, 2, none⟩ = some (.slice pf2 p1.st.free.length cf2) ∧ w'.cell? ⟨k3, 3, none⟩ = some (.slice pc2 p1.ch.length cc2) ∧ w'.cell? ⟨k5, 0, none⟩ = some (.int .u64 rt1) ∧ w'.cell? ⟨k5, 1, none⟩ = some (.int .i64 zs.length) ∧ w'.cell? ⟨k8, 0, none⟩ = some vg ∧ w'.cell? ⟨k8, 1, none⟩ = some vu ∧ w'.cell? ⟨k8, 2, none⟩ = some vf ∧ w'.cell? ⟨k8, 3, none⟩ = some vc ∧ w'.cell? ⟨k9, 0, none⟩ = some (.int .u64 rt1) ∧ w'.cell? ⟨k9, 1, none⟩ = some (.int .i64 zs.length))
    ((refine HKC.out _ ?_; (first | with_reducible exact HB9.out | with_reducible exact HB8.out | with_reducible exact HB7.out | with_reducible exact (Below.refl _ _).drew | with_reducible exact Below.refl _ _)))
    (first
      | (go_at_call 18
         refine (HSq.out _ _ _ _ _ _ _ _ _ 0 0 _ _ (HPc.out _ HB8.out).ar (own_below HO7.out HB78.out) (HQc.out _ HB8.out).ar HO8.out).mono ?_
         rintro e w9 ⟨rfl, hb9⟩
         have HB9 : Hid (Below wc.heap.size wc w9) := Lib.hid (HB8.out.trans (hb9.mono HB8.out.size))
         clear hb9)
      | (go_at_call 19
         refine (HPo.out _ _ _ _ _ (HQc.out _ HB7.out)).mono ?_
         rintro e w8 ⟨v8, rfl, ho8, hb8⟩
         have HO8 := Lib.hid ho8
         have HB78 := Lib.hid hb8
         have HB8 : Hid (Below wc.heap.size wc w8) := Lib.hid (HB7.out.trans (hb8.mono HB7.out.size))
         clear ho8 hb8)
      | (go_at_call 19
         refine (HPo.out _ _ _ _ _ (HPc.out _ (Below.refl _ _).drew)).mono ?_
         rintro e w7 ⟨v7, rfl, ho7, hb7⟩
         have HO7 := Lib.hid ho7
         have HB7 : Hid (Below wc.heap.size wc w7) := Lib.hid ((Below.refl _ _).drew.trans hb7)
         clear ho7 hb7))
   go_wp2
   go_ret
   exact ⟨ret_bool (by first | rfl | simp), HBwc.out.trans (HB9.out.mono HBwc.out.size)⟩
set_option maxRecDepth 100000 in
theorem vecStays_open {H : Type} {enc : TypeId × Value → H} {W : World} {base : Nat} {v0 : Value} {d0 : DataW H} {p0 : List MemPlace}
    (o0 : Value.okWide Try.prog W .any base 24 v0)
    (h0 : DataW.Trod enc Try.prog W 0 (fun _ => true) true 24 v0 d0 p0) (l0 : ∀ x ∈ p0, x.block < W.heap.size) :
    Calls Try.prog 4 #[v0] W fun e w' => e = .returned (.bool true) ∧ Below W.heap.size W w' := by
  obtain ⟨A, ca, zs, rfl, hc, hm, hR, hU⟩ := u64s_open o0 h0 l0
  exact stays_law A ca zs W hc hm hR hU
end Go.Proofs.Ytbldjlkofaiikaa
