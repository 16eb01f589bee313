/-
  Free: chunks that are live, each once, are given back.
-/
import Derived.Test.YtnlnfkjjfbgceaaVecLm
namespace Go.Proofs.Ytnlnfkjjfbgceaa
open Go.ChangeShapes Go.WideShapes Go.ChangeAt Go.RowKit
set_option linter.unusedVariables false
set_option linter.unusedSimpArgs false

theorem it_nil (k : Nat) : it [] k = 0 := by simp [it]
set_option maxRecDepth 100000 in
set_option maxHeartbeats 4000000 in
theorem free_ok (l : List Int) (pi : Option Addr) (ci : Nat) (vg vu vf vc : Value) (p q : Pl) (b n : Nat) (G : Int) (w : World) (hA : PA w b vg vu vf vc p) (hP : PK n G p) (hI : RL w pi l) (hci : l.length ≤ ci) (hcm : ci ≤ 9223372036854775807) (hl : l.length ≤ 1000) (hU : ∀ x ∈ l, B64 x) (hG : G ≤ 1099511620000) (hn0 : 0 < n) (hq : p.freeL l = some q) :
    Calls Try.prog 18 #[.agg #[vg, vu, vf, vc], .slice pi l.length ci] w (GivesN q 0 w) := by
  have hsm := hP.ok.small
  have g1 := hP.ok.gens
  have g2 := hP.ok.used
  have g4 := hP.ok.free_le
  have g5 := hP.len
  have HCo := Lib.hid (fun (W : World) (hA : PA W b vg vu vf vc p) => copyOf_pl vg vu vf vc p b W hA (by omega) (by omega) (by omega) (by omega))
  have HA := Lib.hid hA
  have HP := Lib.hid hP
  have HI := Lib.hid hI
  have HU := Lib.hid hU
  have HQ := Lib.hid hq
  have HG5 := Lib.hid g5
  clear hA hP hI hU hq g1 g2 g4 g5
  obtain ⟨W, hW⟩ : ∃ W, W = (w.alloc (.cells #[vg, vu, vf, vc] 31)).alloc (.cells #[.slice none 0 0, .slice none 0 0, .slice none 0 0, .slice none 0 0] 31) := ⟨_, rfl⟩
  have HW : Hid (Below w.heap.size w W ∧ W.heap.size = w.heap.size + 2 ∧ W.heap[w.heap.size]? = some (.cells #[vg, vu, vf, vc] 31 (0, 0)) ∧ W.heap[w.heap.size + 1]? = some (.cells #[.slice none 0 0, .slice none 0 0, .slice none 0 0, .slice none 0 0] 31 (0, 0))) := Lib.hid (by
    subst hW
    refine ⟨((Below.refl _ w).alloc (Nat.le_refl _) _).alloc (by simp) _, by simp, ?_, heap_alloc2_new _ _ _⟩
    rw [heap_alloc_old _ _ (by simp)]; exact heap_alloc_new w _)
  obtain ⟨x0, x1, x2, x3, -⟩ := block4 HW.out.2.2.1
  go_enter Try.func18, Try.ntmps18
  go_upto_region 1 with fail
  rw [← hW]
  clear hW
  go_wp2_with fail
  refine (HCo.out W (HA.out.below HW.out.1)).mono ?_
  rintro e w1 ⟨v1, v2, v3, v4, rfl, hpa, hb⟩
  obtain ⟨pg1, cg1, pu1, cu1, pf1, cf1, pc1, cc1, rfl, rfl, rfl, rfl⟩ := hpa.form
  obtain ⟨gc, rfl, -, -⟩ := own_some5 hpa.cs (by have := HG5.out; omega)
  have hs1 : w.heap.size + 2 ≤ w1.heap.size := by have := hb.size; have := HW.out.2.1; omega
  have HB1 : Hid (Below w.heap.size w w1) := Lib.hid (HW.out.1.trans (hb.mono HW.out.1.size))
  have HR1 : Hid (w1.heap[w.heap.size + 1]? = some (.cells #[.slice none 0 0, .slice none 0 0, .slice none 0 0, .slice none 0 0] 31 (0, 0))) := Lib.hid ((hb.block _ (by have := HW.out.2.1; omega)).trans HW.out.2.2.2)
  have HPB : Hid (PB (w1.alloc (.cells #[.slice pg1 p.st.gens.length cg1, .slice pu1 p.st.used.length cu1, .slice pf1 p.st.free.length cf1, .slice (some ⟨gc, 0, none⟩) p.ch.length cc1] 31)) w1.heap.size gc (w.heap.size + 2) cc1 (.slice pg1 p.st.gens.length cg1) (.slice pu1 p.st.used.length cu1) (.slice pf1 p.st.free.length cf1) p) := Lib.hid ⟨heap_alloc_new _ _, (hpa.drop (by have := HW.out.2.1; omega)).below ((Below.refl _ _).alloc (Nat.le_refl _) _)⟩
  have HBV : Hid (Below w.heap.size w (w1.alloc (.cells #[.slice pg1 p.st.gens.length cg1, .slice pu1 p.st.used.length cu1, .slice pf1 p.st.free.length cf1, .slice (some ⟨gc, 0, none⟩) p.ch.length cc1] 31))) := Lib.hid (HB1.out.alloc HB1.out.size _)
  have HRV : Hid ((w1.alloc (.cells #[.slice pg1 p.st.gens.length cg1, .slice pu1 p.st.used.length cu1, .slice pf1 p.st.free.length cf1, .slice (some ⟨gc, 0, none⟩) p.ch.length cc1] 31)).heap[w.heap.size + 1]? = some (.cells #[.slice none 0 0, .slice none 0 0, .slice none 0 0, .slice none 0 0] 31 (0, 0))) := Lib.hid ((heap_alloc_old _ _ (by omega)).trans HR1.out)
  clear hpa hb x0 x1 x2 x3
  go_wp2_with fail
  generalize w1.alloc (.cells #[.slice pg1 p.st.gens.length cg1, .slice pu1 p.st.used.length cu1, .slice pf1 p.st.free.length cf1, .slice (some ⟨gc, 0, none⟩) p.ch.length cc1] 31) = V1 at *
  obtain ⟨N, hN⟩ : ∃ N, l.length = N := ⟨_, rfl⟩
  have HN := Lib.hid hN
  rw [hN] at hl hci ⊢
  clear hN
  generalize hk6 : w1.heap.size = k6 at *
  go_loopw [15] (fun i wr => ∃ (j : Nat) (pj : Pl) (cc : Nat), j ≤ N ∧ i = .int .i64 j ∧ Hid (PK n (G + j) pj) ∧ Hid (pj.freeL (l.drop j) = some q) ∧ Hid (∃ vg vu vf, PB wr k6 gc (w.heap.size + 2) cc vg vu vf pj) ∧ Hid (Below w.heap.size w wr) ∧ Hid (wr.heap[w.heap.size + 1]? = some (.cells #[.slice none 0 0, .slice none 0 0, .slice none 0 0, .slice none 0 0] 31 (0, 0)))) (fun i _ => N - (intOf i).toNat)
  case atStart => exact ⟨0, p, cc1, Nat.zero_le _, rfl, Lib.hid (by simpa using HP.out), Lib.hid (by simpa using HQ.out), Lib.hid ⟨_, _, _, HPB.out⟩, HBV, HRV⟩
  case round =>
    obtain ⟨j, pj, cc, hj, rfl, HK, HF, HX, HB, HRr⟩ := hrel
    obtain ⟨ug, uu, uf, hpb⟩ := HX.out
    obtain ⟨pg, cg, pu, cu, pf, cf, pc', cc', rfl, rfl, rfl, hce⟩ := hpb.pa.form
    clear hce pc' cc'
    have HX2 := Lib.hid hpb
    clear hpb HX
    have hsm2 := HK.out.ok.small
    have HCH := Lib.hid HK.out.len
    obtain ⟨q0, q1, q2, q3, r0, r1, r2, r3⟩ := block4 HX2.out.blk
    obtain ⟨cur, hgb, hBg⟩ := own_blk HX2.out.pa.cs
    have HGB := Lib.hid hgb
    have hk6lt := lt_of_block HX2.out.blk
    have hglt := lt_of_block hgb
    have hkg : k6 ≠ gc := fun e => by
      have := HX2.out.blk
      rw [e, hgb] at this; cases this
    clear hgb
    by_cases hlt : j < N
    · have j0 : (0 : Int) ≤ (j : Int) := by omega
      have j1 : (j : Int) < (N : Int) := by omega
      have hjl : j < l.length := by rw [HN.out]; exact hlt
      obtain ⟨gl, offl, hpe, hgl, hcell⟩ := (HI.out.below HB.out) (by omega)
      subst hpe
      have cz := RL.at_ hcell hjl
      clear hcell
      have hB64 := HU.out (l.getD j 0) (by rw [getD_at 0 hjl]; exact List.getElem_mem _)
      have hd : l.drop j = l.getD j 0 :: l.drop (j + 1) := by rw [List.drop_eq_getElem_cons hjl, getD_at 0 hjl]
      have hF := HF.out
      rw [hd, Pl.freeL] at hF
      have hlv : pj.st.lv (l.getD j 0) = true := by
        cases h : pj.st.lv (l.getD j 0) with
        | true => rfl
        | false => rw [h] at hF; simp at hF
      rw [if_pos hlv] at hF
      clear hd
      generalize l.getD j 0 = h at *
      obtain ⟨i, hi1, hi2, hi3, hi4⟩ := HK.out.ok.live hlv
      have hix : ix h = i := by unfold ix; omega
      have HF2 := Lib.hid hF
      have HK2 := Lib.hid (HK.out.gb hlv)
      rw [hix] at HF2 HK2
      have HIX := Lib.hid hi1
      have hh0 := hB64.1
      have hh1 := hB64.2
      have HGi := Lib.hid (fun (W : World) (hA : Ar W (w.heap.size + 2) (.slice pg pj.st.gens.length cg) (.slice pu pj.st.used.length cu) (.slice pf pj.st.free.length cf) pj.st) => giveO HK.out.ok (by omega) hA hh0 hh1 hlv hi1)
      clear hF hlv hi1 hi3 hi4 hix hB64
      go_wp2_with fail
      refine (HGi.out wr HX2.out.pa.ar).mono ?_
      rintro e w2 ⟨v1, v2, v3, rfl, hA, hb⟩
      obtain ⟨pg2, cg2, pu2, cu2, pf2, cf2, rfl, rfl, rfl⟩ := hA.form
      have HA2 : Hid (Ar w2 wr.heap.size _ _ _ _) := Lib.hid hA
      have hs2 := hb.size
      have HB2 := Lib.hid hb
      clear hA hb q0 q1 q2 q3 r0 r1 r2 r3 cz
      generalize hs1' : (pj.st.gb i (h / 16777216 + 1)).gens.length = l1 at *
      generalize hs2' : (pj.st.gb i (h / 16777216 + 1)).used.length = l2 at *
      generalize hs3' : (pj.st.gb i (h / 16777216 + 1)).free.length = l3 at *
      obtain ⟨q0, q1, q2, q3, r0, r1, r2, r3⟩ := block4 ((HB2.out.block k6 hk6lt).trans HX2.out.blk)
      have ne3 : k6 ≠ w2.heap.size := by omega
      have ne4 : gc ≠ w2.heap.size := by omega
      have ne5 : k6 < w2.heap.size := by omega
      have ne6 : w2.heap.size ≠ k6 := by omega
      go_upto_region 9 with fail
      obtain ⟨V, hV⟩ : ∃ V, V = (s3 w2 k6 (.slice pg2 l1 cg2) (.slice pu2 l2 cu2) (.slice pf2 l3 cf2)).alloc (.cells #[.slice pg2 l1 cg2, .slice pu2 l2 cu2, .slice pf2 l3 cf2] 28) := ⟨_, rfl⟩
      have e0 : (s3 w2 k6 (.slice pg2 l1 cg2) (.slice pu2 l2 cu2) (.slice pf2 l3 cf2)).alloc (.cells #[.slice pg2 l1 cg2, .slice pu2 l2 cu2, .slice pf2 l3 cf2] 28) = V := hV.symm
      have hVj : ∀ j, j < w2.heap.size → j ≠ k6 → V.heap[j]? = w2.heap[j]? := fun j h1 h2 => by
        rw [hV]
        exact (heap_alloc_old _ _ (by rw [s3_size]; exact h1)).trans (s3_other _ _ _ _ h2)
      have HVs : Hid (V.heap.size = w2.heap.size + 1) := Lib.hid (by rw [hV, World.size_alloc, s3_size])
      have hVk : V.heap[k6]? = some (.cells #[.slice pg2 l1 cg2, .slice pu2 l2 cu2, .slice pf2 l3 cf2, .slice (some ⟨gc, 0, none⟩) pj.ch.length cc] 31 (0, 0)) := by
        rw [hV]
        refine (heap_alloc_old _ _ (by rw [s3_size]; omega)).trans ?_
        have h0 : w2.heap[k6]? = some (.cells #[.slice pg pj.st.gens.length cg, .slice pu pj.st.used.length cu, .slice pf pj.st.free.length cf, .slice (some ⟨gc, 0, none⟩) pj.ch.length cc] 31 (0, 0)) := (HB2.out.block k6 hk6lt).trans HX2.out.blk
        simp [s3, World.setCell, Array.getElem?_modify, h0]
      have HVA : Hid (Ar V wr.heap.size (.slice pg2 l1 cg2) (.slice pu2 l2 cu2) (.slice pf2 l3 cf2) (pj.st.gb i (h / 16777216 + 1))) := Lib.hid (by
        have h0 : ∀ (e : TypeId) (v : Value) (m : Nat) (xs : List Value), w2.ownsRow wr.heap.size e 1 v m xs → V.ownsRow wr.heap.size e 1 v m xs := fun e v m xs ho => own_of ho (fun j hj => hVj j (ho.lt j hj).2 (by have := (ho.lt j hj).1; omega))
        exact ⟨by have := h0 _ _ _ _ HA2.out.g; rw [hs1'] at this; rw [hs1']; exact this, by have := h0 _ _ _ _ HA2.out.u; rw [hs2'] at this; rw [hs2']; exact this, by have := h0 _ _ _ _ HA2.out.f; rw [hs3'] at this; rw [hs3']; exact this⟩)
      have HVC : Hid (V.ownsRow (w.heap.size + 2) 86 5 (.slice (some ⟨gc, 0, none⟩) pj.ch.length cc) pj.ch.length (cvs pj.ch)) := Lib.hid (own_of (own_below HX2.out.pa.cs HB2.out) (fun j hj => by
        obtain rfl : gc = j := by simpa [Value.ownBlock] using hj
        exact hVj gc (by omega) (Ne.symm hkg)))
      have HVK := Lib.hid hVk
      have HVo : Hid (V.os = wr.os ∧ V.tape = wr.tape ∧ V.output = wr.output ∧ ∀ j, j < wr.heap.size → j ≠ k6 → V.heap[j]? = wr.heap[j]?) := Lib.hid ⟨by rw [hV]; exact HB2.out.os, by rw [hV]; exact HB2.out.tape, by rw [hV]; exact HB2.out.output, fun j h1 h2 => (hVj j (by omega) h2).trans (HB2.out.block j h1)⟩
      unfold s3 at e0
      rw [e0]
      clear e0 hV hVj hVk
      clear q0 q1 q2 q3 r0 r1 r2 r3
      obtain ⟨q0, q1, q2, q3, -⟩ := block4 HVK.out
      obtain ⟨m0, m1, m2, m3, m4⟩ := own_chunk (i := i) HVC.out (by have := HCH.out; omega)
      have f0 := own_frozen5 HVC.out (i * 5)
      have f1 := own_frozen5 HVC.out (i * 5 + 1)
      have f2 := own_frozen5 HVC.out (i * 5 + 2)
      have f3 := own_frozen5 HVC.out (i * 5 + 3)
      have f4 := own_frozen5 HVC.out (i * 5 + 4)
      have i0 : (0 : Int) ≤ (i : Int) := by omega
      have i1 : (i : Int) < (pj.ch.length : Int) := by have := HCH.out; omega
      have hgk : gc ≠ k6 := Ne.symm hkg
      go_region_held3 (fun w' => w'.cell? ⟨k6, 3, none⟩ = some (.slice (some ⟨gc, 0, none⟩) pj.ch.length cc))
        (go_keep)
        (first
          | (go_at_call 54; refine (index_any h _ hh0 hh1).mono ?_; rw [HIX.out]; rintro e w' ⟨rfl, rfl⟩))
      go_wp2
      obtain ⟨V5, hV5⟩ : ∃ V5, V5 = s5 V gc (i * 5) (.int .i64 ([] : List Int).length) (.int .u64 (it [] 0)) (.int .u64 (it [] 1)) (.int .u64 (it [] 2)) (.int .u64 (it [] 3)) := ⟨_, rfl⟩
      have hc := own_s5 (i := i) [] HVC.out (by have := HCH.out; omega)
      have hjj : ∀ j, j ≠ gc → V5.heap[j]? = V.heap[j]? := fun j h => by rw [hV5]; exact s5_other _ _ _ _ _ _ _ h
      have hsz : V5.heap.size = V.heap.size := by rw [hV5]; exact s5_size _ _ _ _ _ _ _ _
      have hfin : PB V5 k6 gc (w.heap.size + 2) cc (.slice pg2 l1 cg2) (.slice pu2 l2 cu2) (.slice pf2 l3 cf2) (pj.gb i (h / 16777216 + 1)) ∧ Below w.heap.size w V5 ∧ V5.heap[w.heap.size + 1]? = some (.cells #[.slice none 0 0, .slice none 0 0, .slice none 0 0, .slice none 0 0] 31 (0, 0)) := by
        have hszr := HB.out.size
        have hvs := HVs.out
        refine ⟨⟨?_, ⟨?_, ?_⟩⟩, ⟨?_, ?_, ?_, ?_, ?_⟩, ?_⟩
        · rw [hjj k6 hkg]
          simpa [Pl.gb] using HVK.out
        · have h0 : ∀ (e : TypeId) (v : Value) (m : Nat) (xs : List Value), V.ownsRow wr.heap.size e 1 v m xs → V5.ownsRow (w.heap.size + 2) e 1 v m xs := fun e v m xs ho => own_drop (own_of ho (fun j e => hjj j (by have := (ho.lt j e).1; omega))) (by omega)
          exact ⟨h0 _ _ _ _ HVA.out.g, h0 _ _ _ _ HVA.out.u, h0 _ _ _ _ HVA.out.f⟩
        · rw [← hV5] at hc
          simpa [Pl.gb] using hc
        · rw [hV5]; exact HVo.out.1.trans HB.out.os
        · rw [hV5]; exact HVo.out.2.1.trans HB.out.tape
        · rw [hV5]; exact HVo.out.2.2.1.trans HB.out.output
        · omega
        · intro r hr
          exact (hjj r (by omega)).trans ((HVo.out.2.2.2 r (by omega) (by omega)).trans (HB.out.block r hr))
        · exact (hjj _ (by omega)).trans ((HVo.out.2.2.2 _ (by omega) (by omega)).trans HRr.out)
      have hfin' : PB V5.drew k6 gc (w.heap.size + 2) cc (.slice pg2 l1 cg2) (.slice pu2 l2 cu2) (.slice pf2 l3 cf2) (pj.gb i (h / 16777216 + 1)) ∧ Below w.heap.size w V5.drew ∧ V5.drew.heap[w.heap.size + 1]? = some (.cells #[.slice none 0 0, .slice none 0 0, .slice none 0 0, .slice none 0 0] 31 (0, 0)) := ⟨⟨hfin.1.blk, hfin.1.pa.below (Below.refl _ _).drew⟩, hfin.2.1.drew, hfin.2.2⟩
      clear hfin hc hjj hsz
      subst hV5
      simp only [s5, it_nil, List.length_nil] at hfin'
      have HFin := Lib.hid hfin'
      clear hfin'
      have HK3 : Hid (PK n (G + ((j + 1 : Nat) : Int)) (pj.gb i (h / 16777216 + 1))) := Lib.hid (by have := HK2.out; rw [show G + (j : Int) + 1 = G + ((j + 1 : Nat) : Int) by omega] at this; exact this)
      go_roundw
      case rel => exact ⟨j + 1, pj.gb i (h / 16777216 + 1), cc, by omega, by go_num, HK3, HF2, Lib.hid ⟨_, _, _, HFin.out.1⟩, Lib.hid HFin.out.2.1, Lib.hid HFin.out.2.2⟩
      case measure => simp [intOf] <;> omega
    · obtain rfl : j = N := by omega
      have hF := HF.out
      rw [List.drop_eq_nil_of_le (by rw [HN.out]; exact Nat.le_refl _)] at hF
      obtain rfl : pj = q := by cases hF; rfl
      obtain ⟨d0, d1, d2, d3, y0, y1, y2, y3⟩ := block4 HRr.out
      have hszr := HB.out.size
      go_wp2
      refine bodyPost_ret (v := .tuple #[.agg #[.slice pg pj.st.gens.length cg, .slice pu pj.st.used.length cu, .slice pf pj.st.free.length cf, .slice (some ⟨gc, 0, none⟩) pj.ch.length cc], .int .i64 0]) (by simp [results, Try.results18, go_sem, d0, d1, d2, d3]) rfl ⟨_, _, _, _, rfl, ?_, ?_⟩
      · exact (HX2.out.pa.set4 (by omega) _ _ _ _).drop (by omega)
      · exact below_set4 HB.out (by omega) _ _ _ _
end Go.Proofs.Ytnlnfkjjfbgceaa
