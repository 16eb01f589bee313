/-
  The document's own number and sixes.
-/
import Derived.Test.YthfeonmaajiajaaDoorRecSa
namespace Go.Proofs.YthfeonmaajiajaaDoor
open Go.ChangeShapes Go.WideShapes Go.ChangeAt Go.RowKit
open Rm
set_option linter.unusedVariables false
set_option linter.unusedSimpArgs false

/-- The number of parts, the first one lowest. -/
def nmb : List Int → List Int → Int
  | p :: ps, v :: vs => nmb ps vs * v + p
  | _, _ => 0
theorem nmb_drop {ps vs : List Int} {q : Nat} (h : q < ps.length) (h2 : q < vs.length) : nmb (ps.drop q) (vs.drop q) = nmb (ps.drop (q + 1)) (vs.drop (q + 1)) * vs[q] + ps[q] := by
  rw [List.drop_eq_getElem_cons h, List.drop_eq_getElem_cons h2]; rfl
set_option maxHeartbeats 1000000 in
theorem number_any (A B : Option Addr) (n ca cb : Nat) (ps vs : List Int) (w : World) (hA : LV w A (gvs ps)) (hB : LV w B (gvs vs)) (hn : ps.length = n) (hm : vs.length = n) (hn1 : n ≤ 1000) (hp : U64 ps) (hv : U64 vs)
    (hN : ∀ k, 0 ≤ nmb (ps.drop k) (vs.drop k) ∧ nmb (ps.drop k) (vs.drop k) ≤ 18446744073709551615) :
    Calls Tryd.prog 19 #[.slice A n ca, .slice B n cb] w fun e w' => e = .returned (.int .u64 (nmb ps vs)) ∧ Below w.heap.size w w' := by
  have HA := Lib.hid hA
  have HB := Lib.hid hB
  have HN := Lib.hid hn
  have HM := Lib.hid hm
  have HP := Lib.hid hp
  have HV := Lib.hid hv
  have HNN := Lib.hid hN
  clear hA hB hn hm hp hv hN
  go_enter Tryd.func19, Tryd.ntmps19
  go_wp2
  go_loopw [5, 6] (fun N i wr => ∃ k : Nat, k ≤ n ∧ i = .int .i64 ((k : Int) - 1) ∧ N = .int .u64 (nmb (ps.drop k) (vs.drop k)) ∧ Hid (∃ d, wr = w.drewN d)) (fun _ i _ => (intOf i + 1).toNat)
  case atStart => exact ⟨n, Nat.le_refl _, rfl, by rw [List.drop_of_length_le (by rw [HN.out]; exact Nat.le_refl _)]; rfl, Lib.hid ⟨0, rfl⟩⟩
  case round =>
    obtain ⟨k, hk, rfl, rfl, hd⟩ := hrel
    obtain ⟨d, rfl⟩ := hd.out
    cases k with
    | zero =>
      rw [List.drop_zero, List.drop_zero]
      have e0 : ((0 : Nat) : Int) - 1 = -1 := rfl
      rw [e0]
      go_wp2
      go_ret
      exact ⟨rfl, bdrewN (Below.refl _ _) d⟩
    | succ q =>
      have e0 : ((q + 1 : Nat) : Int) - 1 = (q : Int) := by omega
      rw [e0]
      have hqp : q < ps.length := by rw [HN.out]; omega
      have hqv : q < vs.length := by rw [HM.out]; omega
      obtain ⟨g, o, rfl, hg, hc⟩ := gat HA.out hqp
      obtain ⟨g', o', rfl, hg', hc'⟩ := gat HB.out hqv
      have HD := Lib.hid (nmb_drop hqp hqv)
      obtain ⟨b0, b1⟩ := HNN.out q
      obtain ⟨c0, c1⟩ := HNN.out (q + 1)
      rw [HD.out] at b0 b1
      obtain ⟨p0, p1⟩ := HP.out _ (List.getElem_mem hqp)
      obtain ⟨v0, v1⟩ := HV.out _ (List.getElem_mem hqv)
      generalize ps[q] = p at *
      generalize vs[q] = v at *
      generalize hZ : nmb (ps.drop (q + 1)) (vs.drop (q + 1)) = Z at *
      have z0 : 0 ≤ Z * v := Int.mul_nonneg c0 v0
      have z1 : Z * v ≤ 18446744073709551615 := by omega
      have HZ := Lib.hid hZ
      clear hZ
      go_wp2_with fail
      go_quiet (fail)
      go_wp2
      go_roundw
      case rel => exact ⟨q, by omega, by first | rfl | (congr 1; omega), by rw [HD.out], Lib.hid ⟨d + nq, by simp⟩⟩
      case measure => simp [intOf] <;> omega
def li (l : List Wd) : List Int := (la l).map (fun (x : Nat) => (x : Int))
theorem li_length (l : List Wd) : (li l).length = l.length := by simp [li, la]
theorem nmb_six : ∀ (x : List Nat), nmb (x.map (fun (y : Nat) => (y : Int))) (List.replicate x.length 64) = six x
  | [] => rfl
  | a :: r => by
    show nmb (r.map (fun (y : Nat) => (y : Int))) (List.replicate r.length 64) * 64 + (a : Int) = (a : Int) + 64 * six r
    rw [nmb_six r]; omega
theorem nmb_six_drop (x : List Nat) (k : Nat) : nmb ((x.map (fun (y : Nat) => (y : Int))).drop k) ((List.replicate x.length (64 : Int)).drop k) = six (x.drop k) := by
  rw [← List.map_drop, List.drop_replicate, ← List.length_drop, nmb_six]
theorem li_take_succ {l : List Wd} {k : Nat} (h : k < l.length) : (li l).take (k + 1) = (li l).take k ++ [(l[k].length : Int)] := by
  have h2 : k < (li l).length := by rw [li_length]; exact h
  rw [List.take_succ_eq_append_getElem h2]
  simp [li, la]
theorem apart_next {w : World} {b m : Nat} {e : TypeId} {P P' V : Value} {ys : List Value} (hV : w.ownsRow b e 1 V m ys) (hne : P.ownBlock ≠ V.ownBlock) (hob : P'.ownBlock = P.ownBlock ∨ P'.ownBlock = some w.heap.size) : P'.ownBlock ≠ V.ownBlock := by
  rcases hob with h | h
  · rw [h]; exact hne
  · rw [h]; intro e; have := (hV.lt _ e.symm).2; omega
set_option maxHeartbeats 1000000 in
theorem sixes_any (A : Option Addr) (n c : Nat) (l : List Wd) (w : World) (hA : LV w A (svs l)) (hl : l.length = n) (hn : n ≤ 8) (h60 : ∀ a ∈ l, a.length ≤ 60) :
    Calls Tryd.prog 20 #[.slice A n c] w fun e w' => e = .returned (.int .u64 (six (la l))) ∧ Below w.heap.size w w' := by
  obtain ⟨i0, hi, hz0, hz1, hz2⟩ := info_parts info_G
  have HI := Lib.hid (And.intro hi (And.intro hz0 (And.intro hz1 hz2)))
  have HA := Lib.hid hA
  have HL := Lib.hid hl
  have H60 := Lib.hid h60
  clear hi hz0 hz1 hz2 hA hl h60
  go_enter Tryd.func20, Tryd.ntmps20
  go_wp2
  go_loopw [3, 4, 5] (fun P V i wr => ∃ (k : Nat) (p : Option Addr) (cp : Nat) (q : Option Addr) (cq : Nat), k ≤ n ∧ i = .int .i64 k ∧ P = .slice p k cp ∧ V = .slice q k cq ∧ Hid (wr.ownsRow w.heap.size 23 1 (.slice p k cp) k (gvs ((li l).take k))) ∧ Hid (wr.ownsRow w.heap.size 23 1 (.slice q k cq) k (gvs (List.replicate k 64))) ∧ Hid ((Value.slice p k cp).ownBlock ≠ (Value.slice q k cq).ownBlock) ∧ Hid (Below w.heap.size w wr)) (fun _ _ i _ => n - (intOf i).toNat)
  case atStart =>
    refine ⟨0, _, 0, _, 0, Nat.zero_le _, rfl, rfl, rfl, Lib.hid ((World.ownsRow_made w #[] 0 (Nat.le_refl _) (by simp [maxLen]) rfl).alloc _), Lib.hid ?_, Lib.hid ?_, Lib.hid (((Below.refl _ w).alloc (Nat.le_refl _) _).alloc (by simp) _)⟩
    · have := World.ownsRow_made (base := w.heap.size) (e := 23) (size := 1) (w.alloc (.cells #[] 23)) #[] 0 (by simp) (by simp [maxLen]) rfl
      simpa [gvs] using this
    · simp [Value.ownBlock]
  case round =>
    obtain ⟨k, p, cp, q, cq, hk, rfl, rfl, rfl, HO, HV, HNe, HB⟩ := hrel
    have hBs := HB.out.size
    by_cases hlt : k < n
    · have hkl : k < l.length := by rw [HL.out]; exact hlt
      obtain ⟨g, o, rfl, hg, hc⟩ := sat (HA.out.below HB.out) hkl
      have hsz : (str l[k]).size = l[k].length := str_size _
      have h60k := H60.out _ (List.getElem_mem hkl)
      have HTs := Lib.hid (li_take_succ hkl)
      generalize l[k] = a at *
      go_wp2_with (at_builtin; first
        | (refine wpList_append_own_at _ rfl _ _ 28 rfl w.heap.size 23 i0 (.int .u64 0) 1 8 Tryd.underlying28 HI.out.1 HI.out.2.1 HI.out.2.2.1 HI.out.2.2.2 rfl (by decide) _ _ _ rfl (HO.out.alloc _) ⟨_, 0, none⟩ 1 1 [.int .u64 (a.length : Int)] rfl rfl (cell_one_new _ _ _) (by simp [Value.oneCell']) (by unfold maxLen; omega) (by omega) (by simp; omega) ?_; intro v1 w1 hown1 hgrow1 _ hob1; obtain ⟨g1, cap1, rfl⟩ := ownsRow_succ hown1; have HO1 := Lib.hid hown1; have HV1 := Lib.hid ((HV.out.alloc _).kept hgrow1 (.inr (fun e => HNe.out e.symm))); have HNe1 := Lib.hid (apart_next (HV.out.alloc _) HNe.out hob1); have HB1 := Lib.hid ((HB.out.alloc HB.out.size _).grown hgrow1 (HB.out.alloc HB.out.size _).size (fun q e => (HO.out.lt q e).1)); have hs1 := HB1.out.size; clear hown1 hgrow1 hob1 HO HV HNe HB)
        | (refine wpList_append_own_at _ rfl _ _ 28 rfl w.heap.size 23 i0 (.int .u64 0) 1 8 Tryd.underlying28 HI.out.1 HI.out.2.1 HI.out.2.2.1 HI.out.2.2.2 rfl (by decide) _ _ _ rfl (HV1.out.alloc _) ⟨_, 0, none⟩ 1 1 [.int .u64 64] rfl rfl (cell_one_new _ _ _) (by simp [Value.oneCell']) (by unfold maxLen; omega) (by omega) (by simp; omega) ?_; intro v2 w2 hown2 hgrow2 _ hob2; obtain ⟨g2, cap2, rfl⟩ := ownsRow_succ hown2; have HV2 := Lib.hid hown2; have HO2 := Lib.hid ((HO1.out.alloc _).kept hgrow2 (.inr HNe1.out)); have HNe2 := Lib.hid (fun e => apart_next (HO1.out.alloc _) (fun e => HNe1.out e.symm) hob2 (Eq.symm e)); have HB2 := Lib.hid ((HB1.out.alloc HB1.out.size _).grown hgrow2 (HB1.out.alloc HB1.out.size _).size (fun q e => (HV1.out.lt q e).1)); clear hown2 hgrow2 hob2))
      go_roundw
      case rel =>
        refine ⟨k + 1, _, cap1, _, cap2, by omega, by go_num, rfl, rfl, Lib.hid ?_, Lib.hid ?_, Lib.hid HNe2.out, HB2⟩
        · rw [HTs.out, gvs_append]
          exact HO2.out
        · rw [List.replicate_succ', gvs_append]
          exact HV2.out
      case measure => simp [intOf]; omega
    · obtain rfl : k = n := by omega
      have e1 : (li l).take k = li l := by rw [List.take_of_length_le (by rw [li_length, HL.out]; exact Nat.le_refl _)]
      have e2 : k = (la l).length := by simp [la, HL.out]
      have hx : ∀ x ∈ la l, x < 64 := la_lt H60.out
      have HLn : Hid ((li l).length = k) := Lib.hid (by rw [li_length, HL.out])
      have hU : U64 (li l) := fun x hx2 => by
        obtain ⟨y, hy, rfl⟩ := List.mem_map.1 hx2
        have := hx y hy
        exact ⟨by omega, by omega⟩
      have hO := HO.out
      rw [e1] at hO
      have HNum := Lib.hid (number_any p q k cp cq (li l) (List.replicate k 64) wr (LV.of_own hO) (LV.of_own HV.out) HLn.out (by simp) (by omega) hU (fun x hx => by rw [(List.mem_replicate.1 hx).2]; omega) (fun j => by
        have h := nmb_six_drop (la l) j
        rw [← e2] at h
        have h8 := six_lt8 (l := (la l).drop j) (fun x h => hx x (List.mem_of_mem_drop h)) (by rw [List.length_drop]; omega)
        have h0 := six_nonneg ((la l).drop j)
        have e : nmb ((li l).drop j) ((List.replicate k (64 : Int)).drop j) = six ((la l).drop j) := h
        rw [e]
        exact ⟨h0, by omega⟩))
      have e3 : nmb (li l) (List.replicate k 64) = six (la l) := by
        have := nmb_six (la l)
        rw [← e2] at this
        exact this
      rw [e3] at HNum
      clear e1 e2 e3 hx hU hO
      go_wp2_with fail
      refine HNum.out.mono ?_
      rintro e w1 ⟨rfl, hb⟩
      have HB1 := Lib.hid (HB.out.trans (hb.mono HB.out.size))
      clear hb
      go_wp2
      go_ret
      exact ⟨rfl, HB1.out⟩
end Go.Proofs.YthfeonmaajiajaaDoor
