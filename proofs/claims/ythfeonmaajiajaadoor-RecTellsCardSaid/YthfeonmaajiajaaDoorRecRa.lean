/-
  The document's own comparisons of lists of words; its Words and Text.
-/
import Derived.Test.YthfeonmaajiajaaDoorRecI
namespace Go.Proofs.YthfeonmaajiajaaDoor
open Go.ChangeShapes Go.WideShapes Go.ChangeAt Go.RowKit
open Rm
set_option linter.unusedVariables false
set_option linter.unusedSimpArgs false

set_option maxHeartbeats 1000000 in
theorem handles_any (A B : Option Addr) (n m ca cb : Nat) (l k : List Int) (w : World) (hA : LV w A (gvs l)) (hB : LV w B (gvs k)) (hn : l.length = n) (hm : k.length = m) (hn1 : n ≤ 1000000) (hm1 : m ≤ 1000000) :
    Calls Tryd.prog 13 #[.slice A n ca, .slice B m cb] w fun e w' => e = .returned (.bool (decide (l = k))) ∧ Below w.heap.size w w' := by
  by_cases hnm : n = m
  · subst hnm
    have HA := Lib.hid hA
    have HB := Lib.hid hB
    have HN := Lib.hid hn
    have HM := Lib.hid hm
    clear hA hB hn hm
    have hne : ((n : Int) != (n : Int)) = false := by simp
    go_enter Tryd.func13, Tryd.ntmps13
    go_wp2
    go_loopw [5] (fun i wr => ∃ q : Nat, q ≤ n ∧ i = .int .i64 q ∧ Hid (l.take q = k.take q) ∧ Hid (∃ d, wr = w.drewN d)) (fun i _ => n - (intOf i).toNat)
    case atStart => exact ⟨0, Nat.zero_le _, rfl, Lib.hid (by simp), Lib.hid ⟨0, rfl⟩⟩
    case round =>
      obtain ⟨q, hq, rfl, HE, hd⟩ := hrel
      obtain ⟨d, rfl⟩ := hd.out
      by_cases hlt : q < n
      · have hl : q < l.length := by rw [HN.out]; exact hlt
        have hk : q < k.length := by rw [HM.out]; exact hlt
        obtain ⟨g, o, rfl, hg, hc⟩ := gat HA.out hl
        obtain ⟨g', o', rfl, hg', hc'⟩ := gat HB.out hk
        have HS1 := Lib.hid (List.take_succ_eq_append_getElem hl)
        have HS2 := Lib.hid (List.take_succ_eq_append_getElem hk)
        have HNE : Hid (l[q] ≠ k[q] → l ≠ k) := Lib.hid (fun h e => by subst e; exact h rfl)
        generalize l[q] = x at *
        generalize k[q] = y at *
        by_cases hx : x = y
        · subst hx
          have hb : (x != x) = false := by simp
          go_wp2
          go_quiet (fail)
          go_wp2
          go_roundw
          case rel => exact ⟨q + 1, by omega, by go_num, Lib.hid (by rw [HS1.out, HS2.out, HE.out]), Lib.hid ⟨d + nq, by simp⟩⟩
          case measure => simp [intOf]; omega
        · have hb : (x != y) = true := by simpa using hx
          have HX := Lib.hid hx
          clear hx
          go_wp2
          go_quiet (fail)
          go_wp2
          go_ret
          exact ⟨ret_bool (decide_eq_false (HNE.out HX.out)).symm, bdrewN (bdrewN (Below.refl _ _) d) nq⟩
      · go_wp2
        go_ret
        refine ⟨ret_bool (decide_eq_true ?_).symm, bdrewN (Below.refl _ _) d⟩
        have := HE.out
        rwa [List.take_of_length_le (by rw [HN.out]; omega), List.take_of_length_le (by rw [HM.out]; omega)] at this
  · have hne : ((n : Int) != (m : Int)) = true := by simp; omega
    have HN := Lib.hid hn
    have HM := Lib.hid hm
    clear hn hm
    go_enter Tryd.func13, Tryd.ntmps13
    go_wp2
    go_ret
    exact ⟨ret_bool (decide_eq_false (fun e => hnm (by rw [← HN.out, ← HM.out, e]))).symm, Below.refl _ _⟩

set_option maxHeartbeats 1000000 in
theorem rsame_any (A B : Option Addr) (n m ca cb : Nat) (l k : List Int) (w : World) (hA : LV w A (gvs l)) (hB : LV w B (gvs k)) (hn : l.length = n) (hm : k.length = m) (hn1 : n ≤ 1000000) (hm1 : m ≤ 1000000) :
    Calls Tryd.prog 25 #[.slice A n ca, .slice B m cb] w fun e w' => e = .returned (.bool (decide (l = k))) ∧ Below w.heap.size w w' := by
  by_cases hnm : n = m
  · subst hnm
    have HA := Lib.hid hA
    have HB := Lib.hid hB
    have HN := Lib.hid hn
    have HM := Lib.hid hm
    clear hA hB hn hm
    have hne : ((n : Int) != (n : Int)) = false := by simp
    go_enter Tryd.func25, Tryd.ntmps25
    go_wp2
    go_loopw [5] (fun i wr => ∃ q : Nat, q ≤ n ∧ i = .int .i64 q ∧ Hid (l.take q = k.take q) ∧ Hid (∃ d, wr = w.drewN d)) (fun i _ => n - (intOf i).toNat)
    case atStart => exact ⟨0, Nat.zero_le _, rfl, Lib.hid (by simp), Lib.hid ⟨0, rfl⟩⟩
    case round =>
      obtain ⟨q, hq, rfl, HE, hd⟩ := hrel
      obtain ⟨d, rfl⟩ := hd.out
      by_cases hlt : q < n
      · have hl : q < l.length := by rw [HN.out]; exact hlt
        have hk : q < k.length := by rw [HM.out]; exact hlt
        obtain ⟨g, o, rfl, hg, hc⟩ := gat HA.out hl
        obtain ⟨g', o', rfl, hg', hc'⟩ := gat HB.out hk
        have HS1 := Lib.hid (List.take_succ_eq_append_getElem hl)
        have HS2 := Lib.hid (List.take_succ_eq_append_getElem hk)
        have HNE : Hid (l[q] ≠ k[q] → l ≠ k) := Lib.hid (fun h e => by subst e; exact h rfl)
        generalize l[q] = x at *
        generalize k[q] = y at *
        by_cases hx : x = y
        · subst hx
          have hb : (x != x) = false := by simp
          go_wp2
          go_quiet (fail)
          go_wp2
          go_roundw
          case rel => exact ⟨q + 1, by omega, by go_num, Lib.hid (by rw [HS1.out, HS2.out, HE.out]), Lib.hid ⟨d + nq, by simp⟩⟩
          case measure => simp [intOf]; omega
        · have hb : (x != y) = true := by simpa using hx
          have HX := Lib.hid hx
          clear hx
          go_wp2
          go_quiet (fail)
          go_wp2
          go_ret
          exact ⟨ret_bool (decide_eq_false (HNE.out HX.out)).symm, bdrewN (bdrewN (Below.refl _ _) d) nq⟩
      · go_wp2
        go_ret
        refine ⟨ret_bool (decide_eq_true ?_).symm, bdrewN (Below.refl _ _) d⟩
        have := HE.out
        rwa [List.take_of_length_le (by rw [HN.out]; omega), List.take_of_length_le (by rw [HM.out]; omega)] at this
  · have hne : ((n : Int) != (m : Int)) = true := by simp; omega
    have HN := Lib.hid hn
    have HM := Lib.hid hm
    clear hn hm
    go_enter Tryd.func25, Tryd.ntmps25
    go_wp2
    go_ret
    exact ⟨ret_bool (decide_eq_false (fun e => hnm (by rw [← HN.out, ← HM.out, e]))).symm, Below.refl _ _⟩


/-- The value of the bytes m, m-1, .. from byte k on of a piece: what the document's loop has at k. -/
theorem num_cons (b : UInt8) (r : Wd) : num (b :: r) = (b.toNat : Int) + 256 * num r := rfl
theorem piece_drop (l : Wd) (i k : Nat) (h1 : k < 8) (h2 : 8 * i + k < l.length) : (piece l i).drop k = l[8 * i + k] :: (piece l i).drop (k + 1) := by
  have hk : k < (piece l i).length := by rw [piece_length]; omega
  rw [List.drop_eq_getElem_cons hk]
  congr 1
  simp [piece]
set_option maxRecDepth 100000 in
set_option maxHeartbeats 4000000 in
theorem rwords_any (l : Wd) (w : World) (hs : l.length ≤ 100000) : Calls Tryd.prog 21 #[.string (str l)] w (GivesU (wds l) w) := by
  obtain ⟨i0, hi, hz0, hz1, hz2⟩ := info_parts info_G
  have HI := Lib.hid (And.intro hi (And.intro hz0 (And.intro hz1 hz2)))
  have hz : (str l).size = l.length := str_size _
  have hbt := PlainAid.get_bt (str l)
  clear hi hz0 hz1 hz2
  go_enter Tryd.func21, Tryd.ntmps21
  go_wp2
  go_loopw [3, 4] (fun o i wr => ∃ (k : Nat) (p : Option Addr) (cp : Nat), k ≤ nw l.length ∧ i = .int .i64 ((8 * k : Nat) : Int) ∧ o = .slice p k cp ∧ Hid (wr.ownsRow w.heap.size 23 1 (.slice p k cp) k (gvs (W l k))) ∧ Hid (Below w.heap.size w wr)) (fun _ i _ => l.length + 8 - (intOf i).toNat)
  case atStart => exact ⟨0, _, 0, Nat.zero_le _, rfl, rfl, Lib.hid (World.ownsRow_made w #[] 0 (Nat.le_refl _) (by simp [maxLen]) rfl), Lib.hid ((Below.refl _ w).alloc (Nat.le_refl _) _)⟩
  case round =>
    obtain ⟨k, p, cp, hk, rfl, rfl, HO, HB⟩ := hrel
    have hBs := HB.out.size
    by_cases hlt : 8 * k < l.length
    · have hkn := nw_lt.2 hlt
      obtain ⟨pl, hpl⟩ : ∃ pl, (piece l k).length = pl := ⟨_, rfl⟩
      have hpe : pl = min 8 (l.length - 8 * k) := by rw [← hpl, piece_length]
      have hp1 : 1 ≤ pl := by omega
      have hp8 : pl ≤ 8 := by omega
      have hp9 : 8 * k + pl ≤ l.length := by omega
      have hdr : num ((piece l k).drop pl) = 0 := by rw [List.drop_of_length_le (by omega)]; rfl
      have HDR := Lib.hid hdr
      have HPE := Lib.hid hpe
      have HWs := Lib.hid (W_succ l k)
      have hnl := num_lt8 (piece l k) (piece_le l k)
      have hn0 := num_nonneg (piece l k)
      clear hpl hdr hpe
      go_wp2_with fail
      all_goals
        have hpe2 := HPE.out
        go_loopw [5, 6] (fun a j wx => ∃ q : Nat, q ≤ pl ∧ j = .int .i64 (((8 * k + q : Nat) : Int) - 1) ∧ a = .int .u64 (num ((piece l k).drop q)) ∧ wx = wr) (fun _ j _ => (intOf j + 1).toNat - 8 * k)
        case atStart => exact ⟨pl, Nat.le_refl _, by congr 1; omega, by rw [HDR.out], rfl⟩
        case round =>
          obtain ⟨q, hq, rfl, rfl, rfl⟩ := hrel
          cases q with
          | zero =>
            have e0 : ((8 * k + 0 : Nat) : Int) - 1 = 8 * (k : Int) - 1 := by omega
            have e1 : num ((piece l k).drop 0) = num (piece l k) := by rw [List.drop_zero]
            rw [e0, e1]
            have hO := HO.out
            go_wp2_with (at_builtin; refine wpList_append_own _ rfl _ _ 28 rfl w.heap.size 23 i0 (.int .u64 0) 1 8 Tryd.underlying28 HI.out.1 HI.out.2.1 HI.out.2.2.1 HI.out.2.2.2 rfl (by decide) _ _ _ rfl (HO.out.alloc _) ⟨_, 0, none⟩ 1 1 [.int .u64 (num (piece l k))] rfl rfl (cell_one_new _ _ _) (by simp [Value.oneCell']) (by unfold maxLen; omega) (by omega) (by simp; omega) ?_; intro v' w2 hown' hgrow _; obtain ⟨g', cap', rfl⟩ := ownsRow_succ hown'; have HO' := Lib.hid hown'; have HG := Lib.hid hgrow; clear hown' hgrow)
            go_roundw
            case rel =>
              refine ⟨k + 1, _, cap', by omega, by go_num, rfl, Lib.hid ?_, Lib.hid ((HB.out.alloc HB.out.size _).grown HG.out (HB.out.alloc HB.out.size _).size (fun q e => (HO.out.lt q e).1))⟩
              rw [HWs.out, gvs_append]
              exact HO'.out
            case measure => simp [intOf]; omega
          | succ q =>
            have e0 : ((8 * k + (q + 1) : Nat) : Int) - 1 = ((8 * k + q : Nat) : Int) := by omega
            rw [e0]
            have hql : 8 * k + q < l.length := by omega
            have HPD : Hid (num ((piece l k).drop q) = (l[8 * k + q].toNat : Int) + 256 * num ((piece l k).drop (q + 1))) := Lib.hid (by rw [piece_drop l k q (by omega) hql]; rfl)
            have hv0 := num_nonneg ((piece l k).drop (q + 1))
            have hv1 := num_lt8 ((piece l k).drop q) (by rw [List.length_drop]; have := piece_le l k; omega)
            rw [HPD.out] at hv1
            have hbq : (l[8 * k + q].toNat : Int) = PlainAid.bt (str l) (8 * k + q) := by rw [← hbt (8 * k + q) (by rw [hz]; exact hql)]; rfl
            rw [hbq] at HPD hv1
            have b0 := PlainAid.bt_nonneg (str l) (8 * k + q)
            have b1 := PlainAid.bt_le (str l) (8 * k + q)
            clear hbq
            generalize num ((piece l k).drop (q + 1)) = acc at *
            go_wp2
            go_roundw
            case rel => exact ⟨q, by omega, by first | rfl | (congr 1; omega) | (congr 1), by rw [HPD.out]; first | rfl | (congr 1; omega) | (congr 1), by first | rfl | trivial⟩
            case measure => simp [intOf]; omega
    · have hkn : ¬ k < nw l.length := fun h => hlt (nw_lt.1 h)
      obtain rfl : k = nw l.length := by omega
      go_wp2
      go_ret
      refine ⟨_, rfl, ?_, HB.out⟩
      rw [wds_length]
      exact HO.out
end Go.Proofs.YthfeonmaajiajaaDoor
