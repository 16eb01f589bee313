/-
  The document's own New.
-/
import Derived.Test.YtnhdpaiekcddiaaSlotGa
namespace Go.Proofs.Ytnhdpaiekcddiaa
open Go.ChangeShapes Go.WideShapes Go.ChangeAt Go.RowKit
set_option linter.unusedVariables false

theorem heap_set1 {w : World} {k : Nat} {a b c : Value} {t : TypeId} (h : w.heap[k]? = some (.cells #[a, b, c] t (0, 0))) (x : Value) : (w.setCell ⟨k, 0, none⟩ x).heap[k]? = some (.cells #[x, b, c] t (0, 0)) := by
  simp [World.setCell, Array.getElem?_modify, h]
theorem heap_set2 {w : World} {k : Nat} {a b c : Value} {t : TypeId} (h : w.heap[k]? = some (.cells #[a, b, c] t (0, 0))) (x : Value) : (w.setCell ⟨k, 1, none⟩ x).heap[k]? = some (.cells #[a, x, c] t (0, 0)) := by
  simp [World.setCell, Array.getElem?_modify, h]
theorem downs_step {n q : Nat} (h : q < n) : (downs n).take (q + 1) = (downs n).take q ++ [(n : Int) - 1 - q] := by
  rw [List.take_succ_eq_append_getElem (by rw [downs_length]; exact h), downs_at]
  congr 2
  omega

set_option maxHeartbeats 1000000 in
theorem rnew_bad (n : Int) (w : World) (h : n < 0 ∨ 500 < n) (h0 : -9223372036854775808 ≤ n) (h1 : n ≤ 9223372036854775807) :
    Calls Try.prog 10 #[.int .i64 n] w (GivesE noSt 1 w) := by
  by_cases hn : n < 0
  all_goals
    have hn2 : 0 ≤ n → 500 < n := by omega
    go_enter Try.func10, Try.ntmps10
    go_wp2
    refine bodyPost_ret (v := .tuple #[.agg #[.slice none 0 0, .slice none 0 0, .slice none 0 0], .int .i64 1]) (by simp [results, Try.results10, go_sem]) rfl ⟨_, _, _, rfl, ⟨World.ownsRow_nil _ _ _ _, World.ownsRow_nil _ _ _ _, World.ownsRow_nil _ _ _ _⟩, ?_⟩
    exact (Below.refl _ w).alloc (Nat.le_refl _) _

set_option maxHeartbeats 4000000 in
theorem rnew_ok (n : Nat) (w : World) (h : n ≤ 500) :
    Calls Try.prog 10 #[.int .i64 n] w (GivesE (fresh n) 0 w) := by
  obtain ⟨iG, hiG, gz0, gz1, gz2⟩ := info_parts info_G
  obtain ⟨iU, hiU, uz0, uz1, uz2⟩ := info_parts info_U
  obtain ⟨iF, hiF, fz0, fz1, fz2⟩ := info_parts info_F
  have HIG := Lib.hid (And.intro hiG (And.intro gz0 (And.intro gz1 gz2)))
  have HIU := Lib.hid (And.intro hiU (And.intro uz0 (And.intro uz1 uz2)))
  have HIF := Lib.hid (And.intro hiF (And.intro fz0 (And.intro fz1 fz2)))
  clear hiG gz0 gz1 gz2 hiU uz0 uz1 uz2 hiF fz0 fz1 fz2
  go_enter Try.func10, Try.ntmps10
  go_wp2
  obtain ⟨W, hW⟩ : ∃ W, W = (w.alloc (.cells #[.slice none 0 0, .slice none 0 0, .slice none 0 0] 33)).alloc (.cells #[.slice none 0 0, .slice none 0 0, .slice none 0 0] 33) := ⟨_, rfl⟩
  have HW : Hid (Below w.heap.size w W ∧ W.heap.size = w.heap.size + 2 ∧ W.heap[w.heap.size]? = some (.cells #[.slice none 0 0, .slice none 0 0, .slice none 0 0] 33 (0, 0)) ∧ W.heap[w.heap.size + 1]? = some (.cells #[.slice none 0 0, .slice none 0 0, .slice none 0 0] 33 (0, 0))) := Lib.hid (by
    subst hW
    exact ⟨((Below.refl _ w).alloc (Nat.le_refl _) _).alloc (by simp) _, by simp, eh2a _ _ _, eh2b _ _ _⟩)
  rw [← hW]
  clear hW
  have HS := Lib.hid HW.out.2.1
  go_loopw [5] (fun i wr => ∃ (q : Nat) (pg : Option Addr) (cg : Nat) (pu : Option Addr) (cu : Nat) (pf : Option Addr) (cf : Nat), q ≤ n ∧ i = .int .i64 q ∧ Hid (wr.heap[w.heap.size + 1]? = some (.cells #[.slice pg q cg, .slice pu q cu, .slice pf q cf] 33 (0, 0))) ∧
      Hid (wr.ownsRow (w.heap.size + 2) 23 1 (.slice pg q cg) q (gvs (List.replicate q 1))) ∧ Hid (wr.ownsRow (w.heap.size + 2) 4 1 (.slice pu q cu) q (bvs (List.replicate q false))) ∧ Hid (wr.ownsRow (w.heap.size + 2) 3 1 (.slice pf q cf) q (ivs ((downs n).take q))) ∧ Hid (Below (w.heap.size + 1) W wr)) (fun i _ => n - (intOf i).toNat)
  case atStart => exact ⟨0, none, 0, none, 0, none, 0, Nat.zero_le _, rfl, Lib.hid HW.out.2.2.2, Lib.hid (World.ownsRow_nil _ _ _ _), Lib.hid (World.ownsRow_nil _ _ _ _), Lib.hid (World.ownsRow_nil _ _ _ _), Lib.hid (Below.refl _ _)⟩
  case round =>
    obtain ⟨q, pg, cg, pu, cu, pf, cf, hq, rfl, HK, HOg, HOu, HOf, HB⟩ := hrel
    have hsr : w.heap.size + 2 ≤ wr.heap.size := by have := HB.out.size; have := HS.out; omega
    by_cases hlt : q < n
    · obtain ⟨c0, c1, c2, z0, z1, z2⟩ := block3 HK.out
      go_upto_region 8 with (at_builtin; refine wpList_append_own_at _ rfl _ _ 25 rfl (w.heap.size + 2) 23 iG (.int .u64 0) 1 8 Try.underlying25 HIG.out.1 HIG.out.2.1 HIG.out.2.2.1 HIG.out.2.2.2 rfl (by decide) _ _ _ rfl (HOg.out.alloc _) ⟨wr.heap.size, 0, none⟩ 1 1 [.int .u64 1] rfl rfl (cell_one_new _ _ _) (by simp [Value.oneCell']) (by unfold maxLen; omega) (by omega) (by simp; omega) ?_; intro v' wg hown' hgrow _ hat; obtain ⟨gg, kg, rfl⟩ := own_succ hown'; have HNg := Lib.hid hown'; have HGg : Hid ((wr.alloc (.cells #[.int .u64 1] 23)).grownBy wg (Value.slice pg q cg).ownBlock) := Lib.hid hgrow; have HKg5 := Lib.hid ((hgrow.block (w.heap.size + 1) (by simp; omega) (Ne.symm (own_apart HOg.out HK.out (by decide)))).trans ((Below.heap_alloc _ _ _ (by omega)).trans HK.out)); obtain ⟨d0, d1, d2, y0, y1, y2⟩ := block3 HKg5.out; clear hown' hgrow hat)
      obtain ⟨Xg, hX⟩ : ∃ X, X = wg.setCell ⟨w.heap.size + 1, 0, none⟩ (.slice (some ⟨gg, 0, none⟩) (q + 1) kg) := ⟨_, rfl⟩
      have HKg : Hid (Xg.heap[w.heap.size + 1]? = some (.cells #[.slice (some ⟨gg, 0, none⟩) (q + 1) kg, .slice pu q cu, .slice pf q cf] 33 (0, 0))) := Lib.hid (by rw [hX]; exact heap_set1 HKg5.out _)
      have HRg : Hid (Xg.ownsRow (w.heap.size + 2) 23 1 (.slice (some ⟨gg, 0, none⟩) (q + 1) kg) (q + 1) _) := Lib.hid (by rw [hX]; exact ownsRow_setCell_other HNg.out (a := ⟨w.heap.size + 1, 0, none⟩) (own_apart HNg.out HKg5.out (by decide)) _)
      have HOug := Lib.hid (show Xg.ownsRow _ _ _ _ _ _ by rw [hX]; exact ownsRow_setCell_other ((HOu.out.alloc (.cells #[.int .u64 1] 23)).kept HGg.out (own_other HOu.out HOg.out (by decide))) (a := ⟨w.heap.size + 1, 0, none⟩) (own_apart ((HOu.out.alloc (.cells #[.int .u64 1] 23)).kept HGg.out (own_other HOu.out HOg.out (by decide))) HKg5.out (by decide)) _)
      have HOfg := Lib.hid (show Xg.ownsRow _ _ _ _ _ _ by rw [hX]; exact ownsRow_setCell_other ((HOf.out.alloc (.cells #[.int .u64 1] 23)).kept HGg.out (own_other HOf.out HOg.out (by decide))) (a := ⟨w.heap.size + 1, 0, none⟩) (own_apart ((HOf.out.alloc (.cells #[.int .u64 1] 23)).kept HGg.out (own_other HOf.out HOg.out (by decide))) HKg5.out (by decide)) _)
      have HBg : Hid (Below (w.heap.size + 1) W Xg) := Lib.hid (by rw [hX]; exact ((HB.out.alloc (by omega) _).grown HGg.out (by simp; omega) (fun r e => by have := (HOg.out.lt r e).1; omega)).setCell (p := ⟨w.heap.size + 1, 0, none⟩) (Nat.le_refl _) _)
      have hsg : w.heap.size + 2 ≤ Xg.heap.size := by have := HBg.out.size; have := HS.out; omega
      rw [← hX]
      clear hX d0 d1 d2 y0 y1 y2 c0 c1 c2 z0 z1 z2 HK HB
      have HK := HKg
      have HB := HBg
      obtain ⟨c0, c1, c2, z0, z1, z2⟩ := block3 HK.out
      clear HOu HOf
      have HOu := HOug
      have HOf := HOfg
      go_upto_region 9 with (at_builtin; refine wpList_append_own_at _ rfl _ _ 26 rfl (w.heap.size + 2) 4 iU (.bool false) 1 1 Try.underlying26 HIU.out.1 HIU.out.2.1 HIU.out.2.2.1 HIU.out.2.2.2 rfl (by decide) _ _ _ rfl (HOu.out.alloc _) ⟨Xg.heap.size, 0, none⟩ 1 1 [.bool false] rfl rfl (cell_one_new _ _ _) (by simp [Value.oneCell']) (by unfold maxLen; omega) (by omega) (by simp; omega) ?_; intro v' wu hown' hgrow _ hat; obtain ⟨gu, ku, rfl⟩ := own_succ hown'; have HNu := Lib.hid hown'; have HGu : Hid ((Xg.alloc (.cells #[.bool false] 4)).grownBy wu (Value.slice pu q cu).ownBlock) := Lib.hid hgrow; have HKu5 := Lib.hid ((hgrow.block (w.heap.size + 1) (by simp; omega) (Ne.symm (own_apart HOu.out HK.out (by decide)))).trans ((Below.heap_alloc _ _ _ (by omega)).trans HK.out)); obtain ⟨d0, d1, d2, y0, y1, y2⟩ := block3 HKu5.out; clear hown' hgrow hat)
      obtain ⟨Xu, hX⟩ : ∃ X, X = wu.setCell ⟨w.heap.size + 1, 1, none⟩ (.slice (some ⟨gu, 0, none⟩) (q + 1) ku) := ⟨_, rfl⟩
      have HKu : Hid (Xu.heap[w.heap.size + 1]? = some (.cells #[.slice (some ⟨gg, 0, none⟩) (q + 1) kg, .slice (some ⟨gu, 0, none⟩) (q + 1) ku, .slice pf q cf] 33 (0, 0))) := Lib.hid (by rw [hX]; exact heap_set2 HKu5.out _)
      have HRu : Hid (Xu.ownsRow (w.heap.size + 2) 4 1 (.slice (some ⟨gu, 0, none⟩) (q + 1) ku) (q + 1) _) := Lib.hid (by rw [hX]; exact ownsRow_setCell_other HNu.out (a := ⟨w.heap.size + 1, 1, none⟩) (own_apart HNu.out HKu5.out (by decide)) _)
      have HRgu := Lib.hid (show Xu.ownsRow _ _ _ _ _ _ by rw [hX]; exact ownsRow_setCell_other ((HRg.out.alloc (.cells #[.bool false] 4)).kept HGu.out (own_other HRg.out HOu.out (by decide))) (a := ⟨w.heap.size + 1, 1, none⟩) (own_apart ((HRg.out.alloc (.cells #[.bool false] 4)).kept HGu.out (own_other HRg.out HOu.out (by decide))) HKu5.out (by decide)) _)
      have HOfu := Lib.hid (show Xu.ownsRow _ _ _ _ _ _ by rw [hX]; exact ownsRow_setCell_other ((HOf.out.alloc (.cells #[.bool false] 4)).kept HGu.out (own_other HOf.out HOu.out (by decide))) (a := ⟨w.heap.size + 1, 1, none⟩) (own_apart ((HOf.out.alloc (.cells #[.bool false] 4)).kept HGu.out (own_other HOf.out HOu.out (by decide))) HKu5.out (by decide)) _)
      have HBu : Hid (Below (w.heap.size + 1) W Xu) := Lib.hid (by rw [hX]; exact ((HB.out.alloc (by omega) _).grown HGu.out (by simp; omega) (fun r e => by have := (HOu.out.lt r e).1; omega)).setCell (p := ⟨w.heap.size + 1, 1, none⟩) (Nat.le_refl _) _)
      have hsu : w.heap.size + 2 ≤ Xu.heap.size := by have := HBu.out.size; have := HS.out; omega
      rw [← hX]
      clear hX d0 d1 d2 y0 y1 y2 c0 c1 c2 z0 z1 z2 HK HB
      have HK := HKu
      have HB := HBu
      obtain ⟨c0, c1, c2, z0, z1, z2⟩ := block3 HK.out
      clear HOf
      have HOf := HOfu
      have hvz : (n : Int) - 1 - (q : Int) ≤ 500 := by omega
      have hvy : 0 ≤ (n : Int) - 1 - (q : Int) := by omega
      go_upto_region 6 with (at_builtin; refine wpList_append_own_at _ rfl _ _ 27 rfl (w.heap.size + 2) 3 iF (.int .i64 0) 1 8 Try.underlying27 HIF.out.1 HIF.out.2.1 HIF.out.2.2.1 HIF.out.2.2.2 rfl (by decide) _ _ _ rfl (HOf.out.alloc _) ⟨Xu.heap.size, 0, none⟩ 1 1 [.int .i64 ((n : Int) - 1 - (q : Int))] rfl rfl (cell_one_new _ _ _) (by simp [Value.oneCell']) (by unfold maxLen; omega) (by omega) (by simp; omega) ?_; intro v' wf hown' hgrow _ hat; obtain ⟨gf, kf, rfl⟩ := own_succ hown'; have HNf := Lib.hid hown'; have HGf : Hid ((Xu.alloc (.cells #[.int .i64 ((n : Int) - 1 - (q : Int))] 3)).grownBy wf (Value.slice pf q cf).ownBlock) := Lib.hid hgrow; have HKf5 := Lib.hid ((hgrow.block (w.heap.size + 1) (by simp; omega) (Ne.symm (own_apart HOf.out HK.out (by decide)))).trans ((Below.heap_alloc _ _ _ (by omega)).trans HK.out)); obtain ⟨d0, d1, d2, y0, y1, y2⟩ := block3 HKf5.out; clear hown' hgrow hat)
      obtain ⟨Xf, hX⟩ : ∃ X, X = wf.setCell ⟨w.heap.size + 1, 2, none⟩ (.slice (some ⟨gf, 0, none⟩) (q + 1) kf) := ⟨_, rfl⟩
      have HKf : Hid (Xf.heap[w.heap.size + 1]? = some (.cells #[.slice (some ⟨gg, 0, none⟩) (q + 1) kg, .slice (some ⟨gu, 0, none⟩) (q + 1) ku, .slice (some ⟨gf, 0, none⟩) (q + 1) kf] 33 (0, 0))) := Lib.hid (by rw [hX]; exact heap_set3 HKf5.out _)
      have HRf : Hid (Xf.ownsRow (w.heap.size + 2) 3 1 (.slice (some ⟨gf, 0, none⟩) (q + 1) kf) (q + 1) _) := Lib.hid (by rw [hX]; exact ownsRow_setCell_other HNf.out (a := ⟨w.heap.size + 1, 2, none⟩) (own_apart HNf.out HKf5.out (by decide)) _)
      have HRguf := Lib.hid (show Xf.ownsRow _ _ _ _ _ _ by rw [hX]; exact ownsRow_setCell_other ((HRgu.out.alloc (.cells #[.int .i64 ((n : Int) - 1 - (q : Int))] 3)).kept HGf.out (own_other HRgu.out HOf.out (by decide))) (a := ⟨w.heap.size + 1, 2, none⟩) (own_apart ((HRgu.out.alloc (.cells #[.int .i64 ((n : Int) - 1 - (q : Int))] 3)).kept HGf.out (own_other HRgu.out HOf.out (by decide))) HKf5.out (by decide)) _)
      have HRuf := Lib.hid (show Xf.ownsRow _ _ _ _ _ _ by rw [hX]; exact ownsRow_setCell_other ((HRu.out.alloc (.cells #[.int .i64 ((n : Int) - 1 - (q : Int))] 3)).kept HGf.out (own_other HRu.out HOf.out (by decide))) (a := ⟨w.heap.size + 1, 2, none⟩) (own_apart ((HRu.out.alloc (.cells #[.int .i64 ((n : Int) - 1 - (q : Int))] 3)).kept HGf.out (own_other HRu.out HOf.out (by decide))) HKf5.out (by decide)) _)
      have HBf : Hid (Below (w.heap.size + 1) W Xf) := Lib.hid (by rw [hX]; exact ((HB.out.alloc (by omega) _).grown HGf.out (by simp; omega) (fun r e => by have := (HOf.out.lt r e).1; omega)).setCell (p := ⟨w.heap.size + 1, 2, none⟩) (Nat.le_refl _) _)
      have hsf : w.heap.size + 2 ≤ Xf.heap.size := by have := HBf.out.size; have := HS.out; omega
      rw [← hX]
      clear hX d0 d1 d2 y0 y1 y2 c0 c1 c2 z0 z1 z2 HK HB
      have HK := HKf
      have HB := HBf
      obtain ⟨c0, c1, c2, z0, z1, z2⟩ := block3 HK.out
      go_wp2
      go_roundw
      case rel =>
        refine ⟨q + 1, some ⟨gg, 0, none⟩, kg, some ⟨gu, 0, none⟩, ku, some ⟨gf, 0, none⟩, kf, by omega, by go_num, HK, Lib.hid ?_, Lib.hid ?_, Lib.hid ?_, HB⟩
        · rw [show gvs (List.replicate (q + 1) 1) = gvs (List.replicate q 1) ++ [.int .u64 1] by simp [gvs, List.replicate_succ']]
          exact HRguf.out
        · rw [show bvs (List.replicate (q + 1) false) = bvs (List.replicate q false) ++ [.bool false] by simp [bvs, List.replicate_succ']]
          exact HRuf.out
        · rw [downs_step hlt, ivs, List.map_append]
          exact HRf.out
      case measure => simp [intOf] <;> omega
    · obtain rfl : q = n := by omega
      obtain ⟨c0, c1, c2, z0, z1, z2⟩ := block3 HK.out
      have HT : Hid (wr.heap[w.heap.size]? = some (.cells #[.slice none 0 0, .slice none 0 0, .slice none 0 0] 33 (0, 0))) := Lib.hid ((HB.out.block _ (by omega)).trans HW.out.2.2.1)
      obtain ⟨d0, d1, d2, y0, y1, y2⟩ := block3 HT.out
      go_wp2
      refine bodyPost_ret (v := .tuple #[.agg #[.slice pg q cg, .slice pu q cu, .slice pf q cf], .int .i64 0]) (by simp [results, Try.results10, go_sem, d0, d1, d2]) rfl ⟨_, _, _, rfl, ?_, ?_⟩
      · refine (Ar.set3 (b := w.heap.size + 2) ⟨?_, ?_, ?_⟩ (by omega) _ _ _).drop (by omega)
        · simp only [fresh, List.length_replicate]; exact HOg.out
        · simp only [fresh, List.length_replicate]; exact HOu.out
        · have := HOf.out
          rw [List.take_of_length_le (by rw [downs_length]; omega)] at this
          simp only [fresh, downs_length]
          exact this
      · exact below_set3 (HW.out.1.trans (HB.out.mono (by omega))) (Nat.le_refl _) _ _ _
end Go.Proofs.Ytnhdpaiekcddiaa
