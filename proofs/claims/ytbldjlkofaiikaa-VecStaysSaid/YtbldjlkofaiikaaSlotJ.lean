/-
  New of package slots.
-/
import Derived.Test.YtbldjlkofaiikaaSlotI
namespace Go.Proofs.Ytbldjlkofaiikaa
open Go.ChangeShapes Go.WideShapes Go.ChangeAt Go.RowKit
set_option linter.unusedVariables false

theorem own_block {w : World} {base g n : Nat} {e : TypeId} {z : Value} (h : w.heap[g]? = some (.cells (madeCells #[z] n) e (0, 0))) (hb : base ≤ g) (hn : n ≤ 1000) : w.ownsRow base e 1 (.slice (some ⟨g, 0, none⟩) n n) n (List.replicate n z) := by
  refine ⟨by simp, .inr ⟨g, n, _, rfl, hb, h, Nat.le_refl _, by unfold maxLen; omega, by rw [size_madeCells, Nat.mul_one], ?_⟩⟩
  rw [toList_madeCells_one, Nat.mul_one, List.take_of_length_le (by simp)]
theorem blk_ne {w : World} {g g' : Nat} {t t' : TypeId} {cs cs' : Array Value} (h : w.heap[g]? = some (.cells cs t (0, 0))) (h' : w.heap[g']? = some (.cells cs' t' (0, 0))) (hne : t ≠ t') : g ≠ g' := by
  rintro rfl
  rw [h] at h'
  injection h' with h'
  injection h' with _ ht
  exact hne ht
theorem heap4a (W : World) (a b c d : Obj) : ((((W.alloc a).alloc b).alloc c).alloc d).drew.heap[W.heap.size]? = some a := by
  show ((((W.alloc a).alloc b).alloc c).alloc d).heap[W.heap.size]? = some a
  rw [heap_alloc_old _ _ (by simp; omega), heap_alloc_old _ _ (by simp; omega), heap_alloc_old _ _ (by simp)]
  exact heap_alloc_new _ _
theorem heap4b (W : World) (a b c d : Obj) : ((((W.alloc a).alloc b).alloc c).alloc d).drew.heap[W.heap.size + 1]? = some b := by
  show ((((W.alloc a).alloc b).alloc c).alloc d).heap[W.heap.size + 1]? = some b
  rw [heap_alloc_old _ _ (by simp), heap_alloc_old _ _ (by simp)]
  exact heap_alloc2_new _ _ _
theorem heap4c (W : World) (a b c d : Obj) : ((((W.alloc a).alloc b).alloc c).alloc d).drew.heap[W.heap.size + 1 + 1]? = some c := by
  show ((((W.alloc a).alloc b).alloc c).alloc d).heap[W.heap.size + 1 + 1]? = some c
  rw [heap_alloc_old _ _ (by simp)]
  have := heap_alloc2_new (W.alloc a) b c
  rw [show (W.alloc a).heap.size = W.heap.size + 1 by simp] at this
  exact this
theorem heap4d (W : World) (a b c d : Obj) : ((((W.alloc a).alloc b).alloc c).alloc d).drew.heap[W.heap.size + 1 + 1 + 1]? = some d := by
  show ((((W.alloc a).alloc b).alloc c).alloc d).heap[W.heap.size + 1 + 1 + 1]? = some d
  have := heap_alloc2_new ((W.alloc a).alloc b) c d
  rw [show ((W.alloc a).alloc b).heap.size = W.heap.size + 1 + 1 by simp] at this
  exact this
theorem below4 (W : World) (B : Nat) (h : B ≤ W.heap.size) (a b c d : Obj) : Below B W ((((W.alloc a).alloc b).alloc c).alloc d).drew :=
  (((((Below.refl _ W).alloc h _).alloc (by simp; omega) _).alloc (by simp; omega) _).alloc (by simp; omega) _).drew
/-- The box k bears three lists that were made just now. -/
def Made (n k g0 g1 g2 : Nat) (B : Nat) (W wx : World) : Prop :=
  wx.heap[k]? = some (.cells #[.slice (some ⟨g0, 0, none⟩) n n, .slice (some ⟨g1, 0, none⟩) n n, .slice (some ⟨g2, 0, none⟩) n n] 28 (0, 0)) ∧ wx.heap[g0]? = some (.cells (madeCells #[.int .u64 0] n) 41 (0, 0)) ∧ wx.heap[g1]? = some (.cells (madeCells #[.bool false] n) 4 (0, 0)) ∧
  wx.heap[g2]? = some (.cells (madeCells #[.int .i64 0] n) 3 (0, 0)) ∧ Below B W wx ∧ B ≤ k ∧ B ≤ g0 ∧ B ≤ g1 ∧ B ≤ g2
set_option maxHeartbeats 1000000 in
theorem new_bad (n : Int) (w : World) (h : n < 0 ∨ 500 < n) (h0 : -9223372036854775808 ≤ n) (h1 : n ≤ 9223372036854775807) :
    Calls Try.prog 27 #[.int .i64 n] w (GivesE noSt 1 w) := by
  by_cases hn : n < 0
  all_goals
    have hn2 : 0 ≤ n → 500 < n := by omega
    go_enter Try.func27, Try.ntmps27
    go_wp2
    refine bodyPost_ret (v := .tuple #[.agg #[.slice none 0 0, .slice none 0 0, .slice none 0 0], .int .i64 1]) (by simp [results, Try.results27, go_sem]) rfl ⟨_, _, _, rfl, ⟨World.ownsRow_nil _ _ _ _, World.ownsRow_nil _ _ _ _, World.ownsRow_nil _ _ _ _⟩, ?_⟩
    exact (Below.refl _ w).alloc (Nat.le_refl _) _

set_option maxHeartbeats 4000000 in
theorem new_ok (n : Nat) (w : World) (h : n ≤ 500) :
    Calls Try.prog 27 #[.int .i64 n] w (GivesE (fresh n) 0 w) := by
  have mkG := fun W : World => run_make_row' (P := Try.prog) 24 41 (.int .u64 0) 8 Try.underlying24 info_G rfl .i64 .i64 n (by omega) (by omega) W
  have mkU := fun W : World => run_make_row' (P := Try.prog) 25 4 (.bool false) 1 Try.underlying25 info_U rfl .i64 .i64 n (by omega) (by omega) W
  have mkF := fun W : World => run_make_row' (P := Try.prog) 26 3 (.int .i64 0) 8 Try.underlying26 info_F rfl .i64 .i64 n (by omega) (by omega) W
  go_enter Try.func27, Try.ntmps27
  go_wp2_with fail
  obtain ⟨W, hW⟩ : ∃ W, W = w.alloc (.cells #[.slice none 0 0, .slice none 0 0, .slice none 0 0] 28) := ⟨_, rfl⟩
  have HW : Hid (Below w.heap.size w W ∧ W.heap.size = w.heap.size + 1 ∧ W.heap[w.heap.size]? = some (.cells #[.slice none 0 0, .slice none 0 0, .slice none 0 0] 28 (0, 0))) := Lib.hid (by
    subst hW
    exact ⟨(Below.refl _ w).alloc (Nat.le_refl _) _, by simp, heap_alloc_new _ _⟩)
  rw [← hW]
  clear hW
  have HS := Lib.hid HW.out.2.1
  go_cut [4] from 13 to 19 (fun p wx => ∃ k g0 g1 g2 : Nat, p = .pointer (some ⟨k, 0, none⟩) ∧ Hid (Made n k g0 g1 g2 W.heap.size W wx))
  case first =>
    go_region
    all_goals
      go_wp2
      go_meet
      refine ⟨_, ?_, ?_, ?_, rfl, Lib.hid ⟨?_, ?_, ?_, ?_, below4 W _ (Nat.le_refl _) _ _ _ _, ?_, ?_, ?_, ?_⟩⟩
      rotate_left 3
      · first | exact heap4a W _ _ _ _ | exact heap4b W _ _ _ _ | exact heap4c W _ _ _ _ | exact heap4d W _ _ _ _
      · first | exact heap4a W _ _ _ _ | exact heap4b W _ _ _ _ | exact heap4c W _ _ _ _ | exact heap4d W _ _ _ _
      · first | exact heap4a W _ _ _ _ | exact heap4b W _ _ _ _ | exact heap4c W _ _ _ _ | exact heap4d W _ _ _ _
      · first | exact heap4a W _ _ _ _ | exact heap4b W _ _ _ _ | exact heap4c W _ _ _ _ | exact heap4d W _ _ _ _
      all_goals omega
  case rest =>
    obtain ⟨k, g0, g1, g2, rfl, HM⟩ := hcut
    clear mkG mkU mkF
    have hk0 : k ≠ g0 := blk_ne HM.out.1 HM.out.2.1 (by decide)
    have hk1 : k ≠ g1 := blk_ne HM.out.1 HM.out.2.2.1 (by decide)
    have hk2 : k ≠ g2 := blk_ne HM.out.1 HM.out.2.2.2.1 (by decide)
    have h01 : g0 ≠ g1 := blk_ne HM.out.2.1 HM.out.2.2.1 (by decide)
    have h02 : g0 ≠ g2 := blk_ne HM.out.2.1 HM.out.2.2.2.1 (by decide)
    have h12 : g1 ≠ g2 := blk_ne HM.out.2.2.1 HM.out.2.2.2.1 (by decide)
    go_wp2
    go_loopw [21] (fun i wr => ∃ q : Nat, q ≤ n ∧ i = .int .i64 q ∧ Hid (wr.heap[k]? = some (.cells #[.slice (some ⟨g0, 0, none⟩) n n, .slice (some ⟨g1, 0, none⟩) n n, .slice (some ⟨g2, 0, none⟩) n n] 28 (0, 0))) ∧
        Hid (wr.ownsRow W.heap.size 41 1 (.slice (some ⟨g0, 0, none⟩) n n) n (gvs (upG n q))) ∧ Hid (wr.ownsRow W.heap.size 4 1 (.slice (some ⟨g1, 0, none⟩) n n) n (bvs (List.replicate n false))) ∧ Hid (wr.ownsRow W.heap.size 3 1 (.slice (some ⟨g2, 0, none⟩) n n) n (ivs (upF n q))) ∧ Hid (Below W.heap.size W wr)) (fun i _ => n - (intOf i).toNat)
    case atStart =>
      obtain ⟨m1, m2, m3, m4, m5, m6, m7, m8, m9⟩ := HM.out
      refine ⟨0, Nat.zero_le _, rfl, Lib.hid m1, Lib.hid ?_, Lib.hid ?_, Lib.hid ?_, Lib.hid m5⟩
      · rw [upG_none, gvs, List.map_replicate]; exact own_block m2 m7 (by omega)
      · rw [bvs, List.map_replicate]; exact own_block m3 m8 (by omega)
      · rw [upF_none, ivs, List.map_replicate]; exact own_block m4 m9 (by omega)
    case round =>
      obtain ⟨q, hq, rfl, HK, HG, HU, HF, HB⟩ := hrel
      obtain ⟨c0, c1, c2, z0, z1, z2⟩ := block3 HK.out
      by_cases hlt : q < n
      · have q0 : (0 : Int) ≤ (q : Int) := by omega
        have q1 : (q : Int) < (n : Int) := by omega
        obtain ⟨j, hj⟩ : ∃ j : Nat, n - 1 - q = j := ⟨_, rfl⟩
        have hjz : (n : Int) - 1 - (q : Int) = (j : Int) := by omega
        have j0 : (0 : Int) ≤ (j : Int) := by omega
        have j1 : (j : Int) < (n : Int) := by omega
        have cg := own_at_gen HG.out hlt
        have zg := HG.out.frozenAt q
        have cf := own_at_int (i := j) HF.out (by omega)
        have zf := HF.out.frozenAt j
        have HJ := Lib.hid hj
        clear hj
        go_wp2
        go_roundw
        case rel =>
          clear hjz
          refine ⟨q + 1, by omega, by go_num, Lib.hid ?_, Lib.hid ?_, Lib.hid ?_, Lib.hid ?_, Lib.hid ?_⟩
          · rw [heap_set_other _ _ _ (Ne.symm hk2), heap_set_other _ _ _ (Ne.symm hk0)]; exact HK.out
          · rw [← upG_step hlt, set_map_gen]
            exact ownsRow_setCell_other (HG.out.stored q (.int .u64 1)).1 (by simpa [Value.ownBlock] using h02) _
          · exact ownsRow_setCell_other (ownsRow_setCell_other HU.out (by simpa [Value.ownBlock] using Ne.symm h01) _) (by simpa [Value.ownBlock] using h12) _
          · rw [← upF_step hlt, HJ.out, ivs, List.map_set]
            exact ((ownsRow_setCell_other HF.out (a := ⟨g0, q, none⟩) (by simpa [Value.ownBlock] using Ne.symm h02) (.int .u64 1)).stored j (.int .i64 q)).1
          · exact (HB.out.setCell HM.out.2.2.2.2.2.2.1 _).setCell HM.out.2.2.2.2.2.2.2.2 _
        case measure => clear hjz; simp [intOf] <;> omega
      · obtain rfl : q = n := by omega
        have HT : Hid (wr.heap[w.heap.size]? = some (.cells #[.slice none 0 0, .slice none 0 0, .slice none 0 0] 28 (0, 0))) := Lib.hid ((HB.out.block _ (by have := HS.out; omega)).trans HW.out.2.2)
        obtain ⟨d0, d1, d2, y0, y1, y2⟩ := block3 HT.out
        go_wp2
        refine bodyPost_ret (v := .tuple #[.agg #[.slice (some ⟨g0, 0, none⟩) q q, .slice (some ⟨g1, 0, none⟩) q q, .slice (some ⟨g2, 0, none⟩) q q], .int .i64 0]) (by simp [results, Try.results27, go_sem, d0, d1, d2]) rfl ⟨_, _, _, rfl, ?_, ?_⟩
        · refine (Ar.set3 (b := W.heap.size) ⟨?_, ?_, ?_⟩ (by have := HS.out; omega) _ _ _).drop (by have := HS.out; omega)
          · have := HG.out; rw [upG_all] at this; simp only [fresh, List.length_replicate]; exact this
          · simp only [fresh, List.length_replicate]; exact HU.out
          · have := HF.out; rw [upF_all] at this; simp only [fresh, downs_length]; exact this
        · exact below_set3 (HW.out.1.trans (HB.out.mono (by have := HS.out; omega))) (Nat.le_refl _) _ _ _
end Go.Proofs.Ytbldjlkofaiikaa
