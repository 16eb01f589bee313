/-
  The document's own Fold, at any text.
-/
import Derived.Test.YtaapfgbeompckaaWordH
namespace Go.Proofs.Ytaapfgbeompckaa
open Go.ChangeShapes Go.WideShapes Go.ChangeAt Go.RowKit
open Go.PlainAid (bt)
set_option linter.unusedVariables false

/-- The first k bytes, folded. -/
def vals (s : ByteArray) (k : Nat) : List Value := (List.range k).map (fun j => Value.int .u8 (fi (bt s j)))
theorem vals_succ (s : ByteArray) (k : Nat) : vals s (k + 1) = vals s k ++ [.int .u8 (fi (bt s k))] := by
  unfold vals; rw [List.range_succ, List.map_append]; rfl
theorem vals_at (s : ByteArray) {k j : Nat} (h : j < k) : (vals s k)[j]? = some (.int .u8 (fi (bt s j))) := by
  unfold vals; rw [List.getElem?_map, List.getElem?_range h]; rfl
theorem info_u8 : (Try.prog.info? 5).map (fun i => (i.zero, i.size, i.bytes)) = some (some (.int .u8 0), 1, 1) := by kernel_rfl

set_option maxHeartbeats 1000000 in
theorem rfold_any (s : ByteArray) (w : World) (hs : s.size ≤ 100000) :
    Calls Try.prog 20 #[.string s] w fun e w' => e = .returned (.string (fd s)) ∧ Below w.heap.size w w' := by
  obtain ⟨i0, hi, hz0, hz1, hz2⟩ := info_parts info_u8
  have hI := Lib.hid hi
  have hZ0 := Lib.hid hz0
  have hZ1 := Lib.hid hz1
  have hZ2 := Lib.hid hz2
  clear hi hz0 hz1 hz2
  have hbt := PlainAid.get_bt s
  go_enter Try.func20, Try.ntmps20
  go_wp2
  go_loopw [3, 4] (fun o i wr => ∃ k g cp : Nat, k ≤ s.size ∧ i = .int .i64 k ∧ o = .slice (some ⟨g, 0, none⟩) k cp ∧ Hid (wr.ownsRow w.heap.size 5 1 (.slice (some ⟨g, 0, none⟩) k cp) k (vals s k)) ∧ Hid (Below w.heap.size w wr)) (fun _ i _ => s.size - (intOf i).toNat)
  case atStart => exact ⟨0, w.heap.size, 0, Nat.zero_le _, rfl, rfl, Lib.hid (World.ownsRow_made w #[] 0 (Nat.le_refl _) (by simp [maxLen]) rfl), Lib.hid ((Below.refl _ w).alloc (Nat.le_refl _) _)⟩
  case round =>
    obtain ⟨k, g, cp, hk, rfl, rfl, HO, HE⟩ := hrel
    have g1 := PlainAid.bt_nonneg s k
    have g2 := PlainAid.bt_le s k
    have hBs := HE.out.size
    by_cases hlt : k < s.size
    · rcases Bool.eq_false_or_eq_true (cap (bt s k)) with hb | hb
      · have hb2 := hb
        simp [cap] at hb2
        obtain ⟨hb3, hb4⟩ := hb2
        have hfi : fi (bt s k) = bt s k + 32 := by unfold fi; rw [if_pos hb]
        have HF := Lib.hid hfi
        clear hfi
        go_wp2_with (at_builtin; refine wpList_append_own _ rfl _ _ 29 rfl w.heap.size 5 i0 (.int .u8 0) 1 1 Try.underlying29 hI.out hZ0.out hZ1.out hZ2.out rfl (by decide) _ _ _ rfl (HO.out.alloc _) ⟨wr.heap.size, 0, none⟩ 1 1 [.int .u8 (bt s k + 32)] rfl rfl (cell_one_new _ _ _) (by simp [Value.oneCell']) (by unfold maxLen; omega) (by omega) (by simp; omega) ?_; intro v' w1 hown' hgrow _; obtain ⟨g', cap', rfl⟩ := ownsRow_succ hown'; have HO' := Lib.hid hown'; have HG := Lib.hid hgrow; clear hown' hgrow)
        go_roundw
        case rel =>
          refine ⟨k + 1, g', cap', by omega, by go_num, rfl, Lib.hid (by rw [vals_succ, HF.out]; exact HO'.out), Lib.hid ?_⟩
          exact (HE.out.alloc HE.out.size _).grown HG.out (HE.out.alloc HE.out.size _).size (fun q e => (HO.out.lt q e).1)
        case measure => simp [intOf] <;> omega
      · have hd := hb
        simp [cap] at hd
        have hfi : fi (bt s k) = bt s k := by unfold fi; rw [if_neg (by simp [hb])]
        have HF := Lib.hid hfi
        clear hfi
        go_wp2_with (at_builtin; refine wpList_append_own _ rfl _ _ 29 rfl w.heap.size 5 i0 (.int .u8 0) 1 1 Try.underlying29 hI.out hZ0.out hZ1.out hZ2.out rfl (by decide) _ _ _ rfl (HO.out.alloc _) ⟨wr.heap.size, 0, none⟩ 1 1 [.int .u8 (bt s k)] rfl rfl (cell_one_new _ _ _) (by simp [Value.oneCell']) (by unfold maxLen; omega) (by omega) (by simp; omega) ?_; intro v' w1 hown' hgrow _; obtain ⟨g', cap', rfl⟩ := ownsRow_succ hown'; have HO' := Lib.hid hown'; have HG := Lib.hid hgrow; clear hown' hgrow)
        all_goals
          go_roundw
          case rel =>
            refine ⟨k + 1, g', cap', by omega, by go_num, rfl, Lib.hid (by rw [vals_succ, HF.out]; exact HO'.out), Lib.hid ?_⟩
            exact (HE.out.alloc HE.out.size _).grown HG.out (HE.out.alloc HE.out.size _).size (fun q e => (HO.out.lt q e).1)
          case measure => simp [intOf] <;> omega
    · obtain rfl : k = s.size := by omega
      have hback := conv_back wr g s cp (fun j hj => ⟨by rw [HO.out.cellAt j (by omega)]; exact vals_at s hj, HO.out.frozenAt j⟩)
      go_wp2
      go_ret
      exact ⟨rfl, HE.out⟩
end Go.Proofs.Ytaapfgbeompckaa
