/-
  Print.
-/
import Derived.Test.YtkcfpglmlhoiaaaDoorFoQ
import Derived.Test.YtkcfpglmlhoiaaaDoorFoI
import Derived.Laws.EntriesVeiled
namespace Go.Proofs.YtkcfpglmlhoiaaaDoor
open Go.ChangeShapes Go.WideShapes Go.ChangeAt Go.RowKit
set_option linter.unusedVariables false
set_option linter.unusedSimpArgs false

def printB (F : List Mn) (f : Nat) (x : Int) : List UInt8 := if (mayB F && isB F x) = true then pr F f x.toNat else []
theorem bd_at {W : World} {b : Nat} (h : W.heap[b]? = some (.cells #[.pointer none, .slice none 0 0] 57 (0, 0))) : Bd W b [] := by
  refine Or.inl ⟨Nat.le_refl _, _, h, ?_, by simp [Value.ownBlock]⟩
  exact World.ownsRowF_nil _ _ _ _
set_option maxRecDepth 100000 in
set_option maxHeartbeats 8000000 in
theorem print_any (A : Option Addr) (F : List Mn) (c f : Nat) (x mx : Int) (w : World) (hF : FR w A F) (hz : Sz F) (hz2 : Sz2 F) (hm : w.cell? ⟨0, 0, none⟩ = some (.int .i64 mx)) (hq : mayB F = true → isB F x = true → Dp F f x.toNat ∧ (pr F f x.toNat).length ≤ 100000000) :
    Calls Tryd.prog 10 #[.slice A F.length c, .int .i64 x] w (GivesV (.string ⟨(printB F f x).toArray⟩) w) := by
  have HF := Lib.hid hF
  have hl := hz.len
  have hg0 : 0 < w.heap.size := World.block_lt_of_cell? _ _ hm
  have HM := Lib.hid (fun (W : World) (hb : Below w.heap.size w W) => may_any A F c W (hF.below hb) hz)
  have HI := Lib.hid (fun (W : World) => isNode_any A F.length c x W hl)
  have HIs : Hid (isB F x = decide (0 ≤ x ∧ x < (F.length : Int))) := Lib.hid rfl
  rw [← HIs.out] at HI
  have HE : Hid (printB F f x = if (mayB F && isB F x) = true then pr F f x.toNat else []) := Lib.hid rfl
  have HT : Hid (∀ (w0 V : World) (kf b kt : Nat), Below w.heap.size w w0 → w0.heap.size ≤ b → kf < b → kt ≠ b → mayB F = true → isB F x = true → Ctx w0 A F.length c kf b kt V → Bd V b [] → Calls Tryd.prog 27 #[.int .i64 x, .pointer (some ⟨kf, 0, none⟩), .pointer (some ⟨b, 0, none⟩), .pointer (some ⟨kt, 0, none⟩)] V fun e w' => e = .returned (.tuple #[]) ∧ Bd w' b (pr F f x.toNat) ∧ Below b V w' ∧ Oth b V w') := Lib.hid (fun w0 V kf b kt hb h0 h1 h2 e1 e2 hc hbd => by
    obtain ⟨q1, q2⟩ := hq e1 e2
    rw [isB, decide_eq_true_eq] at e2
    have := tell_any w0 A F c kf b kt mx (hF.below hb) hz2 ((hb.cell (p := ⟨0, 0, none⟩) hg0).trans hm) h0 h1 h2 f x.toNat [] V q1 hc hbd (by simp only [List.length_nil]; omega)
    rw [Int.toNat_of_nonneg e2.1] at this
    simpa using this)
  clear hF hz hz2 hm hq HIs
  generalize printB F f x = R at *
  generalize pr F f x.toNat = PR at *
  generalize mayB F = MB at *
  generalize isB F x = IB at *
  generalize F.length = n at *
  obtain ⟨W, hW⟩ : ∃ W, W = w.alloc (.cells #[.slice A n c] 23) := ⟨_, rfl⟩
  have HWb : Hid (Below w.heap.size w W) := Lib.hid (by rw [hW]; exact (Below.refl _ _).alloc (Nat.le_refl _) _)
  have HWk : Hid (W.heap[w.heap.size]? = some (.cells #[.slice A n c] 23 (0, 0))) := Lib.hid (by rw [hW]; exact heap_alloc_new _ _)
  have hlt := lt_of_block HWk.out
  have x0 := block1 HWk.out
  go_enter Tryd.func10, Tryd.ntmps10
  go_upto_region 1 with fail
  rw [← hW]
  clear hW
  go_wp2_with fail
  refine (HM.out W HWb.out).mono ?_
  rintro e w1 ⟨rfl, hb⟩
  have HB1 := Lib.hid (HWb.out.trans (hb.mono HWb.out.size))
  have HK1 := Lib.hid ((hb.block _ hlt).trans HWk.out)
  clear hb x0
  have x1 := block1 HK1.out
  cases MB with
  | false =>
    go_wp2
    go_ret
    exact ⟨by rw [HE.out]; rfl, HB1.out⟩
  | true =>
    go_wp2_with fail
    refine (HI.out w1).mono ?_
    rintro e w2 ⟨rfl, rfl⟩
    cases IB with
    | false =>
      go_wp2
      go_ret
      exact ⟨by rw [HE.out]; rfl, HB1.out⟩
    | true =>
      have HR : Hid (R = PR) := Lib.hid (by rw [HE.out]; rfl)
      go_upto_region 5 with fail
      obtain ⟨V, hV⟩ : ∃ V, V = (w2.alloc (.cells #[.pointer none, .slice none 0 0] 57)).alloc (.cells #[.nilFunc] 58) := ⟨_, rfl⟩
      rw [← hV]
      have HVk : Hid (V.heap[w2.heap.size + 1]? = some (.cells #[.nilFunc] 58 (0, 0))) := Lib.hid (by
        have := heap_alloc_new (w2.alloc (.cells #[.pointer none, .slice none 0 0] 57)) (.cells #[.nilFunc] 58)
        rw [hV]
        simpa using this)
      have HVb : Hid (Below w2.heap.size w2 V) := Lib.hid (by rw [hV]; exact ((Below.refl _ _).alloc (Nat.le_refl _) _).alloc (by simp) _)
      have HVs : Hid (V.heap.size = w2.heap.size + 2) := Lib.hid (by rw [hV]; simp)
      have HVc : Hid (V.heap[w2.heap.size]? = some (.cells #[.pointer none, .slice none 0 0] 57 (0, 0))) := Lib.hid (by rw [hV, heap_alloc_old _ _ (by simp)]; exact heap_alloc_new _ _)
      have fz : V.frozen? ⟨w2.heap.size + 1, 0, none⟩ = false := by simp [World.frozen?, HVk.out]
      clear hV
      have x2 := block1 HVk.out
      go_upto_region 6 with fail
      obtain ⟨V2, hV2⟩ : ∃ V2, V2 = V.setCell ⟨w2.heap.size + 1, 0, none⟩ (tellF w.heap.size w2.heap.size (w2.heap.size + 1)) := ⟨_, rfl⟩
      unfold tellF at hV2
      rw [← hV2]
      have hws : w.heap.size < w2.heap.size := lt_of_block HK1.out
      have HV2k : Hid (V2.heap[w2.heap.size + 1]? = some (.cells #[tellF w.heap.size w2.heap.size (w2.heap.size + 1)] 58 (0, 0))) := Lib.hid (by rw [hV2]; have := HVk.out; simp [World.setCell, Array.getElem?_modify, this, tellF])
      have HV2b : Hid (Below w2.heap.size w2 V2) := Lib.hid (by rw [hV2]; exact HVb.out.setCell (by simp) _)
      have HV2s : Hid (V2.heap.size = w2.heap.size + 2) := Lib.hid (by rw [hV2]; simpa using HVs.out)
      have HBd2 : Hid (Bd V2 w2.heap.size []) := Lib.hid (bd_at (by rw [hV2]; have := HVc.out; simp [World.setCell, Array.getElem?_modify, this]))
      have HC : Hid (Ctx w2 A n c w.heap.size w2.heap.size (w2.heap.size + 1) V2) := Lib.hid ⟨HV2b.out, (HV2b.out.block _ hws).trans HK1.out, HV2k.out, by rw [HV2s.out]; omega⟩
      have HCl := Lib.hid (HT.out w2 V2 w.heap.size w2.heap.size (w2.heap.size + 1) HB1.out (Nat.le_refl _) hws (by omega) trivial trivial HC.out HBd2.out)
      clear hV2 x2 x1 fz
      have x3 := block1 HV2k.out
      unfold tellF at x3
      go_wp2_with fail
      refine HCl.out.mono ?_
      rintro e w5 ⟨rfl, hb5, hB5, hO5⟩
      have HB5 := Lib.hid hb5
      have hz5 : w2.heap.size ≤ w5.heap.size := Nat.le_trans HV2b.out.size hB5.size
      have HB6 : Hid (Below w.heap.size w w5) := Lib.hid (HB1.out.trans ((HV2b.out.trans hB5).mono (Nat.le_of_lt hws)))
      clear hb5 hB5 hO5 x3
      have HSt := Lib.hid (str_any w2.heap.size PR w5 HB5.out hz5)
      go_wp2_with fail
      refine HSt.out.mono ?_
      rintro e w6 ⟨rfl, hB7, hO7⟩
      have HB7 : Hid (Below w.heap.size w w6) := Lib.hid (HB6.out.trans (hB7.mono (Nat.le_of_lt hws)))
      clear hB7 hO7
      go_wp2
      go_ret
      exact ⟨by rw [HR.out]; rfl, HB7.out⟩
end Go.Proofs.YtkcfpglmlhoiaaaDoor
