/-
  The small case of the laws: shown is true.
-/
import Derived.Test.YtkcfpglmlhoiaaaDoorFoAb
namespace Go.Proofs.YtkcfpglmlhoiaaaDoor
open Go.ChangeShapes Go.WideShapes Go.ChangeAt Go.RowKit
set_option linter.unusedVariables false
set_option linter.unusedSimpArgs false

set_option maxRecDepth 100000 in
set_option maxHeartbeats 4000000 in
theorem shown_true (mx : Int) (w : World) (hm : w.cell? ⟨0, 0, none⟩ = some (.int .i64 mx)) :
    Calls Tryd.prog 5 #[] w (GivesV (.bool true) w) := by
  have hg0 : 0 < w.heap.size := World.block_lt_of_cell? _ _ hm
  have HM := Lib.hid hm
  clear hm
  obtain ⟨W, hW⟩ : ∃ W, W = ((w.alloc (.cells #[.int .i64 1] 3)).alloc (.cells #[.int .i64 2] 3)).alloc (.cells #[.int .i64 0, .string ⟨#[]⟩, .string ⟨#[]⟩, .slice none 0 0, .int .i64 (-1), .slice (some ⟨w.heap.size, 0, none⟩) 1 1,
      .int .i64 1, .string ⟨#[100, 105, 118]⟩, .string ⟨#[]⟩, .slice none 0 0, .int .i64 0, .slice (some ⟨w.heap.size + 1, 0, none⟩) 1 1,
      .int .i64 2, .string ⟨#[]⟩, .string ⟨#[120, 60]⟩, .slice none 0 0, .int .i64 1, .slice none 0 0] 34) := ⟨_, rfl⟩
  have HWb : Hid (Below w.heap.size w W) := Lib.hid (by rw [hW]; exact (((Below.refl _ _).alloc (Nat.le_refl _) _).alloc (by simp) _).alloc (by simp; omega) _)
  have HWF : Hid (FR W (some ⟨w.heap.size + 1 + 1, 0, none⟩) (shF w.heap.size)) := Lib.hid (sh_fr (by rw [hW, heap_alloc_old _ _ (by simp; omega), heap_alloc_old _ _ (by simp)]; exact heap_alloc_new _ _) (by rw [hW, heap_alloc_old _ _ (by simp)]; exact heap_new1 _ _ _) (by
    have := heap_alloc_new ((w.alloc (.cells #[.int .i64 1] 3)).alloc (.cells #[.int .i64 2] 3)) (.cells #[.int .i64 0, .string ⟨#[]⟩, .string ⟨#[]⟩, .slice none 0 0, .int .i64 (-1), .slice (some ⟨w.heap.size, 0, none⟩) 1 1,
      .int .i64 1, .string ⟨#[100, 105, 118]⟩, .string ⟨#[]⟩, .slice none 0 0, .int .i64 0, .slice (some ⟨w.heap.size + 1, 0, none⟩) 1 1,
      .int .i64 2, .string ⟨#[]⟩, .string ⟨#[120, 60]⟩, .slice none 0 0, .int .i64 1, .slice none 0 0] 34)
    rw [hW]
    simpa using this))
  have HZ := Lib.hid (sh_bd w.heap.size)
  have H1 : Hid (∀ V, Below w.heap.size w V → FR V (some ⟨w.heap.size + 1 + 1, 0, none⟩) (shF w.heap.size) → Calls Tryd.prog 9 #[.slice (some ⟨w.heap.size + 1 + 1, 0, none⟩) 3 3] V (GivesV (.bool true) V)) := Lib.hid (fun V hb hF => by
    have := may_any _ (shF w.heap.size) 3 V hF (bd_sz HZ.out)
    rw [sh_may] at this
    exact this)
  have H2 : Hid (∀ V, Below w.heap.size w V → FR V (some ⟨w.heap.size + 1 + 1, 0, none⟩) (shF w.heap.size) → Calls Tryd.prog 10 #[.slice (some ⟨w.heap.size + 1 + 1, 0, none⟩) 3 3, .int .i64 0] V (GivesV (.string ⟨#[60, 100, 105, 118, 62, 120, 38, 108, 116, 59, 60, 47, 100, 105, 118, 62]⟩) V)) := Lib.hid (fun V hb hF => by
    have := print_bd _ (shF w.heap.size) 3 0 mx V hF HZ.out ((hb.cell (p := ⟨0, 0, none⟩) hg0).trans HM.out)
    rw [sh_print] at this
    exact this)
  have H3 : Hid (∀ V, Below w.heap.size w V → FR V (some ⟨w.heap.size + 1 + 1, 0, none⟩) (shF w.heap.size) → Calls Tryd.prog 11 #[.slice (some ⟨w.heap.size + 1 + 1, 0, none⟩) 3 3, .int .i64 0, .int .i64 2] V (GivesV (.bool true) V)) := Lib.hid (fun V hb hF => by
    have := below_any _ (shF w.heap.size) 3 0 2 V hF (bd_sz HZ.out)
    rw [sh_below] at this
    exact this)
  have H4 : Hid (∀ V, Below w.heap.size w V → FR V (some ⟨w.heap.size + 1 + 1, 0, none⟩) (shF w.heap.size) → Calls Tryd.prog 12 #[.slice (some ⟨w.heap.size + 1 + 1, 0, none⟩) 3 3] V (fun e w' => ∃ p cap, e = .returned (.slice p 1 cap) ∧ Below V.heap.size V w')) := Lib.hid (fun V hb hF => by
    refine (tops_any _ (shF w.heap.size) 3 V hF (bd_sz HZ.out)).mono ?_
    rintro e w' ⟨v, rfl, ho, hb'⟩
    rw [sh_tops] at ho
    obtain ⟨p, cap, rfl, -, -, -⟩ := own_form ho
    exact ⟨p, cap, rfl, hb'⟩)
  go_enter Tryd.func5, Tryd.ntmps5
  go_wp2_with fail
  rw [← hW]
  clear hW
  refine (H1.out W HWb.out HWF.out).mono ?_
  rintro e w1 ⟨rfl, hb⟩
  have HB1 := Lib.hid (HWb.out.trans (hb.mono HWb.out.size))
  have HF1 := Lib.hid (HWF.out.below hb)
  clear hb
  go_wp2_with fail
  refine (H2.out w1 HB1.out HF1.out).mono ?_
  rintro e w2 ⟨rfl, hb⟩
  have HB2 := Lib.hid (HB1.out.trans (hb.mono HB1.out.size))
  have HF2 := Lib.hid (HF1.out.below hb)
  clear hb
  go_wp2_with fail
  refine (H3.out w2 HB2.out HF2.out).mono ?_
  rintro e w3 ⟨rfl, hb⟩
  have HB3 := Lib.hid (HB2.out.trans (hb.mono HB2.out.size))
  have HF3 := Lib.hid (HF2.out.below hb)
  clear hb
  go_wp2_with fail
  refine (H4.out w3 HB3.out HF3.out).mono ?_
  rintro e w4 ⟨p, cap, rfl, hb⟩
  have HB4 := Lib.hid (HB3.out.trans (hb.mono HB3.out.size))
  clear hb
  go_wp2_with fail
  refine (new_any w4).mono ?_
  rintro e w5 ⟨A, rfl, hA, hb⟩
  have HB5 := Lib.hid (HB4.out.trans (hb.mono HB4.out.size))
  have HA := Lib.hid hA
  clear hb hA
  go_wp2_with fail
  have HS : Hid (∀ V, FR V A [newM] → FR V (some ⟨w5.heap.size, 0, none⟩) [newM] → Calls Tryd.prog 6 #[.slice A 1 1, .slice (some ⟨w5.heap.size, 0, none⟩) 1 1] V (GivesV (.bool true) V)) := Lib.hid (fun V h1 h2 => by
    have := same_any A (some ⟨w5.heap.size, 0, none⟩) [newM] [newM] 1 1 V h1 h2 (bd_sz2 newM_bd) (bd_sz2 newM_bd)
    rw [new_same] at this
    exact this)
  obtain ⟨V, hV⟩ : ∃ V, V = w5.alloc (.cells #[.int .i64 0, .string ⟨#[]⟩, .string ⟨#[]⟩, .slice none 0 0, .int .i64 (-1), .slice none 0 0] 34) := ⟨_, rfl⟩
  rw [← hV]
  have hVb : Below w5.heap.size w5 V := by rw [hV]; exact (Below.refl _ _).alloc (Nat.le_refl _) _
  have HVF : Hid (FR V (some ⟨w5.heap.size, 0, none⟩) [newM]) := Lib.hid (node1_fr (by rw [hV]; exact heap_alloc_new _ _))
  have HVA := Lib.hid (HA.out.below hVb)
  have HVB := Lib.hid (HB5.out.trans (hVb.mono HB5.out.size))
  clear hV hVb
  refine (HS.out V HVA.out HVF.out).mono ?_
  rintro e w6 ⟨rfl, hb⟩
  have HB6 := Lib.hid (HVB.out.trans (hb.mono HVB.out.size))
  clear hb
  go_wp2_with fail
  refine (new_any w6).mono ?_
  rintro e w7 ⟨A', rfl, hA, hb⟩
  have HB7 := Lib.hid (HB6.out.trans (hb.mono HB6.out.size))
  clear hb hA
  go_wp2
  go_ret
  exact ⟨rfl, HB7.out⟩
end Go.Proofs.YtkcfpglmlhoiaaaDoor
