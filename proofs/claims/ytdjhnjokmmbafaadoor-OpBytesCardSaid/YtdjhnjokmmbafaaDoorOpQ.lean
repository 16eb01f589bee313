/-
  The small case of the laws is true.
-/
import Derived.Test.YtdjhnjokmmbafaaDoorOpP
namespace Go.Proofs.YtdjhnjokmmbafaaDoor
open Go.ChangeShapes Go.WideShapes Go.ChangeAt Go.RowKit
set_option linter.unusedVariables false
set_option linter.unusedSimpArgs false

/-- One operation in a block of its own, as a list. -/
theorem one_ol {w : World} {g : Nat} {o : Po} {t : TypeId} (hf : Fit o) (h : w.heap[g]? = some (.cells #[.int .i64 o.kind, .int .i64 o.id, .int .i64 o.dst, .int .i64 o.pos, .string o.name, .string o.text] t (0, 0))) : OL w (some ⟨g, 0, none⟩) [o] := by
  intro i p hp
  cases i with
  | zero =>
    simp at hp
    subst hp
    obtain ⟨a, b, c, d, e, f⟩ := block6 h
    exact ⟨hf, g, 0, rfl, lt_of_block h, a, b, c, d, e, f⟩
  | succ i => simp at hp
set_option maxRecDepth 100000 in
set_option maxHeartbeats 4000000 in
theorem shown_true (w : World) (hT : TB w) :
    Calls Tryd.prog 10 #[] w (GivesV (.bool true) w) := by
  have HT := Lib.hid hT
  clear hT
  go_enter Tryd.func10, Tryd.ntmps10
  obtain ⟨W, hW⟩ : ∃ W, W = (w.alloc (.cells #[.int .i64 4, .int .i64 3, .int .i64 0, .int .i64 (-1), .string ⟨#[]⟩, .string ⟨#[]⟩] 23)).alloc (.cells #[.int .i64 4, .int .i64 3, .int .i64 0, .int .i64 (-1), .string ⟨#[]⟩, .string ⟨#[]⟩] 23) := ⟨_, rfl⟩
  have HWb : Hid (Below w.heap.size w W) := Lib.hid (by rw [hW]; exact ((Below.refl _ _).alloc (Nat.le_refl _) _).alloc (by simp) _)
  have HWk : Hid (W.heap[w.heap.size]? = some (.cells #[.int .i64 4, .int .i64 3, .int .i64 0, .int .i64 (-1), .string ⟨#[]⟩, .string ⟨#[]⟩] 23 (0, 0))) := Lib.hid (by rw [hW, heap_alloc_old _ _ (by simp)]; exact heap_alloc_new _ _)
  have HWl : Hid (OL W (some ⟨w.heap.size + 1, 0, none⟩) [o3]) := Lib.hid (one_ol o3_fit (by
    have := heap_alloc_new (w.alloc (.cells #[.int .i64 4, .int .i64 3, .int .i64 0, .int .i64 (-1), .string ⟨#[]⟩, .string ⟨#[]⟩] 23)) (.cells #[.int .i64 4, .int .i64 3, .int .i64 0, .int .i64 (-1), .string ⟨#[]⟩, .string ⟨#[]⟩] 23)
    rw [show ∀ o : Obj, (w.alloc o).heap.size = w.heap.size + 1 from fun o => by simp] at this
    rw [hW]
    exact this))
  have HEn : Hid (Calls Tryd.prog 15 #[.slice (some ⟨w.heap.size + 1, 0, none⟩) 1 1] W (GivesV (.tuple #[.string ⟨#[4, 1, 6, 0, 1, 1]⟩, .int .i64 0]) W)) := Lib.hid (by
    have := encode_any (some ⟨w.heap.size + 1, 0, none⟩) [o3] 1 W HWl.out (by simp) (HT.out.below HWb.out).1
    rw [o3_enc] at this
    exact this)
  have HDe : Hid (∀ V, TB V → Calls Tryd.prog 18 #[.string ⟨#[4, 1, 6, 0, 1, 1]⟩] V fun e w' => (∃ p cap, e = .returned (.tuple #[.slice p 1 cap, .int .i64 0]) ∧ OL w' p [o3]) ∧ Below V.heap.size V w') := Lib.hid (fun V hV => by
    have := decode_any [4, 1, 6, 0, 1, 1] V hV.1 (by simp)
    rw [o3_dec] at this
    refine this.mono ?_
    rintro e w' ⟨⟨p, cap, h1, h2, h3⟩, h4⟩
    exact ⟨⟨p, cap, h1, h2⟩, h4⟩)
  have HPr : Hid (∀ V, TB V → Calls Tryd.prog 13 #[.agg #[.int .i64 4, .int .i64 3, .int .i64 0, .int .i64 (-1), .string ⟨#[]⟩, .string ⟨#[]⟩]] V (GivesV (.string ⟨#[105, 110, 115, 101, 114, 116, 32, 51, 32, 48, 32, 45, 49]⟩) V)) := Lib.hid (fun V hV => by
    have := print_any o3 V o3_fit hV
    rw [o3_prn] at this
    exact this)
  have hE : ∀ X, (Op.equalIn 10000 23 (.agg #[.int .i64 4, .int .i64 3, .int .i64 0, .int .i64 (-1), .string ⟨#[]⟩, .string ⟨#[]⟩]) (.agg #[.int .i64 4, .int .i64 3, .int .i64 0, .int .i64 (-1), .string ⟨#[]⟩, .string ⟨#[]⟩])).run Tryd.prog X = .ok true X := fun X => by
    rw [eq_op]
    simp
  go_wp2_with fail
  rw [← hW]
  clear hW
  refine HEn.out.mono ?_
  rintro e w1 ⟨rfl, hb⟩
  have HB1 : Hid (Below w.heap.size w w1) := Lib.hid (HWb.out.trans (hb.mono HWb.out.size))
  have HK1 : Hid (w1.heap[w.heap.size]? = some (.cells #[.int .i64 4, .int .i64 3, .int .i64 0, .int .i64 (-1), .string ⟨#[]⟩, .string ⟨#[]⟩] 23 (0, 0))) := Lib.hid ((hb.block _ (lt_of_block HWk.out)).trans HWk.out)
  clear hb
  go_wp2_with fail
  refine (HDe.out w1 (HT.out.below HB1.out)).mono ?_
  rintro e w2 ⟨⟨p, cap, rfl, hol⟩, hb⟩
  have HB2 : Hid (Below w.heap.size w w2) := Lib.hid (HB1.out.trans (hb.mono HB1.out.size))
  have HK2 : Hid (w2.heap[w.heap.size]? = some (.cells #[.int .i64 4, .int .i64 3, .int .i64 0, .int .i64 (-1), .string ⟨#[]⟩, .string ⟨#[]⟩] 23 (0, 0))) := Lib.hid ((hb.block _ (lt_of_block HK1.out)).trans HK1.out)
  obtain ⟨-, g, off, rfl, hg, c0, c1, c2, c3, c4, c5⟩ := hol 0 o3 rfl
  simp only [Nat.zero_mul, Nat.add_zero, o3] at c0 c1 c2 c3 c4 c5
  obtain ⟨x0, x1, x2, x3, x4, x5⟩ := block6 HK2.out
  clear hb hol
  have HCV : Hid (∀ X, Below w2.heap.size w2 X → X.cell? ⟨g, off, none⟩ = some (.int .i64 4) ∧ X.cell? ⟨g, off + 1, none⟩ = some (.int .i64 3) ∧ X.cell? ⟨g, off + 2, none⟩ = some (.int .i64 0) ∧ X.cell? ⟨g, off + 3, none⟩ = some (.int .i64 (-1)) ∧ X.cell? ⟨g, off + 4, none⟩ = some (.string ⟨#[]⟩) ∧ X.cell? ⟨g, off + 5, none⟩ = some (.string ⟨#[]⟩) ∧ X.cell? ⟨w.heap.size, 0, none⟩ = some (.int .i64 4) ∧ X.cell? ⟨w.heap.size, 1, none⟩ = some (.int .i64 3) ∧ X.cell? ⟨w.heap.size, 2, none⟩ = some (.int .i64 0) ∧ X.cell? ⟨w.heap.size, 3, none⟩ = some (.int .i64 (-1)) ∧ X.cell? ⟨w.heap.size, 4, none⟩ = some (.string ⟨#[]⟩) ∧ X.cell? ⟨w.heap.size, 5, none⟩ = some (.string ⟨#[]⟩)) := Lib.hid (fun X hX => by
    have hk := lt_of_block HK2.out
    have key : ∀ j v, w2.cell? ⟨g, j, none⟩ = some v → X.cell? ⟨g, j, none⟩ = some v := fun j v hv => (hX.cell (p := ⟨g, j, none⟩) hg).trans hv
    have key2 : ∀ j v, w2.cell? ⟨w.heap.size, j, none⟩ = some v → X.cell? ⟨w.heap.size, j, none⟩ = some v := fun j v hv => (hX.cell (p := ⟨w.heap.size, j, none⟩) hk).trans hv
    exact ⟨key _ _ c0, key _ _ c1, key _ _ c2, key _ _ c3, key _ _ c4, key _ _ c5, key2 _ _ x0, key2 _ _ x1, key2 _ _ x2, key2 _ _ x3, key2 _ _ x4, key2 _ _ x5⟩)
  have HTV : Hid (∀ X, Below w2.heap.size w2 X → TB X) := Lib.hid (fun X hX => (HT.out.below HB2.out).below hX)
  clear c0 c1 c2 c3 c4 c5 x0 x1 x2 x3 x4 x5
  go_wp2_with fail
  go_region_held3 (fun X => X.cell? ⟨g, off, none⟩ = some (.int .i64 4) ∧ X.cell? ⟨g, off + 1, none⟩ = some (.int .i64 3) ∧ X.cell? ⟨g, off + 2, none⟩ = some (.int .i64 0) ∧ X.cell? ⟨g, off + 3, none⟩ = some (.int .i64 (-1)) ∧ X.cell? ⟨g, off + 4, none⟩ = some (.string ⟨#[]⟩) ∧ X.cell? ⟨g, off + 5, none⟩ = some (.string ⟨#[]⟩) ∧ X.cell? ⟨w.heap.size, 0, none⟩ = some (.int .i64 4) ∧ X.cell? ⟨w.heap.size, 1, none⟩ = some (.int .i64 3) ∧ X.cell? ⟨w.heap.size, 2, none⟩ = some (.int .i64 0) ∧ X.cell? ⟨w.heap.size, 3, none⟩ = some (.int .i64 (-1)) ∧ X.cell? ⟨w.heap.size, 4, none⟩ = some (.string ⟨#[]⟩) ∧ X.cell? ⟨w.heap.size, 5, none⟩ = some (.string ⟨#[]⟩))
    (first | with_reducible exact HCV.out _ (Below.refl _ _) | with_reducible exact HCV.out _ (Below.refl _ _).drew | with_reducible exact HCV.out _ HB3.out)
    (first
      | (go_at_call 13; refine (HPr.out _ (HTV.out _ (Below.refl _ _).drew)).mono ?_; rintro e w3 ⟨rfl, hb⟩; have HB3 := Lib.hid ((Below.refl w2.heap.size w2).drew.trans (hb.mono (by simp))); clear hb))
  go_wp2
  go_ret
  exact ⟨rfl, HB2.out.trans (HB3.out.mono HB2.out.size)⟩
end Go.Proofs.YtdjhnjokmmbafaaDoor
