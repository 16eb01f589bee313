/-
  The law OpTells: whether any operation may be, and its words, is the document's.
-/
import Derived.Test.YtdjhnjokmmbafaaDoorOpRpA
import Derived.Test.YtdjhnjokmmbafaaDoorOpRpB
import Derived.Test.YtdjhnjokmmbafaaDoorOpRpC
import Derived.Test.YtdjhnjokmmbafaaDoorOpRpD
namespace Go.Proofs.YtdjhnjokmmbafaaDoor
open Go.ChangeShapes Go.WideShapes Go.ChangeAt Go.RowKit
set_option linter.unusedVariables false
set_option linter.unusedSimpArgs false

set_option maxRecDepth 100000 in
set_option maxHeartbeats 2000000 in
theorem rprint_any (o : Po) (w : World) (hf : Fit o) : Calls Tryd.prog 14 #[opv o] w (GivesV (.string (ba (prn o))) w) := by
  obtain ⟨k, i, t, a, n, x⟩ := o
  cases hm : mayO ⟨k, i, t, a, n, x⟩ with
  | true =>
    have : k = 1 ∨ k = 2 ∨ k = 3 ∨ k = 4 ∨ k = 5 ∨ k = 6 ∨ k = 7 ∨ k = 8 := by
      have := isK_iff.1 (mayO_parts hm).1
      simp only [] at this
      omega
    rcases this with rfl | rfl | rfl | rfl | rfl | rfl | rfl | rfl
    · exact rpr1 i t a n x w hf.i hf.t hf.a hm
    · exact rpr2 i t a n x w hf.i hf.t hf.a hm
    · exact rpr3 i t a n x w hf.i hf.t hf.a hm
    · exact rpr4 i t a n x w hf.i hf.t hf.a hm
    · exact rpr5 i t a n x w hf.i hf.t hf.a hm
    · exact rpr6 i t a n x w hf.i hf.t hf.a hm
    · exact rpr7 i t a n x w hf.i hf.t hf.a hm
    · exact rpr8 i t a n x w hf.i hf.t hf.a hm
  | false =>
    have HM := Lib.hid (fun V => rmay_any ⟨k, i, t, a, n, x⟩ V)
    rw [hm] at HM
    have hp : prn ⟨k, i, t, a, n, x⟩ = [] := by rw [prn, if_neg (by rw [hm]; simp)]
    have e2 : ba ([] : List UInt8) = ⟨#[]⟩ := rfl
    rw [hp, e2]
    clear hm hp e2
    unfold opv at HM ⊢
    go_enter Tryd.func14, Tryd.ntmps14
    go_wp2_with fail
    refine (HM.out _).mono ?_
    rintro e w1 ⟨rfl, hb⟩
    have HB := Lib.hid (((Below.refl w.heap.size w).alloc (Nat.le_refl _) _).trans (hb.mono (by simp)))
    clear hb
    go_wp2
    go_ret
    exact ⟨rfl, HB.out⟩
set_option maxRecDepth 100000 in
set_option maxHeartbeats 4000000 in
theorem tells_law (o : Po) (w : World) (hf : Fit o) (hT : TB w) :
    Calls Tryd.prog 3 #[opv o] w (GivesV (.bool true) w) := by
  have HT := Lib.hid hT
  have HF := Lib.hid hf
  clear hT
  unfold opv
  go_enter Tryd.func3, Tryd.ntmps3
  obtain ⟨W, hW⟩ : ∃ W, W = (w.alloc (.cells #[.int .i64 o.kind, .int .i64 o.id, .int .i64 o.dst, .int .i64 o.pos, .string o.name, .string o.text] 23)).alloc (.cells #[.int .i64 o.kind, .int .i64 o.id, .int .i64 o.dst, .int .i64 o.pos, .string o.name, .string o.text] 23) := ⟨_, rfl⟩
  have HWb : Hid (Below w.heap.size w W) := Lib.hid (by rw [hW]; exact ((Below.refl _ _).alloc (Nat.le_refl _) _).alloc (by simp) _)
  have HWk : Hid (W.heap[w.heap.size]? = some (.cells #[.int .i64 o.kind, .int .i64 o.id, .int .i64 o.dst, .int .i64 o.pos, .string o.name, .string o.text] 23 (0, 0))) := Lib.hid (by rw [hW, heap_alloc_old _ _ (by simp)]; exact heap_alloc_new _ _)
  have HWl : Hid (OL W (some ⟨w.heap.size + 1, 0, none⟩) [o]) := Lib.hid (one_ol hf (by
    have := heap_alloc_new (w.alloc (.cells #[.int .i64 o.kind, .int .i64 o.id, .int .i64 o.dst, .int .i64 o.pos, .string o.name, .string o.text] 23)) (.cells #[.int .i64 o.kind, .int .i64 o.id, .int .i64 o.dst, .int .i64 o.pos, .string o.name, .string o.text] 23)
    rw [show ∀ o : Obj, (w.alloc o).heap.size = w.heap.size + 1 from fun o => by simp] at this
    rw [hW]
    exact this))
  have HBd : Hid (Calls Tryd.prog 9 #[.slice (some ⟨w.heap.size + 1, 0, none⟩) 1 1] W fun e w' => e = .returned (.bool (bdO [o])) ∧ w' = W) := Lib.hid (bounded_any (some ⟨w.heap.size + 1, 0, none⟩) [o] 1 W HWl.out (by simp))
  have HSh := Lib.hid (fun (V : World) (hV : Below w.heap.size w V) => shown_true V (HT.out.below hV))
  have HMy := Lib.hid (fun (V : World) (hV : TB V) => may_any o V hV.1)
  have HPr := Lib.hid (fun (V : World) (hV : TB V) => print_any o V HF.out hV)
  have HRm := Lib.hid (fun (V : World) => rmay_any o V)
  have HRp := Lib.hid (fun (V : World) => rprint_any o V HF.out)
  unfold opv at HMy HPr HRm HRp
  go_wp2_with fail
  rw [← hW]
  clear hW
  refine HBd.out.mono ?_
  rintro e w' ⟨rfl, hw⟩
  obtain rfl := hw.symm
  generalize bdO [o] = BD at *
  cases BD with
  | false =>
    go_wp2_with fail
    refine (HSh.out W HWb.out).mono ?_
    rintro e w1 ⟨rfl, hb⟩
    have HB1 := Lib.hid (HWb.out.trans (hb.mono HWb.out.size))
    clear hb
    go_wp2
    go_ret
    exact ⟨rfl, HB1.out⟩
  | true =>
  go_wp2_with fail
  refine (HSh.out W HWb.out).mono ?_
  rintro e w2 ⟨rfl, hb⟩
  have HB2 : Hid (Below w.heap.size w w2) := Lib.hid (HWb.out.trans (hb.mono HWb.out.size))
  have HK2 : Hid (w2.heap[w.heap.size]? = some (.cells #[.int .i64 o.kind, .int .i64 o.id, .int .i64 o.dst, .int .i64 o.pos, .string o.name, .string o.text] 23 (0, 0))) := Lib.hid ((hb.block _ (lt_of_block HWk.out)).trans HWk.out)
  clear hb
  have HCV : Hid (∀ X, Below w2.heap.size w2 X → X.cell? ⟨w.heap.size, 0, none⟩ = some (.int .i64 o.kind) ∧ X.cell? ⟨w.heap.size, 1, none⟩ = some (.int .i64 o.id) ∧ X.cell? ⟨w.heap.size, 2, none⟩ = some (.int .i64 o.dst) ∧ X.cell? ⟨w.heap.size, 3, none⟩ = some (.int .i64 o.pos) ∧ X.cell? ⟨w.heap.size, 4, none⟩ = some (.string o.name) ∧ X.cell? ⟨w.heap.size, 5, none⟩ = some (.string o.text)) := Lib.hid (fun X hX => block6 ((hX.block _ (lt_of_block HK2.out)).trans HK2.out))
  have HTV : Hid (∀ X, Below w2.heap.size w2 X → TB X) := Lib.hid (fun X hX => (HT.out.below HB2.out).below hX)
  generalize prn o = R at *
  generalize mayO o = M at *
  cases M with
  | true =>
    go_wp2_with fail
    go_region_held3 (fun X => X.cell? ⟨w.heap.size, 0, none⟩ = some (.int .i64 o.kind) ∧ X.cell? ⟨w.heap.size, 1, none⟩ = some (.int .i64 o.id) ∧ X.cell? ⟨w.heap.size, 2, none⟩ = some (.int .i64 o.dst) ∧ X.cell? ⟨w.heap.size, 3, none⟩ = some (.int .i64 o.pos) ∧ X.cell? ⟨w.heap.size, 4, none⟩ = some (.string o.name) ∧ X.cell? ⟨w.heap.size, 5, none⟩ = some (.string o.text))
      (first | with_reducible exact HCV.out _ (Below.refl _ _) | with_reducible exact HCV.out _ (Below.refl _ _).drew | with_reducible exact HCV.out _ HBa.out | with_reducible exact HCV.out _ HBb.out | with_reducible exact HCV.out _ HBc.out | with_reducible exact HCV.out _ HBd.out)
      (first
        | (go_at_call 14; refine (HRp.out _).mono ?_; rintro e y4 ⟨rfl, hb⟩; have HBd := Lib.hid (HBc.out.trans (hb.mono HBc.out.size)); clear hb)
        | (go_at_call 13; refine (HPr.out _ (HTV.out _ HBb.out)).mono ?_; rintro e y3 ⟨rfl, hb⟩; have HBc := Lib.hid (HBb.out.trans (hb.mono HBb.out.size)); clear hb)
        | (go_at_call 12; refine (HRm.out _).mono ?_; rintro e y2 ⟨rfl, hb⟩; have HBb := Lib.hid (HBa.out.trans (hb.mono HBa.out.size)); clear hb)
        | (go_at_call 11; refine (HMy.out _ (HTV.out _ (by first | exact Below.refl _ _ | exact (Below.refl _ _).drew))).mono ?_; rintro e y1 ⟨rfl, hb⟩; have HBa := Lib.hid ((by first | exact Below.refl _ _ | exact (Below.refl _ _).drew : Below w2.heap.size w2 _).trans (hb.mono (by simp))); clear hb))
    go_wp2
    go_ret
    exact ⟨rfl, HB2.out.trans (HBd.out.mono HB2.out.size)⟩
  | false =>
    go_wp2_with fail
    go_region_held3 (fun X => X.cell? ⟨w.heap.size, 0, none⟩ = some (.int .i64 o.kind) ∧ X.cell? ⟨w.heap.size, 1, none⟩ = some (.int .i64 o.id) ∧ X.cell? ⟨w.heap.size, 2, none⟩ = some (.int .i64 o.dst) ∧ X.cell? ⟨w.heap.size, 3, none⟩ = some (.int .i64 o.pos) ∧ X.cell? ⟨w.heap.size, 4, none⟩ = some (.string o.name) ∧ X.cell? ⟨w.heap.size, 5, none⟩ = some (.string o.text))
      (first | with_reducible exact HCV.out _ (Below.refl _ _) | with_reducible exact HCV.out _ (Below.refl _ _).drew | with_reducible exact HCV.out _ HBa.out | with_reducible exact HCV.out _ HBb.out | with_reducible exact HCV.out _ HBc.out | with_reducible exact HCV.out _ HBd.out)
      (first
        | (go_at_call 14; refine (HRp.out _).mono ?_; rintro e y4 ⟨rfl, hb⟩; have HBd := Lib.hid (HBc.out.trans (hb.mono HBc.out.size)); clear hb)
        | (go_at_call 13; refine (HPr.out _ (HTV.out _ HBb.out)).mono ?_; rintro e y3 ⟨rfl, hb⟩; have HBc := Lib.hid (HBb.out.trans (hb.mono HBb.out.size)); clear hb)
        | (go_at_call 12; refine (HRm.out _).mono ?_; rintro e y2 ⟨rfl, hb⟩; have HBb := Lib.hid (HBa.out.trans (hb.mono HBa.out.size)); clear hb)
        | (go_at_call 11; refine (HMy.out _ (HTV.out _ (by first | exact Below.refl _ _ | exact (Below.refl _ _).drew))).mono ?_; rintro e y1 ⟨rfl, hb⟩; have HBa := Lib.hid ((by first | exact Below.refl _ _ | exact (Below.refl _ _).drew : Below w2.heap.size w2 _).trans (hb.mono (by simp))); clear hb))
    go_wp2
    go_ret
    exact ⟨rfl, HB2.out.trans (HBd.out.mono HB2.out.size)⟩
/-- The law, of what came in. -/
theorem tells_true {H : Type} {enc : TypeId × Value → H} {W : World} {base : Nat} {v0 : Value} {d0 : DataW H} {p0 : List MemPlace} (hm : TB W) (o0 : Value.okWide Tryd.prog W .any base 23 v0)
    (h0 : DataW.Trod enc Tryd.prog W 0 (fun _ => true) true 23 v0 d0 p0) (l0 : ∀ x ∈ p0, x.block < W.heap.size) :
    Calls Tryd.prog 3 #[v0] W fun e w' => e = .returned (.bool true) ∧ Below W.heap.size W w' := by
  obtain ⟨o, rfl, hf⟩ := op_open o0 h0
  exact tells_law o W hf hm
end Go.Proofs.YtdjhnjokmmbafaaDoor
