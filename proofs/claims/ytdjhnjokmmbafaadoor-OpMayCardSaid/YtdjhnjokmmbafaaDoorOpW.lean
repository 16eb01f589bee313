/-
  The law OpMay: what may not be has no bytes, and no words; what may has some.
-/
import Derived.Test.YtdjhnjokmmbafaaDoorOpU
namespace Go.Proofs.YtdjhnjokmmbafaaDoor
open Go.ChangeShapes Go.WideShapes Go.ChangeAt Go.RowKit
set_option linter.unusedVariables false
set_option linter.unusedSimpArgs false

theorem enc_one (o : Po) : encR [o] = if mayO o then (enc o, 0) else ([], 1) := by
  rw [encR, if_neg (by simp)]
  cases h : mayO o
  · simp [h]
  · simp [h, encL]
theorem kword_pos (k : Int) : 0 < (kword k).size := by
  unfold kword
  repeat (first | split | decide)
theorem prn_pos {o : Po} (h : mayO o = true) : 0 < (prn o).length := by
  rw [prn, if_pos h, List.length_append]
  have := kword_pos o.kind
  rw [Lib.size_eq] at this
  omega
set_option maxRecDepth 100000 in
set_option maxHeartbeats 4000000 in
theorem may_law (o : Po) (w : World) (hf : Fit o) (hT : TB w) :
    Calls Tryd.prog 7 #[opv o] w (GivesV (.bool true) w) := by
  have HT := Lib.hid hT
  have HF := Lib.hid hf
  clear hT
  unfold opv
  go_enter Tryd.func7, Tryd.ntmps7
  obtain ⟨W, hW⟩ : ∃ W, W = (w.alloc (.cells #[.int .i64 o.kind, .int .i64 o.id, .int .i64 o.dst, .int .i64 o.pos, .string o.name, .string o.text] 23)).alloc (.cells #[.int .i64 o.kind, .int .i64 o.id, .int .i64 o.dst, .int .i64 o.pos, .string o.name, .string o.text] 23) := ⟨_, rfl⟩
  have HWb : Hid (Below w.heap.size w W) := Lib.hid (by rw [hW]; exact ((Below.refl _ _).alloc (Nat.le_refl _) _).alloc (by simp) _)
  have HWk : Hid (W.heap[w.heap.size]? = some (.cells #[.int .i64 o.kind, .int .i64 o.id, .int .i64 o.dst, .int .i64 o.pos, .string o.name, .string o.text] 23 (0, 0))) := Lib.hid (by rw [hW, heap_alloc_old _ _ (by simp)]; exact heap_alloc_new _ _)
  have HWl : Hid (OL W (some ⟨w.heap.size + 1, 0, none⟩) [o]) := Lib.hid (one_ol hf (by
    have := heap_alloc_new (w.alloc (.cells #[.int .i64 o.kind, .int .i64 o.id, .int .i64 o.dst, .int .i64 o.pos, .string o.name, .string o.text] 23)) (.cells #[.int .i64 o.kind, .int .i64 o.id, .int .i64 o.dst, .int .i64 o.pos, .string o.name, .string o.text] 23)
    rw [show ∀ o : Obj, (w.alloc o).heap.size = w.heap.size + 1 from fun o => by simp] at this
    rw [hW]
    exact this))
  have HBd : Hid (Calls Tryd.prog 9 #[.slice (some ⟨w.heap.size + 1, 0, none⟩) 1 1] W fun e w' => e = .returned (.bool (bdO [o])) ∧ w' = W) := Lib.hid (bounded_any (some ⟨w.heap.size + 1, 0, none⟩) [o] 1 W HWl.out (by simp))
  have HSh := Lib.hid (fun (V : World) (hV : Below w.heap.size w V) => shown_true V (HT.out.below hV))
  have HMy := Lib.hid (fun (V : World) (hV : TB V) => may_any o V hV.1)
  have HPr := Lib.hid (fun (V : World) (hV : TB V) => print_any o V HF.out hV)
  have HEn : Hid (∀ (V : World) (g : Nat), TB V → V.heap[g]? = some (.cells #[.int .i64 o.kind, .int .i64 o.id, .int .i64 o.dst, .int .i64 o.pos, .string o.name, .string o.text] 23 (0, 0)) → Calls Tryd.prog 15 #[.slice (some ⟨g, 0, none⟩) 1 1] V (GivesV (.tuple #[.string (ba (encR [o]).1), .int .i64 (encR [o]).2]) V)) := Lib.hid (fun V g hV hg => encode_any (some ⟨g, 0, none⟩) [o] 1 V (one_ol HF.out hg) (by simp) hV.1)
  rw [enc_one] at HEn
  have HPos := Lib.hid (fun (h : mayO o = true) => And.intro (enc_pos o) (prn_pos h))
  have HPn : Hid (mayO o = false → prn o = []) := Lib.hid (fun h => by rw [prn, if_neg (by rw [h]; simp)])
  unfold opv at HMy HPr
  go_wp2_with fail
  rw [← hW]
  clear hW
  refine HBd.out.mono ?_
  rintro e w' ⟨rfl, hw⟩
  obtain rfl := hw.symm
  generalize bdO [o] = BD at *
  cases BD with
  | false =>
    go_wp2_with fail
    refine (HSh.out W HWb.out).mono ?_
    rintro e w1 ⟨rfl, hb⟩
    have HB1 := Lib.hid (HWb.out.trans (hb.mono HWb.out.size))
    clear hb
    go_wp2
    go_ret
    exact ⟨rfl, HB1.out⟩
  | true =>
  go_wp2_with fail
  refine (HSh.out W HWb.out).mono ?_
  rintro e w2 ⟨rfl, hb⟩
  have HB2 : Hid (Below w.heap.size w w2) := Lib.hid (HWb.out.trans (hb.mono HWb.out.size))
  have HK2 : Hid (w2.heap[w.heap.size]? = some (.cells #[.int .i64 o.kind, .int .i64 o.id, .int .i64 o.dst, .int .i64 o.pos, .string o.name, .string o.text] 23 (0, 0))) := Lib.hid ((hb.block _ (lt_of_block HWk.out)).trans HWk.out)
  clear hb
  obtain ⟨x0, x1, x2, x3, x4, x5⟩ := block6 HK2.out
  obtain ⟨V, hV⟩ : ∃ V, V = w2.alloc (.cells #[.int .i64 o.kind, .int .i64 o.id, .int .i64 o.dst, .int .i64 o.pos, .string o.name, .string o.text] 23) := ⟨_, rfl⟩
  have HVb : Hid (Below w2.heap.size w2 V) := Lib.hid (by rw [hV]; exact (Below.refl _ _).alloc (Nat.le_refl _) _)
  have HEV := Lib.hid (HEn.out V w2.heap.size ((HT.out.below HB2.out).below HVb.out) (by rw [hV]; exact heap_alloc_new _ _))
  go_wp2_with fail
  rw [← hV]
  clear hV x0 x1 x2 x3 x4 x5
  refine HEV.out.mono ?_
  rintro e w4 ⟨rfl, hb⟩
  have HB24 := Lib.hid (HVb.out.trans (hb.mono HVb.out.size))
  have HB4 : Hid (Below w.heap.size w w4) := Lib.hid (HB2.out.trans (HB24.out.mono HB2.out.size))
  have HK4 : Hid (w4.heap[w.heap.size]? = some (.cells #[.int .i64 o.kind, .int .i64 o.id, .int .i64 o.dst, .int .i64 o.pos, .string o.name, .string o.text] 23 (0, 0))) := Lib.hid ((HB24.out.block _ (lt_of_block HK2.out)).trans HK2.out)
  have HCV : Hid (∀ X, Below w4.heap.size w4 X → X.cell? ⟨w.heap.size, 0, none⟩ = some (.int .i64 o.kind) ∧ X.cell? ⟨w.heap.size, 1, none⟩ = some (.int .i64 o.id) ∧ X.cell? ⟨w.heap.size, 2, none⟩ = some (.int .i64 o.dst) ∧ X.cell? ⟨w.heap.size, 3, none⟩ = some (.int .i64 o.pos) ∧ X.cell? ⟨w.heap.size, 4, none⟩ = some (.string o.name) ∧ X.cell? ⟨w.heap.size, 5, none⟩ = some (.string o.text)) := Lib.hid (fun X hX => block6 ((hX.block _ (lt_of_block HK4.out)).trans HK4.out))
  have HTV : Hid (∀ X, Below w4.heap.size w4 X → TB X) := Lib.hid (fun X hX => (HT.out.below HB4.out).below hX)
  clear hb
  cases hmo : mayO o with
  | false =>
    have e1 := HPn.out hmo
    rw [hmo] at HMy
    rw [e1] at HPr
    have e2 : ba ([] : List UInt8) = ⟨#[]⟩ := rfl
    rw [e2] at HPr
    simp only [Bool.false_eq_true, if_false]
    rw [e2]
    clear hmo e1 e2
    go_wp2_with fail
    go_region_held3 (fun X => X.cell? ⟨w.heap.size, 0, none⟩ = some (.int .i64 o.kind) ∧ X.cell? ⟨w.heap.size, 1, none⟩ = some (.int .i64 o.id) ∧ X.cell? ⟨w.heap.size, 2, none⟩ = some (.int .i64 o.dst) ∧ X.cell? ⟨w.heap.size, 3, none⟩ = some (.int .i64 o.pos) ∧ X.cell? ⟨w.heap.size, 4, none⟩ = some (.string o.name) ∧ X.cell? ⟨w.heap.size, 5, none⟩ = some (.string o.text))
      (first | with_reducible exact HCV.out _ (Below.refl _ _) | with_reducible exact HCV.out _ (Below.refl _ _).drew | with_reducible exact HCV.out _ HBa.out | with_reducible exact HCV.out _ HBb.out | with_reducible exact HCV.out _ HBc.out | with_reducible exact HCV.out _ HBd.out | with_reducible exact HCV.out _ HBa.out.drew | with_reducible exact HCV.out _ HBb.out.drew | with_reducible exact HCV.out _ HBc.out.drew)
      (first
        | (go_at_call 13; refine (HPr.out _ (HTV.out _ (by first | exact HBb.out | exact HBb.out.drew))).mono ?_; rintro e y ⟨rfl, hb⟩; have HBc := Lib.hid ((by first | exact HBb.out | exact HBb.out.drew : Below w4.heap.size w4 _).trans (hb.mono (by have := HBb.out.size; simp; omega))); clear hb)
        | (go_at_call 11; refine (HMy.out _ (HTV.out _ (by first | exact HBc.out | exact HBc.out.drew))).mono ?_; rintro e y ⟨rfl, hb⟩; have HBd := Lib.hid ((by first | exact HBc.out | exact HBc.out.drew : Below w4.heap.size w4 _).trans (hb.mono (by have := HBc.out.size; simp; omega))); clear hb)
        | (go_at_call 11; refine (HMy.out _ (HTV.out _ (by first | exact HBa.out | exact HBa.out.drew))).mono ?_; rintro e y ⟨rfl, hb⟩; have HBb := Lib.hid ((by first | exact HBa.out | exact HBa.out.drew : Below w4.heap.size w4 _).trans (hb.mono (by have := HBa.out.size; simp; omega))); clear hb)
        | (go_at_call 11; refine (HMy.out _ (HTV.out _ (by first | exact Below.refl _ _ | exact (Below.refl _ _).drew))).mono ?_; rintro e y ⟨rfl, hb⟩; have HBa := Lib.hid ((by first | exact Below.refl _ _ | exact (Below.refl _ _).drew : Below w4.heap.size w4 _).trans (hb.mono (by simp))); clear hb))
    go_wp2
    go_ret
    exact ⟨rfl, HB4.out.trans (HBd.out.mono HB4.out.size)⟩
  | true =>
    obtain ⟨p1, p2⟩ := HPos.out hmo
    rw [hmo] at HMy
    obtain ⟨S, hS⟩ : ∃ S, S = ba (enc o) := ⟨_, rfl⟩
    obtain ⟨P, hP⟩ : ∃ P, P = ba (prn o) := ⟨_, rfl⟩
    have s1 := not_empty S (by rw [hS, ba_size]; omega)
    have s2 := not_nil S (by rw [hS, ba_size]; omega)
    have s3 : (S.toList != []) = true := by simpa using s2
    have q1 := not_empty P (by rw [hP, ba_size]; omega)
    have q2 := not_nil P (by rw [hP, ba_size]; omega)
    have q3 : (P.toList != []) = true := by simpa using q2
    rw [← hP] at HPr
    simp only [if_true]
    rw [← hS]
    clear hmo hS hP p1 p2
    go_wp2_with fail
    first
      | (
        go_region_held (fun X => X.cell? ⟨w.heap.size, 0, none⟩ = some (.int .i64 o.kind) ∧ X.cell? ⟨w.heap.size, 1, none⟩ = some (.int .i64 o.id) ∧ X.cell? ⟨w.heap.size, 2, none⟩ = some (.int .i64 o.dst) ∧ X.cell? ⟨w.heap.size, 3, none⟩ = some (.int .i64 o.pos) ∧ X.cell? ⟨w.heap.size, 4, none⟩ = some (.string o.name) ∧ X.cell? ⟨w.heap.size, 5, none⟩ = some (.string o.text))
          (first | with_reducible exact HCV.out _ (Below.refl _ _) | with_reducible exact HCV.out _ (Below.refl _ _).drew | with_reducible exact HCV.out _ HBa.out | with_reducible exact HCV.out _ HBb.out | with_reducible exact HCV.out _ HBc.out | with_reducible exact HCV.out _ HBd.out | with_reducible exact HCV.out _ HBa.out.drew | with_reducible exact HCV.out _ HBb.out.drew | with_reducible exact HCV.out _ HBc.out.drew)
          (first
          | (go_at_call 13; refine (HPr.out _ (HTV.out _ (by first | exact HBb.out | exact HBb.out.drew))).mono ?_; rintro e y ⟨rfl, hb⟩; have HBc := Lib.hid ((by first | exact HBb.out | exact HBb.out.drew : Below w4.heap.size w4 _).trans (hb.mono (by have := HBb.out.size; simp; omega))); clear hb)
          | (go_at_call 11; refine (HMy.out _ (HTV.out _ (by first | exact HBc.out | exact HBc.out.drew))).mono ?_; rintro e y ⟨rfl, hb⟩; have HBd := Lib.hid ((by first | exact HBc.out | exact HBc.out.drew : Below w4.heap.size w4 _).trans (hb.mono (by have := HBc.out.size; simp; omega))); clear hb)
          | (go_at_call 11; refine (HMy.out _ (HTV.out _ (by first | exact HBa.out | exact HBa.out.drew))).mono ?_; rintro e y ⟨rfl, hb⟩; have HBb := Lib.hid ((by first | exact HBa.out | exact HBa.out.drew : Below w4.heap.size w4 _).trans (hb.mono (by have := HBa.out.size; simp; omega))); clear hb)
          | (go_at_call 11; refine (HMy.out _ (HTV.out _ (by first | exact Below.refl _ _ | exact (Below.refl _ _).drew))).mono ?_; rintro e y ⟨rfl, hb⟩; have HBa := Lib.hid ((by first | exact Below.refl _ _ | exact (Below.refl _ _).drew : Below w4.heap.size w4 _).trans (hb.mono (by simp))); clear hb)))
      | fail
    go_wp2
    go_ret
    exact ⟨rfl, HB4.out.trans (HBd.out.mono HB4.out.size)⟩
end Go.Proofs.YtdjhnjokmmbafaaDoor
