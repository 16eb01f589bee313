/-
  Whether an operation may be.
-/
import Derived.Test.YtdjhnjokmmbafaaDoorOpThId
import Derived.Test.YtdjhnjokmmbafaaDoorOpE
namespace Go.Proofs.YtdjhnjokmmbafaaDoor
open Go.ChangeShapes Go.WideShapes Go.ChangeAt Go.RowKit
set_option linter.unusedVariables false
set_option linter.unusedSimpArgs false

set_option maxHeartbeats 400000 in
theorem isKind_any (n : Int) (w : World) : Calls Tryd.prog 21 #[.int .i64 n] w fun e w' => e = .returned (.bool (isK n)) ∧ w' = w := by
  by_cases h1 : 1 ≤ n
  · by_cases h8 : n ≤ 8
    · have : isK n = true := isK_iff.2 ⟨h1, h8⟩
      rw [this]
      go_enter Tryd.func21, Tryd.ntmps21
      go_wp2
      go_ret
      exact ⟨rfl, rfl⟩
    · have : isK n = false := by rw [isK, decide_eq_false_iff_not]; omega
      rw [this]
      go_enter Tryd.func21, Tryd.ntmps21
      go_wp2
      go_ret
      exact ⟨rfl, rfl⟩
  · have : isK n = false := by rw [isK, decide_eq_false_iff_not]; omega
    rw [this]
    go_enter Tryd.func21, Tryd.ntmps21
    go_wp2
    go_ret
    exact ⟨rfl, rfl⟩
theorem thr_id (o : Po) (w : World) (hk : isK o.kind = true) (hK : KT w) :
    Calls Tryd.prog 22 #[opv o, .func (.func 23) #[] #[], .func (.func 24) #[] #[]] w (GivesV (opv (kept o)) w) := by
  refine (thrId_any (σ := Unit) (fun _ V => Below w.heap.size w V) (fun s n => (n, s)) (fun s n => (n, s)) (fun _ => 0) (fun _ => True) (fun _ => True) (fun _ _ => Nat.zero_le _) (fun _ _ => Nat.zero_le _) (fun s n V _ _ hV => (id1 n V).mono ?_) (fun s n V _ _ hV => (id2 n V).mono ?_) w (fun s V V' h1 h2 => ?_) () rfl (Below.refl _ _) hK o hk trivial trivial trivial trivial trivial).mono ?_
  · rintro e V' ⟨rfl, rfl⟩
    exact ⟨rfl, hV, Nat.le_refl _, fun k cs h => rfl⟩
  · rintro e V' ⟨rfl, rfl⟩
    exact ⟨rfl, hV, Nat.le_refl _, fun k cs h => rfl⟩
  · exact h1.trans h2.1
  · rintro e w' ⟨rfl, hb⟩
    refine ⟨?_, hb⟩
    have : (thrM (σ := Unit) (fun s n => (n, s)) (fun s n => (n, s)) o ()).1 = kept o := by
      unfold thrM kept
      simp only []
      congr 1 <;> split <;> rfl
    rw [this]
theorem kept_may {o : Po} (hk : isK o.kind = true) (h1 : o.name.size ≤ 255) (h2 : o.text.size ≤ 255) : mayO o = ((o.kind == (kept o).kind) && ((o.id == (kept o).id) && ((o.dst == (kept o).dst) && ((o.pos == (kept o).pos) && ((o.name.toList == (kept o).name.toList) && (o.text.toList == (kept o).text.toList)))))) := by
  have key : ∀ (b : Bool) (n : Int), (b || decide (n = 0)) = (n == if b = true then n else 0) := fun b n => by cases b <;> simp [Bool.beq_eq_decide_eq]
  have keyS : ∀ (b : Bool) (s : ByteArray), (b || decide (s.size = 0)) = (s.toList == (if b = true then s else ⟨#[]⟩).toList) := fun b s => by
    cases b with
    | true => simp
    | false =>
      by_cases h : s.size = 0
      · rw [empty_of h]
        exact (by decide : (false || decide ((ba []).size = 0)) = true).trans (str_same rfl).symm
      · have h' : s ≠ ⟨#[]⟩ := fun e => h (by rw [e]; rfl)
        rw [decide_eq_false h]
        simp only [Bool.false_or, Bool.false_eq_true, if_false]
        exact (str_other h').symm
  unfold mayO kept
  simp only []
  rw [hk, decide_eq_true h1, decide_eq_true h2, key, key, key, keyS, keyS]
  simp
set_option maxRecDepth 100000 in
set_option maxHeartbeats 2000000 in
theorem may_any (o : Po) (w : World) (hK : KT w) : Calls Tryd.prog 11 #[opv o] w (GivesV (.bool (mayO o)) w) := by
  have HI := Lib.hid (fun V => isKind_any o.kind V)
  have HK := Lib.hid hK
  by_cases h0 : isK o.kind = true
  · by_cases h1 : o.name.size ≤ 255
    · by_cases h2 : o.text.size ≤ 255
      · have HM := Lib.hid (kept_may h0 h1 h2)
        have HT := Lib.hid (fun V hV => thr_id o V h0 hV)
        rw [h0] at HI
        have h1' : ¬ (255 : Int) < (o.name.size : Int) := by omega
        have h2' : ¬ (255 : Int) < (o.text.size : Int) := by omega
        unfold opv at *
        generalize mayO o = R at *
        clear hK h1 h2 h0
        go_enter Tryd.func11, Tryd.ntmps11
        obtain ⟨W, hW⟩ : ∃ W, W = w.alloc (.cells #[.int .i64 o.kind, .int .i64 o.id, .int .i64 o.dst, .int .i64 o.pos, .string o.name, .string o.text] 23) := ⟨_, rfl⟩
        have HWb : Hid (Below w.heap.size w W) := Lib.hid (by rw [hW]; exact (Below.refl _ _).alloc (Nat.le_refl _) _)
        have HWk : Hid (W.heap[w.heap.size]? = some (.cells #[.int .i64 o.kind, .int .i64 o.id, .int .i64 o.dst, .int .i64 o.pos, .string o.name, .string o.text] 23 (0, 0))) := Lib.hid (by rw [hW]; exact heap_alloc_new _ _)
        have HCV : Hid (∀ V, Below W.heap.size W V → V.cell? ⟨w.heap.size, 0, none⟩ = some (.int .i64 o.kind) ∧ V.cell? ⟨w.heap.size, 1, none⟩ = some (.int .i64 o.id) ∧ V.cell? ⟨w.heap.size, 2, none⟩ = some (.int .i64 o.dst) ∧ V.cell? ⟨w.heap.size, 3, none⟩ = some (.int .i64 o.pos) ∧ V.cell? ⟨w.heap.size, 4, none⟩ = some (.string o.name) ∧ V.cell? ⟨w.heap.size, 5, none⟩ = some (.string o.text)) := Lib.hid (fun V hb => block6 ((hb.block _ (Array.getElem?_eq_some_iff.1 HWk.out).1).trans HWk.out))
        have HTV := Lib.hid (fun V (hb : Below W.heap.size W V) => HT.out V (HK.out.below (HWb.out.trans (hb.mono HWb.out.size))))
        obtain ⟨x0, x1, x2, x3, x4, x5⟩ := HCV.out W (Below.refl _ _)
        generalize kept o = q at *
        go_wp2_with (first | rw [← hW] | (go_at_call 21; refine (HI.out _).mono ?_; rintro e w' ⟨rfl, hw⟩; obtain rfl := hw.symm))
        clear x0 x1 x2 x3 x4 x5 hW
        have hE := eq_op o.kind o.id o.dst o.pos q.kind q.id q.dst q.pos o.name o.text q.name q.text
        rw [← HM.out] at hE
        go_region_held3 (fun V => V.cell? ⟨w.heap.size, 0, none⟩ = some (.int .i64 o.kind) ∧ V.cell? ⟨w.heap.size, 1, none⟩ = some (.int .i64 o.id) ∧ V.cell? ⟨w.heap.size, 2, none⟩ = some (.int .i64 o.dst) ∧ V.cell? ⟨w.heap.size, 3, none⟩ = some (.int .i64 o.pos) ∧ V.cell? ⟨w.heap.size, 4, none⟩ = some (.string o.name) ∧ V.cell? ⟨w.heap.size, 5, none⟩ = some (.string o.text))
          (first | with_reducible exact HCV.out _ (Below.refl _ _) | with_reducible exact HCV.out _ (Below.refl _ _).drew | with_reducible exact HCV.out _ HB1.out)
          (first
            | (go_at_call 22; refine (HTV.out _ (Below.refl _ _).drew).mono ?_; rintro e w1 ⟨rfl, hb⟩; have HB1 := Lib.hid ((Below.refl W.heap.size W).drew.trans (hb.mono (by simp))); clear hb))
        go_wp2
        go_ret
        exact ⟨rfl, HWb.out.trans (HB1.out.mono HWb.out.size)⟩
      · have hf : mayO o = false := by rw [mayO, decide_eq_false h2]; simp
        rw [hf]
        rw [h0] at HI
        have h1' : ¬ (255 : Int) < (o.name.size : Int) := by omega
        have h2' : (255 : Int) < (o.text.size : Int) := by omega
        unfold opv
        clear hK h1 h2 h0 hf
        go_enter Tryd.func11, Tryd.ntmps11
        go_wp2_with (go_at_call 21; refine (HI.out _).mono ?_; rintro e w' ⟨rfl, rfl⟩)
        go_ret
        exact ⟨rfl, (Below.refl _ _).alloc (Nat.le_refl _) _⟩
    · have hf : mayO o = false := by rw [mayO, decide_eq_false h1]; simp
      rw [hf]
      rw [h0] at HI
      have h1' : (255 : Int) < (o.name.size : Int) := by omega
      unfold opv
      clear hK h1 h0 hf
      go_enter Tryd.func11, Tryd.ntmps11
      go_wp2_with (go_at_call 21; refine (HI.out _).mono ?_; rintro e w' ⟨rfl, rfl⟩)
      go_ret
      exact ⟨rfl, (Below.refl _ _).alloc (Nat.le_refl _) _⟩
  · have h0' : isK o.kind = false := by simpa using h0
    have hf : mayO o = false := by rw [mayO, h0']; rfl
    rw [hf]
    rw [h0'] at HI
    unfold opv
    clear hK h0 h0' hf
    go_enter Tryd.func11, Tryd.ntmps11
    go_wp2_with (go_at_call 21; refine (HI.out _).mono ?_; rintro e w' ⟨rfl, rfl⟩)
    go_ret
    exact ⟨rfl, (Below.refl _ _).alloc (Nat.le_refl _) _⟩
end Go.Proofs.YtdjhnjokmmbafaaDoor
