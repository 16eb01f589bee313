/-
  Whether two operations are the same, as Go compares structs.
-/
import Derived.Test.YtcndplnnighjkaaGreatDoorPG05
import Derived.Test.YtcndplnnighjkaaGreatDoorPG07
import Derived.Laws.StructEq
import Derived.ChangeKeysEq
namespace Go.Proofs.YtcndplnnighjkaaGreatDoor.Ops
open Go.ChangeShapes Go.WideShapes Go.ChangeAt Go.RowKit
set_option linter.unusedVariables false
set_option linter.unusedSimpArgs false
theorem under_op : Tryz.prog.underlying 40 = some (.struct (Tryz.prog.fieldsOf 40)) := by kernel_rfl
theorem fields_op : (Tryz.prog.fieldsOf 40).toList.map (fun f => (f.type, f.offset, decide (f.name ≠ "_"))) = [(3, 0, true), (3, 1, true), (3, 2, true), (3, 3, true), (9, 4, true), (9, 5, true)] := by kernel_rfl
set_option maxHeartbeats 1000000 in
theorem eq_op (a0 a1 a2 a3 b0 b1 b2 b3 : Int) (a4 a5 b4 b5 : ByteArray) (W : World) : (Op.equalIn 10000 40 (.agg #[.int .i64 a0, .int .i64 a1, .int .i64 a2, .int .i64 a3, .string a4, .string a5]) (.agg #[.int .i64 b0, .int .i64 b1, .int .i64 b2, .int .i64 b3, .string b4, .string b5])).run Tryz.prog W = .ok ((a0 == b0) && ((a1 == b1) && ((a2 == b2) && ((a3 == b3) && ((a4.toList == b4.toList) && (a5.toList == b5.toList)))))) W := by
 rw [show (10000 : Nat) = 9999 + 1 from rfl, run_equalIn_struct W 9999 _ _ _ under_op (by kernel_rfl)]
 have hf := fields_op
 generalize (Tryz.prog.fieldsOf 40).toList = fs at *
 have hl := congrArg List.length hf
 simp only [List.length_map, List.length_cons, List.length_nil] at hl
 match fs, hl, hf with
 | [f0, f1, f2, f3, f4, f5], _, hf =>
   simp only [List.map_cons, List.map_nil, List.cons.injEq, Prod.mk.injEq, decide_eq_true_eq, and_true] at hf
   obtain ⟨⟨t0, o0, n0⟩, ⟨t1, o1, n1⟩, ⟨t2, o2, n2⟩, ⟨t3, o3, n3⟩, ⟨t4, o4, n4⟩, t5, o5, n5⟩ := hf
   have hG : Tryz.prog.plainKey 9 = true := by kernel_rfl
   have hH : Tryz.prog.plainKey 3 = true := by kernel_rfl
   simp only [Op.eqFields, n0, n1, n2, n3, n4, n5, t0, t1, t2, t3, t4, t5, o0, o1, o2, o3, o4, o5, ne_eq, not_true, not_false_eq_true, if_true, Sem.run_bind]
   rw [run_part_plain W hH (v := .int .i64 a0) rfl]
   simp only [Result.andThen_ok]
   rw [run_part_plain W hH (v := .int .i64 b0) rfl]
   simp only [Result.andThen_ok]
   rw [run_equalIn_int W 9998 _ .i64 .i64 a0 b0 (by kernel_rfl)]
   simp only [Result.andThen_ok]
   cases h0 : (a0 == b0)
   · rfl
   simp only [Bool.not_true, Bool.false_eq_true, if_false, Sem.run_bind, Bool.true_and]
   rw [run_part_plain W hH (v := .int .i64 a1) rfl]
   simp only [Result.andThen_ok]
   rw [run_part_plain W hH (v := .int .i64 b1) rfl]
   simp only [Result.andThen_ok]
   rw [run_equalIn_int W 9998 _ .i64 .i64 a1 b1 (by kernel_rfl)]
   simp only [Result.andThen_ok]
   cases h1 : (a1 == b1)
   · rfl
   simp only [Bool.not_true, Bool.false_eq_true, if_false, Sem.run_bind, Bool.true_and]
   rw [run_part_plain W hH (v := .int .i64 a2) rfl]
   simp only [Result.andThen_ok]
   rw [run_part_plain W hH (v := .int .i64 b2) rfl]
   simp only [Result.andThen_ok]
   rw [run_equalIn_int W 9998 _ .i64 .i64 a2 b2 (by kernel_rfl)]
   simp only [Result.andThen_ok]
   cases h2 : (a2 == b2)
   · rfl
   simp only [Bool.not_true, Bool.false_eq_true, if_false, Sem.run_bind, Bool.true_and]
   rw [run_part_plain W hH (v := .int .i64 a3) rfl]
   simp only [Result.andThen_ok]
   rw [run_part_plain W hH (v := .int .i64 b3) rfl]
   simp only [Result.andThen_ok]
   rw [run_equalIn_int W 9998 _ .i64 .i64 a3 b3 (by kernel_rfl)]
   simp only [Result.andThen_ok]
   cases h3 : (a3 == b3)
   · rfl
   simp only [Bool.not_true, Bool.false_eq_true, if_false, Sem.run_bind, Bool.true_and]
   rw [run_part_plain W hG (v := .string a4) rfl]
   simp only [Result.andThen_ok]
   rw [run_part_plain W hG (v := .string b4) rfl]
   simp only [Result.andThen_ok]
   rw [run_equalIn_string W 9998 _ a4 b4 (by kernel_rfl)]
   simp only [Result.andThen_ok]
   cases h4 : (a4.toList == b4.toList)
   · rfl
   simp only [Bool.not_true, Bool.false_eq_true, if_false, Sem.run_bind, Bool.true_and]
   rw [run_part_plain W hG (v := .string a5) rfl]
   simp only [Result.andThen_ok]
   rw [run_part_plain W hG (v := .string b5) rfl]
   simp only [Result.andThen_ok]
   rw [run_equalIn_string W 9998 _ a5 b5 (by kernel_rfl)]
   simp only [Result.andThen_ok, Bool.true_and]
   cases h5 : (a5.toList == b5.toList)
   · rfl
   · rfl
end Go.Proofs.YtcndplnnighjkaaGreatDoor.Ops
namespace Go.Proofs.YtcndplnnighjkaaGreatDoor.Ops
open Go.ChangeShapes Go.WideShapes Go.ChangeAt Go.RowKit
set_option linter.unusedVariables false
set_option linter.unusedSimpArgs false
set_option maxHeartbeats 400000 in
theorem isKind_any (n : Int) (w : World) : Calls Tryz.prog 98 #[.int .i64 n] w fun e w' => e = .returned (.bool (isK n)) /\ w' = w := by
 by_cases h1 : 1 <= n
 · by_cases h8 : n <= 8
   · have : isK n = true := isK_iff.2 ⟨h1, h8⟩
     rw [this]
     go_enter Tryz.func98, Tryz.ntmps98
     go_wp2
     go_ret
     exact ⟨rfl, rfl⟩
   · have : isK n = false := by rw [isK, decide_eq_false_iff_not]; omega
     rw [this]
     go_enter Tryz.func98, Tryz.ntmps98
     go_wp2
     go_ret
     exact ⟨rfl, rfl⟩
 · have : isK n = false := by rw [isK, decide_eq_false_iff_not]; omega
   rw [this]
   go_enter Tryz.func98, Tryz.ntmps98
   go_wp2
   go_ret
   exact ⟨rfl, rfl⟩
theorem thr_id (o : Po) (w : World) (hk : isK o.kind = true) (hK : KT w) :
 Calls Tryz.prog 99 #[opv o, .func (.func 100) #[] #[], .func (.func 101) #[] #[]] w (GivesV (opv (kept o)) w) := by
 refine (thrId_any (σ := Unit) (fun _ V => Below w.heap.size w V) (fun s n => (n, s)) (fun s n => (n, s)) (fun _ => 0) (fun _ => True) (fun _ => True) (fun _ _ => Nat.zero_le _) (fun _ _ => Nat.zero_le _) (fun s n V _ _ hV => (id1 n V).mono ?_) (fun s n V _ _ hV => (id2 n V).mono ?_) w (fun s V V' h1 h2 => ?_) () rfl (Below.refl _ _) hK o hk trivial trivial trivial trivial trivial).mono ?_
 · rintro e V' ⟨rfl, rfl⟩
   exact ⟨rfl, hV, Nat.le_refl _, fun k cs h => rfl⟩
 · rintro e V' ⟨rfl, rfl⟩
   exact ⟨rfl, hV, Nat.le_refl _, fun k cs h => rfl⟩
 · exact h1.trans h2.1
 · rintro e w' ⟨rfl, hb⟩
   refine ⟨?_, hb⟩
   have : (thrM (σ := Unit) (fun s n => (n, s)) (fun s n => (n, s)) o ()).1 = kept o := by
    unfold thrM kept
    simp only []
    congr 1 <;> split <;> rfl
   rw [this]
theorem kept_may {o : Po} (hk : isK o.kind = true) (h1 : o.name.size <= 255) (h2 : o.text.size <= 255) : mayO o = ((o.kind == (kept o).kind) && ((o.id == (kept o).id) && ((o.dst == (kept o).dst) && ((o.pos == (kept o).pos) && ((o.name.toList == (kept o).name.toList) && (o.text.toList == (kept o).text.toList)))))) := by
 have key : ∀ (b : Bool) (n : Int), (b || decide (n = 0)) = (n == if b = true then n else 0) := fun b n => by cases b <;> simp [Bool.beq_eq_decide_eq]
 have keyS : ∀ (b : Bool) (s : ByteArray), (b || decide (s.size = 0)) = (s.toList == (if b = true then s else ⟨#[]⟩).toList) := fun b s => by
  cases b with
  | true => simp
  | false =>
    by_cases h : s.size = 0
    · rw [decide_eq_true h, empty_of h]
      exact (show true = (([] : List UInt8) == (⟨#[]⟩ : ByteArray).toList) by decide +kernel)
    · have h' : s ≠ ⟨#[]⟩ := fun e => h (by rw [e]; rfl)
      rw [decide_eq_false h]
      simp only [Bool.false_or, Bool.false_eq_true, if_false]
      exact (str_other h').symm
 unfold mayO kept
 simp only []
 rw [hk, decide_eq_true h1, decide_eq_true h2, key, key, key, keyS, keyS]
 simp
set_option maxRecDepth 100000 in
set_option maxHeartbeats 2000000 in
theorem may_any (o : Po) (w : World) (hK : KT w) : Calls Tryz.prog 50 #[opv o] w (GivesV (.bool (mayO o)) w) := by
 have HI := Lib.hid (fun V => isKind_any o.kind V)
 have HK := Lib.hid hK
 by_cases h0 : isK o.kind = true
 · by_cases h1 : o.name.size <= 255
   · by_cases h2 : o.text.size <= 255
     · have HM := Lib.hid (kept_may h0 h1 h2)
       have HT := Lib.hid (fun V hV => thr_id o V h0 hV)
       rw [h0] at HI
       have h1' : ¬ (255 : Int) < (o.name.size : Int) := by omega
       have h2' : ¬ (255 : Int) < (o.text.size : Int) := by omega
       unfold opv at *
       generalize mayO o = R at *
       clear hK h1 h2 h0
       go_enter Tryz.func50, Tryz.ntmps50
       obtain ⟨W, hW⟩ : ∃ W, W = w.alloc (.cells #[.int .i64 o.kind, .int .i64 o.id, .int .i64 o.dst, .int .i64 o.pos, .string o.name, .string o.text] 40) := ⟨_, rfl⟩
       have HWb : Hid (Below w.heap.size w W) := Lib.hid (by rw [hW]; exact (Below.refl _ _).alloc (Nat.le_refl _) _)
       have HWk : Hid (W.heap[w.heap.size]? = some (.cells #[.int .i64 o.kind, .int .i64 o.id, .int .i64 o.dst, .int .i64 o.pos, .string o.name, .string o.text] 40 (0, 0))) := Lib.hid (by rw [hW]; exact heap_alloc_new _ _)
       have HCV : Hid (∀ V, Below W.heap.size W V -> V.cell? ⟨w.heap.size, 0, none⟩ = some (.int .i64 o.kind) /\ V.cell? ⟨w.heap.size, 1, none⟩ = some (.int .i64 o.id) /\ V.cell? ⟨w.heap.size, 2, none⟩ = some (.int .i64 o.dst) /\ V.cell? ⟨w.heap.size, 3, none⟩ = some (.int .i64 o.pos) /\ V.cell? ⟨w.heap.size, 4, none⟩ = some (.string o.name) /\ V.cell? ⟨w.heap.size, 5, none⟩ = some (.string o.text)) := Lib.hid (fun V hb => block6 ((hb.block _ (Array.getElem?_eq_some_iff.1 HWk.out).1).trans HWk.out))
       have HTV := Lib.hid (fun V (hb : Below W.heap.size W V) => HT.out V (HK.out.below (HWb.out.trans (hb.mono HWb.out.size))))
       obtain ⟨x0, x1, x2, x3, x4, x5⟩ := HCV.out W (Below.refl _ _)
       generalize kept o = q at *
       go_wp2_with (first | rw [<- hW] | (go_at_call 98; refine (HI.out _).mono ?_; rintro e w' ⟨rfl, hw⟩; obtain rfl := hw.symm))
       clear x0 x1 x2 x3 x4 x5 hW
       have hE := eq_op o.kind o.id o.dst o.pos q.kind q.id q.dst q.pos o.name o.text q.name q.text
       rw [<- HM.out] at hE
       go_region_held3 (fun V => V.cell? ⟨w.heap.size, 0, none⟩ = some (.int .i64 o.kind) /\ V.cell? ⟨w.heap.size, 1, none⟩ = some (.int .i64 o.id) /\ V.cell? ⟨w.heap.size, 2, none⟩ = some (.int .i64 o.dst) /\ V.cell? ⟨w.heap.size, 3, none⟩ = some (.int .i64 o.pos) /\ V.cell? ⟨w.heap.size, 4, none⟩ = some (.string o.name) /\ V.cell? ⟨w.heap.size, 5, none⟩ = some (.string o.text))
        (first | with_reducible exact HCV.out _ (Below.refl _ _) | with_reducible exact HCV.out _ (Below.refl _ _).drew | with_reducible exact HCV.out _ HB1.out)
        (first
          | (go_at_call 99; refine (HTV.out _ (Below.refl _ _).drew).mono ?_; rintro e w1 ⟨rfl, hb⟩; have HB1 := Lib.hid ((Below.refl W.heap.size W).drew.trans (hb.mono (by simp))); clear hb))
       go_wp2
       go_ret
       exact ⟨rfl, HWb.out.trans (HB1.out.mono HWb.out.size)⟩
     · have hf : mayO o = false := by rw [mayO, decide_eq_false h2]; simp
       rw [hf]
       rw [h0] at HI
       have h1' : ¬ (255 : Int) < (o.name.size : Int) := by omega
       have h2' : (255 : Int) < (o.text.size : Int) := by omega
       unfold opv
       clear hK h1 h2 h0 hf
       go_enter Tryz.func50, Tryz.ntmps50
       go_wp2_with (go_at_call 98; refine (HI.out _).mono ?_; rintro e w' ⟨rfl, rfl⟩)
       go_ret
       exact ⟨rfl, (Below.refl _ _).alloc (Nat.le_refl _) _⟩
   · have hf : mayO o = false := by rw [mayO, decide_eq_false h1]; simp
     rw [hf]
     rw [h0] at HI
     have h1' : (255 : Int) < (o.name.size : Int) := by omega
     unfold opv
     clear hK h1 h0 hf
     go_enter Tryz.func50, Tryz.ntmps50
     go_wp2_with (go_at_call 98; refine (HI.out _).mono ?_; rintro e w' ⟨rfl, rfl⟩)
     go_ret
     exact ⟨rfl, (Below.refl _ _).alloc (Nat.le_refl _) _⟩
 · have h0' : isK o.kind = false := by simpa using h0
   have hf : mayO o = false := by rw [mayO, h0']; rfl
   rw [hf]
   rw [h0'] at HI
   unfold opv
   clear hK h0 h0' hf
   go_enter Tryz.func50, Tryz.ntmps50
   go_wp2_with (go_at_call 98; refine (HI.out _).mono ?_; rintro e w' ⟨rfl, rfl⟩)
   go_ret
   exact ⟨rfl, (Below.refl _ _).alloc (Nat.le_refl _) _⟩
end Go.Proofs.YtcndplnnighjkaaGreatDoor.Ops
