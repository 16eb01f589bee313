/-
  Get.
-/
import Derived.Test.YtbldjlkofaiikaaVecQ
namespace Go.Proofs.Ytbldjlkofaiikaa
open Go.ChangeShapes Go.WideShapes Go.ChangeAt Go.RowKit
set_option linter.unusedVariables false
set_option linter.unusedSimpArgs false

/-- One item, from the handle x on down through L levels. -/
def Pl.get (p : Pl) (i : Nat) : Nat → Int → Option Int
  | 0, x => some x
  | L + 1, x => if p.st.lv x then p.get i L (it (p.at x) (i / 4 ^ L % 4)) else none
theorem digit4 (i k : Nat) (w : World) (h1 : i ≤ 255) (hk : k ≤ 3) :
    Calls Try.prog 60 #[.int .u32 i, .int .i64 k] w fun e w' => e = .returned (.int .i64 ((i / 4 ^ k % 4 : Nat) : Int)) ∧ w = w' := by
  have hp : (2 : Int) ^ (2 * k) = ((4 ^ k : Nat) : Int) := by
    rw [show (4 : Nat) ^ k = 2 ^ (2 * k) by rw [Nat.pow_mul]]
    simp
  have hx1 : ((i : Int) / ((4 ^ k : Nat) : Int)) = ((i / 4 ^ k : Nat) : Int) := by simp
  have hle : i / 4 ^ k ≤ i := Nat.div_le_self _ _
  have hm : bits .and .u32 ((i : Int) / (2 : Int) ^ (2 * k)) 3 = ((i / 4 ^ k % 4 : Nat) : Int) := by
    rw [hp, hx1]
    generalize i / 4 ^ k = y at *
    have h := bits_mask .u32 32 (by decide) wraps_u32 2 (by decide) (y : Int) (by omega) (by omega)
    rw [show ((y % 4 : Nat) : Int) = (y : Int) % 4 by omega]
    simpa using h
  have hd : i / 4 ^ k % 4 ≤ 3 := by omega
  have Hm := Lib.hid hm
  clear hm hp hx1 hle
  generalize i / 4 ^ k % 4 = d at *
  have h0 : (0 : Int) ≤ (k : Int) := by omega
  go_enter Try.func60, Try.ntmps60
  go_wp2
  go_ret
  exact ⟨ret_int (by rw [Hm.out, IntWalk.wrap64_in _ (by omega)]), rfl⟩

theorem under_K : Try.prog.underlying 83 = some (.struct (Try.prog.fieldsOf 83)) := by kernel_rfl
theorem field_K : ((Try.prog.fieldsOf 83)[1]?).map (fun f => (f.type, f.offset)) = some (81, 1) := by kernel_rfl
theorem info_4 : (Try.prog.info? 81).map (fun i => (i.zero, i.size, i.bytes)) = some (some (.agg #[.int .u64 0, .int .u64 0, .int .u64 0, .int .u64 0]), 4, 32) := by kernel_rfl
theorem sizeOf_4 (W : World) : (sizeOf 81).run Try.prog W = .ok 4 W := by
  obtain ⟨i, hi, -⟩ := info_parts info_4
  rw [run_sizeOf W hi]
  exact congrArg (fun n => Result.ok n W) (show Try.prog.cellsOf 81 = 4 by kernel_rfl)
theorem run_field4 (n a b c d : Value) (W : World) : (Instr.field 83 (.agg #[n, a, b, c, d]) 1).run Try.prog W = .ok (.agg #[a, b, c, d]) W := by
  obtain ⟨f, hf, he⟩ := Option.map_eq_some_iff.1 field_K
  have h1 : f.type = 81 := congrArg Prod.fst he
  have h2 : f.offset = 1 := congrArg Prod.snd he
  have h86 : Try.prog.underlying 81 = some (.array 4 41) := by kernel_rfl
  simp [Instr.field, run_underlying under_K, hf, h1, h2, part, isAgg, run_underlying h86, sizeOf_4, asAgg]
theorem run_index4 (a b c d v : Value) (k : Nat) (hv : #[a, b, c, d][k]? = some v) (hk : k < 4) (W : World) : (Instr.index 81 (.agg #[a, b, c, d]) (.int .i64 (k : Int))).run Try.prog W = .ok v W := by
  have h86 : Try.prog.underlying 81 = some (.array 4 41) := by kernel_rfl
  have h := part_G #[a, b, c, d] (k * 1) v (by rw [Nat.mul_one]; exact hv) W
  have h0 : (0 : Int) ≤ (k : Int) ∧ (k : Int) < ((4 : Nat) : Int) := by omega
  simp only [Instr.index, asIntOf, Sem.run_bind, Sem.run_pure, Result.andThen_ok, run_underlying h86, if_pos h0, sizeOf_G, Int.toNat_natCast, h]
/-- What Get tells. -/
def GivesG (o : Option Int) (w : World) (en : Ending) (w' : World) : Prop :=
  ((o = none ∧ en = .returned (.tuple #[.int .u64 0, .int .i64 30])) ∨ (∃ x, o = some x ∧ en = .returned (.tuple #[.int .u64 x, .int .i64 0]))) ∧ Below w.heap.size w w'
set_option maxRecDepth 100000 in
set_option maxHeartbeats 2000000 in
theorem get_out (root : Int) (size : Nat) (i : Int) (vg vu vf vc : Value) (w : World) (hi : i < 0 ∨ (size : Int) ≤ i) :
    Calls Try.prog 25 #[.agg #[vg, vu, vf, vc], .agg #[.int .u64 root, .int .i64 size], .int .i64 i] w fun e w' => e = .returned (.tuple #[.int .u64 0, .int .i64 73]) ∧ Below w.heap.size w w' := by
  by_cases h : i < 0
  · go_enter Try.func25, Try.ntmps25
    go_wp2
    go_ret2
    exact ⟨rfl, ((Below.refl _ w).alloc (Nat.le_refl _) _).alloc (by simp) _⟩
  · have h2 : (size : Int) ≤ i := by omega
    go_enter Try.func25, Try.ntmps25
    go_wp2
    go_ret2
    exact ⟨rfl, ((Below.refl _ w).alloc (Nat.le_refl _) _).alloc (by simp) _⟩
set_option maxRecDepth 100000 in
set_option maxHeartbeats 4000000 in
theorem get_pl (root : Int) (size i : Nat) (vg vu vf vc : Value) (p : Pl) (b n : Nat) (G : Int) (w : World) (hA : PA w b vg vu vf vc p) (hP : PK n G p) (h0 : 0 ≤ root) (h1 : root ≤ 18446744073709551615) (hs : size ≤ 256) (hi : i < size) :
    Calls Try.prog 25 #[.agg #[vg, vu, vf, vc], .agg #[.int .u64 root, .int .i64 size], .int .i64 i] w (GivesG (p.get i (lvs size) root) w) := by
  have hsm := hP.ok.small
  have HA := Lib.hid hA
  have HP := Lib.hid hP
  clear hA hP
  have HL := Lib.hid (fun w => levels_any size w hs)
  have hL4 := lvs_le size
  generalize lvs size = L at *
  obtain ⟨W, hW⟩ : ∃ W, W = (w.alloc (.cells #[vg, vu, vf, vc] 31)).alloc (.cells #[.int .u64 root, .int .i64 size] 43) := ⟨_, rfl⟩
  have HW : Hid (Below w.heap.size w W ∧ W.heap.size = w.heap.size + 2 ∧ W.heap[w.heap.size]? = some (.cells #[vg, vu, vf, vc] 31 (0, 0)) ∧ W.heap[w.heap.size + 1]? = some (.cells #[.int .u64 root, .int .i64 size] 43 (0, 0))) := Lib.hid (by
    subst hW
    refine ⟨((Below.refl _ w).alloc (Nat.le_refl _) _).alloc (by simp) _, by simp, ?_, heap_new1 _ _ _⟩
    rw [heap_alloc_old _ _ (by simp)]; exact heap_alloc_new w _)
  have HWE := Lib.hid hW
  clear hW
  have i0 : (0 : Int) ≤ (i : Int) := by omega
  have i1 : ¬ ((i : Int) < 0) := by omega
  have i2 : (i : Int) < (size : Int) := by omega
  have i3 : ¬ ((size : Int) ≤ (i : Int)) := by omega
  have i4 : (i : Int) % 4294967296 = (i : Int) := by omega
  go_enter Try.func25, Try.ntmps25
  go_upto_region 1 with fail
  rw [← HWE.out]
  clear HWE
  obtain ⟨u0, u1⟩ := block2 HW.out.2.2.2
  go_wp2_with (go_at_call 57; refine (HL.out _).mono ?_; rintro e w' ⟨rfl, rfl⟩)
  go_loopw [8, 9] (fun x l wr => ∃ (r : Nat) (h : Int), l = .int .i64 ((r : Int) - 1) ∧ x = .int .u64 h ∧ r ≤ L ∧ 0 ≤ h ∧ h ≤ 18446744073709551615 ∧ Hid (p.get i L root = p.get i r h) ∧ Hid (Below (w.heap.size + 2) W wr)) (fun _ l _ => (intOf l + 1).toNat)
  case atStart => exact ⟨L, root, rfl, rfl, Nat.le_refl _, h0, h1, Lib.hid rfl, Lib.hid (Below.refl _ _)⟩
  case round =>
    obtain ⟨r, h, rfl, rfl, hr, g0, g1, HE, HB⟩ := hrel
    have HKr : Hid (wr.heap[w.heap.size]? = some (.cells #[vg, vu, vf, vc] 31 (0, 0))) := Lib.hid ((HB.out.block _ (by omega)).trans HW.out.2.2.1)
    have HBw : Hid (Below w.heap.size w wr) := Lib.hid (HW.out.1.trans (HB.out.mono (by omega)))
    have HAr := Lib.hid (HA.out.below HBw.out)
    have hsz : w.heap.size + 2 ≤ wr.heap.size := by have := HB.out.size; have := HW.out.2.1; omega
    obtain ⟨x0, x1, x2, x3, -⟩ := block4 HKr.out
    cases r with
    | zero =>
      go_wp2
      go_ret2
      exact ⟨.inr ⟨h, by rw [HE.out]; rfl, rfl⟩, HBw.out⟩
    | succ r =>
      have hr1 : ((r + 1 : Nat) : Int) - 1 = (r : Int) := by omega
      rw [hr1]
      have hr0 : (0 : Int) ≤ (r : Int) := by omega
      go_wp2_with fail
      refine (liveO HP.out.ok HAr.out.ar g0 g1).mono ?_
      rintro e w1 ⟨rfl, hb1⟩
      have HB1 : Hid (Below (w.heap.size + 2) W w1) := Lib.hid (HB.out.trans (hb1.mono hsz))
      have hs1 := hb1.size
      clear hb1
      rcases Bool.eq_false_or_eq_true (p.st.lv h) with hv | hv
      · rw [hv]
        have HV := Lib.hid hv
        clear hv
        have HB1w : Hid (Below w.heap.size w w1) := Lib.hid (HW.out.1.trans (HB1.out.mono (by omega)))
        have HK1 : Hid (w1.heap[w.heap.size]? = some (.cells #[vg, vu, vf, vc] 31 (0, 0))) := Lib.hid ((HB1.out.block _ (by omega)).trans HW.out.2.2.1)
        clear x0 x1 x2 x3
        obtain ⟨x0, x1, x2, x3, -⟩ := block4 HK1.out
        have HIX : Hid (ix h < p.ch.length) := Lib.hid (by
          obtain ⟨j, hj, hjn, -⟩ := HP.out.ok.live HV.out
          rw [HP.out.len]; unfold ix; omega)
        have hCH := chunk_any h vg vu vf vc p b w1 (HA.out.below HB1w.out) g0 g1 HIX.out (by rw [HP.out.len]; omega)
        have HU : Hid (∀ d, 0 ≤ it (p.at h) d ∧ it (p.at h) d ≤ 18446744073709551615) := Lib.hid (fun d => by
          have := (HP.out.at h).2
          unfold it
          rcases Nat.lt_or_ge d (p.at h).length with hd | hd
          · rw [getD_at 0 hd]; exact this _ (List.getElem_mem _)
          · rw [List.getD, List.getElem?_eq_none hd]; simp)
        have HGT : Hid (p.get i (r + 1) h = p.get i r (it (p.at h) (i / 4 ^ r % 4))) := Lib.hid (by rw [Pl.get, if_pos HV.out])
        have hd4 : i / 4 ^ r % 4 = 0 ∨ i / 4 ^ r % 4 = 1 ∨ i / 4 ^ r % 4 = 2 ∨ i / 4 ^ r % 4 = 3 := by omega
        have HDG := Lib.hid (fun w => digit4 i r w (by omega) (by omega))
        generalize i / 4 ^ r % 4 = d at *
        unfold cval at hCH
        generalize p.at h = c at *
        have HCH := Lib.hid hCH
        clear hCH
        go_wp2_with fail
        refine HCH.out.mono ?_
        rintro e w2 ⟨rfl, hb2⟩
        have hFL := run_field4 (.int .i64 c.length) (.int .u64 (it c 0)) (.int .u64 (it c 1)) (.int .u64 (it c 2)) (.int .u64 (it c 3))
        have HB2 : Hid (Below (w.heap.size + 2) W w2) := Lib.hid (HB1.out.trans (hb2.mono (by omega)))
        clear hb2
        go_wp2_with fail
        refine (HDG.out _).mono ?_
        rintro e w3 ⟨rfl, rfl⟩
        have HD4 := Lib.hid hd4
        clear hd4
        have hX0 := run_index4 (.int .u64 (it c 0)) (.int .u64 (it c 1)) (.int .u64 (it c 2)) (.int .u64 (it c 3)) _ 0 rfl (by decide)
        have hX1 := run_index4 (.int .u64 (it c 0)) (.int .u64 (it c 1)) (.int .u64 (it c 2)) (.int .u64 (it c 3)) _ 1 rfl (by decide)
        have hX2 := run_index4 (.int .u64 (it c 0)) (.int .u64 (it c 1)) (.int .u64 (it c 2)) (.int .u64 (it c 3)) _ 2 rfl (by decide)
        have hX3 := run_index4 (.int .u64 (it c 0)) (.int .u64 (it c 1)) (.int .u64 (it c 2)) (.int .u64 (it c 3)) _ 3 rfl (by decide)
        simp only [Int.natCast_zero, Int.natCast_one, show ((2 : Nat) : Int) = 2 from rfl, show ((3 : Nat) : Int) = 3 from rfl] at hX0 hX1 hX2 hX3
        rcases HD4.out with rfl | rfl | rfl | rfl
        all_goals
          go_wp2
          go_roundw
          case rel => exact ⟨r, _, rfl, rfl, by omega, (HU.out _).1, (HU.out _).2, Lib.hid (by rw [HE.out, HGT.out]), HB2⟩
          case measure => simp [intOf] <;> omega
      · rw [hv]
        have HV := Lib.hid hv
        clear hv
        go_wp2
        go_ret2
        refine ⟨.inl ⟨?_, rfl⟩, HW.out.1.trans (HB1.out.mono (by omega))⟩
        rw [HE.out, Pl.get, if_neg (by rw [HV.out]; decide)]
end Go.Proofs.Ytbldjlkofaiikaa
