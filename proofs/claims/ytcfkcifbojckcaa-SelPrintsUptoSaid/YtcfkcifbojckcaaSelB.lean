/-
  The reader's small calls: look, need, take, blanks.
-/
import Derived.Test.YtcfkcifbojckcaaSelA
import Derived.WalkLawsBesides
import Derived.WalkSmall
import Derived.OwnWalk
import Derived.Deep.CutRange
import Derived.Deep.RegionHeld3
import Derived.RegionTactic
import Derived.BigRegion
namespace Go.Proofs.Ytcfkcifbojckcaa
open Go.ChangeShapes Go.WideShapes Go.ChangeAt Go.RowKit
open Go.PlainAid (bt)
set_option linter.unusedVariables false
set_option linter.unusedSimpArgs false

/-- A reader lies at a block. -/
def Rr (w : World) (b : Nat) (s : ByteArray) (i : Nat) : Prop := w.heap[b]? = some (.cells #[.string s, .int .i64 i] 57 (0, 0))
theorem Rr.cells {w : World} {b : Nat} {s : ByteArray} {i : Nat} (h : Rr w b s i) : w.cell? ⟨b, 0, none⟩ = some (.string s) ∧ w.cell? ⟨b, 1, none⟩ = some (.int .i64 i) ∧ w.frozen? ⟨b, 0, none⟩ = false ∧ w.frozen? ⟨b, 1, none⟩ = false := by
  unfold Rr at h
  refine ⟨?_, ?_, ?_, ?_⟩ <;> simp [World.cell?, World.frozen?, h]
theorem Rr.lt {w : World} {b : Nat} {s : ByteArray} {i : Nat} (h : Rr w b s i) : b < w.heap.size := (Array.getElem?_eq_some_iff.1 h).1
theorem Rr.below {w w' : World} {b : Nat} {s : ByteArray} {i : Nat} (h : Rr w b s i) (hb : Below w.heap.size w w') : Rr w' b s i := (hb.block b h.lt).trans h
theorem Rr.set {w : World} {b : Nat} {s : ByteArray} {i : Nat} (h : Rr w b s i) (j : Nat) : Rr (w.setCell ⟨b, 1, none⟩ (.int .i64 j)) b s j := by
  unfold Rr at h ⊢
  simp [World.setCell, Array.getElem?_modify, h]
/-- All but one block stay. -/
def Gr (b : Nat) (w w' : World) : Prop := w.grownBy w' (some b)
theorem Gr.refl (b : Nat) (w : World) : Gr b w w := World.grownBy.refl _ _
theorem Gr.trans {b : Nat} {u v w : World} (h : Gr b u v) (k : Gr b v w) : Gr b u w :=
  ⟨k.os.trans h.os, k.tape.trans h.tape, k.output.trans h.output, Nat.le_trans h.size k.size, fun q hq hn => (k.block q (Nat.lt_of_lt_of_le hq h.size) hn).trans (h.block q hq hn)⟩
theorem Gr.of {b : Nat} {w w' : World} (h : Below w.heap.size w w') : Gr b w w' := ⟨h.os, h.tape, h.output, h.size, fun q hq _ => h.block q hq⟩
theorem Gr.below {b n : Nat} {w w' : World} (h : Gr b w w') (hn : n ≤ b) (hw : n ≤ w.heap.size) : Below n w w' := ⟨h.os, h.tape, h.output, h.size, fun q hq => h.block q (by omega) (by simp; omega)⟩
theorem Gr.set (b : Nat) (k : Nat) (w : World) (v : Value) : Gr b w (w.setCell ⟨b, k, none⟩ v) := by
  refine ⟨rfl, rfl, rfl, by simp [World.setCell], fun q hq hn => ?_⟩
  exact Below.heap_setCell _ _ _ _ (fun e => hn (by rw [e]))
/-- What is next. -/
def lk (s : ByteArray) (i : Nat) : Int := if i < s.size then bt s i else -1
theorem lk_in {s : ByteArray} {i : Nat} (h : i < s.size) : lk s i = bt s i := by unfold lk; rw [if_pos h]
theorem lk_end {s : ByteArray} {i : Nat} (h : ¬ i < s.size) : lk s i = -1 := by unfold lk; rw [if_neg h]
theorem lk_lt {s : ByteArray} {i : Nat} (h : lk s i ≠ -1) : i < s.size := by
  by_cases hi : i < s.size
  · exact hi
  · exact absurd (lk_end hi) h
theorem sel_look (b : Nat) (s : ByteArray) (i : Nat) (w : World) (h : Rr w b s i) (hi : i ≤ s.size) (hs : s.size ≤ 4000000) : Calls Try.prog 30 #[.pointer (some ⟨b, 0, none⟩)] w fun e w' => e = .returned (.int .i64 (lk s i)) ∧ Below w.heap.size w w' := by
  obtain ⟨c0, c1, f0, f1⟩ := h.cells
  have hbt := PlainAid.get_bt s
  have hb0 := PlainAid.bt_nonneg s i
  have hb1 := PlainAid.bt_le s i
  by_cases hlt : i < s.size
  · have HE : Hid (lk s i = bt s i) := Lib.hid (lk_in hlt)
    have q1 : ((i : Int) == (s.size : Int)) = false := by simp; omega
    generalize lk s i = R at *
    clear h
    go_enter Try.func30, Try.ntmps30
    go_upto_region 1 with fail
    go_region
    all_goals
      go_upto_region 3 with fail
      go_region
    all_goals
      go_wp2
      go_ret
      exact ⟨ret_i64 (by rw [HE.out]; try omega), (Below.refl _ _).drew.drew⟩
  · have HE : Hid (lk s i = -1) := Lib.hid (lk_end hlt)
    have q1 : ((i : Int) == (s.size : Int)) = true := by simp; omega
    generalize lk s i = R at *
    clear h
    go_enter Try.func30, Try.ntmps30
    go_upto_region 1 with fail
    go_region
    all_goals
      go_wp2
      go_ret
      exact ⟨ret_i64 (by rw [HE.out]), (Below.refl _ _).drew⟩
/-- What can not stand at a place. -/
def Mis (e : Ending) (k : Nat) : Prop := e = .panicked [{ v := .iface 55 (.int .i64 k), recovered := false }]
theorem sel_need (b : Nat) (s : ByteArray) (i : Nat) (t : Bool) (w : World) (h : Rr w b s i) (hi : i ≤ s.size) (hs : s.size ≤ 4000000) : Calls Try.prog 39 #[.pointer (some ⟨b, 0, none⟩), .bool t] w fun e w' => (if t = true then e = .returned (.tuple #[]) else Mis e i) ∧ Below w.heap.size w w' := by
  obtain ⟨c0, c1, f0, f1⟩ := h.cells
  clear h
  cases t with
  | true =>
    go_enter Try.func39, Try.ntmps39
    go_wp2
    go_end0
    exact ⟨rfl, Below.refl _ _⟩
  | false =>
    go_enter Try.func39, Try.ntmps39
    go_wp2
    exact ⟨rfl, rfl, Below.refl _ _⟩
theorem sel_take (b : Nat) (s : ByteArray) (i : Nat) (c : Int) (w : World) (h : Rr w b s i) (hi : i ≤ s.size) (hs : s.size ≤ 4000000) (hc : c ≠ -1) : Calls Try.prog 31 #[.pointer (some ⟨b, 0, none⟩), .int .i64 c] w fun e w' => (if lk s i = c then e = .returned (.tuple #[]) ∧ Rr w' b s (i + 1) else Mis e i) ∧ Gr b w w' := by
  have HL := Lib.hid (sel_look b s i w h hi hs)
  have HN := Lib.hid (fun (t : Bool) (V : World) (hV : Below w.heap.size w V) => sel_need b s i t V (h.below hV) hi hs)
  have HR := Lib.hid (fun (V : World) (hV : Below w.heap.size w V) => h.below hV)
  have hlt : lk s i = c → i < s.size := fun e => lk_lt (by rw [e]; exact hc)
  clear h
  generalize lk s i = k at *
  by_cases hk : k = c
  · have hlt := hlt hk
    have q1 : (k == c) = true := by simpa using hk
    simp only [if_pos hk]
    clear hk
    go_enter Try.func31, Try.ntmps31
    go_wp2_with fail
    refine HL.out.mono ?_
    rintro e w1 ⟨rfl, hb⟩
    have HB1 := Lib.hid hb
    clear hb
    go_wp2_with fail
    refine (HN.out true w1 HB1.out).mono ?_
    rintro e w2 ⟨he, hb⟩
    rw [if_pos rfl] at he
    subst he
    have HB2 := Lib.hid (HB1.out.trans (hb.mono HB1.out.size))
    clear hb
    have HR2 := Lib.hid (HR.out w2 HB2.out)
    obtain ⟨c0, c1, f0, f1⟩ := HR2.out.cells
    go_wp2
    go_end0
    exact ⟨⟨rfl, HR2.out.set (i + 1)⟩, (Gr.of HB2.out).trans (Gr.set b 1 w2 _)⟩
  · have q1 : (k == c) = false := by simpa using hk
    simp only [if_neg hk]
    clear hk hlt
    go_enter Try.func31, Try.ntmps31
    go_wp2_with fail
    refine HL.out.mono ?_
    rintro e w1 ⟨rfl, hb⟩
    have HB1 := Lib.hid hb
    clear hb
    go_wp2_with fail
    refine (HN.out false w1 HB1.out).mono ?_
    rintro e w2 ⟨he, hb⟩
    rw [if_neg (by simp)] at he
    unfold Mis at he
    subst he
    have HB2 := Lib.hid (HB1.out.trans (hb.mono HB1.out.size))
    clear hb
    go_wp2
    exact ⟨rfl, rfl, Gr.of HB2.out⟩
/-- Behind all blanks from a place on. -/
def sp (s : ByteArray) (i : Nat) : Nat := i + ((s.data.toList.drop i).takeWhile Sl.isB).length
theorem bt_list (s : ByteArray) (i : Nat) (h : i < s.size) : ∃ c, s.data.toList[i]? = some c ∧ bt s i = (c.toNat : Int) ∧ s.data.toList.drop i = c :: s.data.toList.drop (i + 1) := by
  have hl : i < s.data.toList.length := by simpa using h
  refine ⟨s.data.toList[i], List.getElem?_eq_getElem hl, ?_, (List.drop_eq_getElem_cons hl)⟩
  unfold bt
  rw [dif_pos h]
  simp [ByteArray.getElem_eq_getElem_data]
theorem isB_bB (c : UInt8) : Sl.isB c = bB (c.toNat : Int) := by
  rw [Bool.eq_iff_iff]
  simp only [Sl.isB, bB, Bool.or_eq_true, beq_iff_eq, decide_eq_true_eq, ← UInt8.toNat_inj]
  simp
  omega
theorem sp_no {s : ByteArray} {i : Nat} (h : bB (lk s i) = false) : sp s i = i := by
  unfold sp
  by_cases hi : i < s.size
  · obtain ⟨c, h1, h2, h3⟩ := bt_list s i hi
    rw [lk_in hi, h2, ← isB_bB] at h
    rw [h3, List.takeWhile_cons, h]
    simp
  · have : s.data.toList.drop i = [] := List.drop_eq_nil_of_le (by simp; omega)
    rw [this]
    simp
theorem sp_yes {s : ByteArray} {i : Nat} (h : bB (lk s i) = true) : i < s.size ∧ sp s i = sp s (i + 1) := by
  have hi : i < s.size := lk_lt (fun e => by rw [e] at h; revert h; decide)
  refine ⟨hi, ?_⟩
  obtain ⟨c, h1, h2, h3⟩ := bt_list s i hi
  rw [lk_in hi, h2, ← isB_bB] at h
  unfold sp
  rw [h3, List.takeWhile_cons, h]
  simp
  omega
theorem sp_le (s : ByteArray) (i : Nat) (h : i ≤ s.size) : i ≤ sp s i ∧ sp s i ≤ s.size := by
  unfold sp
  have h1 := List.takeWhile_prefix Sl.isB (l := s.data.toList.drop i)
  have h2 := h1.length_le
  rw [List.length_drop] at h2
  have h3 : s.data.toList.length = s.size := by simp
  omega
def atOf (b : Nat) (w : World) : Nat := match w.cell? ⟨b, 1, none⟩ with | some v => (intOf v).toNat | none => 0
theorem Rr.atOf {w : World} {b : Nat} {s : ByteArray} {i : Nat} (h : Rr w b s i) : atOf b w = i := by
  unfold Go.Proofs.Ytcfkcifbojckcaa.atOf
  rw [h.cells.2.1]
  simp [intOf]
theorem sel_blanks (b : Nat) (s : ByteArray) (i : Nat) (w : World) (h : Rr w b s i) (hi : i ≤ s.size) (hs : s.size ≤ 4000000) : Calls Try.prog 37 #[.pointer (some ⟨b, 0, none⟩)] w fun e w' => e = .returned (.bool (decide (i < sp s i))) ∧ Rr w' b s (sp s i) ∧ Gr b w w' := by
  have HL := Lib.hid (fun (V : World) (k : Nat) (hV : Rr V b s k) (hk : k ≤ s.size) => sel_look b s k V hV hk hs)
  have HB := Lib.hid (fun (c : Int) (V : World) => sel_isBlank c V)
  obtain ⟨c0, c1, f0, f1⟩ := h.cells
  have HR := Lib.hid h
  have HSZ := Lib.hid (sp_le s i hi)
  obtain ⟨q, hq⟩ : ∃ q, sp s i = q := ⟨_, rfl⟩
  have HQ := Lib.hid hq
  rw [hq] at HSZ ⊢
  clear h hq
  go_enter Try.func37, Try.ntmps37
  go_wp2
  go_loopw [] (fun wr => ∃ (V : World) (k : Nat), V = wr ∧ k ≤ s.size ∧ i ≤ k ∧ Hid (sp s k = q) ∧ Hid (Rr V b s k) ∧ Hid (Gr b w V)) (fun wr => s.size - atOf b wr)
  case atStart => exact ⟨_, i, rfl, hi, Nat.le_refl _, HQ, HR, Lib.hid (Gr.refl _ _)⟩
  case round =>
    obtain ⟨V, k, rfl, hk, hik, HK, HV, HG⟩ := hrel
    have HL1 := Lib.hid (HL.out V k HV.out hk)
    rcases Bool.eq_false_or_eq_true (bB (lk s k)) with hb | hb
    · obtain ⟨y1, y2⟩ := sp_yes hb
      have HK2 : Hid (sp s (k + 1) = q) := Lib.hid (by rw [← y2]; exact HK.out)
      have HB1 := Lib.hid (fun (W : World) => HB.out (lk s k) W)
      rw [hb] at HB1
      have HM := Lib.hid HV.out.atOf
      generalize lk s k = c at *
      clear hb y2
      go_wp2_with fail
      refine HL1.out.mono ?_
      rintro e w1 ⟨rfl, hb⟩
      have HV1 := Lib.hid (HV.out.below hb)
      have HG1 := Lib.hid (HG.out.trans (Gr.of hb))
      clear hb
      obtain ⟨x0, x1, x2, x3⟩ := HV1.out.cells
      go_wp2_with fail
      refine (HB1.out w1).mono ?_
      rintro e w2 ⟨rfl, rfl⟩
      go_wp2
      go_roundw
      case rel => exact ⟨_, k + 1, rfl, by omega, by omega, HK2, Lib.hid (by have := HV1.out.set (k + 1); simpa using this), Lib.hid (HG1.out.trans (Gr.set b 1 w1 _))⟩
      case measure =>
        rw [HM.out, show atOf b (w1.setCell ⟨b, 1, none⟩ (.int .i64 ((k : Int) + 1))) = k + 1 from (HV1.out.set (k + 1)).atOf]
        omega
    · have hs0 := sp_no hb
      have hqk : q = k := by rw [← HK.out, hs0]
      have HB1 := Lib.hid (fun (W : World) => HB.out (lk s k) W)
      rw [hb] at HB1
      generalize lk s k = c at *
      clear hb hs0
      subst hqk
      go_wp2_with fail
      refine HL1.out.mono ?_
      rintro e w1 ⟨rfl, hb⟩
      have HV1 := Lib.hid (HV.out.below hb)
      have HG1 := Lib.hid (HG.out.trans (Gr.of hb))
      clear hb
      obtain ⟨x0, x1, x2, x3⟩ := HV1.out.cells
      go_wp2_with fail
      refine (HB1.out w1).mono ?_
      rintro e w2 ⟨rfl, rfl⟩
      go_wp2
      go_ret
      exact ⟨ret_bool (by first | rfl | (rw [decide_eq_decide]; omega)), HV1.out, HG1.out⟩
end Go.Proofs.Ytcfkcifbojckcaa
