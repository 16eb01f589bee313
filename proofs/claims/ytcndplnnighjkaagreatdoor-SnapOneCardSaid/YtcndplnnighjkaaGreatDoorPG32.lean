/-
  What the small calls of package sel come to: which numbers are blanks, letters, bytes of a name, of a string; what kind of test one begins.
-/
import Derived.Test.YtcndplnnighjkaaGreatDoorRows
import Derived.Test.YtcndplnnighjkaaGreatDoorPG31
import Derived.WalkKit
import Derived.ProofKit
import Derived.OpenShut
import Derived.IntWalk
import Derived.Lib.Hide
import Derived.WalkLawsBesides
import Derived.WalkSmall
import Derived.OwnWalk
import Derived.Deep.CutRange
import Derived.Deep.RegionHeld3
import Derived.RegionTactic
import Derived.BigRegion
import Derived.Laws.Strings2
namespace Go.Proofs.YtcndplnnighjkaaGreatDoor.Sx
open Go.ChangeShapes Go.WideShapes Go.ChangeAt Go.RowKit
set_option linter.unusedVariables false
set_option linter.unusedSimpArgs false
theorem ret_bool {a b : Bool} (h : a = b) : Ending.returned (.bool a) = .returned (.bool b) := by rw [h]
theorem ret_i64 {a b : Int} (h : a = b) : Ending.returned (.int .i64 a) = .returned (.int .i64 b) := by rw [h]
def bB (c : Int) : Bool := decide (c = 9 \/ c = 10 \/ c = 12 \/ c = 13 \/ c = 32)
def bL (c : Int) : Bool := decide ((65 <= c /\ c <= 90) \/ (97 <= c /\ c <= 122))
def bN (c : Int) : Bool := decide ((65 <= c /\ c <= 90) \/ (97 <= c /\ c <= 122) \/ (48 <= c /\ c <= 57) \/ c = 45 \/ c = 95)
def bS (c : Int) : Bool := decide (c ≠ 34 /\ c ≠ -1)
def kd (c : Int) : Int := if c = 35 then 2 else if c = 46 then 3 else if c = 91 then 4 else if bL c = true then 1 else 0
theorem sel_isBlank (c : Int) (w : World) : Calls Tryz.prog 155 #[.int .i64 c] w fun e w' => e = .returned (.bool (bB c)) /\ w = w' := by
 go_enter Tryz.func155, Tryz.ntmps155
 go_wp2
 all_goals
  go_ret
  exact ⟨ret_bool (by simp [bB]; simp_all), rfl⟩
theorem sel_isLetter (c : Int) (w : World) : Calls Tryz.prog 176 #[.int .i64 c] w fun e w' => e = .returned (.bool (bL c)) /\ w = w' := by
 go_enter Tryz.func176, Tryz.ntmps176
 go_wp2
 all_goals
  go_ret
  exact ⟨ret_bool (by rw [Bool.eq_iff_iff]; simp [bL] <;> omega), rfl⟩
theorem sel_isNameByte (c : Int) (w : World) : Calls Tryz.prog 179 #[.int .i64 c] w fun e w' => e = .returned (.bool (bN c)) /\ w = w' := by
 rcases Bool.eq_false_or_eq_true (bL c) with hc | hc
 all_goals
  have hd := hc
  simp [bL] at hd
  go_enter Tryz.func179, Tryz.ntmps179
  go_wp2_with (go_at_call 176; refine (sel_isLetter c _).mono ?_; rintro e w' ⟨rfl, rfl⟩)
  all_goals
   go_ret
   exact ⟨ret_bool (by rw [Bool.eq_iff_iff]; simp [bN] <;> omega), rfl⟩
theorem sel_isStringByte (c : Int) (w : World) : Calls Tryz.prog 193 #[.int .i64 c] w fun e w' => e = .returned (.bool (bS c)) /\ w = w' := by
 go_enter Tryz.func193, Tryz.ntmps193
 go_wp2
 all_goals
  go_ret
  exact ⟨ret_bool (by rw [Bool.eq_iff_iff]; simp [bS] <;> simp_all), rfl⟩
theorem sel_kindOf (c : Int) (w : World) : Calls Tryz.prog 165 #[.int .i64 c] w fun e w' => e = .returned (.int .i64 (kd c)) /\ w = w' := by
 rcases Bool.eq_false_or_eq_true (bL c) with hc | hc
 all_goals
  go_enter Tryz.func165, Tryz.ntmps165
  go_wp2_with (go_at_call 176; refine (sel_isLetter c _).mono ?_; rintro e w' ⟨rfl, rfl⟩)
  all_goals
   go_ret
   exact ⟨ret_i64 (by simp [kd]; simp_all), rfl⟩
def mkB (c : Int) : Bool := decide (c = 35 \/ c = 46 \/ c = 91)
theorem sel_isMark (c : Int) (w : World) : Calls Tryz.prog 157 #[.int .i64 c] w fun e w' => e = .returned (.bool (mkB c)) /\ w = w' := by
 have hk : mkB c = (kd c != 1 && kd c != 0) := by
  unfold mkB kd
  by_cases h1 : c = 35
  · simp [h1]
  by_cases h2 : c = 46
  · simp [h1, h2]
  by_cases h3 : c = 91
  · simp [h1, h2, h3]
  by_cases h4 : bL c = true <;> simp [h1, h2, h3, h4]
 rw [hk]
 generalize hkk : kd c = k
 go_enter Tryz.func157, Tryz.ntmps157
 go_wp2_with (go_at_call 165; refine (sel_kindOf c _).mono ?_; rintro e w' ⟨rfl, rfl⟩; rw [hkk])
 all_goals
  go_ret
  exact ⟨ret_bool (by simp_all), rfl⟩
end Go.Proofs.YtcndplnnighjkaaGreatDoor.Sx
namespace Go.Proofs.YtcndplnnighjkaaGreatDoor.Sx
open Go.ChangeShapes Go.WideShapes Go.ChangeAt Go.RowKit
open Go.PlainAid (bt)
set_option linter.unusedVariables false
set_option linter.unusedSimpArgs false
def Rr (w : World) (b : Nat) (s : ByteArray) (i : Nat) : Prop := w.heap[b]? = some (.cells #[.string s, .int .i64 i] 132 (0, 0))
theorem Rr.cells {w : World} {b : Nat} {s : ByteArray} {i : Nat} (h : Rr w b s i) : w.cell? ⟨b, 0, none⟩ = some (.string s) /\ w.cell? ⟨b, 1, none⟩ = some (.int .i64 i) /\ w.frozen? ⟨b, 0, none⟩ = false /\ w.frozen? ⟨b, 1, none⟩ = false := by
 unfold Rr at h
 refine ⟨?_, ?_, ?_, ?_⟩ <;> simp [World.cell?, World.frozen?, h]
theorem Rr.lt {w : World} {b : Nat} {s : ByteArray} {i : Nat} (h : Rr w b s i) : b < w.heap.size := (Array.getElem?_eq_some_iff.1 h).1
theorem Rr.below {w w' : World} {b : Nat} {s : ByteArray} {i : Nat} (h : Rr w b s i) (hb : Below w.heap.size w w') : Rr w' b s i := (hb.block b h.lt).trans h
theorem Rr.set {w : World} {b : Nat} {s : ByteArray} {i : Nat} (h : Rr w b s i) (j : Nat) : Rr (w.setCell ⟨b, 1, none⟩ (.int .i64 j)) b s j := by
 unfold Rr at h ⊢
 simp [World.setCell, Array.getElem?_modify, h]
def Gr (b : Nat) (w w' : World) : Prop := w.grownBy w' (some b)
theorem Gr.refl (b : Nat) (w : World) : Gr b w w := World.grownBy.refl _ _
theorem Gr.trans {b : Nat} {u v w : World} (h : Gr b u v) (k : Gr b v w) : Gr b u w :=
 ⟨k.os.trans h.os, k.tape.trans h.tape, k.output.trans h.output, Nat.le_trans h.size k.size, fun q hq hn => (k.block q (Nat.lt_of_lt_of_le hq h.size) hn).trans (h.block q hq hn)⟩
theorem Gr.of {b : Nat} {w w' : World} (h : Below w.heap.size w w') : Gr b w w' := ⟨h.os, h.tape, h.output, h.size, fun q hq _ => h.block q hq⟩
theorem Gr.below {b n : Nat} {w w' : World} (h : Gr b w w') (hn : n <= b) (hw : n <= w.heap.size) : Below n w w' := ⟨h.os, h.tape, h.output, h.size, fun q hq => h.block q (by omega) (by simp; omega)⟩
theorem Gr.set (b : Nat) (k : Nat) (w : World) (v : Value) : Gr b w (w.setCell ⟨b, k, none⟩ v) := by
 refine ⟨rfl, rfl, rfl, by simp [World.setCell], fun q hq hn => ?_⟩
 exact Below.heap_setCell _ _ _ _ (fun e => hn (by rw [e]))
def lk (s : ByteArray) (i : Nat) : Int := if i < s.size then bt s i else -1
theorem lk_in {s : ByteArray} {i : Nat} (h : i < s.size) : lk s i = bt s i := by unfold lk; rw [if_pos h]
theorem lk_end {s : ByteArray} {i : Nat} (h : ¬ i < s.size) : lk s i = -1 := by unfold lk; rw [if_neg h]
theorem lk_lt {s : ByteArray} {i : Nat} (h : lk s i ≠ -1) : i < s.size := by
 by_cases hi : i < s.size
 · exact hi
 · exact absurd (lk_end hi) h
theorem sel_look (b : Nat) (s : ByteArray) (i : Nat) (w : World) (h : Rr w b s i) (hi : i <= s.size) (hs : s.size <= 4000000) : Calls Tryz.prog 134 #[.pointer (some ⟨b, 0, none⟩)] w fun e w' => e = .returned (.int .i64 (lk s i)) /\ Below w.heap.size w w' := by
 obtain ⟨c0, c1, f0, f1⟩ := h.cells
 have hbt := PlainAid.get_bt s
 have hb0 := PlainAid.bt_nonneg s i
 have hb1 := PlainAid.bt_le s i
 by_cases hlt : i < s.size
 · have HE : Hid (lk s i = bt s i) := Lib.hid (lk_in hlt)
   have q1 : ((i : Int) == (s.size : Int)) = false := by simp; omega
   generalize lk s i = R at *
   clear h
   go_enter Tryz.func134, Tryz.ntmps134
   go_upto_region 1 with fail
   go_region
   all_goals
    go_upto_region 3 with fail
    go_region
   all_goals
    go_wp2
    go_ret
    exact ⟨ret_i64 (by rw [HE.out]; try omega), (Below.refl _ _).drew.drew⟩
 · have HE : Hid (lk s i = -1) := Lib.hid (lk_end hlt)
   have q1 : ((i : Int) == (s.size : Int)) = true := by simp; omega
   generalize lk s i = R at *
   clear h
   go_enter Tryz.func134, Tryz.ntmps134
   go_upto_region 1 with fail
   go_region
   all_goals
    go_wp2
    go_ret
    exact ⟨ret_i64 (by rw [HE.out]), (Below.refl _ _).drew⟩
def Mis (e : Ending) (k : Nat) : Prop := e = .panicked [{ v := .iface 130 (.int .i64 k), recovered := false }]
theorem sel_need (b : Nat) (s : ByteArray) (i : Nat) (t : Bool) (w : World) (h : Rr w b s i) (hi : i <= s.size) (hs : s.size <= 4000000) : Calls Tryz.prog 146 #[.pointer (some ⟨b, 0, none⟩), .bool t] w fun e w' => (if t = true then e = .returned (.tuple #[]) else Mis e i) /\ Below w.heap.size w w' := by
 obtain ⟨c0, c1, f0, f1⟩ := h.cells
 clear h
 cases t with
 | true =>
   go_enter Tryz.func146, Tryz.ntmps146
   go_wp2
   go_end0
   exact ⟨rfl, Below.refl _ _⟩
 | false =>
   go_enter Tryz.func146, Tryz.ntmps146
   go_wp2
   exact ⟨rfl, rfl, Below.refl _ _⟩
theorem sel_take (b : Nat) (s : ByteArray) (i : Nat) (c : Int) (w : World) (h : Rr w b s i) (hi : i <= s.size) (hs : s.size <= 4000000) (hc : c ≠ -1) : Calls Tryz.prog 135 #[.pointer (some ⟨b, 0, none⟩), .int .i64 c] w fun e w' => (if lk s i = c then e = .returned (.tuple #[]) /\ Rr w' b s (i + 1) else Mis e i) /\ Gr b w w' := by
 have HL := Lib.hid (sel_look b s i w h hi hs)
 have HN := Lib.hid (fun (t : Bool) (V : World) (hV : Below w.heap.size w V) => sel_need b s i t V (h.below hV) hi hs)
 have HR := Lib.hid (fun (V : World) (hV : Below w.heap.size w V) => h.below hV)
 have hlt : lk s i = c -> i < s.size := fun e => lk_lt (by rw [e]; exact hc)
 clear h
 generalize lk s i = k at *
 by_cases hk : k = c
 · have hlt := hlt hk
   have q1 : (k == c) = true := by simpa using hk
   simp only [if_pos hk]
   clear hk
   go_enter Tryz.func135, Tryz.ntmps135
   go_wp2_with fail
   refine HL.out.mono ?_
   rintro e w1 ⟨rfl, hb⟩
   have HB1 := Lib.hid hb
   clear hb
   go_wp2_with fail
   refine (HN.out true w1 HB1.out).mono ?_
   rintro e w2 ⟨he, hb⟩
   rw [if_pos rfl] at he
   subst he
   have HB2 := Lib.hid (HB1.out.trans (hb.mono HB1.out.size))
   clear hb
   have HR2 := Lib.hid (HR.out w2 HB2.out)
   obtain ⟨c0, c1, f0, f1⟩ := HR2.out.cells
   go_wp2
   go_end0
   exact ⟨⟨rfl, HR2.out.set (i + 1)⟩, (Gr.of HB2.out).trans (Gr.set b 1 w2 _)⟩
 · have q1 : (k == c) = false := by simpa using hk
   simp only [if_neg hk]
   clear hk hlt
   go_enter Tryz.func135, Tryz.ntmps135
   go_wp2_with fail
   refine HL.out.mono ?_
   rintro e w1 ⟨rfl, hb⟩
   have HB1 := Lib.hid hb
   clear hb
   go_wp2_with fail
   refine (HN.out false w1 HB1.out).mono ?_
   rintro e w2 ⟨he, hb⟩
   rw [if_neg (by simp)] at he
   unfold Mis at he
   subst he
   have HB2 := Lib.hid (HB1.out.trans (hb.mono HB1.out.size))
   clear hb
   go_wp2
   exact ⟨rfl, rfl, Gr.of HB2.out⟩
def sp (s : ByteArray) (i : Nat) : Nat := i + ((s.data.toList.drop i).takeWhile Sl.isB).length
theorem bt_list (s : ByteArray) (i : Nat) (h : i < s.size) : ∃ c, s.data.toList[i]? = some c /\ bt s i = (c.toNat : Int) /\ s.data.toList.drop i = c :: s.data.toList.drop (i + 1) := by
 have hl : i < s.data.toList.length := by simpa using h
 refine ⟨s.data.toList[i], List.getElem?_eq_getElem hl, ?_, (List.drop_eq_getElem_cons hl)⟩
 unfold bt
 rw [dif_pos h]
 simp [ByteArray.getElem_eq_getElem_data]
theorem isB_bB (c : UInt8) : Sl.isB c = bB (c.toNat : Int) := by
 rw [Bool.eq_iff_iff]
 simp only [Sl.isB, bB, Bool.or_eq_true, beq_iff_eq, decide_eq_true_eq, <- UInt8.toNat_inj]
 simp
 omega
theorem sp_no {s : ByteArray} {i : Nat} (h : bB (lk s i) = false) : sp s i = i := by
 unfold sp
 by_cases hi : i < s.size
 · obtain ⟨c, h1, h2, h3⟩ := bt_list s i hi
   rw [lk_in hi, h2, <- isB_bB] at h
   rw [h3, List.takeWhile_cons, h]
   simp
 · have : s.data.toList.drop i = [] := List.drop_eq_nil_of_le (by simp; omega)
   rw [this]
   simp
theorem sp_yes {s : ByteArray} {i : Nat} (h : bB (lk s i) = true) : i < s.size /\ sp s i = sp s (i + 1) := by
 have hi : i < s.size := lk_lt (fun e => by rw [e] at h; revert h; decide)
 refine ⟨hi, ?_⟩
 obtain ⟨c, h1, h2, h3⟩ := bt_list s i hi
 rw [lk_in hi, h2, <- isB_bB] at h
 unfold sp
 rw [h3, List.takeWhile_cons, h]
 simp
 omega
theorem sp_le (s : ByteArray) (i : Nat) (h : i <= s.size) : i <= sp s i /\ sp s i <= s.size := by
 unfold sp
 have h1 := List.takeWhile_prefix Sl.isB (l := s.data.toList.drop i)
 have h2 := h1.length_le
 rw [List.length_drop] at h2
 have h3 : s.data.toList.length = s.size := by simp
 omega
def atOf (b : Nat) (w : World) : Nat := match w.cell? ⟨b, 1, none⟩ with | some v => (intOf v).toNat | none => 0
theorem Rr.atOf {w : World} {b : Nat} {s : ByteArray} {i : Nat} (h : Rr w b s i) : atOf b w = i := by
 unfold Go.Proofs.YtcndplnnighjkaaGreatDoor.Sx.atOf
 rw [h.cells.2.1]
 simp [intOf]
theorem sel_blanks (b : Nat) (s : ByteArray) (i : Nat) (w : World) (h : Rr w b s i) (hi : i <= s.size) (hs : s.size <= 4000000) : Calls Tryz.prog 144 #[.pointer (some ⟨b, 0, none⟩)] w fun e w' => e = .returned (.bool (decide (i < sp s i))) /\ Rr w' b s (sp s i) /\ Gr b w w' := by
 have HL := Lib.hid (fun (V : World) (k : Nat) (hV : Rr V b s k) (hk : k <= s.size) => sel_look b s k V hV hk hs)
 have HB := Lib.hid (fun (c : Int) (V : World) => sel_isBlank c V)
 obtain ⟨c0, c1, f0, f1⟩ := h.cells
 have HR := Lib.hid h
 have HSZ := Lib.hid (sp_le s i hi)
 obtain ⟨q, hq⟩ : ∃ q, sp s i = q := ⟨_, rfl⟩
 have HQ := Lib.hid hq
 rw [hq] at HSZ ⊢
 clear h hq
 go_enter Tryz.func144, Tryz.ntmps144
 go_wp2
 go_loopw [] (fun wr => ∃ (V : World) (k : Nat), V = wr /\ k <= s.size /\ i <= k /\ Hid (sp s k = q) /\ Hid (Rr V b s k) /\ Hid (Gr b w V)) (fun wr => s.size - atOf b wr)
 case atStart => exact ⟨_, i, rfl, hi, Nat.le_refl _, HQ, HR, Lib.hid (Gr.refl _ _)⟩
 case round =>
  obtain ⟨V, k, rfl, hk, hik, HK, HV, HG⟩ := hrel
  have HL1 := Lib.hid (HL.out V k HV.out hk)
  rcases Bool.eq_false_or_eq_true (bB (lk s k)) with hb | hb
  · obtain ⟨y1, y2⟩ := sp_yes hb
    have HK2 : Hid (sp s (k + 1) = q) := Lib.hid (by rw [<- y2]; exact HK.out)
    have HB1 := Lib.hid (fun (W : World) => HB.out (lk s k) W)
    rw [hb] at HB1
    have HM := Lib.hid HV.out.atOf
    generalize lk s k = c at *
    clear hb y2
    go_wp2_with fail
    refine HL1.out.mono ?_
    rintro e w1 ⟨rfl, hb⟩
    have HV1 := Lib.hid (HV.out.below hb)
    have HG1 := Lib.hid (HG.out.trans (Gr.of hb))
    clear hb
    obtain ⟨x0, x1, x2, x3⟩ := HV1.out.cells
    go_wp2_with fail
    refine (HB1.out w1).mono ?_
    rintro e w2 ⟨rfl, rfl⟩
    go_wp2
    go_roundw
    case rel => exact ⟨_, k + 1, rfl, by omega, by omega, HK2, Lib.hid (by have := HV1.out.set (k + 1); simpa using this), Lib.hid (HG1.out.trans (Gr.set b 1 w1 _))⟩
    case measure =>
     rw [HM.out, show atOf b (w1.setCell ⟨b, 1, none⟩ (.int .i64 ((k : Int) + 1))) = k + 1 from (HV1.out.set (k + 1)).atOf]
     omega
  · have hs0 := sp_no hb
    have hqk : q = k := by rw [<- HK.out, hs0]
    have HB1 := Lib.hid (fun (W : World) => HB.out (lk s k) W)
    rw [hb] at HB1
    generalize lk s k = c at *
    clear hb hs0
    subst hqk
    go_wp2_with fail
    refine HL1.out.mono ?_
    rintro e w1 ⟨rfl, hb⟩
    have HV1 := Lib.hid (HV.out.below hb)
    have HG1 := Lib.hid (HG.out.trans (Gr.of hb))
    clear hb
    obtain ⟨x0, x1, x2, x3⟩ := HV1.out.cells
    go_wp2_with fail
    refine (HB1.out w1).mono ?_
    rintro e w2 ⟨rfl, rfl⟩
    go_wp2
    go_ret
    exact ⟨ret_bool (by first | rfl | (rw [decide_eq_decide]; omega)), HV1.out, HG1.out⟩
end Go.Proofs.YtcndplnnighjkaaGreatDoor.Sx
namespace Go.Proofs.YtcndplnnighjkaaGreatDoor.Sx
open Go.ChangeShapes Go.WideShapes Go.ChangeAt Go.RowKit
open Go.PlainAid (bt)
set_option linter.unusedVariables false
set_option linter.unusedSimpArgs false
def me (p : Int -> Bool) (s : ByteArray) : Nat -> Nat -> Nat
 | 0, i => i
 | m + 1, i => if p (lk s i) = true then me p s m (i + 1) else i
theorem ret_str {a b : ByteArray} (h : a = b) : Ending.returned (.string a) = .returned (.string b) := by rw [h]
theorem cut_str (s : ByteArray) (i j : Nat) (h1 : i <= j) (h2 : j <= s.size) (x y : Int) (hx : x = i) (hy : y = j) (W : World) : Sem.run Tryz.prog (Instr.slice 9 (.string s) (some (.int .i64 x)) (some (.int .i64 y)) none) W = .ok (.string (s.extract i j)) W := by
 subst hx hy
 rw [Go.run_slice_string W 9 s .i64 .i64 _ _ Tryz.underlying9 (by omega) (by omega) (by omega)]
 simp
theorem me_le (p : Int -> Bool) (hp : p (-1) = false) (s : ByteArray) : ∀ (m i : Nat), i <= s.size -> i <= me p s m i /\ me p s m i <= s.size /\ me p s m i <= i + m := by
 intro m
 induction m with
 | zero => intro i hi; simp [me, hi]
 | succ m ih =>
   intro i hi
   rw [me]
   split
   · rename_i h
     have hlt : i < s.size := lk_lt (fun e => by rw [e, hp] at h; cases h)
     have := ih (i + 1) hlt
     omega
   · omega
set_option maxHeartbeats 1000000 in
theorem most_names (b : Nat) (s : ByteArray) (i m : Nat) (w : World) (h : Rr w b s i) (hi : i <= s.size) (hs : s.size <= 4000000) (hm : m <= 1000) : Calls Tryz.prog 178 #[.pointer (some ⟨b, 0, none⟩), .int .i64 m, .func (.func 179) #[] #[]] w fun e w' => e = .returned (.string (s.extract i (me bN s m i))) /\ Rr w' b s (me bN s m i) /\ Gr b w w' := by
 have HL := Lib.hid (fun (V : World) (k : Nat) (hV : Rr V b s k) (hk : k <= s.size) => sel_look b s k V hV hk hs)
 have HB := Lib.hid (fun (c : Int) (V : World) => sel_isNameByte c V)
 obtain ⟨c0, c1, f0, f1⟩ := h.cells
 have HR := Lib.hid h
 have hsz := me_le bN (by decide) s m i hi
 obtain ⟨q, hq⟩ : ∃ q, me bN s m i = q := ⟨_, rfl⟩
 have HQ := Lib.hid hq
 rw [hq] at hsz
 simp only [hq]
 have HSZ := Lib.hid hsz
 clear h hq hsz
 go_enter Tryz.func178, Tryz.ntmps178
 go_wp2
 go_loopw [] (fun wr => ∃ (V : World) (k d : Nat), V = wr /\ k <= s.size /\ k = i + d /\ d <= m /\ Hid (me bN s (m - d) k = q) /\ Hid (Rr V b s k) /\ Hid (Gr b w V)) (fun wr => s.size - atOf b wr)
 case atStart => exact ⟨_, i, 0, rfl, hi, rfl, Nat.zero_le _, HQ, HR, Lib.hid (Gr.refl _ _)⟩
 case round =>
  obtain ⟨V, k, d, rfl, hk, rfl, hd, HK, HV, HG⟩ := hrel
  obtain ⟨x0, x1, x2, x3⟩ := HV.out.cells
  have hcut : ∀ W, Sem.run Tryz.prog (Instr.slice 9 (.string s) (some (.int .i64 (i : Int))) (some (.int .i64 ((i : Int) + (d : Int)))) none) W = .ok (.string (s.extract i (i + d))) W := fun W => cut_str s i (i + d) (by omega) hk _ _ rfl (by omega) W
  have hw1 : IntKind.i64.wrap (((i + d : Nat) : Int) - (i : Int)) = (d : Int) := by rw [IntKind.wrap_i64]; omega
  have hw2 : (((i + d : Nat) : Int) - (i : Int)) = (d : Int) := by omega
  by_cases hlt : d < m
  · have q1 : decide ((d : Int) < (m : Int)) = true := by simp; omega
    have HL1 := Lib.hid (HL.out V (i + d) HV.out hk)
    have HB1 := Lib.hid (fun (W : World) => HB.out (lk s (i + d)) W)
    obtain ⟨m', hm'⟩ : ∃ m', m - d = m' + 1 := ⟨m - d - 1, by omega⟩
    have HK1 := HK.out
    rw [hm', me] at HK1
    have HM := Lib.hid HV.out.atOf
    rcases Bool.eq_false_or_eq_true (bN (lk s (i + d))) with hb | hb
    · rw [if_pos hb] at HK1
      have hin : i + d < s.size := lk_lt (fun e => by rw [e] at hb; revert hb; decide)
      have HK2 : Hid (me bN s (m - (d + 1)) (i + d + 1) = q) := Lib.hid (by rw [show m - (d + 1) = m' by omega]; exact HK1)
      rw [hb] at HB1
      generalize lk s (i + d) = c at *
      clear hb HK1 hm'
      go_wp2_with fail
      refine HL1.out.mono ?_
      rintro e w1 ⟨rfl, hb⟩
      have HV1 := Lib.hid (HV.out.below hb)
      have HG1 := Lib.hid (HG.out.trans (Gr.of hb))
      clear hb x0 x1 x2 x3
      obtain ⟨x0, x1, x2, x3⟩ := HV1.out.cells
      go_wp2_with fail
      refine (HB1.out w1).mono ?_
      rintro e w2 ⟨rfl, rfl⟩
      go_wp2
      go_roundw
      case rel => exact ⟨_, i + d + 1, d + 1, rfl, by omega, by omega, by omega, HK2, Lib.hid (by have := HV1.out.set (i + d + 1); simpa using this), Lib.hid (HG1.out.trans (Gr.set b 1 w1 _))⟩
      case measure =>
       rw [HM.out]
       have := (HV1.out.set (i + d + 1)).atOf
       simp only [Int.natCast_add, Int.cast_ofNat_Int] at this ⊢
       rw [this]
       omega
    · rw [if_neg (by rw [hb]; simp)] at HK1
      rw [hb] at HB1
      generalize lk s (i + d) = c at *
      clear hb hm'
      subst HK1
      go_wp2_with fail
      refine HL1.out.mono ?_
      rintro e w1 ⟨rfl, hb⟩
      have HV1 := Lib.hid (HV.out.below hb)
      have HG1 := Lib.hid (HG.out.trans (Gr.of hb))
      clear hb x0 x1 x2 x3
      obtain ⟨x0, x1, x2, x3⟩ := HV1.out.cells
      go_wp2_with fail
      refine (HB1.out w1).mono ?_
      rintro e w2 ⟨rfl, rfl⟩
      go_wp2
      go_region
      all_goals
       go_wp2
       go_ret
       exact ⟨ret_str (by congr 1), HV1.out.below ((Below.refl _ _).drew), HG1.out.trans (Gr.of ((Below.refl _ _).drew))⟩
  · have q1 : decide ((d : Int) < (m : Int)) = false := by simp; omega
    have hqk : q = i + d := by rw [<- HK.out, show m - d = 0 by omega, me]
    subst hqk
    go_wp2
    go_region
    all_goals
     go_wp2
     go_ret
     exact ⟨ret_str (by congr 1), HV.out.below ((Below.refl _ _).drew), HG.out.trans (Gr.of ((Below.refl _ _).drew))⟩
set_option maxHeartbeats 1000000 in
theorem most_strings (b : Nat) (s : ByteArray) (i m : Nat) (w : World) (h : Rr w b s i) (hi : i <= s.size) (hs : s.size <= 4000000) (hm : m <= 1000) : Calls Tryz.prog 178 #[.pointer (some ⟨b, 0, none⟩), .int .i64 m, .func (.func 193) #[] #[]] w fun e w' => e = .returned (.string (s.extract i (me bS s m i))) /\ Rr w' b s (me bS s m i) /\ Gr b w w' := by
 have HL := Lib.hid (fun (V : World) (k : Nat) (hV : Rr V b s k) (hk : k <= s.size) => sel_look b s k V hV hk hs)
 have HB := Lib.hid (fun (c : Int) (V : World) => sel_isStringByte c V)
 obtain ⟨c0, c1, f0, f1⟩ := h.cells
 have HR := Lib.hid h
 have hsz := me_le bS (by decide) s m i hi
 obtain ⟨q, hq⟩ : ∃ q, me bS s m i = q := ⟨_, rfl⟩
 have HQ := Lib.hid hq
 rw [hq] at hsz
 simp only [hq]
 have HSZ := Lib.hid hsz
 clear h hq hsz
 go_enter Tryz.func178, Tryz.ntmps178
 go_wp2
 go_loopw [] (fun wr => ∃ (V : World) (k d : Nat), V = wr /\ k <= s.size /\ k = i + d /\ d <= m /\ Hid (me bS s (m - d) k = q) /\ Hid (Rr V b s k) /\ Hid (Gr b w V)) (fun wr => s.size - atOf b wr)
 case atStart => exact ⟨_, i, 0, rfl, hi, rfl, Nat.zero_le _, HQ, HR, Lib.hid (Gr.refl _ _)⟩
 case round =>
  obtain ⟨V, k, d, rfl, hk, rfl, hd, HK, HV, HG⟩ := hrel
  obtain ⟨x0, x1, x2, x3⟩ := HV.out.cells
  have hcut : ∀ W, Sem.run Tryz.prog (Instr.slice 9 (.string s) (some (.int .i64 (i : Int))) (some (.int .i64 ((i : Int) + (d : Int)))) none) W = .ok (.string (s.extract i (i + d))) W := fun W => cut_str s i (i + d) (by omega) hk _ _ rfl (by omega) W
  have hw1 : IntKind.i64.wrap (((i + d : Nat) : Int) - (i : Int)) = (d : Int) := by rw [IntKind.wrap_i64]; omega
  have hw2 : (((i + d : Nat) : Int) - (i : Int)) = (d : Int) := by omega
  by_cases hlt : d < m
  · have q1 : decide ((d : Int) < (m : Int)) = true := by simp; omega
    have HL1 := Lib.hid (HL.out V (i + d) HV.out hk)
    have HB1 := Lib.hid (fun (W : World) => HB.out (lk s (i + d)) W)
    obtain ⟨m', hm'⟩ : ∃ m', m - d = m' + 1 := ⟨m - d - 1, by omega⟩
    have HK1 := HK.out
    rw [hm', me] at HK1
    have HM := Lib.hid HV.out.atOf
    rcases Bool.eq_false_or_eq_true (bS (lk s (i + d))) with hb | hb
    · rw [if_pos hb] at HK1
      have hin : i + d < s.size := lk_lt (fun e => by rw [e] at hb; revert hb; decide)
      have HK2 : Hid (me bS s (m - (d + 1)) (i + d + 1) = q) := Lib.hid (by rw [show m - (d + 1) = m' by omega]; exact HK1)
      rw [hb] at HB1
      generalize lk s (i + d) = c at *
      clear hb HK1 hm'
      go_wp2_with fail
      refine HL1.out.mono ?_
      rintro e w1 ⟨rfl, hb⟩
      have HV1 := Lib.hid (HV.out.below hb)
      have HG1 := Lib.hid (HG.out.trans (Gr.of hb))
      clear hb x0 x1 x2 x3
      obtain ⟨x0, x1, x2, x3⟩ := HV1.out.cells
      go_wp2_with fail
      refine (HB1.out w1).mono ?_
      rintro e w2 ⟨rfl, rfl⟩
      go_wp2
      go_roundw
      case rel => exact ⟨_, i + d + 1, d + 1, rfl, by omega, by omega, by omega, HK2, Lib.hid (by have := HV1.out.set (i + d + 1); simpa using this), Lib.hid (HG1.out.trans (Gr.set b 1 w1 _))⟩
      case measure =>
       rw [HM.out]
       have := (HV1.out.set (i + d + 1)).atOf
       simp only [Int.natCast_add, Int.cast_ofNat_Int] at this ⊢
       rw [this]
       omega
    · rw [if_neg (by rw [hb]; simp)] at HK1
      rw [hb] at HB1
      generalize lk s (i + d) = c at *
      clear hb hm'
      subst HK1
      go_wp2_with fail
      refine HL1.out.mono ?_
      rintro e w1 ⟨rfl, hb⟩
      have HV1 := Lib.hid (HV.out.below hb)
      have HG1 := Lib.hid (HG.out.trans (Gr.of hb))
      clear hb x0 x1 x2 x3
      obtain ⟨x0, x1, x2, x3⟩ := HV1.out.cells
      go_wp2_with fail
      refine (HB1.out w1).mono ?_
      rintro e w2 ⟨rfl, rfl⟩
      go_wp2
      go_region
      all_goals
       go_wp2
       go_ret
       exact ⟨ret_str (by congr 1), HV1.out.below ((Below.refl _ _).drew), HG1.out.trans (Gr.of ((Below.refl _ _).drew))⟩
  · have q1 : decide ((d : Int) < (m : Int)) = false := by simp; omega
    have hqk : q = i + d := by rw [<- HK.out, show m - d = 0 by omega, me]
    subst hqk
    go_wp2
    go_region
    all_goals
     go_wp2
     go_ret
     exact ⟨ret_str (by congr 1), HV.out.below ((Below.refl _ _).drew), HG.out.trans (Gr.of ((Below.refl _ _).drew))⟩
end Go.Proofs.YtcndplnnighjkaaGreatDoor.Sx
namespace Go.Proofs.YtcndplnnighjkaaGreatDoor.Sx
open Go.ChangeShapes Go.WideShapes Go.ChangeAt Go.RowKit
open Go.PlainAid (bt)
set_option linter.unusedVariables false
set_option linter.unusedSimpArgs false
def Rs {α : Type} (r : Except Nat (α × Nat)) (val : α -> Value) (b : Nat) (s : ByteArray) (e : Ending) (w' : World) : Prop := match r with
 | .ok (x, j) => e = .returned (val x) /\ Rr w' b s j
 | .error k => Mis e k
def nP (s : ByteArray) (i : Nat) : Except Nat (ByteArray × Nat) := if bL (lk s i) = true then .ok (s.extract i (me bN s 20 i), me bN s 20 i) else .error i
theorem nP_le {s : ByteArray} {i : Nat} (hi : i <= s.size) {n : ByteArray} {j : Nat} (h : nP s i = .ok (n, j)) : i <= j /\ j <= s.size /\ i < j := by
 unfold nP at h
 split at h
 · rename_i hl
   cases h
   have := me_le bN (by decide) s 20 i hi
   have h2 : i < me bN s 20 i := by
    have hn : bN (lk s i) = true := by
     revert hl
     simp [bL, bN]
     omega
    have hlt : i < s.size := lk_lt (fun e => by rw [e] at hn; revert hn; decide)
    have := me_le bN (by decide) s 19 (i + 1) hlt
    rw [me, if_pos hn]
    omega
   omega
 · cases h
theorem sel_name (b : Nat) (s : ByteArray) (i : Nat) (w : World) (h : Rr w b s i) (hi : i <= s.size) (hs : s.size <= 4000000) : Calls Tryz.prog 167 #[.pointer (some ⟨b, 0, none⟩)] w fun e w' => Rs (nP s i) Value.string b s e w' /\ Gr b w w' := by
 have HL := Lib.hid (sel_look b s i w h hi hs)
 have HI := Lib.hid (fun (c : Int) (V : World) => sel_isLetter c V)
 have HN := Lib.hid (fun (t : Bool) (V : World) (hV : Below w.heap.size w V) => sel_need b s i t V (h.below hV) hi hs)
 have HM := Lib.hid (fun (V : World) (hV : Below w.heap.size w V) => most_names b s i 20 V (h.below hV) hi hs (by omega))
 clear h
 unfold nP
 generalize me bN s 20 i = j at *
 generalize lk s i = c at *
 rcases Bool.eq_false_or_eq_true (bL c) with hc | hc
 · simp only [hc, if_true, Rs]
   go_enter Tryz.func167, Tryz.ntmps167
   go_wp2_with fail
   refine HL.out.mono ?_
   rintro e w1 ⟨rfl, hb⟩
   have HB1 := Lib.hid hb
   clear hb
   go_wp2_with fail
   refine (HI.out c w1).mono ?_
   rintro e w2 ⟨rfl, rfl⟩
   rw [hc]
   go_wp2_with fail
   refine (HN.out true w1 HB1.out).mono ?_
   rintro e w2 ⟨he, hb⟩
   rw [if_pos rfl] at he
   subst he
   have HB2 := Lib.hid (HB1.out.trans (hb.mono HB1.out.size))
   clear hb
   go_wp2_with fail
   refine (HM.out w2 HB2.out).mono ?_
   rintro e w3 ⟨rfl, hr, hg⟩
   have HR3 := Lib.hid hr
   have HG3 := Lib.hid ((Gr.of HB2.out).trans hg)
   clear hr hg
   go_wp2
   go_ret
   exact ⟨⟨rfl, HR3.out⟩, HG3.out⟩
 · have hc' : ¬ bL c = true := by simp [hc]
   simp only [if_neg hc', Rs]
   go_enter Tryz.func167, Tryz.ntmps167
   go_wp2_with fail
   refine HL.out.mono ?_
   rintro e w1 ⟨rfl, hb⟩
   have HB1 := Lib.hid hb
   clear hb
   go_wp2_with fail
   refine (HI.out c w1).mono ?_
   rintro e w2 ⟨rfl, rfl⟩
   rw [hc]
   go_wp2_with fail
   refine (HN.out false w1 HB1.out).mono ?_
   rintro e w2 ⟨he, hb⟩
   rw [if_neg (by simp)] at he
   unfold Mis at he
   subst he
   have HB2 := Lib.hid (HB1.out.trans (hb.mono HB1.out.size))
   clear hb
   go_wp2
   exact ⟨rfl, rfl, Gr.of HB2.out⟩
def vP (s : ByteArray) (i : Nat) : Except Nat (ByteArray × Nat) :=
 if lk s i = 34 then (if lk s (me bS s 60 (i + 1)) = 34 then .ok (s.extract (i + 1) (me bS s 60 (i + 1)), me bS s 60 (i + 1) + 1) else .error (me bS s 60 (i + 1))) else nP s i
theorem vP_le {s : ByteArray} {i : Nat} (hi : i <= s.size) {n : ByteArray} {j : Nat} (h : vP s i = .ok (n, j)) : i <= j /\ j <= s.size := by
 unfold vP at h
 split at h
 · rename_i h1
   have hlt : i < s.size := lk_lt (by rw [h1]; decide)
   have := me_le bS (by decide) s 60 (i + 1) hlt
   split at h
   · rename_i h2
     have hlt2 : me bS s 60 (i + 1) < s.size := lk_lt (by rw [h2]; decide)
     cases h
     omega
   · cases h
 · have := nP_le hi h
   omega
set_option maxHeartbeats 1000000 in
theorem sel_value (b : Nat) (s : ByteArray) (i : Nat) (w : World) (h : Rr w b s i) (hi : i <= s.size) (hs : s.size <= 4000000) : Calls Tryz.prog 177 #[.pointer (some ⟨b, 0, none⟩)] w fun e w' => Rs (vP s i) Value.string b s e w' /\ Gr b w w' := by
 have HL := Lib.hid (sel_look b s i w h hi hs)
 have HR := Lib.hid (fun (V : World) (hV : Below w.heap.size w V) => h.below hV)
 have HN := Lib.hid (fun (V : World) (hV : Below w.heap.size w V) => sel_name b s i V (h.below hV) hi hs)
 unfold vP
 by_cases hc : lk s i = 34
 · have hlt : i < s.size := lk_lt (by rw [hc]; decide)
   have hme := me_le bS (by decide) s 60 (i + 1) hlt
   have HM := Lib.hid (fun (V : World) (hV : Rr V b s (i + 1)) => most_strings b s (i + 1) 60 V hV hlt hs (by omega))
   have HT := Lib.hid (fun (V : World) (hV : Rr V b s (me bS s 60 (i + 1))) => sel_take b s (me bS s 60 (i + 1)) 34 V hV hme.2.1 hs (by decide))
   have q1 : (lk s i != 34) = false := by simp [hc]
   simp only [if_pos hc]
   generalize me bS s 60 (i + 1) = j at *
   generalize lk s i = c at *
   subst hc
   clear h q1
   by_cases hd : lk s j = 34
   · simp only [if_pos hd, Rs] at HT ⊢
     clear hd hme
     go_enter Tryz.func177, Tryz.ntmps177
     go_wp2_with fail
     refine HL.out.mono ?_
     rintro e w1 ⟨rfl, hb⟩
     have HB1 := Lib.hid hb
     clear hb
     obtain ⟨c0, c1, f0, f1⟩ := (HR.out w1 HB1.out).cells
     go_wp2_with fail
     have hR2 : Rr (w1.setCell ⟨b, 1, none⟩ (.int .i64 ((i : Int) + 1))) b s (i + 1) := by have := (HR.out w1 HB1.out).set (i + 1); simpa using this
     have HG2 : Hid (Gr b w (w1.setCell ⟨b, 1, none⟩ (.int .i64 ((i : Int) + 1)))) := Lib.hid ((Gr.of HB1.out).trans (Gr.set b 1 w1 _))
     refine (HM.out _ hR2).mono ?_
     rintro e w3 ⟨rfl, hr, hg⟩
     have HR3 := Lib.hid hr
     have HG3 := Lib.hid (HG2.out.trans hg)
     clear hr hg hR2 c0 c1 f0 f1
     go_wp2_with fail
     refine (HT.out w3 HR3.out).mono ?_
     rintro e w4 ⟨⟨rfl, hr⟩, hg⟩
     have HR4 := Lib.hid hr
     have HG4 := Lib.hid (HG3.out.trans hg)
     clear hr hg
     go_wp2
     go_ret
     exact ⟨⟨rfl, HR4.out⟩, HG4.out⟩
   · simp only [if_neg hd, Rs] at HT ⊢
     clear hd hme
     go_enter Tryz.func177, Tryz.ntmps177
     go_wp2_with fail
     refine HL.out.mono ?_
     rintro e w1 ⟨rfl, hb⟩
     have HB1 := Lib.hid hb
     clear hb
     obtain ⟨c0, c1, f0, f1⟩ := (HR.out w1 HB1.out).cells
     go_wp2_with fail
     have hR2 : Rr (w1.setCell ⟨b, 1, none⟩ (.int .i64 ((i : Int) + 1))) b s (i + 1) := by have := (HR.out w1 HB1.out).set (i + 1); simpa using this
     have HG2 : Hid (Gr b w (w1.setCell ⟨b, 1, none⟩ (.int .i64 ((i : Int) + 1)))) := Lib.hid ((Gr.of HB1.out).trans (Gr.set b 1 w1 _))
     refine (HM.out _ hR2).mono ?_
     rintro e w3 ⟨rfl, hr, hg⟩
     have HR3 := Lib.hid hr
     have HG3 := Lib.hid (HG2.out.trans hg)
     clear hr hg hR2 c0 c1 f0 f1
     go_wp2_with fail
     refine (HT.out w3 HR3.out).mono ?_
     rintro e w4 ⟨he, hg⟩
     unfold Mis at he
     subst he
     have HG4 := Lib.hid (HG3.out.trans hg)
     clear hg
     go_wp2
     exact ⟨rfl, rfl, HG4.out⟩
 · have q1 : (lk s i != 34) = true := by simp [hc]
   simp only [if_neg hc]
   generalize lk s i = c at *
   clear hc h
   cases hr : nP s i with
   | ok p =>
     obtain ⟨n, j⟩ := p
     rw [hr] at HN
     simp only [Rs] at HN ⊢
     go_enter Tryz.func177, Tryz.ntmps177
     go_wp2_with fail
     refine HL.out.mono ?_
     rintro e w1 ⟨rfl, hb⟩
     have HB1 := Lib.hid hb
     clear hb
     go_wp2_with fail
     refine (HN.out w1 HB1.out).mono ?_
     rintro e w2 ⟨⟨rfl, hr⟩, hg⟩
     have HR3 := Lib.hid hr
     have HG3 := Lib.hid ((Gr.of HB1.out).trans hg)
     clear hr hg
     go_wp2
     go_ret
     exact ⟨⟨rfl, HR3.out⟩, HG3.out⟩
   | error k =>
     rw [hr] at HN
     simp only [Rs] at HN ⊢
     go_enter Tryz.func177, Tryz.ntmps177
     go_wp2_with fail
     refine HL.out.mono ?_
     rintro e w1 ⟨rfl, hb⟩
     have HB1 := Lib.hid hb
     clear hb
     go_wp2_with fail
     refine (HN.out w1 HB1.out).mono ?_
     rintro e w2 ⟨he, hg⟩
     unfold Mis at he
     subst he
     have HG3 := Lib.hid ((Gr.of HB1.out).trans hg)
     clear hg
     go_wp2
     exact ⟨rfl, rfl, HG3.out⟩
end Go.Proofs.YtcndplnnighjkaaGreatDoor.Sx
namespace Go.Proofs.YtcndplnnighjkaaGreatDoor.Sx
open Go.ChangeShapes Go.WideShapes Go.ChangeAt Go.RowKit
open Go.PlainAid (bt)
set_option linter.unusedVariables false
set_option linter.unusedSimpArgs false
def tV (t : Int × ByteArray × ByteArray) : Value := .agg #[.int .i64 t.1, .string t.2.1, .string t.2.2]
def aQ (s : ByteArray) (n : ByteArray) (j1 : Nat) : Except Nat ((Int × ByteArray × ByteArray) × Nat) :=
 if lk s j1 = 61 then match vP s (sp s (j1 + 1)) with
  | .error k => .error k
  | .ok (v, k) => if lk s (sp s k) = 93 then .ok ((5, n, v), sp s k + 1) else .error (sp s k)
 else if lk s j1 = 93 then .ok ((4, n, ⟨#[]⟩), j1 + 1) else .error j1
def aP (s : ByteArray) (i : Nat) : Except Nat ((Int × ByteArray × ByteArray) × Nat) := match nP s (sp s (i + 1)) with
 | .error k => .error k
 | .ok (n, j) => aQ s n (sp s j)
theorem aP_le {s : ByteArray} {i : Nat} (hi : i < s.size) {t : Int × ByteArray × ByteArray} {j : Nat} (h : aP s i = .ok (t, j)) : i < j /\ j <= s.size := by
 unfold aP at h
 have h0 := sp_le s (i + 1) hi
 cases hn : nP s (sp s (i + 1)) with
 | error k => rw [hn] at h; cases h
 | ok p =>
   obtain ⟨n, j0⟩ := p
   rw [hn] at h
   simp only [] at h
   have h1 := nP_le h0.2 hn
   have h2 := sp_le s j0 h1.2.1
   unfold aQ at h
   split at h
   · rename_i hq
     have hlt : sp s j0 < s.size := lk_lt (by rw [hq]; decide)
     have h3 := sp_le s (sp s j0 + 1) hlt
     cases hv : vP s (sp s (sp s j0 + 1)) with
     | error k => rw [hv] at h; cases h
     | ok p =>
       obtain ⟨v, k⟩ := p
       rw [hv] at h
       simp only [] at h
       have h4 := vP_le h3.2 hv
       have h5 := sp_le s k h4.2
       split at h
       · rename_i hr
         have hlt2 : sp s k < s.size := lk_lt (by rw [hr]; decide)
         cases h
         omega
       · cases h
   · split at h
     · rename_i hr
       have hlt2 : sp s j0 < s.size := lk_lt (by rw [hr]; decide)
       cases h
       omega
     · cases h
def Tb (w : World) (tb : Nat) (k : Int) (n v : ByteArray) : Prop := w.heap[tb]? = some (.cells #[.int .i64 k, .string n, .string v] 171 (0, 0))
theorem Tb.cells {w : World} {tb : Nat} {k : Int} {n v : ByteArray} (h : Tb w tb k n v) : (w.cell? ⟨tb, 0, none⟩ = some (.int .i64 k) /\ w.cell? ⟨tb, 1, none⟩ = some (.string n) /\ w.cell? ⟨tb, 2, none⟩ = some (.string v)) /\ w.frozen? ⟨tb, 0, none⟩ = false /\ w.frozen? ⟨tb, 1, none⟩ = false /\ w.frozen? ⟨tb, 2, none⟩ = false := by
 unfold Tb at h
 refine ⟨⟨?_, ?_, ?_⟩, ?_, ?_, ?_⟩ <;> simp [World.cell?, World.frozen?, h]
theorem Tb.keep {w w' : World} {tb b : Nat} {k : Int} {n v : ByteArray} (h : Tb w tb k n v) (hb : b < tb) (hg : Gr b w w') : Tb w' tb k n v := (hg.block tb (Array.getElem?_eq_some_iff.1 h).1 (by simp; omega)).trans h
theorem Tb.set3 {w : World} {tb : Nat} {k : Int} {n v : ByteArray} (h : Tb w tb k n v) (k' : Int) (n' v' : ByteArray) : Tb (((w.setCell ⟨tb, 0, none⟩ (.int .i64 k')).setCell ⟨tb, 1, none⟩ (.string n')).setCell ⟨tb, 2, none⟩ (.string v')) tb k' n' v' := by
 unfold Tb at h ⊢
 simp [World.setCell, Array.getElem?_modify, h]
theorem Tb.set2 {w : World} {tb : Nat} {k : Int} {n v : ByteArray} (h : Tb w tb k n v) (k' : Int) (v' : ByteArray) : Tb ((w.setCell ⟨tb, 0, none⟩ (.int .i64 k')).setCell ⟨tb, 2, none⟩ (.string v')) tb k' n v' := by
 unfold Tb at h ⊢
 simp [World.setCell, Array.getElem?_modify, h]
theorem Gr.put {b tb : Nat} {w w' : World} (h : Gr b w w') (ht : w.heap.size <= tb) (k : Nat) (v : Value) : Gr b w (w'.setCell ⟨tb, k, none⟩ v) :=
 ⟨h.os, h.tape, h.output, by simpa [World.setCell] using h.size, fun q hq hn => (Below.heap_setCell _ _ _ _ (by simp; omega)).trans (h.block q hq hn)⟩
theorem Rr.other {w : World} {b tb : Nat} {s : ByteArray} {i : Nat} (h : Rr w b s i) (hb : b < tb) (k : Nat) (v : Value) : Rr (w.setCell ⟨tb, k, none⟩ v) b s i := (Below.heap_setCell _ _ _ _ (by simp; omega)).trans h
set_option maxRecDepth 100000 in
set_option maxHeartbeats 4000000 in
theorem sel_attr (b : Nat) (s : ByteArray) (i : Nat) (w : World) (h : Rr w b s i) (hi : i < s.size) (hc : lk s i = 91) (hs : s.size <= 4000000) : Calls Tryz.prog 166 #[.pointer (some ⟨b, 0, none⟩)] w fun e w' => Rs (aP s i) tV b s e w' /\ Gr b w w' := by
 have HL := Lib.hid (fun (k : Nat) (hk : k <= s.size) (V : World) (hV : Rr V b s k) => sel_look b s k V hV hk hs)
 have HS := Lib.hid (fun (k : Nat) (hk : k <= s.size) (V : World) (hV : Rr V b s k) => sel_blanks b s k V hV hk hs)
 have HN := Lib.hid (fun (k : Nat) (hk : k <= s.size) (V : World) (hV : Rr V b s k) => sel_name b s k V hV hk hs)
 have HU := Lib.hid (fun (k : Nat) (hk : k <= s.size) (V : World) (hV : Rr V b s k) => sel_value b s k V hV hk hs)
 have HT := Lib.hid (fun (c : Int) (hc : c ≠ -1) (k : Nat) (hk : k <= s.size) (V : World) (hV : Rr V b s k) => sel_take b s k c V hV hk hs hc)
 obtain ⟨W0, hW0⟩ : ∃ W0, W0 = w.alloc (.cells #[.int .i64 0, .string ⟨#[]⟩, .string ⟨#[]⟩] 171) := ⟨_, rfl⟩
 have HB0 : Hid (Below w.heap.size w W0) := Lib.hid (by rw [hW0]; exact (Below.refl _ _).alloc (Nat.le_refl _) _)
 have HK0 : Hid (Tb W0 w.heap.size 0 ⟨#[]⟩ ⟨#[]⟩) := Lib.hid (by unfold Tb; rw [hW0]; exact heap_alloc_new _ _)
 obtain ⟨tb, htb⟩ : ∃ tb, tb = w.heap.size := ⟨_, rfl⟩
 have htb1 : b < tb := by rw [htb]; exact h.lt
 have htb2 : w.heap.size <= tb := Nat.le_of_eq htb.symm
 have HT1 := Lib.hid (by have := HT.out 91 (by decide) i (Nat.le_of_lt hi) W0 (h.below HB0.out); simp only [if_pos hc] at this; exact this)
 have h0 := sp_le s (i + 1) hi
 have HA : Hid (∀ k, nP s (sp s (i + 1)) = .error k -> aP s i = .error k) := Lib.hid (fun k hk => by unfold aP; rw [hk])
 have HA2 : Hid (∀ n j, nP s (sp s (i + 1)) = .ok (n, j) -> aP s i = aQ s n (sp s j)) := Lib.hid (fun n j hk => by unfold aP; rw [hk])
 clear h hc
 go_enter Tryz.func166, Tryz.ntmps166
 go_wp2_with fail
 rw [<- hW0]
 rw [<- htb] at HK0 ⊢
 clear hW0 htb
 refine HT1.out.mono ?_
 rintro e w1 ⟨⟨rfl, hr⟩, hg⟩
 have HK1 := Lib.hid (HK0.out.keep htb1 hg)
 have HG1 := Lib.hid ((Gr.of HB0.out).trans hg)
 have HS1 := Lib.hid (HS.out (i + 1) hi w1 hr)
 clear hr hg
 generalize sp s (i + 1) = i1 at *
 go_wp2_with fail
 refine HS1.out.mono ?_
 rintro e w2 ⟨rfl, hr, hg⟩
 have HK2 := Lib.hid (HK1.out.keep htb1 hg)
 have HG2 := Lib.hid (HG1.out.trans hg)
 have HN1 := Lib.hid (HN.out i1 h0.2 w2 hr)
 clear hr hg
 generalize decide (i + 1 < i1) = q0
 go_wp2_with fail
 refine HN1.out.mono ?_
 rintro e w3 ⟨hr, hg⟩
 have HK3 := Lib.hid (HK2.out.keep htb1 hg)
 have HG3 := Lib.hid (HG2.out.trans hg)
 clear hg
 cases hnp : nP s i1 with
 | error k =>
   rw [hnp] at hr
   have HE := Lib.hid (HA.out k hnp)
   unfold Rs Mis at hr
   subst hr
   clear hnp
   go_wp2
   exact ⟨rfl, by rw [HE.out]; rfl, HG3.out⟩
 | ok p =>
   obtain ⟨n, j⟩ := p
   rw [hnp] at hr
   have HE := Lib.hid (HA2.out n j hnp)
   have hj := nP_le h0.2 hnp
   unfold Rs at hr
   obtain ⟨rfl, hr⟩ := hr
   have HR3 := Lib.hid hr
   have h1 := sp_le s j hj.2.1
   clear hnp hr
   obtain ⟨V3, hV3⟩ : ∃ V3, V3 = w3.alloc (.cells #[.int .i64 4, .string n, .string ⟨#[]⟩] 171) := ⟨_, rfl⟩
   have hbV3 : Below w3.heap.size w3 V3 := by rw [hV3]; exact (Below.refl _ _).alloc (Nat.le_refl _) _
   have HT3 : Hid (Tb V3 w3.heap.size 4 n ⟨#[]⟩) := Lib.hid (by unfold Tb; rw [hV3]; exact heap_alloc_new _ _)
   have HKa := Lib.hid (HK3.out.keep htb1 (Gr.of hbV3))
   have HGa := Lib.hid (HG3.out.trans (Gr.of hbV3))
   have HS2 := Lib.hid (HS.out j hj.2.1 V3 (HR3.out.below hbV3))
   obtain ⟨t2, ht2⟩ : ∃ t2, t2 = w3.heap.size := ⟨_, rfl⟩
   have hbt2 : b < t2 := by rw [ht2]; exact HR3.out.lt
   have htt : tb ≠ t2 := by
    rw [ht2]
    have := (Array.getElem?_eq_some_iff.1 HK3.out).1
    omega
   have hwt : w.heap.size <= t2 := by rw [ht2]; exact HG3.out.size
   clear hbV3
   generalize sp s j = j1 at *
   go_wp2_with fail
   rw [<- hV3]
   rw [<- ht2] at HT3 ⊢
   clear hV3 ht2
   refine HS2.out.mono ?_
   rintro e w4 ⟨rfl, hr, hg⟩
   have HR4 := Lib.hid hr
   have HK4 := Lib.hid (HKa.out.keep htb1 hg)
   have HT4 := Lib.hid (HT3.out.keep hbt2 hg)
   have HG4 := Lib.hid (HGa.out.trans hg)
   have HL1 := Lib.hid (HL.out j1 h1.2 w4 hr)
   clear hr hg
   generalize decide (j < j1) = q1
   go_wp2_with fail
   refine HL1.out.mono ?_
   rintro e w5 ⟨rfl, hb⟩
   have HR5 := Lib.hid (HR4.out.below hb)
   have HK5 := Lib.hid (HK4.out.keep htb1 (Gr.of hb))
   have HT5 := Lib.hid (HT4.out.keep hbt2 (Gr.of hb))
   have HG5 := Lib.hid (HG4.out.trans (Gr.of hb))
   clear hb
   by_cases hq : lk s j1 = 61
   · have hlt : j1 < s.size := lk_lt (by rw [hq]; decide)
     have h2 := sp_le s (j1 + 1) hlt
     have HE2 : Hid (aP s i = match vP s (sp s (j1 + 1)) with
      | .error k => .error k
      | .ok (v, k) => if lk s (sp s k) = 93 then .ok ((5, n, v), sp s k + 1) else .error (sp s k)) := Lib.hid (by rw [HE.out]; unfold aQ; rw [if_pos hq])
     have q2 : (lk s j1 == 61) = true := by simpa using hq
     generalize lk s j1 = c at *
     clear hq
     obtain ⟨c0, c1, f0, f1⟩ := HR5.out.cells
     have hR6 : Rr (w5.setCell ⟨b, 1, none⟩ (.int .i64 ((j1 : Int) + 1))) b s (j1 + 1) := by have := HR5.out.set (j1 + 1); simpa using this
     have hg6 : Gr b w5 (w5.setCell ⟨b, 1, none⟩ (.int .i64 ((j1 : Int) + 1))) := Gr.set b 1 w5 _
     have HG6 := Lib.hid (HG5.out.trans hg6)
     have HK6 := Lib.hid (HK5.out.keep htb1 hg6)
     have HT6 := Lib.hid (HT5.out.keep hbt2 hg6)
     have HS3 := Lib.hid (HS.out (j1 + 1) hlt _ hR6)
     clear hR6 hg6
     generalize sp s (j1 + 1) = j2 at *
     go_wp2_with fail
     refine HS3.out.mono ?_
     rintro e w6 ⟨rfl, hr, hg⟩
     have HK7 := Lib.hid (HK6.out.keep htb1 hg)
     have HT7 := Lib.hid (HT6.out.keep hbt2 hg)
     have HG7 := Lib.hid (HG6.out.trans hg)
     have HU1 := Lib.hid (HU.out j2 h2.2 w6 hr)
     clear hr hg c0 c1 f0 f1
     generalize decide (j1 + 1 < j2) = q3
     go_wp2_with fail
     refine HU1.out.mono ?_
     rintro e w7 ⟨hr, hg⟩
     have HK8 := Lib.hid (HK7.out.keep htb1 hg)
     have HT8 := Lib.hid (HT7.out.keep hbt2 hg)
     have HG8 := Lib.hid (HG7.out.trans hg)
     clear hg
     cases hvp : vP s j2 with
     | error k =>
       rw [hvp] at hr HE2
       unfold Rs Mis at hr
       subst hr
       clear hvp
       go_wp2
       exact ⟨rfl, by rw [HE2.out]; rfl, HG8.out⟩
     | ok p =>
       obtain ⟨v, k⟩ := p
       rw [hvp] at hr HE2
       have hv := vP_le h2.2 hvp
       unfold Rs at hr
       obtain ⟨rfl, hr⟩ := hr
       have HR8 := Lib.hid hr
       have h3 := sp_le s k hv.2
       clear hvp hr
       simp only [] at HE2
       obtain ⟨⟨c0, c1, c2⟩, f0, f1, f2⟩ := HT8.out.cells
       have HT9 := Lib.hid (HT8.out.set2 5 v)
       have HR9 := Lib.hid ((HR8.out.other hbt2 0 (.int .i64 5)).other hbt2 2 (.string v))
       have HG9 := Lib.hid ((HG8.out.put hwt 0 (.int .i64 5)).put hwt 2 (.string v))
       have HK9 : Hid (Tb ((w7.setCell ⟨t2, 0, none⟩ (.int .i64 5)).setCell ⟨t2, 2, none⟩ (.string v)) tb 0 ⟨#[]⟩ ⟨#[]⟩) := Lib.hid (((Below.heap_setCell _ _ _ _ (by simpa using htt)).trans ((Below.heap_setCell _ _ _ _ (by simpa using htt)).trans HK8.out)))
       have HS4 := Lib.hid (HS.out k hv.2 _ HR9.out)
       generalize sp s k = k1 at *
       go_wp2_with fail
       refine HS4.out.mono ?_
       rintro e w8 ⟨rfl, hr, hg⟩
       have HR10 := Lib.hid hr
       have HK10 := Lib.hid (HK9.out.keep htb1 hg)
       have HT10 := Lib.hid (HT9.out.keep hbt2 hg)
       have HG10 := Lib.hid (HG9.out.trans hg)
       clear hr hg c0 c1 c2 f0 f1 f2
       generalize decide (k < k1) = q4
       by_cases hq3 : lk s k1 = 93
       · have HTK := Lib.hid (by have := HT.out 93 (by decide) k1 h3.2 w8 HR10.out; simp only [if_pos hq3] at this; exact this)
         rw [if_pos hq3] at HE2
         clear hq3
         go_wp2_with fail
         refine HTK.out.mono ?_
         rintro e w9 ⟨⟨rfl, hr⟩, hg⟩
         have HR11 := Lib.hid hr
         have HK11 := Lib.hid (HK10.out.keep htb1 hg)
         have HT11 := Lib.hid (HT10.out.keep hbt2 hg)
         have HG11 := Lib.hid (HG10.out.trans hg)
         clear hr hg
         obtain ⟨⟨c0, c1, c2⟩, f0, f1, f2⟩ := HT11.out.cells
         obtain ⟨⟨d0, d1, d2⟩, e0, e1, e2⟩ := HK11.out.cells
         go_wp2_with fail
         have hT9 := HK11.out.set3 5 n v
         obtain ⟨⟨z0, z1, z2⟩, -⟩ := hT9.cells
         refine ⟨rfl, tV (5, n, v), ?_, by rw [HE2.out]; exact ⟨rfl, ((HR11.out.other htb1 0 _).other htb1 1 _).other htb1 2 _⟩, ((HG11.out.put htb2 0 _).put htb2 1 _).put htb2 2 _⟩
         simp [results, Tryz.f166, go_sem, z0, z1, z2, tV]
       · have HTK := Lib.hid (by have := HT.out 93 (by decide) k1 h3.2 w8 HR10.out; simp only [if_neg hq3] at this; exact this)
         rw [if_neg hq3] at HE2
         clear hq3
         go_wp2_with fail
         refine HTK.out.mono ?_
         rintro e w9 ⟨he, hg⟩
         unfold Mis at he
         subst he
         have HG11 := Lib.hid (HG10.out.trans hg)
         clear hg
         go_wp2
         exact ⟨rfl, by rw [HE2.out]; rfl, HG11.out⟩
   · have HE2 : Hid (aP s i = if lk s j1 = 93 then .ok ((4, n, ⟨#[]⟩), j1 + 1) else .error j1) := Lib.hid (by rw [HE.out]; unfold aQ; rw [if_neg hq])
     have q2 : (lk s j1 == 61) = false := by simpa using hq
     by_cases hq3 : lk s j1 = 93
     · have HTK := Lib.hid (by have := HT.out 93 (by decide) j1 h1.2 w5 HR5.out; simp only [if_pos hq3] at this; exact this)
       rw [if_pos hq3] at HE2
       generalize lk s j1 = c at *
       clear hq hq3
       go_wp2_with fail
       refine HTK.out.mono ?_
       rintro e w6 ⟨⟨rfl, hr⟩, hg⟩
       have HR6 := Lib.hid hr
       have HK6 := Lib.hid (HK5.out.keep htb1 hg)
       have HT6 := Lib.hid (HT5.out.keep hbt2 hg)
       have HG6 := Lib.hid (HG5.out.trans hg)
       clear hr hg
       obtain ⟨⟨c0, c1, c2⟩, f0, f1, f2⟩ := HT6.out.cells
       obtain ⟨⟨d0, d1, d2⟩, e0, e1, e2⟩ := HK6.out.cells
       go_wp2_with fail
       have hT9 := HK6.out.set3 4 n ⟨#[]⟩
       obtain ⟨⟨z0, z1, z2⟩, -⟩ := hT9.cells
       refine ⟨rfl, tV (4, n, ⟨#[]⟩), ?_, by rw [HE2.out]; exact ⟨rfl, ((HR6.out.other htb1 0 _).other htb1 1 _).other htb1 2 _⟩, ((HG6.out.put htb2 0 _).put htb2 1 _).put htb2 2 _⟩
       simp [results, Tryz.f166, go_sem, z0, z1, z2, tV]
     · have HTK := Lib.hid (by have := HT.out 93 (by decide) j1 h1.2 w5 HR5.out; simp only [if_neg hq3] at this; exact this)
       rw [if_neg hq3] at HE2
       generalize lk s j1 = c at *
       clear hq hq3
       go_wp2_with fail
       refine HTK.out.mono ?_
       rintro e w6 ⟨he, hg⟩
       unfold Mis at he
       subst he
       have HG6 := Lib.hid (HG5.out.trans hg)
       clear hg
       go_wp2
       exact ⟨rfl, by rw [HE2.out]; rfl, HG6.out⟩
end Go.Proofs.YtcndplnnighjkaaGreatDoor.Sx
namespace Go.Proofs.YtcndplnnighjkaaGreatDoor.Sx
open Go.ChangeShapes Go.WideShapes Go.ChangeAt Go.RowKit
open Go.PlainAid (bt)
set_option linter.unusedVariables false
set_option linter.unusedSimpArgs false
def nT (k : Int) : Except Nat (ByteArray × Nat) -> Except Nat ((Int × ByteArray × ByteArray) × Nat)
 | .error e => .error e
 | .ok (n, j) => .ok ((k, n, ⟨#[]⟩), j)
def tP (s : ByteArray) (i : Nat) : Except Nat ((Int × ByteArray × ByteArray) × Nat) :=
 if kd (lk s i) = 4 then aP s i else nT (kd (lk s i)) (nP s (if kd (lk s i) = 2 \/ kd (lk s i) = 3 then i + 1 else i))
theorem kd_4 {c : Int} (h : kd c = 4) : c = 91 := by
 unfold kd at h
 repeat' split at h
 all_goals first | assumption | (exact absurd h (by decide))
theorem kd_in {s : ByteArray} {i : Nat} (h : kd (lk s i) ≠ 0) : i < s.size := lk_lt (fun e => by rw [e] at h; exact h (by decide))
theorem tP_le {s : ByteArray} {i : Nat} (hi : i <= s.size) {t : Int × ByteArray × ByteArray} {j : Nat} (h : tP s i = .ok (t, j)) : i < j /\ j <= s.size := by
 unfold tP at h
 split at h
 · rename_i h4
   exact aP_le (kd_in (by rw [h4]; decide)) h
 · by_cases h2 : kd (lk s i) = 2 \/ kd (lk s i) = 3
   · rw [if_pos h2] at h
     have hlt : i < s.size := kd_in (by omega)
     cases hn : nP s (i + 1) with
     | error k => rw [hn] at h; cases h
     | ok p =>
       obtain ⟨n, j'⟩ := p
       rw [hn] at h
       cases h
       have := nP_le hlt hn
       omega
   · rw [if_neg h2] at h
     cases hn : nP s i with
     | error k => rw [hn] at h; cases h
     | ok p =>
       obtain ⟨n, j'⟩ := p
       rw [hn] at h
       cases h
       have := nP_le hi hn
       omega
set_option maxRecDepth 100000 in
set_option maxHeartbeats 4000000 in
theorem sel_test (b : Nat) (s : ByteArray) (i : Nat) (w : World) (h : Rr w b s i) (hi : i <= s.size) (hs : s.size <= 4000000) : Calls Tryz.prog 156 #[.pointer (some ⟨b, 0, none⟩)] w fun e w' => Rs (tP s i) tV b s e w' /\ Gr b w w' := by
 have HL := Lib.hid (fun (V : World) (hV : Rr V b s i) => sel_look b s i V hV hi hs)
 have HK := Lib.hid (fun (c : Int) (V : World) => sel_kindOf c V)
 have HN := Lib.hid (fun (k : Nat) (hk : k <= s.size) (V : World) (hV : Rr V b s k) => sel_name b s k V hV hk hs)
 have HA := Lib.hid (fun (hc : lk s i = 91) (V : World) (hV : Rr V b s i) => sel_attr b s i V hV (lk_lt (by rw [hc]; decide)) hc hs)
 obtain ⟨W0, hW0⟩ : ∃ W0, W0 = w.alloc (.cells #[.int .i64 0, .string ⟨#[]⟩, .string ⟨#[]⟩] 171) := ⟨_, rfl⟩
 have HB0 : Hid (Below w.heap.size w W0) := Lib.hid (by rw [hW0]; exact (Below.refl _ _).alloc (Nat.le_refl _) _)
 have HK0 : Hid (Tb W0 w.heap.size 0 ⟨#[]⟩ ⟨#[]⟩) := Lib.hid (by unfold Tb; rw [hW0]; exact heap_alloc_new _ _)
 obtain ⟨tb, htb⟩ : ∃ tb, tb = w.heap.size := ⟨_, rfl⟩
 have htb1 : b < tb := by rw [htb]; exact h.lt
 have htb2 : w.heap.size <= tb := Nat.le_of_eq htb.symm
 have HR0 := Lib.hid (h.below HB0.out)
 clear h
 have HE : Hid (tP s i = if kd (lk s i) = 4 then aP s i else nT (kd (lk s i)) (nP s (if kd (lk s i) = 2 \/ kd (lk s i) = 3 then i + 1 else i))) := Lib.hid rfl
 have H91 : Hid (kd (lk s i) = 4 -> lk s i = 91) := Lib.hid kd_4
 have HIN : Hid (kd (lk s i) ≠ 0 -> i < s.size) := Lib.hid kd_in
 generalize tP s i = TP at *
 have HL0 := Lib.hid (HL.out W0 HR0.out)
 go_enter Tryz.func156, Tryz.ntmps156
 go_wp2_with fail
 rw [<- hW0]
 rw [<- htb] at HK0 ⊢
 clear hW0 htb
 refine HL0.out.mono ?_
 rintro e w1 ⟨rfl, hb⟩
 have HR1 := Lib.hid (HR0.out.below hb)
 have HK1 := Lib.hid (HK0.out.keep htb1 (Gr.of hb))
 have HG1 : Hid (Gr b w w1) := Lib.hid ((Gr.of HB0.out).trans (Gr.of hb))
 clear hb
 go_wp2_with fail
 refine (HK.out _ w1).mono ?_
 rintro e w2 ⟨rfl, rfl⟩
 obtain ⟨kk, hkk⟩ : ∃ kk, kd (lk s i) = kk := ⟨_, rfl⟩
 obtain ⟨V3, hV3⟩ : ∃ V3, V3 = w1.alloc (.cells #[.int .i64 kk, .string ⟨#[]⟩, .string ⟨#[]⟩] 171) := ⟨_, rfl⟩
 have hbV3 : Below w1.heap.size w1 V3 := by rw [hV3]; exact (Below.refl _ _).alloc (Nat.le_refl _) _
 have HT3 : Hid (Tb V3 w1.heap.size kk ⟨#[]⟩ ⟨#[]⟩) := Lib.hid (by unfold Tb; rw [hV3]; exact heap_alloc_new _ _)
 have HK3 := Lib.hid (HK1.out.keep htb1 (Gr.of hbV3))
 have HG3 := Lib.hid (HG1.out.trans (Gr.of hbV3))
 have HR3 := Lib.hid (HR1.out.below hbV3)
 obtain ⟨t2, ht2⟩ : ∃ t2, t2 = w1.heap.size := ⟨_, rfl⟩
 have hbt2 : b < t2 := by rw [ht2]; exact HR1.out.lt
 have htt : tb ≠ t2 := by
  rw [ht2]
  have := (Array.getElem?_eq_some_iff.1 HK1.out).1
  omega
 have hwt : w.heap.size <= t2 := by rw [ht2]; exact HG1.out.size
 rw [hkk] at HE H91 HIN ⊢
 clear hbV3 hkk
 rw [<- ht2] at HT3
 by_cases h4 : kk = 4
 · subst h4
   have HA1 := Lib.hid (HA.out (H91.out rfl) V3 HR3.out)
   have HE2 : Hid (TP = aP s i) := Lib.hid (by rw [HE.out, if_pos rfl])
   obtain ⟨⟨c0, c1, c2⟩, f0, f1, f2⟩ := HT3.out.cells
   go_wp2_with fail
   rw [<- ht2, <- hV3]
   clear hV3 ht2
   refine HA1.out.mono ?_
   rintro e w7 ⟨hr, hg⟩
   have HK7 := Lib.hid (HK3.out.keep htb1 hg)
   have HT7 := Lib.hid (HT3.out.keep hbt2 hg)
   have HG7 := Lib.hid (HG3.out.trans hg)
   clear hg
   cases hap : aP s i with
   | error k =>
     rw [hap] at hr HE2
     unfold Rs Mis at hr
     subst hr
     clear hap
     go_wp2
     exact ⟨rfl, by rw [HE2.out]; rfl, HG7.out⟩
   | ok p =>
     obtain ⟨⟨k', n, v⟩, j⟩ := p
     rw [hap] at hr HE2
     unfold Rs at hr
     obtain ⟨rfl, hr⟩ := hr
     have HR7 := Lib.hid hr
     clear hap hr
     unfold tV
     clear c0 c1 c2 f0 f1 f2
     obtain ⟨⟨c0, c1, c2⟩, f0, f1, f2⟩ := HT7.out.cells
     have HT8 := Lib.hid (HT7.out.set3 k' n v)
     have HR8 := Lib.hid (((HR7.out.other hbt2 0 (.int .i64 k')).other hbt2 1 (.string n)).other hbt2 2 (.string v))
     have HG8 := Lib.hid (((HG7.out.put hwt 0 (.int .i64 k')).put hwt 1 (.string n)).put hwt 2 (.string v))
     have HK8 : Hid (Tb (((w7.setCell ⟨t2, 0, none⟩ (.int .i64 k')).setCell ⟨t2, 1, none⟩ (.string n)).setCell ⟨t2, 2, none⟩ (.string v)) tb 0 ⟨#[]⟩ ⟨#[]⟩) := Lib.hid ((Below.heap_setCell _ _ _ _ (by simpa using htt)).trans ((Below.heap_setCell _ _ _ _ (by simpa using htt)).trans ((Below.heap_setCell _ _ _ _ (by simpa using htt)).trans HK7.out)))
     obtain ⟨⟨z0, z1, z2⟩, y0, y1, y2⟩ := HT8.out.cells
     obtain ⟨⟨d0, d1, d2⟩, e0, e1, e2⟩ := HK8.out.cells
     go_wp2_with fail
     have hT9 := HK8.out.set3 k' n v
     obtain ⟨⟨x0, x1, x2⟩, -⟩ := hT9.cells
     refine ⟨rfl, tV (k', n, v), ?_, by rw [HE2.out]; exact ⟨rfl, ((HR8.out.other htb1 0 _).other htb1 1 _).other htb1 2 _⟩, ((HG8.out.put htb2 0 _).put htb2 1 _).put htb2 2 _⟩
     simp [results, Tryz.f156, go_sem, x0, x1, x2, tV]
 · have q4 : (kk == 4) = false := by simpa using h4
   by_cases h23 : kk = 2 \/ kk = 3
   · have HE2 : Hid (TP = nT kk (nP s (i + 1))) := Lib.hid (by rw [HE.out, if_neg h4, if_pos h23])
     have hlt : i < s.size := HIN.out (by omega)
     have HN0 := Lib.hid (fun V => HN.out (i + 1) hlt V)
     obtain ⟨⟨c0, c1, c2⟩, f0, f1, f2⟩ := HT3.out.cells
     obtain ⟨x0, x1, g0, g1⟩ := HR3.out.cells
     have hR4 : Rr (V3.setCell ⟨b, 1, none⟩ (.int .i64 ((i : Int) + 1))) b s (i + 1) := by have := HR3.out.set (i + 1); simpa using this
     have hg4 : Gr b V3 (V3.setCell ⟨b, 1, none⟩ (.int .i64 ((i : Int) + 1))) := Gr.set b 1 V3 _
     have HG4 := Lib.hid (HG3.out.trans hg4)
     have HK4 := Lib.hid (HK3.out.keep htb1 hg4)
     have HT4 := Lib.hid (HT3.out.keep hbt2 hg4)
     have HN1 := Lib.hid (HN0.out _ hR4)
     clear hR4 hg4
     rw [hV3] at x0 x1 g0 g1
     have q2 : (kk == 2) = true \/ (kk == 2) = false /\ (kk == 3) = true := by
      rcases h23 with rfl | rfl
      · exact .inl rfl
      · exact .inr ⟨rfl, rfl⟩
     clear h23 h4
     rcases q2 with q2 | ⟨q2, q3⟩
     all_goals
      go_wp2_with fail
      rw [<- ht2, <- hV3]
      clear hV3 ht2 c0 c1 c2 f0 f1 f2 x0 x1 g0 g1
      refine HN1.out.mono ?_
      rintro e w7 ⟨hr, hg⟩
      have HK7 := Lib.hid (HK4.out.keep htb1 hg)
      have HT7 := Lib.hid (HT4.out.keep hbt2 hg)
      have HG7 := Lib.hid (HG4.out.trans hg)
      clear hg
      cases hnp : nP s (i + 1) with
      | error k =>
        rw [hnp] at hr HE2
        unfold Rs Mis at hr
        subst hr
        clear hnp
        go_wp2
        exact ⟨rfl, by rw [HE2.out]; rfl, HG7.out⟩
      | ok p =>
        obtain ⟨n, j⟩ := p
        rw [hnp] at hr HE2
        unfold Rs at hr
        obtain ⟨rfl, hr⟩ := hr
        have HR7 := Lib.hid hr
        clear hnp hr
        obtain ⟨⟨c0, c1, c2⟩, f0, f1, f2⟩ := HT7.out.cells
        have HT8 : Hid (Tb (w7.setCell ⟨t2, 1, none⟩ (.string n)) t2 kk n ⟨#[]⟩) := Lib.hid (by have := HT7.out; unfold Tb at this ⊢; simp [World.setCell, Array.getElem?_modify, this])
        have HR8 := Lib.hid (HR7.out.other hbt2 1 (.string n))
        have HG8 := Lib.hid (HG7.out.put hwt 1 (.string n))
        have HK8 : Hid (Tb (w7.setCell ⟨t2, 1, none⟩ (.string n)) tb 0 ⟨#[]⟩ ⟨#[]⟩) := Lib.hid ((Below.heap_setCell _ _ _ _ (by simpa using htt)).trans HK7.out)
        obtain ⟨⟨z0, z1, z2⟩, y0, y1, y2⟩ := HT8.out.cells
        obtain ⟨⟨d0, d1, d2⟩, e0, e1, e2⟩ := HK8.out.cells
        go_wp2_with fail
        have hT9 := HK8.out.set3 kk n ⟨#[]⟩
        obtain ⟨⟨z0, z1, z2⟩, -⟩ := hT9.cells
        refine ⟨rfl, tV (kk, n, ⟨#[]⟩), ?_, by rw [HE2.out]; exact ⟨rfl, ((HR8.out.other htb1 0 _).other htb1 1 _).other htb1 2 _⟩, ((HG8.out.put htb2 0 _).put htb2 1 _).put htb2 2 _⟩
        simp [results, Tryz.f156, go_sem, z0, z1, z2, tV]
   · have HE2 : Hid (TP = nT kk (nP s i)) := Lib.hid (by rw [HE.out, if_neg h4, if_neg h23])
     have q2 : (kk == 2) = false := by simp; omega
     have q3 : (kk == 3) = false := by simp; omega
     have HN1 := Lib.hid (HN.out i hi V3 HR3.out)
     obtain ⟨⟨c0, c1, c2⟩, f0, f1, f2⟩ := HT3.out.cells
     clear h23 h4
     go_wp2_with fail
     rw [<- ht2, <- hV3]
     clear hV3 ht2 c0 c1 c2 f0 f1 f2
     refine HN1.out.mono ?_
     rintro e w7 ⟨hr, hg⟩
     have HK7 := Lib.hid (HK3.out.keep htb1 hg)
     have HT7 := Lib.hid (HT3.out.keep hbt2 hg)
     have HG7 := Lib.hid (HG3.out.trans hg)
     clear hg
     cases hnp : nP s i with
     | error k =>
       rw [hnp] at hr HE2
       unfold Rs Mis at hr
       subst hr
       clear hnp
       go_wp2
       exact ⟨rfl, by rw [HE2.out]; rfl, HG7.out⟩
     | ok p =>
       obtain ⟨n, j⟩ := p
       rw [hnp] at hr HE2
       unfold Rs at hr
       obtain ⟨rfl, hr⟩ := hr
       have HR7 := Lib.hid hr
       clear hnp hr
       obtain ⟨⟨c0, c1, c2⟩, f0, f1, f2⟩ := HT7.out.cells
       have HT8 : Hid (Tb (w7.setCell ⟨t2, 1, none⟩ (.string n)) t2 kk n ⟨#[]⟩) := Lib.hid (by have := HT7.out; unfold Tb at this ⊢; simp [World.setCell, Array.getElem?_modify, this])
       have HR8 := Lib.hid (HR7.out.other hbt2 1 (.string n))
       have HG8 := Lib.hid (HG7.out.put hwt 1 (.string n))
       have HK8 : Hid (Tb (w7.setCell ⟨t2, 1, none⟩ (.string n)) tb 0 ⟨#[]⟩ ⟨#[]⟩) := Lib.hid ((Below.heap_setCell _ _ _ _ (by simpa using htt)).trans HK7.out)
       obtain ⟨⟨z0, z1, z2⟩, y0, y1, y2⟩ := HT8.out.cells
       obtain ⟨⟨d0, d1, d2⟩, e0, e1, e2⟩ := HK8.out.cells
       go_wp2_with fail
       have hT9 := HK8.out.set3 kk n ⟨#[]⟩
       obtain ⟨⟨z0, z1, z2⟩, -⟩ := hT9.cells
       refine ⟨rfl, tV (kk, n, ⟨#[]⟩), ?_, by rw [HE2.out]; exact ⟨rfl, ((HR8.out.other htb1 0 _).other htb1 1 _).other htb1 2 _⟩, ((HG8.out.put htb2 0 _).put htb2 1 _).put htb2 2 _⟩
       simp [results, Tryz.f156, go_sem, z0, z1, z2, tV]
end Go.Proofs.YtcndplnnighjkaaGreatDoor.Sx
