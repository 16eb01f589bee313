/-
  The reader's most, at its two tests: the bytes of a name, of a string.
-/
import Derived.Test.YtcfkcifbojckcaaSelB
import Derived.Laws.Strings2
namespace Go.Proofs.Ytcfkcifbojckcaa
open Go.ChangeShapes Go.WideShapes Go.ChangeAt Go.RowKit
open Go.PlainAid (bt)
set_option linter.unusedVariables false
set_option linter.unusedSimpArgs false

/-- Where the bytes that are so end, from i on, m at most. -/
def me (p : Int → Bool) (s : ByteArray) : Nat → Nat → Nat
  | 0, i => i
  | m + 1, i => if p (lk s i) = true then me p s m (i + 1) else i
theorem ret_str {a b : ByteArray} (h : a = b) : Ending.returned (.string a) = .returned (.string b) := by rw [h]
theorem cut_str (s : ByteArray) (i j : Nat) (h1 : i ≤ j) (h2 : j ≤ s.size) (x y : Int) (hx : x = i) (hy : y = j) (W : World) : Sem.run Try.prog (Instr.slice 9 (.string s) (some (.int .i64 x)) (some (.int .i64 y)) none) W = .ok (.string (s.extract i j)) W := by
  subst hx hy
  rw [Go.run_slice_string W 9 s .i64 .i64 _ _ Try.underlying9 (by omega) (by omega) (by omega)]
  simp
theorem me_le (p : Int → Bool) (hp : p (-1) = false) (s : ByteArray) : ∀ (m i : Nat), i ≤ s.size → i ≤ me p s m i ∧ me p s m i ≤ s.size ∧ me p s m i ≤ i + m := by
  intro m
  induction m with
  | zero => intro i hi; simp [me, hi]
  | succ m ih =>
    intro i hi
    rw [me]
    split
    · rename_i h
      have hlt : i < s.size := lk_lt (fun e => by rw [e, hp] at h; cases h)
      have := ih (i + 1) hlt
      omega
    · omega
set_option maxHeartbeats 1000000 in
theorem most_names (b : Nat) (s : ByteArray) (i m : Nat) (w : World) (h : Rr w b s i) (hi : i ≤ s.size) (hs : s.size ≤ 4000000) (hm : m ≤ 1000) : Calls Try.prog 57 #[.pointer (some ⟨b, 0, none⟩), .int .i64 m, .func (.func 58) #[] #[]] w fun e w' => e = .returned (.string (s.extract i (me bN s m i))) ∧ Rr w' b s (me bN s m i) ∧ Gr b w w' := by
  have HL := Lib.hid (fun (V : World) (k : Nat) (hV : Rr V b s k) (hk : k ≤ s.size) => sel_look b s k V hV hk hs)
  have HB := Lib.hid (fun (c : Int) (V : World) => sel_isNameByte c V)
  obtain ⟨c0, c1, f0, f1⟩ := h.cells
  have HR := Lib.hid h
  have hsz := me_le bN (by decide) s m i hi
  obtain ⟨q, hq⟩ : ∃ q, me bN s m i = q := ⟨_, rfl⟩
  have HQ := Lib.hid hq
  rw [hq] at hsz
  simp only [hq]
  have HSZ := Lib.hid hsz
  clear h hq hsz
  go_enter Try.func57, Try.ntmps57
  go_wp2
  go_loopw [] (fun wr => ∃ (V : World) (k d : Nat), V = wr ∧ k ≤ s.size ∧ k = i + d ∧ d ≤ m ∧ Hid (me bN s (m - d) k = q) ∧ Hid (Rr V b s k) ∧ Hid (Gr b w V)) (fun wr => s.size - atOf b wr)
  case atStart => exact ⟨_, i, 0, rfl, hi, rfl, Nat.zero_le _, HQ, HR, Lib.hid (Gr.refl _ _)⟩
  case round =>
    obtain ⟨V, k, d, rfl, hk, rfl, hd, HK, HV, HG⟩ := hrel
    obtain ⟨x0, x1, x2, x3⟩ := HV.out.cells
    have hcut : ∀ W, Sem.run Try.prog (Instr.slice 9 (.string s) (some (.int .i64 (i : Int))) (some (.int .i64 ((i : Int) + (d : Int)))) none) W = .ok (.string (s.extract i (i + d))) W := fun W => cut_str s i (i + d) (by omega) hk _ _ rfl (by omega) W
    have hw1 : IntKind.i64.wrap (((i + d : Nat) : Int) - (i : Int)) = (d : Int) := by rw [IntKind.wrap_i64]; omega
    have hw2 : (((i + d : Nat) : Int) - (i : Int)) = (d : Int) := by omega
    by_cases hlt : d < m
    · have q1 : decide ((d : Int) < (m : Int)) = true := by simp; omega
      have HL1 := Lib.hid (HL.out V (i + d) HV.out hk)
      have HB1 := Lib.hid (fun (W : World) => HB.out (lk s (i + d)) W)
      obtain ⟨m', hm'⟩ : ∃ m', m - d = m' + 1 := ⟨m - d - 1, by omega⟩
      have HK1 := HK.out
      rw [hm', me] at HK1
      have HM := Lib.hid HV.out.atOf
      rcases Bool.eq_false_or_eq_true (bN (lk s (i + d))) with hb | hb
      · rw [if_pos hb] at HK1
        have hin : i + d < s.size := lk_lt (fun e => by rw [e] at hb; revert hb; decide)
        have HK2 : Hid (me bN s (m - (d + 1)) (i + d + 1) = q) := Lib.hid (by rw [show m - (d + 1) = m' by omega]; exact HK1)
        rw [hb] at HB1
        generalize lk s (i + d) = c at *
        clear hb HK1 hm'
        go_wp2_with fail
        refine HL1.out.mono ?_
        rintro e w1 ⟨rfl, hb⟩
        have HV1 := Lib.hid (HV.out.below hb)
        have HG1 := Lib.hid (HG.out.trans (Gr.of hb))
        clear hb x0 x1 x2 x3
        obtain ⟨x0, x1, x2, x3⟩ := HV1.out.cells
        go_wp2_with fail
        refine (HB1.out w1).mono ?_
        rintro e w2 ⟨rfl, rfl⟩
        go_wp2
        go_roundw
        case rel => exact ⟨_, i + d + 1, d + 1, rfl, by omega, by omega, by omega, HK2, Lib.hid (by have := HV1.out.set (i + d + 1); simpa using this), Lib.hid (HG1.out.trans (Gr.set b 1 w1 _))⟩
        case measure =>
          rw [HM.out]
          have := (HV1.out.set (i + d + 1)).atOf
          simp only [Int.natCast_add, Int.cast_ofNat_Int] at this ⊢
          rw [this]
          omega
      · rw [if_neg (by rw [hb]; simp)] at HK1
        rw [hb] at HB1
        generalize lk s (i + d) = c at *
        clear hb hm'
        subst HK1
        go_wp2_with fail
        refine HL1.out.mono ?_
        rintro e w1 ⟨rfl, hb⟩
        have HV1 := Lib.hid (HV.out.below hb)
        have HG1 := Lib.hid (HG.out.trans (Gr.of hb))
        clear hb x0 x1 x2 x3
        obtain ⟨x0, x1, x2, x3⟩ := HV1.out.cells
        go_wp2_with fail
        refine (HB1.out w1).mono ?_
        rintro e w2 ⟨rfl, rfl⟩
        go_wp2
        go_region
        all_goals
          go_wp2
          go_ret
          exact ⟨ret_str (by congr 1), HV1.out.below ((Below.refl _ _).drew), HG1.out.trans (Gr.of ((Below.refl _ _).drew))⟩
    · have q1 : decide ((d : Int) < (m : Int)) = false := by simp; omega
      have hqk : q = i + d := by rw [← HK.out, show m - d = 0 by omega, me]
      subst hqk
      go_wp2
      go_region
      all_goals
        go_wp2
        go_ret
        exact ⟨ret_str (by congr 1), HV.out.below ((Below.refl _ _).drew), HG.out.trans (Gr.of ((Below.refl _ _).drew))⟩
set_option maxHeartbeats 1000000 in
theorem most_strings (b : Nat) (s : ByteArray) (i m : Nat) (w : World) (h : Rr w b s i) (hi : i ≤ s.size) (hs : s.size ≤ 4000000) (hm : m ≤ 1000) : Calls Try.prog 57 #[.pointer (some ⟨b, 0, none⟩), .int .i64 m, .func (.func 59) #[] #[]] w fun e w' => e = .returned (.string (s.extract i (me bS s m i))) ∧ Rr w' b s (me bS s m i) ∧ Gr b w w' := by
  have HL := Lib.hid (fun (V : World) (k : Nat) (hV : Rr V b s k) (hk : k ≤ s.size) => sel_look b s k V hV hk hs)
  have HB := Lib.hid (fun (c : Int) (V : World) => sel_isStringByte c V)
  obtain ⟨c0, c1, f0, f1⟩ := h.cells
  have HR := Lib.hid h
  have hsz := me_le bS (by decide) s m i hi
  obtain ⟨q, hq⟩ : ∃ q, me bS s m i = q := ⟨_, rfl⟩
  have HQ := Lib.hid hq
  rw [hq] at hsz
  simp only [hq]
  have HSZ := Lib.hid hsz
  clear h hq hsz
  go_enter Try.func57, Try.ntmps57
  go_wp2
  go_loopw [] (fun wr => ∃ (V : World) (k d : Nat), V = wr ∧ k ≤ s.size ∧ k = i + d ∧ d ≤ m ∧ Hid (me bS s (m - d) k = q) ∧ Hid (Rr V b s k) ∧ Hid (Gr b w V)) (fun wr => s.size - atOf b wr)
  case atStart => exact ⟨_, i, 0, rfl, hi, rfl, Nat.zero_le _, HQ, HR, Lib.hid (Gr.refl _ _)⟩
  case round =>
    obtain ⟨V, k, d, rfl, hk, rfl, hd, HK, HV, HG⟩ := hrel
    obtain ⟨x0, x1, x2, x3⟩ := HV.out.cells
    have hcut : ∀ W, Sem.run Try.prog (Instr.slice 9 (.string s) (some (.int .i64 (i : Int))) (some (.int .i64 ((i : Int) + (d : Int)))) none) W = .ok (.string (s.extract i (i + d))) W := fun W => cut_str s i (i + d) (by omega) hk _ _ rfl (by omega) W
    have hw1 : IntKind.i64.wrap (((i + d : Nat) : Int) - (i : Int)) = (d : Int) := by rw [IntKind.wrap_i64]; omega
    have hw2 : (((i + d : Nat) : Int) - (i : Int)) = (d : Int) := by omega
    by_cases hlt : d < m
    · have q1 : decide ((d : Int) < (m : Int)) = true := by simp; omega
      have HL1 := Lib.hid (HL.out V (i + d) HV.out hk)
      have HB1 := Lib.hid (fun (W : World) => HB.out (lk s (i + d)) W)
      obtain ⟨m', hm'⟩ : ∃ m', m - d = m' + 1 := ⟨m - d - 1, by omega⟩
      have HK1 := HK.out
      rw [hm', me] at HK1
      have HM := Lib.hid HV.out.atOf
      rcases Bool.eq_false_or_eq_true (bS (lk s (i + d))) with hb | hb
      · rw [if_pos hb] at HK1
        have hin : i + d < s.size := lk_lt (fun e => by rw [e] at hb; revert hb; decide)
        have HK2 : Hid (me bS s (m - (d + 1)) (i + d + 1) = q) := Lib.hid (by rw [show m - (d + 1) = m' by omega]; exact HK1)
        rw [hb] at HB1
        generalize lk s (i + d) = c at *
        clear hb HK1 hm'
        go_wp2_with fail
        refine HL1.out.mono ?_
        rintro e w1 ⟨rfl, hb⟩
        have HV1 := Lib.hid (HV.out.below hb)
        have HG1 := Lib.hid (HG.out.trans (Gr.of hb))
        clear hb x0 x1 x2 x3
        obtain ⟨x0, x1, x2, x3⟩ := HV1.out.cells
        go_wp2_with fail
        refine (HB1.out w1).mono ?_
        rintro e w2 ⟨rfl, rfl⟩
        go_wp2
        go_roundw
        case rel => exact ⟨_, i + d + 1, d + 1, rfl, by omega, by omega, by omega, HK2, Lib.hid (by have := HV1.out.set (i + d + 1); simpa using this), Lib.hid (HG1.out.trans (Gr.set b 1 w1 _))⟩
        case measure =>
          rw [HM.out]
          have := (HV1.out.set (i + d + 1)).atOf
          simp only [Int.natCast_add, Int.cast_ofNat_Int] at this ⊢
          rw [this]
          omega
      · rw [if_neg (by rw [hb]; simp)] at HK1
        rw [hb] at HB1
        generalize lk s (i + d) = c at *
        clear hb hm'
        subst HK1
        go_wp2_with fail
        refine HL1.out.mono ?_
        rintro e w1 ⟨rfl, hb⟩
        have HV1 := Lib.hid (HV.out.below hb)
        have HG1 := Lib.hid (HG.out.trans (Gr.of hb))
        clear hb x0 x1 x2 x3
        obtain ⟨x0, x1, x2, x3⟩ := HV1.out.cells
        go_wp2_with fail
        refine (HB1.out w1).mono ?_
        rintro e w2 ⟨rfl, rfl⟩
        go_wp2
        go_region
        all_goals
          go_wp2
          go_ret
          exact ⟨ret_str (by congr 1), HV1.out.below ((Below.refl _ _).drew), HG1.out.trans (Gr.of ((Below.refl _ _).drew))⟩
    · have q1 : decide ((d : Int) < (m : Int)) = false := by simp; omega
      have hqk : q = i + d := by rw [← HK.out, show m - d = 0 by omega, me]
      subst hqk
      go_wp2
      go_region
      all_goals
        go_wp2
        go_ret
        exact ⟨ret_str (by congr 1), HV.out.below ((Below.refl _ _).drew), HG.out.trans (Gr.of ((Below.refl _ _).drew))⟩
end Go.Proofs.Ytcfkcifbojckcaa
