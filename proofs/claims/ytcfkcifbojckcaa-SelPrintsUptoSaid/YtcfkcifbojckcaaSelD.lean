/-
  The reader's name and value.
-/
import Derived.Test.YtcfkcifbojckcaaSelC
namespace Go.Proofs.Ytcfkcifbojckcaa
open Go.ChangeShapes Go.WideShapes Go.ChangeAt Go.RowKit
open Go.PlainAid (bt)
set_option linter.unusedVariables false
set_option linter.unusedSimpArgs false

/-- What a call of the reader's comes to: a value, and where it stands then; or the place of what can not stand there. -/
def Rs {α : Type} (r : Except Nat (α × Nat)) (val : α → Value) (b : Nat) (s : ByteArray) (e : Ending) (w' : World) : Prop := match r with
  | .ok (x, j) => e = .returned (val x) ∧ Rr w' b s j
  | .error k => Mis e k
def nP (s : ByteArray) (i : Nat) : Except Nat (ByteArray × Nat) := if bL (lk s i) = true then .ok (s.extract i (me bN s 20 i), me bN s 20 i) else .error i
theorem nP_le {s : ByteArray} {i : Nat} (hi : i ≤ s.size) {n : ByteArray} {j : Nat} (h : nP s i = .ok (n, j)) : i ≤ j ∧ j ≤ s.size ∧ i < j := by
  unfold nP at h
  split at h
  · rename_i hl
    cases h
    have := me_le bN (by decide) s 20 i hi
    have h2 : i < me bN s 20 i := by
      have hn : bN (lk s i) = true := by
        revert hl
        simp [bL, bN]
        omega
      have hlt : i < s.size := lk_lt (fun e => by rw [e] at hn; revert hn; decide)
      have := me_le bN (by decide) s 19 (i + 1) hlt
      rw [me, if_pos hn]
      omega
    omega
  · cases h
theorem sel_name (b : Nat) (s : ByteArray) (i : Nat) (w : World) (h : Rr w b s i) (hi : i ≤ s.size) (hs : s.size ≤ 4000000) : Calls Try.prog 54 #[.pointer (some ⟨b, 0, none⟩)] w fun e w' => Rs (nP s i) Value.string b s e w' ∧ Gr b w w' := by
  have HL := Lib.hid (sel_look b s i w h hi hs)
  have HI := Lib.hid (fun (c : Int) (V : World) => sel_isLetter c V)
  have HN := Lib.hid (fun (t : Bool) (V : World) (hV : Below w.heap.size w V) => sel_need b s i t V (h.below hV) hi hs)
  have HM := Lib.hid (fun (V : World) (hV : Below w.heap.size w V) => most_names b s i 20 V (h.below hV) hi hs (by omega))
  clear h
  unfold nP
  generalize me bN s 20 i = j at *
  generalize lk s i = c at *
  rcases Bool.eq_false_or_eq_true (bL c) with hc | hc
  · simp only [hc, if_true, Rs]
    go_enter Try.func54, Try.ntmps54
    go_wp2_with fail
    refine HL.out.mono ?_
    rintro e w1 ⟨rfl, hb⟩
    have HB1 := Lib.hid hb
    clear hb
    go_wp2_with fail
    refine (HI.out c w1).mono ?_
    rintro e w2 ⟨rfl, rfl⟩
    rw [hc]
    go_wp2_with fail
    refine (HN.out true w1 HB1.out).mono ?_
    rintro e w2 ⟨he, hb⟩
    rw [if_pos rfl] at he
    subst he
    have HB2 := Lib.hid (HB1.out.trans (hb.mono HB1.out.size))
    clear hb
    go_wp2_with fail
    refine (HM.out w2 HB2.out).mono ?_
    rintro e w3 ⟨rfl, hr, hg⟩
    have HR3 := Lib.hid hr
    have HG3 := Lib.hid ((Gr.of HB2.out).trans hg)
    clear hr hg
    go_wp2
    go_ret
    exact ⟨⟨rfl, HR3.out⟩, HG3.out⟩
  · have hc' : ¬ bL c = true := by simp [hc]
    simp only [if_neg hc', Rs]
    go_enter Try.func54, Try.ntmps54
    go_wp2_with fail
    refine HL.out.mono ?_
    rintro e w1 ⟨rfl, hb⟩
    have HB1 := Lib.hid hb
    clear hb
    go_wp2_with fail
    refine (HI.out c w1).mono ?_
    rintro e w2 ⟨rfl, rfl⟩
    rw [hc]
    go_wp2_with fail
    refine (HN.out false w1 HB1.out).mono ?_
    rintro e w2 ⟨he, hb⟩
    rw [if_neg (by simp)] at he
    unfold Mis at he
    subst he
    have HB2 := Lib.hid (HB1.out.trans (hb.mono HB1.out.size))
    clear hb
    go_wp2
    exact ⟨rfl, rfl, Gr.of HB2.out⟩
def vP (s : ByteArray) (i : Nat) : Except Nat (ByteArray × Nat) :=
  if lk s i = 34 then (if lk s (me bS s 60 (i + 1)) = 34 then .ok (s.extract (i + 1) (me bS s 60 (i + 1)), me bS s 60 (i + 1) + 1) else .error (me bS s 60 (i + 1))) else nP s i
theorem vP_le {s : ByteArray} {i : Nat} (hi : i ≤ s.size) {n : ByteArray} {j : Nat} (h : vP s i = .ok (n, j)) : i ≤ j ∧ j ≤ s.size := by
  unfold vP at h
  split at h
  · rename_i h1
    have hlt : i < s.size := lk_lt (by rw [h1]; decide)
    have := me_le bS (by decide) s 60 (i + 1) hlt
    split at h
    · rename_i h2
      have hlt2 : me bS s 60 (i + 1) < s.size := lk_lt (by rw [h2]; decide)
      cases h
      omega
    · cases h
  · have := nP_le hi h
    omega
set_option maxHeartbeats 1000000 in
theorem sel_value (b : Nat) (s : ByteArray) (i : Nat) (w : World) (h : Rr w b s i) (hi : i ≤ s.size) (hs : s.size ≤ 4000000) : Calls Try.prog 56 #[.pointer (some ⟨b, 0, none⟩)] w fun e w' => Rs (vP s i) Value.string b s e w' ∧ Gr b w w' := by
  have HL := Lib.hid (sel_look b s i w h hi hs)
  have HR := Lib.hid (fun (V : World) (hV : Below w.heap.size w V) => h.below hV)
  have HN := Lib.hid (fun (V : World) (hV : Below w.heap.size w V) => sel_name b s i V (h.below hV) hi hs)
  unfold vP
  by_cases hc : lk s i = 34
  · have hlt : i < s.size := lk_lt (by rw [hc]; decide)
    have hme := me_le bS (by decide) s 60 (i + 1) hlt
    have HM := Lib.hid (fun (V : World) (hV : Rr V b s (i + 1)) => most_strings b s (i + 1) 60 V hV hlt hs (by omega))
    have HT := Lib.hid (fun (V : World) (hV : Rr V b s (me bS s 60 (i + 1))) => sel_take b s (me bS s 60 (i + 1)) 34 V hV hme.2.1 hs (by decide))
    have q1 : (lk s i != 34) = false := by simp [hc]
    simp only [if_pos hc]
    generalize me bS s 60 (i + 1) = j at *
    generalize lk s i = c at *
    subst hc
    clear h q1
    by_cases hd : lk s j = 34
    · simp only [if_pos hd, Rs] at HT ⊢
      clear hd hme
      go_enter Try.func56, Try.ntmps56
      go_wp2_with fail
      refine HL.out.mono ?_
      rintro e w1 ⟨rfl, hb⟩
      have HB1 := Lib.hid hb
      clear hb
      obtain ⟨c0, c1, f0, f1⟩ := (HR.out w1 HB1.out).cells
      go_wp2_with fail
      have hR2 : Rr (w1.setCell ⟨b, 1, none⟩ (.int .i64 ((i : Int) + 1))) b s (i + 1) := by have := (HR.out w1 HB1.out).set (i + 1); simpa using this
      have HG2 : Hid (Gr b w (w1.setCell ⟨b, 1, none⟩ (.int .i64 ((i : Int) + 1)))) := Lib.hid ((Gr.of HB1.out).trans (Gr.set b 1 w1 _))
      refine (HM.out _ hR2).mono ?_
      rintro e w3 ⟨rfl, hr, hg⟩
      have HR3 := Lib.hid hr
      have HG3 := Lib.hid (HG2.out.trans hg)
      clear hr hg hR2 c0 c1 f0 f1
      go_wp2_with fail
      refine (HT.out w3 HR3.out).mono ?_
      rintro e w4 ⟨⟨rfl, hr⟩, hg⟩
      have HR4 := Lib.hid hr
      have HG4 := Lib.hid (HG3.out.trans hg)
      clear hr hg
      go_wp2
      go_ret
      exact ⟨⟨rfl, HR4.out⟩, HG4.out⟩
    · simp only [if_neg hd, Rs] at HT ⊢
      clear hd hme
      go_enter Try.func56, Try.ntmps56
      go_wp2_with fail
      refine HL.out.mono ?_
      rintro e w1 ⟨rfl, hb⟩
      have HB1 := Lib.hid hb
      clear hb
      obtain ⟨c0, c1, f0, f1⟩ := (HR.out w1 HB1.out).cells
      go_wp2_with fail
      have hR2 : Rr (w1.setCell ⟨b, 1, none⟩ (.int .i64 ((i : Int) + 1))) b s (i + 1) := by have := (HR.out w1 HB1.out).set (i + 1); simpa using this
      have HG2 : Hid (Gr b w (w1.setCell ⟨b, 1, none⟩ (.int .i64 ((i : Int) + 1)))) := Lib.hid ((Gr.of HB1.out).trans (Gr.set b 1 w1 _))
      refine (HM.out _ hR2).mono ?_
      rintro e w3 ⟨rfl, hr, hg⟩
      have HR3 := Lib.hid hr
      have HG3 := Lib.hid (HG2.out.trans hg)
      clear hr hg hR2 c0 c1 f0 f1
      go_wp2_with fail
      refine (HT.out w3 HR3.out).mono ?_
      rintro e w4 ⟨he, hg⟩
      unfold Mis at he
      subst he
      have HG4 := Lib.hid (HG3.out.trans hg)
      clear hg
      go_wp2
      exact ⟨rfl, rfl, HG4.out⟩
  · have q1 : (lk s i != 34) = true := by simp [hc]
    simp only [if_neg hc]
    generalize lk s i = c at *
    clear hc h
    cases hr : nP s i with
    | ok p =>
      obtain ⟨n, j⟩ := p
      rw [hr] at HN
      simp only [Rs] at HN ⊢
      go_enter Try.func56, Try.ntmps56
      go_wp2_with fail
      refine HL.out.mono ?_
      rintro e w1 ⟨rfl, hb⟩
      have HB1 := Lib.hid hb
      clear hb
      go_wp2_with fail
      refine (HN.out w1 HB1.out).mono ?_
      rintro e w2 ⟨⟨rfl, hr⟩, hg⟩
      have HR3 := Lib.hid hr
      have HG3 := Lib.hid ((Gr.of HB1.out).trans hg)
      clear hr hg
      go_wp2
      go_ret
      exact ⟨⟨rfl, HR3.out⟩, HG3.out⟩
    | error k =>
      rw [hr] at HN
      simp only [Rs] at HN ⊢
      go_enter Try.func56, Try.ntmps56
      go_wp2_with fail
      refine HL.out.mono ?_
      rintro e w1 ⟨rfl, hb⟩
      have HB1 := Lib.hid hb
      clear hb
      go_wp2_with fail
      refine (HN.out w1 HB1.out).mono ?_
      rintro e w2 ⟨he, hg⟩
      unfold Mis at he
      subst he
      have HG3 := Lib.hid ((Gr.of HB1.out).trans hg)
      clear hg
      go_wp2
      exact ⟨rfl, rfl, HG3.out⟩
end Go.Proofs.Ytcfkcifbojckcaa
