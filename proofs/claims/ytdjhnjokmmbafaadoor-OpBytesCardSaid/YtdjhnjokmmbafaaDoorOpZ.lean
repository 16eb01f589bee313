/-
  The law OpBack: what is encoded is decoded to the same, and what is decoded encoded.
-/
import Derived.Test.YtdjhnjokmmbafaaDoorOpY
namespace Go.Proofs.YtdjhnjokmmbafaaDoor
open Go.ChangeShapes Go.WideShapes Go.ChangeAt Go.RowKit
set_option linter.unusedVariables false
set_option linter.unusedSimpArgs false

theorem encR_ok {l : List Po} (h : (encR l).2 = 0) : encR l = (encL l, 0) ∧ l.length ≤ 20 ∧ ∀ o ∈ l, mayO o = true := by
  unfold encR at h ⊢
  split at h
  · cases h
  · rename_i h20
    split at h
    · rename_i hall
      rw [if_neg h20, if_pos hall]
      exact ⟨rfl, by omega, fun o ho => List.all_eq_true.1 hall o ho⟩
    · cases h
theorem encR_of {l : List Po} (h1 : l.length ≤ 20) (h2 : ∀ o ∈ l, mayO o = true) : encR l = (encL l, 0) := by
  rw [encR, if_neg (by omega), if_pos (List.all_eq_true.2 h2)]
theorem ret_slice_len {w : World} {base : Nat} {t : TypeId} {v : Value} {l : List Po} (h : w.ownsRow base t 6 v l.length (lcells l)) (hf : ∀ o ∈ l, Fit o) : ∃ p cap, v = .slice p l.length cap ∧ OL w p l := by
  obtain ⟨p, cap, hv, -, -, ho⟩ := own_ol (size := 6) h hf
  exact ⟨p, cap, hv, ho⟩
set_option maxRecDepth 100000 in
set_option maxHeartbeats 8000000 in
theorem back_law (A : Option Addr) (l : List Po) (c : Nat) (S : List UInt8) (w : World) (hA : OL w A l) (hn : l.length ≤ 9223372036854775807) (hT : TB w) :
    Calls Tryd.prog 5 #[.slice A l.length c, .string (ba S)] w (GivesV (.bool true) w) := by
  have HT := Lib.hid hT
  have HA := Lib.hid hA
  have HBa := Lib.hid (bounded_any A l c w hA hn)
  have HSh := Lib.hid (fun (V : World) (hV : Below w.heap.size w V) => shown_true V (hT.below hV))
  have HEa := Lib.hid (fun (V : World) (hV : Below w.heap.size w V) => encode_any A l c V (hA.below hV) hn (hT.below hV).1)
  have HLa : Hid (bdO l = true → l.length ≤ 25) := Lib.hid (fun h => by rw [bdO, Bool.and_eq_true, decide_eq_true_eq] at h; exact h.2)
  have HFit := Lib.hid (ol_fit hA)
  have HIt := Lib.hid (fun (V : World) (hV : Below w.heap.size w V) (h : l.length ≤ 1000) => its_any A l c V (hA.below hV) h)
  have HOk := Lib.hid (fun (h : (encR l).2 = 0) => encR_ok h)
  clear hA hT
  generalize bdO l = BA at *
  obtain ⟨T, hTT⟩ : ∃ T, T = ba S := ⟨_, rfl⟩
  have HTT := Lib.hid hTT
  rw [← hTT]
  have hTs : (T.size : Int) = (S.length : Int) := by rw [hTT, ba_size]
  have HTs := Lib.hid hTs
  clear hTs hTT
  go_enter Tryd.func5, Tryd.ntmps5
  go_wp2_with fail
  refine HBa.out.mono ?_
  rintro e w' ⟨rfl, hw⟩
  obtain rfl := hw.symm
  cases BA with
  | false =>
    go_wp2_with fail
    refine (HSh.out w (Below.refl _ _)).mono ?_
    rintro e w1 ⟨rfl, hb⟩
    have HB1 := Lib.hid hb
    clear hb
    go_wp2
    go_ret
    exact ⟨rfl, HB1.out⟩
  | true =>
  have hn25 := HLa.out rfl
  by_cases h400 : 400 < S.length
  · have h400' : (400 : Int) < (T.size : Int) := by rw [HTs.out]; omega
    go_wp2_with fail
    refine (HSh.out w (Below.refl _ _)).mono ?_
    rintro e w1 ⟨rfl, hb⟩
    have HB1 := Lib.hid hb
    clear hb
    go_wp2
    go_ret
    exact ⟨rfl, HB1.out⟩
  have h400' : ¬ (400 : Int) < (T.size : Int) := by rw [HTs.out]; omega
  go_wp2_with fail
  refine (HSh.out w (Below.refl _ _)).mono ?_
  rintro e w2 ⟨rfl, hb⟩
  have HB2 := Lib.hid hb
  clear hb
  go_wp2_with fail
  refine (HEa.out w2 HB2.out).mono ?_
  rintro e w3 ⟨rfl, hb⟩
  have HB3 : Hid (Below w.heap.size w w3) := Lib.hid (HB2.out.trans (hb.mono HB2.out.size))
  clear hb
  have HDs : Hid (∀ V, Below w.heap.size w V → Calls Tryd.prog 18 #[.string T] V (DecT (decL 20 S) V)) := Lib.hid (fun V hV => by
    rw [HTT.out]
    exact decode_any S V (HT.out.below hV).1 (by omega))
  have HEn := Lib.hid (fun (m : List Po) (h : decL 20 S = some m) => enc_decL 20 S m h)
  by_cases h0 : (encR l).2 = 0
  · obtain ⟨h1, h2, h3⟩ := HOk.out h0
    have HDl : Hid (decL 20 (encL l) = some l) := Lib.hid (decL_enc 20 l h2 (fun o ho => ⟨h3 o ho, HFit.out o ho⟩))
    have hLl := encL_len l (fun o ho => ⟨HFit.out o ho, h3 o ho⟩)
    rw [h1]
    have HDe := Lib.hid (decode_any (encL l) w3 (HT.out.below HB3.out).1 (by omega))
    rw [HDl.out] at HDe
    have HSm : Hid (sameO l l = true) := Lib.hid (sameO_iff.2 rfl)
    clear h0 h1 hLl HDl
    simp only []
    go_wp2_with fail
    refine HDe.out.mono ?_
    rintro e w4 ⟨⟨p4, cap4, rfl, hol4, -⟩, hb⟩
    have HB4 : Hid (Below w.heap.size w w4) := Lib.hid (HB3.out.trans (hb.mono HB3.out.size))
    have HOl4 := Lib.hid hol4
    clear hb hol4 HDe
    have HI5 := Lib.hid (HIt.out w4 HB4.out (by omega))
    go_wp2_with fail
    refine HI5.out.mono ?_
    rintro e w5 ⟨v5, rfl, ho5, hb⟩
    obtain ⟨p5, cap5, rfl, hol5⟩ := ret_slice_len ho5 HFit.out
    have HB5 : Hid (Below w.heap.size w w5) := Lib.hid (HB4.out.trans (hb.mono HB4.out.size))
    have HOl5 := Lib.hid hol5
    have HOl45 := Lib.hid (HOl4.out.below hb)
    clear hb ho5 hol5 HI5
    have HI6 := Lib.hid (its_any p4 l cap4 w5 HOl45.out (by omega))
    go_wp2_with fail
    refine HI6.out.mono ?_
    rintro e w6 ⟨v6, rfl, ho6, hb⟩
    obtain ⟨p6, cap6, rfl, hol6⟩ := ret_slice_len ho6 HFit.out
    have HB6 : Hid (Below w.heap.size w w6) := Lib.hid (HB5.out.trans (hb.mono HB5.out.size))
    have HS6 := Lib.hid (same_any p5 p6 l l cap5 cap6 w6 (HOl5.out.below hb) hol6 (by omega) (by omega))
    rw [HSm.out] at HS6
    clear hb ho6 hol6 HI6
    go_wp2_with fail
    refine HS6.out.mono ?_
    rintro e w7 ⟨rfl, hb⟩
    have HB7 : Hid (Below w.heap.size w w7) := Lib.hid (HB6.out.trans (hb.mono HB6.out.size))
    clear hb HS6
    go_wp2_with fail
    refine (HDs.out w7 HB7.out).mono ?_
    rintro e wd ⟨hm, hb⟩
    have HBd : Hid (Below w.heap.size w wd) := Lib.hid (HB7.out.trans (hb.mono HB7.out.size))
    clear hb
    cases hd : decL 20 S with
    | none =>
      rw [hd] at hm
      obtain rfl : e = .returned (.tuple #[.slice none 0 0, .int .i64 4]) := hm
      clear hd
      go_wp2
      go_ret
      exact ⟨rfl, HBd.out⟩
    | some m =>
      rw [hd] at hm
      obtain ⟨p9, cap9, rfl, hol, hmay⟩ := hm
      obtain ⟨s1, s2, s3⟩ := HEn.out m hd
      have HE9 := Lib.hid (encode_any p9 m cap9 wd hol (by omega) (HT.out.below HBd.out).1)
      rw [encR_of s2 hmay, ← s1] at HE9
      simp only [] at HE9
      rw [← HTT.out] at HE9
      clear hd hol hmay s1 s2 s3
      generalize m.length = mm at *
      go_wp2_with fail
      refine HE9.out.mono ?_
      rintro e we ⟨rfl, hb⟩
      have HBe := Lib.hid (HBd.out.trans (hb.mono HBd.out.size))
      clear hb
      go_wp2
      go_ret
      exact ⟨rfl, HBe.out⟩
  · have hq : ((encR l).2 == 0) = false := by simpa using h0
    generalize (encR l).2 = ea at *
    clear h0
    go_wp2_with fail
    refine (HDs.out w3 HB3.out).mono ?_
    rintro e wd ⟨hm, hb⟩
    have HBd : Hid (Below w.heap.size w wd) := Lib.hid (HB3.out.trans (hb.mono HB3.out.size))
    clear hb
    cases hd : decL 20 S with
    | none =>
      rw [hd] at hm
      obtain rfl : e = .returned (.tuple #[.slice none 0 0, .int .i64 4]) := hm
      clear hd
      go_wp2
      go_ret
      exact ⟨rfl, HBd.out⟩
    | some m =>
      rw [hd] at hm
      obtain ⟨p9, cap9, rfl, hol, hmay⟩ := hm
      obtain ⟨s1, s2, s3⟩ := HEn.out m hd
      have HE9 := Lib.hid (encode_any p9 m cap9 wd hol (by omega) (HT.out.below HBd.out).1)
      rw [encR_of s2 hmay, ← s1] at HE9
      simp only [] at HE9
      rw [← HTT.out] at HE9
      clear hd hol hmay s1 s2 s3
      generalize m.length = mm at *
      go_wp2_with fail
      refine HE9.out.mono ?_
      rintro e we ⟨rfl, hb⟩
      have HBe := Lib.hid (HBd.out.trans (hb.mono HBd.out.size))
      clear hb
      go_wp2
      go_ret
      exact ⟨rfl, HBe.out⟩
/-- The law, of what came in. -/
theorem back_true {H : Type} {enc : TypeId × Value → H} {W : World} {base : Nat} {v0 v1 : Value} {d0 d1 : DataW H} {p0 p1 : List MemPlace} (hm : TB W) (o0 : Value.okWide Tryd.prog W .any base 25 v0) (o1 : Value.okWide Tryd.prog W .any base 9 v1)
    (h0 : DataW.Trod enc Tryd.prog W 0 (fun _ => true) true 25 v0 d0 p0) (h1 : DataW.Trod enc Tryd.prog W 0 (fun _ => true) true 9 v1 d1 p1) (l0 : ∀ x ∈ p0, x.block < W.heap.size) (l1 : ∀ x ∈ p1, x.block < W.heap.size) :
    Calls Tryd.prog 5 #[v0, v1] W fun e w' => e = .returned (.bool true) ∧ Below W.heap.size W w' := by
  obtain ⟨A, c, a, rfl, a1, a2, hA, hA0⟩ := ol_open o0 h0 l0
  obtain ⟨s, rfl⟩ := okWide_string Tryd.underlying9 o1
  exact back_law A a c s.data.toList W hA (Nat.le_trans a1 a2) hm
end Go.Proofs.YtdjhnjokmmbafaaDoor
