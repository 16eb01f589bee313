/-
  The law OpBytes, out of what the document's Decode answers.
-/
import Derived.Test.YtdjhnjokmmbafaaDoorOpZ
import Derived.Test.YtdjhnjokmmbafaaDoorOpSf
namespace Go.Proofs.YtdjhnjokmmbafaaDoor
open Go.ChangeShapes Go.WideShapes Go.ChangeAt Go.RowKit
set_option linter.unusedVariables false
set_option linter.unusedSimpArgs false

set_option maxRecDepth 100000 in
set_option maxHeartbeats 8000000 in
theorem bytes_law (A : Option Addr) (l : List Po) (c : Nat) (S : List UInt8) (w : World) (hA : OL w A l) (hn : l.length ≤ 9223372036854775807) (hT : TB w)
    (hRD : S.length ≤ 400 → ∀ V, Calls Tryd.prog 19 #[.string (ba S)] V (DecT (decL 20 S) V)) :
    Calls Tryd.prog 4 #[.slice A l.length c, .string (ba S)] w (GivesV (.bool true) w) := by
  have HT := Lib.hid hT
  have HA := Lib.hid hA
  have HBa := Lib.hid (bounded_any A l c w hA hn)
  have HSh := Lib.hid (fun (V : World) (hV : Below w.heap.size w V) => shown_true V (hT.below hV))
  have HEa := Lib.hid (fun (V : World) (hV : Below w.heap.size w V) => encode_any A l c V (hA.below hV) hn (hT.below hV).1)
  have HLa : Hid (bdO l = true → l.length ≤ 25) := Lib.hid (fun h => by rw [bdO, Bool.and_eq_true, decide_eq_true_eq] at h; exact h.2)
  have HFit := Lib.hid (ol_fit hA)
  have HIt := Lib.hid (fun (V : World) (hV : Below w.heap.size w V) (h : l.length ≤ 1000) => its_any A l c V (hA.below hV) h)
  have HRD := Lib.hid hRD
  clear hA hT hRD
  generalize bdO l = BA at *
  obtain ⟨T, hTT⟩ : ∃ T, T = ba S := ⟨_, rfl⟩
  have HTT := Lib.hid hTT
  rw [← hTT]
  rw [← hTT] at HRD
  have hTs : (T.size : Int) = (S.length : Int) := by rw [hTT, ba_size]
  have HTs := Lib.hid hTs
  clear hTs hTT
  go_enter Tryd.func4, Tryd.ntmps4
  go_wp2_with fail
  refine HBa.out.mono ?_
  rintro e w' ⟨rfl, hw⟩
  obtain rfl := hw.symm
  cases BA with
  | false =>
    go_wp2_with fail
    refine (HSh.out w (Below.refl _ _)).mono ?_
    rintro e w1 ⟨rfl, hb⟩
    have HB1 := Lib.hid hb
    clear hb
    go_wp2
    go_ret
    exact ⟨rfl, HB1.out⟩
  | true =>
  have hn25 := HLa.out rfl
  by_cases h400 : 400 < S.length
  · have h400' : (400 : Int) < (T.size : Int) := by rw [HTs.out]; omega
    go_wp2_with fail
    refine (HSh.out w (Below.refl _ _)).mono ?_
    rintro e w1 ⟨rfl, hb⟩
    have HB1 := Lib.hid hb
    clear hb
    go_wp2
    go_ret
    exact ⟨rfl, HB1.out⟩
  have h400' : ¬ (400 : Int) < (T.size : Int) := by rw [HTs.out]; omega
  have HRD2 := Lib.hid (HRD.out (by omega))
  have HDs : Hid (∀ V, Below w.heap.size w V → Calls Tryd.prog 18 #[.string T] V (DecT (decL 20 S) V)) := Lib.hid (fun V hV => by
    rw [HTT.out]
    exact decode_any S V (HT.out.below hV).1 (by omega))
  have HFd := Lib.hid (fun (m : List Po) (h : decL 20 S = some m) => enc_decL 20 S m h)
  clear HRD
  go_wp2_with fail
  refine (HSh.out w (Below.refl _ _)).mono ?_
  rintro e w2 ⟨rfl, hb⟩
  have HB2 := Lib.hid hb
  clear hb
  have HRE := Lib.hid (fun (p : Option Addr) (cap : Nat) (V : World) (h : OL V p l) => rencode_any p l cap V h hn)
  obtain ⟨X, hX⟩ : ∃ X, X = ba (encR l).1 := ⟨_, rfl⟩
  obtain ⟨Y, hY⟩ : ∃ Y, Y = (encR l).2 := ⟨_, rfl⟩
  rw [← hX, ← hY] at HRE HEa
  clear hX hY
  go_wp2_with fail
  refine (HEa.out w2 HB2.out).mono ?_
  rintro e w3 ⟨rfl, hb⟩
  have HB3 : Hid (Below w.heap.size w w3) := Lib.hid (HB2.out.trans (hb.mono HB2.out.size))
  clear hb
  have HI4 := Lib.hid (HIt.out w3 HB3.out (by omega))
  go_wp2_with fail
  refine HI4.out.mono ?_
  rintro e w4 ⟨v4, rfl, ho4, hb⟩
  obtain ⟨p4, cap4, rfl, hol4⟩ := ret_slice_len ho4 HFit.out
  have HB4 : Hid (Below w.heap.size w w4) := Lib.hid (HB3.out.trans (hb.mono HB3.out.size))
  have HE5 := Lib.hid (HRE.out p4 cap4 w4 hol4)
  clear hb ho4 hol4 HI4
  go_wp2_with fail
  refine HE5.out.mono ?_
  rintro e w5 ⟨rfl, hb⟩
  have HB5 : Hid (Below w.heap.size w w5) := Lib.hid (HB4.out.trans (hb.mono HB4.out.size))
  clear hb HE5
  have hXX : (X.toList == X.toList) = true := by simp
  have hYY : (Y == Y) = true := by simp
  go_wp2_with fail
  refine (HDs.out w5 HB5.out).mono ?_
  rintro e w6 hD
  have HSm := Lib.hid (fun (m : List Po) => sameO_iff.2 (rfl : m = m))
  cases hd : decL 20 S with
  | none =>
    rw [hd] at hD HRD2
    obtain ⟨rfl, hb⟩ := hD
    have HB6 : Hid (Below w.heap.size w w6) := Lib.hid (HB5.out.trans (hb.mono HB5.out.size))
    clear hb hd
    go_wp2_with fail
    refine (HRD2.out w6).mono ?_
    rintro e w7 ⟨rfl, hb⟩
    have HB7 : Hid (Below w.heap.size w w7) := Lib.hid (HB6.out.trans (hb.mono HB6.out.size))
    clear hb
    have hN : ∀ V, OL V none [] := fun V j o h => by cases h
    have HI8 := Lib.hid (its_any none [] 0 w7 (hN _) (by simp))
    have HNo := Lib.hid hN
    clear hN
    go_wp2_with fail
    refine HI8.out.mono ?_
    rintro e w8 ⟨v8, rfl, ho8, hb⟩
    obtain ⟨p8, cap8, rfl, hol8⟩ := ret_slice_len ho8 (by simp)
    have HB8 : Hid (Below w.heap.size w w8) := Lib.hid (HB7.out.trans (hb.mono HB7.out.size))
    have HS9 := Lib.hid (same_any p8 none [] [] cap8 0 w8 hol8 (HNo.out _) (by simp) (by simp))
    rw [HSm.out] at HS9
    clear hb ho8 hol8 HI8
    go_wp2_with fail
    refine HS9.out.mono ?_
    rintro e w9 ⟨rfl, hb⟩
    have HB9 : Hid (Below w.heap.size w w9) := Lib.hid (HB8.out.trans (hb.mono HB8.out.size))
    clear hb HS9
    go_wp2
    go_ret
    exact ⟨rfl, HB9.out⟩
  | some m =>
    rw [hd] at hD HRD2
    obtain ⟨⟨p6, cap6, rfl, hol6, -⟩, hb⟩ := hD
    obtain ⟨-, hm20, hmf⟩ := HFd.out m hd
    have HB6 : Hid (Below w.heap.size w w6) := Lib.hid (HB5.out.trans (hb.mono HB5.out.size))
    have HOl6 := Lib.hid hol6
    have HMf : Hid (∀ o ∈ m, Fit o) := Lib.hid (fun o ho => (hmf o ho).2)
    clear hb hol6 hd hmf
    go_wp2_with fail
    refine (HRD2.out w6).mono ?_
    rintro e w7 ⟨⟨p7, cap7, rfl, hol7, -⟩, hb⟩
    have HB7 : Hid (Below w.heap.size w w7) := Lib.hid (HB6.out.trans (hb.mono HB6.out.size))
    have HOl67 := Lib.hid (HOl6.out.below hb)
    have HOl7 := Lib.hid hol7
    clear hb hol7
    have HI8 := Lib.hid (its_any p6 m cap6 w7 HOl67.out (by omega))
    go_wp2_with fail
    refine HI8.out.mono ?_
    rintro e w8 ⟨v8, rfl, ho8, hb⟩
    obtain ⟨p8, cap8, rfl, hol8⟩ := ret_slice_len ho8 HMf.out
    have HB8 : Hid (Below w.heap.size w w8) := Lib.hid (HB7.out.trans (hb.mono HB7.out.size))
    have HS9 := Lib.hid (same_any p8 p7 m m cap8 cap7 w8 hol8 (HOl7.out.below hb) (by omega) (by omega))
    rw [HSm.out] at HS9
    clear hb ho8 hol8 HI8
    go_wp2_with fail
    refine HS9.out.mono ?_
    rintro e w9 ⟨rfl, hb⟩
    have HB9 : Hid (Below w.heap.size w w9) := Lib.hid (HB8.out.trans (hb.mono HB8.out.size))
    clear hb HS9
    go_wp2
    go_ret
    exact ⟨rfl, HB9.out⟩
/-- The law, of what came in. -/
theorem bytes_true {H : Type} {enc : TypeId × Value → H} {W : World} {base : Nat} {v0 v1 : Value} {d0 d1 : DataW H} {p0 p1 : List MemPlace} (hm : TB W) (o0 : Value.okWide Tryd.prog W .any base 25 v0) (o1 : Value.okWide Tryd.prog W .any base 9 v1)
    (h0 : DataW.Trod enc Tryd.prog W 0 (fun _ => true) true 25 v0 d0 p0) (h1 : DataW.Trod enc Tryd.prog W 0 (fun _ => true) true 9 v1 d1 p1) (l0 : ∀ x ∈ p0, x.block < W.heap.size) (l1 : ∀ x ∈ p1, x.block < W.heap.size) :
    Calls Tryd.prog 4 #[v0, v1] W fun e w' => e = .returned (.bool true) ∧ Below W.heap.size W w' := by
  obtain ⟨A, c, a, rfl, a1, a2, hA, hA0⟩ := ol_open o0 h0 l0
  obtain ⟨s, rfl⟩ := okWide_string Tryd.underlying9 o1
  exact bytes_law A a c s.data.toList W hA (Nat.le_trans a1 a2) hm (fun h V => rdecode_any s.data.toList V h)
end Go.Proofs.YtdjhnjokmmbafaaDoor
