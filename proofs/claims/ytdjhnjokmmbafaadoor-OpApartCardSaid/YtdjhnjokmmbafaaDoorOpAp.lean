/-
  The law OpApart: unlike lists of operations have unlike bytes.
-/
import Derived.Test.YtdjhnjokmmbafaaDoorOpZ
namespace Go.Proofs.YtdjhnjokmmbafaaDoor
open Go.ChangeShapes Go.WideShapes Go.ChangeAt Go.RowKit
set_option linter.unusedVariables false
set_option linter.unusedSimpArgs false

theorem encR_bad {l : List Po} (h : (encR l).2 ≠ 0) : (encR l).1 = [] := by
  unfold encR at h ⊢
  split
  · rfl
  · rename_i h20
    rw [if_neg h20] at h
    split
    · rename_i hall
      rw [if_pos hall] at h
      exact absurd rfl h
    · rfl
theorem enc_apart {a b : List Po} (hfa : ∀ o ∈ a, Fit o) (hfb : ∀ o ∈ b, Fit o) (ha : (encR a).2 = 0) (hb : (encR b).2 = 0) : ((ba (encR a).1).toList == (ba (encR b).1).toList) = sameO a b := by
  obtain ⟨a1, a2, a3⟩ := encR_ok ha
  obtain ⟨b1, b2, b3⟩ := encR_ok hb
  rw [a1, b1]
  by_cases h : a = b
  · subst h
    rw [sameO_iff.2 rfl]
    exact str_same rfl
  · have hs : sameO a b = false := Bool.eq_false_iff.2 (fun e => h (sameO_iff.1 e))
    rw [hs]
    refine str_other (fun e => h ?_)
    have e' : encL a = encL b := by
      have := congrArg (fun s : ByteArray => s.data.toList) e
      simpa [ba] using this
    have h1 := decL_enc 20 a a2 (fun o ho => ⟨a3 o ho, hfa o ho⟩)
    have h2 := decL_enc 20 b b2 (fun o ho => ⟨b3 o ho, hfb o ho⟩)
    rw [e', h2] at h1
    exact (Option.some.inj h1).symm
set_option maxRecDepth 100000 in
set_option maxHeartbeats 8000000 in
theorem apart_law (A B : Option Addr) (a b : List Po) (c d : Nat) (w : World) (hA : OL w A a) (hB : OL w B b) (hna : a.length ≤ 9223372036854775807) (hnb : b.length ≤ 9223372036854775807) (hT : TB w) :
    Calls Tryd.prog 8 #[.slice A a.length c, .slice B b.length d] w (GivesV (.bool true) w) := by
  have HT := Lib.hid hT
  have HA := Lib.hid hA
  have HB := Lib.hid hB
  have HBa := Lib.hid (fun (V : World) (hV : Below w.heap.size w V) => bounded_any A a c V (hA.below hV) hna)
  have HBb := Lib.hid (fun (V : World) (hV : Below w.heap.size w V) => bounded_any B b d V (hB.below hV) hnb)
  have HSh := Lib.hid (fun (V : World) (hV : Below w.heap.size w V) => shown_true V (hT.below hV))
  have HEa := Lib.hid (fun (V : World) (hV : Below w.heap.size w V) => encode_any A a c V (hA.below hV) hna (hT.below hV).1)
  have HEb := Lib.hid (fun (V : World) (hV : Below w.heap.size w V) => encode_any B b d V (hB.below hV) hnb (hT.below hV).1)
  have HLa : Hid (bdO a = true → a.length ≤ 25) := Lib.hid (fun h => by rw [bdO, Bool.and_eq_true, decide_eq_true_eq] at h; exact h.2)
  have HLb : Hid (bdO b = true → b.length ≤ 25) := Lib.hid (fun h => by rw [bdO, Bool.and_eq_true, decide_eq_true_eq] at h; exact h.2)
  have HFa := Lib.hid (ol_fit hA)
  have HFb := Lib.hid (ol_fit hB)
  have HIa := Lib.hid (fun (V : World) (hV : Below w.heap.size w V) (h : a.length ≤ 1000) => its_any A a c V (hA.below hV) h)
  have HIb := Lib.hid (fun (V : World) (hV : Below w.heap.size w V) (h : b.length ≤ 1000) => its_any B b d V (hB.below hV) h)
  have HOa := Lib.hid (fun (h : (encR a).2 = 0) => encR_ok h)
  have HOb := Lib.hid (fun (h : (encR b).2 = 0) => encR_ok h)
  have HNa := Lib.hid (fun (h : (encR a).2 ≠ 0) => encR_bad h)
  have HNb := Lib.hid (fun (h : (encR b).2 ≠ 0) => encR_bad h)
  have HAp := Lib.hid (fun (ha : (encR a).2 = 0) (hb : (encR b).2 = 0) => enc_apart (ol_fit hA) (ol_fit hB) ha hb)
  clear hA hB hT
  generalize bdO a = BA at *
  generalize bdO b = BB at *
  obtain ⟨n, hnn⟩ : ∃ n, a.length = n := ⟨_, rfl⟩
  obtain ⟨m, hmm⟩ : ∃ m, b.length = m := ⟨_, rfl⟩
  have HN := Lib.hid hnn
  have HM := Lib.hid hmm
  rw [hnn] at hna HBa HEa HLa ⊢
  rw [hmm] at hnb HBb HEb HLb ⊢
  clear hnn hmm
  go_enter Tryd.func8, Tryd.ntmps8
  go_wp2_with fail
  refine (HBa.out w (Below.refl _ _)).mono ?_
  rintro e w' ⟨rfl, hw⟩
  obtain rfl := hw.symm
  cases BA with
  | false =>
    go_wp2_with fail
    refine (HSh.out w (Below.refl _ _)).mono ?_
    rintro e w1 ⟨rfl, hb⟩
    have HB1 := Lib.hid hb
    clear hb
    go_wp2
    go_ret
    exact ⟨rfl, HB1.out⟩
  | true =>
  have hn25 := HLa.out rfl
  go_wp2_with fail
  refine (HBb.out w (Below.refl _ _)).mono ?_
  rintro e w' ⟨rfl, hw⟩
  obtain rfl := hw.symm
  cases BB with
  | false =>
    go_wp2_with fail
    refine (HSh.out w (Below.refl _ _)).mono ?_
    rintro e w1 ⟨rfl, hb⟩
    have HB1 := Lib.hid hb
    clear hb
    go_wp2
    go_ret
    exact ⟨rfl, HB1.out⟩
  | true =>
  have hm25 := HLb.out rfl
  go_wp2_with fail
  refine (HSh.out w (Below.refl _ _)).mono ?_
  rintro e w2 ⟨rfl, hb⟩
  have HB2 := Lib.hid hb
  clear hb
  go_wp2_with fail
  refine (HEa.out w2 HB2.out).mono ?_
  rintro e w3 ⟨rfl, hb⟩
  have HB3 : Hid (Below w.heap.size w w3) := Lib.hid (HB2.out.trans (hb.mono HB2.out.size))
  clear hb
  go_wp2_with fail
  refine (HEb.out w3 HB3.out).mono ?_
  rintro e w4 ⟨rfl, hb⟩
  have HB4 : Hid (Below w.heap.size w w4) := Lib.hid (HB3.out.trans (hb.mono HB3.out.size))
  clear hb
  have e2 : ba ([] : List UInt8) = ⟨#[]⟩ := rfl
  by_cases ha : (encR a).2 = 0
  · by_cases hb : (encR b).2 = 0
    · have HSm := Lib.hid (HAp.out ha hb)
      have HI5 := Lib.hid (fun (V : World) (hV : Below w4.heap.size w4 V) => HIa.out V (HB4.out.trans (hV.mono HB4.out.size)) (by rw [HN.out]; omega))
      have HIb' := Lib.hid (fun (V : World) (hV : Below w.heap.size w V) => HIb.out V hV (by rw [HM.out]; omega))
      rw [ha, hb]
      obtain ⟨sa, hsa⟩ : ∃ sa, sa = ba (encR a).1 := ⟨_, rfl⟩
      obtain ⟨sb, hsb⟩ : ∃ sb, sb = ba (encR b).1 := ⟨_, rfl⟩
      rw [← hsa, ← hsb] at HSm ⊢
      simp only [HN.out] at HI5
      simp only [HM.out] at HIb'
      clear hsa hsb ha hb e2
      have HSame : Hid (∀ (V : World) (p5 p6 : Option Addr) (c5 c6 : Nat), OL V p5 a → OL V p6 b → Calls Tryd.prog 20 #[.slice p5 n c5, .slice p6 m c6] V (GivesV (.bool (sameO a b)) V)) := Lib.hid (fun V p5 p6 c5 c6 h5 h6 => by
        have := same_any p5 p6 a b c5 c6 V h5 h6 (by rw [HN.out]; omega) (by rw [HM.out]; omega)
        rw [HN.out, HM.out] at this
        exact this)
      have HR5 : Hid (∀ (V : World) (v : Value) (bs : Nat), V.ownsRow bs 29 6 v n (lcells a) → ∃ p cap, v = .slice p n cap ∧ OL V p a) := Lib.hid (fun V v bs h => by
        rw [← HN.out] at h ⊢
        exact ret_slice_len h HFa.out)
      have HR6 : Hid (∀ (V : World) (v : Value) (bs : Nat), V.ownsRow bs 29 6 v m (lcells b) → ∃ p cap, v = .slice p m cap ∧ OL V p b) := Lib.hid (fun V v bs h => by
        rw [← HM.out] at h ⊢
        exact ret_slice_len h HFb.out)
      generalize sameO a b = r at *
      cases r with
      | true =>
        have hsm := HSm.out
        go_wp2_with fail
        refine (HI5.out w4 (Below.refl _ _)).mono ?_
        rintro e w5 ⟨v5, rfl, ho5, hb⟩
        obtain ⟨p5, cap5, rfl, hol5⟩ := HR5.out _ _ _ ho5
        have HOl5 := Lib.hid hol5
        have HB5 : Hid (Below w4.heap.size w4 w5) := Lib.hid hb
        clear ho5 hb hol5
        go_wp2_with fail
        refine (HIb'.out w5 (HB4.out.trans (HB5.out.mono HB4.out.size))).mono ?_
        rintro e w6 ⟨v6, rfl, ho6, hb⟩
        obtain ⟨p6, cap6, rfl, hol6⟩ := HR6.out _ _ _ ho6
        have HOl6 := Lib.hid hol6
        have HOl56 := Lib.hid (HOl5.out.below hb)
        have HB6 : Hid (Below w4.heap.size w4 w6) := Lib.hid (HB5.out.trans (hb.mono HB5.out.size))
        clear ho6 hb hol6
        go_wp2_with fail
        refine (HSame.out w6 p5 p6 cap5 cap6 HOl56.out HOl6.out).mono ?_
        rintro e w7 ⟨rfl, hb⟩
        have HB7 : Hid (Below w4.heap.size w4 w7) := Lib.hid (HB6.out.trans (hb.mono HB6.out.size))
        clear hb
        go_wp2
        go_ret
        exact ⟨rfl, HB4.out.trans (HB7.out.mono HB4.out.size)⟩
      | false =>
        have hsm := HSm.out
        go_wp2_with fail
        refine (HI5.out w4 (Below.refl _ _)).mono ?_
        rintro e w5 ⟨v5, rfl, ho5, hb⟩
        obtain ⟨p5, cap5, rfl, hol5⟩ := HR5.out _ _ _ ho5
        have HOl5 := Lib.hid hol5
        have HB5 : Hid (Below w4.heap.size w4 w5) := Lib.hid hb
        clear ho5 hb hol5
        go_wp2_with fail
        refine (HIb'.out w5 (HB4.out.trans (HB5.out.mono HB4.out.size))).mono ?_
        rintro e w6 ⟨v6, rfl, ho6, hb⟩
        obtain ⟨p6, cap6, rfl, hol6⟩ := HR6.out _ _ _ ho6
        have HOl6 := Lib.hid hol6
        have HOl56 := Lib.hid (HOl5.out.below hb)
        have HB6 : Hid (Below w4.heap.size w4 w6) := Lib.hid (HB5.out.trans (hb.mono HB5.out.size))
        clear ho6 hb hol6
        go_wp2_with fail
        refine (HSame.out w6 p5 p6 cap5 cap6 HOl56.out HOl6.out).mono ?_
        rintro e w7 ⟨rfl, hb⟩
        have HB7 : Hid (Below w4.heap.size w4 w7) := Lib.hid (HB6.out.trans (hb.mono HB6.out.size))
        clear hb
        go_wp2
        go_ret
        exact ⟨rfl, HB4.out.trans (HB7.out.mono HB4.out.size)⟩
    · have hq : ((encR b).2 != 0) = true := by simpa using hb
      have hq2 : ((encR a).2 != 0) = false := by rw [ha]; rfl
      have h1 := HNb.out hb
      rw [h1, ha, e2]
      generalize (encR b).2 = eb at *
      rw [ha] at hq2
      clear h1 ha hb e2
      go_wp2
      go_ret
      exact ⟨rfl, HB4.out⟩
  · have hq : ((encR a).2 != 0) = true := by simpa using ha
    have h1 := HNa.out ha
    rw [h1, e2]
    generalize (encR a).2 = ea at *
    clear h1 ha e2
    go_wp2
    go_ret
    exact ⟨rfl, HB4.out⟩
/-- The law, of what came in. -/
theorem apart_true {H : Type} {enc : TypeId × Value → H} {W : World} {base : Nat} {v0 v1 : Value} {d0 d1 : DataW H} {p0 p1 : List MemPlace} (hm : TB W) (o0 : Value.okWide Tryd.prog W .any base 25 v0) (o1 : Value.okWide Tryd.prog W .any base 25 v1)
    (h0 : DataW.Trod enc Tryd.prog W 0 (fun _ => true) true 25 v0 d0 p0) (h1 : DataW.Trod enc Tryd.prog W 0 (fun _ => true) true 25 v1 d1 p1) (l0 : ∀ x ∈ p0, x.block < W.heap.size) (l1 : ∀ x ∈ p1, x.block < W.heap.size) :
    Calls Tryd.prog 8 #[v0, v1] W fun e w' => e = .returned (.bool true) ∧ Below W.heap.size W w' := by
  obtain ⟨A, c, a, rfl, a1, a2, hA, hA0⟩ := ol_open o0 h0 l0
  obtain ⟨B, d, b, rfl, b1, b2, hB, hB0⟩ := ol_open o1 h1 l1
  exact apart_law A B a b c d W hA hB (Nat.le_trans a1 a2) (Nat.le_trans b1 b2) hm
end Go.Proofs.YtdjhnjokmmbafaaDoor
