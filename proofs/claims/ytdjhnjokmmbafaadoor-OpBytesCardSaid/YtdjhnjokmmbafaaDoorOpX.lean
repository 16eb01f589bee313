/-
  The law OpJoins: the bytes of two lists, one behind the other, are both bytes.
-/
import Derived.Test.YtdjhnjokmmbafaaDoorOpU
import Derived.Laws.AppendOwnNone
namespace Go.Proofs.YtdjhnjokmmbafaaDoor
open Go.ChangeShapes Go.WideShapes Go.ChangeAt Go.RowKit
set_option linter.unusedVariables false
set_option linter.unusedSimpArgs false

theorem enc_joins {a b : List Po} (h : a.length + b.length ≤ 20) : encR (a ++ b) = if (encR a).2 = 0 ∧ (encR b).2 = 0 then ((encR a).1 ++ (encR b).1, 0) else ([], 1) := by
  have ha : encR a = if a.all mayO then (encL a, 0) else ([], 1) := by rw [encR, if_neg (by omega)]
  have hb : encR b = if b.all mayO then (encL b, 0) else ([], 1) := by rw [encR, if_neg (by omega)]
  rw [ha, hb, encR, if_neg (by rw [List.length_append]; omega), List.all_append]
  cases a.all mayO <;> cases b.all mayO <;> simp [encL]
theorem encR_err (a : List Po) : (encR a).2 = 0 ∨ (encR a).2 = 1 ∨ (encR a).2 = 2 := by
  unfold encR
  split
  · exact .inr (.inr rfl)
  · split
    · exact .inl rfl
    · exact .inr (.inl rfl)
theorem encR_small {a : List Po} (h : a.length ≤ 20) : (encR a).2 = 0 ∨ (encR a).2 = 1 := by
  unfold encR
  rw [if_neg (by omega)]
  split
  · exact .inl rfl
  · exact .inr rfl
theorem fit_len (o : Po) (hf : Fit o) (h : mayO o = true) : (enc o).length ≤ 1000 := by
  obtain ⟨m1, m2, m3, m4, m5, m6, m7, m8⟩ := mayO_parts h
  have a1 := nb_length hf.i
  have a2 := nb_length hf.t
  have a3 := nb_length hf.a
  have a4 := tx_length o.name
  have a5 := tx_length o.text
  have key : ∀ (b : Bool) (l : List UInt8), (opt b l).length ≤ l.length := fun b l => by cases b <;> simp [opt]
  have b1 := key (hasI o.kind) (nb o.id)
  have b2 := key (hasT o.kind) (nb o.dst)
  have b3 := key (hasT o.kind) (nb o.pos)
  have b4 := key (hasN o.kind) (tx o.name)
  have b5 := key (hasX o.kind) (tx o.text)
  rw [enc, List.length_cons]
  simp only [List.length_append]
  omega
theorem encL_len : ∀ (l : List Po), (∀ o ∈ l, Fit o ∧ mayO o = true) → (encL l).length ≤ 1000 * l.length
  | [], _ => by simp [encL]
  | o :: l, h => by
    have h1 := fit_len o (h o (by simp)).1 (h o (by simp)).2
    have h2 := encL_len l (fun x hx => h x (by simp [hx]))
    have e : encL (o :: l) = enc o ++ encL l := List.flatMap_cons
    rw [e, List.length_append, List.length_cons]
    omega
theorem encR_len {l : List Po} (h : ∀ o ∈ l, Fit o) : (encR l).1.length ≤ 20000 := by
  unfold encR
  split
  · simp
  · rename_i h20
    split
    · rename_i hall
      have := encL_len l (fun o ho => ⟨h o ho, List.all_eq_true.1 hall o ho⟩)
      simp only []
      omega
    · simp
theorem ol_fit {w : World} {A : Option Addr} {l : List Po} (h : OL w A l) : ∀ o ∈ l, Fit o := fun o ho => by
  obtain ⟨i, hi⟩ := List.mem_iff_getElem?.1 ho
  exact (h i o hi).1
theorem ol_cells {w : World} {g off : Nat} {l : List Po} (h : OL w (some ⟨g, off, none⟩) l) : ∀ j u, (lcells l)[j]? = some u → w.cell? ((⟨g, off, none⟩ : Addr).add j) = some u := fun j u hu => by
  rw [add_plain]
  refine rowo_cells (fun i p hp => ?_) j u hu
  obtain ⟨-, g', o', hA, -, hc⟩ := h i p hp
  cases hA
  exact hc
/-- append of operations that can be read, to an own row. -/
theorem append_ol {w : World} {ops : Array Oper} {rest : List Oper} {o : Oper} {act : Act} {Q : Exit → Act → World → Prop} (hgd : o.guard = none) (s x : Operand)
    (ho : o.op = .call { callee := .builtin .append, args := #[s, x], argTypes := #[25, 25] }) (base : Nat) (v : Value) (k : Nat) (xs : List Value) (hs : act.eval s = v) (hown : w.ownsRow base 23 6 v k xs)
    (A : Option Addr) (l : List Po) (c : Nat) (hx : act.eval x = .slice A l.length c) (hA : OL w A l) (hn : A = none → l = [] ∧ c = 0) (h63 : k + l.length ≤ 1000) (hbase : base ≤ w.heap.size)
    (h : ∀ v' w', w'.ownsRow base 23 6 v' (k + l.length) (xs ++ lcells l) → Below base w w' → wpList Tryd.prog ops Q rest (act.put o.dst v') w') : wpList Tryd.prog ops Q (o :: rest) act w := by
  obtain ⟨i0, hI1, hI2, hI3, hI4⟩ := info_parts info_op
  cases A with
  | none =>
    obtain ⟨rfl, rfl⟩ := hn rfl
    refine wpList_append_own_none hgd s x 25 ho base 23 i0 6 Tryd.underlying25 hI1 v k xs hs hown hx ?_
    exact h v w (by simpa [lcells] using hown) (Below.refl _ _)
  | some ad =>
    refine wpList_append_own_at w hgd s x 25 ho base 23 i0 _ 6 64 Tryd.underlying25 hI1 hI2 hI3 hI4 rfl (by decide) v k xs hs hown ad l.length c (lcells l) hx (lcells_length l) ?_ (lcells_one l) (by unfold maxLen; omega) (by omega) hbase ?_
    · intro j u hu
      cases l with
      | nil => simp [lcells] at hu
      | cons p l =>
        obtain ⟨-, g, off, hA', -, -⟩ := hA 0 p rfl
        cases hA'
        exact ol_cells hA j u hu
    · intro v' w' hown' hgrow _ hat
      exact h v' w' hown' ((Below.refl _ _).grown hgrow hbase (own_base hown))
set_option maxRecDepth 100000 in
set_option maxHeartbeats 8000000 in
theorem joins_law (A B : Option Addr) (a b : List Po) (c d : Nat) (w : World) (hA : OL w A a) (hB : OL w B b) (hna : a.length ≤ 9223372036854775807) (hnb : b.length ≤ 9223372036854775807) (hA0 : A = none → a = [] ∧ c = 0) (hB0 : B = none → b = [] ∧ d = 0) (hT : TB w) :
    Calls Tryd.prog 6 #[.slice A a.length c, .slice B b.length d] w (GivesV (.bool true) w) := by
  have HT := Lib.hid hT
  have HA := Lib.hid hA
  have HB := Lib.hid hB
  have HBa := Lib.hid (fun (V : World) (hV : Below w.heap.size w V) => bounded_any A a c V (hA.below hV) hna)
  have HBb := Lib.hid (fun (V : World) (hV : Below w.heap.size w V) => bounded_any B b d V (hB.below hV) hnb)
  have HSh := Lib.hid (fun (V : World) (hV : Below w.heap.size w V) => shown_true V (hT.below hV))
  have HEa := Lib.hid (fun (V : World) (hV : Below w.heap.size w V) => encode_any A a c V (hA.below hV) hna (hT.below hV).1)
  have HEb := Lib.hid (fun (V : World) (hV : Below w.heap.size w V) => encode_any B b d V (hB.below hV) hnb (hT.below hV).1)
  have HLa : Hid (bdO a = true → a.length ≤ 25) := Lib.hid (fun h => by rw [bdO, Bool.and_eq_true, decide_eq_true_eq] at h; exact h.2)
  have HLb : Hid (bdO b = true → b.length ≤ 25) := Lib.hid (fun h => by rw [bdO, Bool.and_eq_true, decide_eq_true_eq] at h; exact h.2)
  have HA0 := Lib.hid hA0
  have HB0 := Lib.hid hB0
  have HJo : Hid (a.length + b.length ≤ 20 → encR (a ++ b) = if (encR a).2 = 0 ∧ (encR b).2 = 0 then ((encR a).1 ++ (encR b).1, 0) else ([], 1)) := Lib.hid enc_joins
  have HSa : Hid (a.length ≤ 20 → (encR a).2 = 0 ∨ (encR a).2 = 1) := Lib.hid encR_small
  have HSb : Hid (b.length ≤ 20 → (encR b).2 = 0 ∨ (encR b).2 = 1) := Lib.hid encR_small
  have HQa := Lib.hid (encR_len (ol_fit hA))
  have HQb := Lib.hid (encR_len (ol_fit hB))
  have HFit : Hid (∀ o ∈ a ++ b, Fit o) := Lib.hid (fun o ho => (List.mem_append.1 ho).elim (ol_fit hA o) (ol_fit hB o))
  clear hA hB hT hA0 hB0
  generalize bdO a = BA at *
  generalize bdO b = BB at *
  obtain ⟨n, hnn⟩ : ∃ n, a.length = n := ⟨_, rfl⟩
  obtain ⟨m, hmm⟩ : ∃ m, b.length = m := ⟨_, rfl⟩
  have HN := Lib.hid hnn
  have HM := Lib.hid hmm
  rw [hnn] at hna HBa HEa HLa ⊢
  rw [hmm] at hnb HBb HEb HLb ⊢
  clear hnn hmm
  go_enter Tryd.func6, Tryd.ntmps6
  go_wp2_with fail
  refine (HBa.out w (Below.refl _ _)).mono ?_
  rintro e w' ⟨rfl, hw⟩
  obtain rfl := hw.symm
  cases BA with
  | false =>
    go_wp2_with fail
    refine (HSh.out w (Below.refl _ _)).mono ?_
    rintro e w1 ⟨rfl, hb⟩
    have HB1 := Lib.hid hb
    clear hb
    go_wp2
    go_ret
    exact ⟨rfl, HB1.out⟩
  | true =>
  have hn25 := HLa.out rfl
  go_wp2_with fail
  refine (HBb.out w (Below.refl _ _)).mono ?_
  rintro e w' ⟨rfl, hw⟩
  obtain rfl := hw.symm
  cases BB with
  | false =>
    go_wp2_with fail
    refine (HSh.out w (Below.refl _ _)).mono ?_
    rintro e w1 ⟨rfl, hb⟩
    have HB1 := Lib.hid hb
    clear hb
    go_wp2
    go_ret
    exact ⟨rfl, HB1.out⟩
  | true =>
  have hm25 := HLb.out rfl
  by_cases h20 : 20 < n + m
  · have h20' : (20 : Int) < (n : Int) + (m : Int) := by omega
    go_wp2_with fail
    refine (HSh.out w (Below.refl _ _)).mono ?_
    rintro e w1 ⟨rfl, hb⟩
    have HB1 := Lib.hid hb
    clear hb
    go_wp2
    go_ret
    exact ⟨rfl, HB1.out⟩
  have h20' : ¬ (20 : Int) < (n : Int) + (m : Int) := by omega
  go_wp2_with fail
  refine (HSh.out w (Below.refl _ _)).mono ?_
  rintro e w2 ⟨rfl, hb⟩
  have HB2 := Lib.hid hb
  clear hb
  go_wp2_with fail
  refine (HEa.out w2 HB2.out).mono ?_
  rintro e w3 ⟨rfl, hb⟩
  have HB3 : Hid (Below w.heap.size w w3) := Lib.hid (HB2.out.trans (hb.mono HB2.out.size))
  clear hb
  go_wp2_with fail
  refine (HEb.out w3 HB3.out).mono ?_
  rintro e w4 ⟨rfl, hb⟩
  have HB4 : Hid (Below w.heap.size w w4) := Lib.hid (HB3.out.trans (hb.mono HB3.out.size))
  clear hb
  have hO : (w4.alloc (.cells #[] 23)).ownsRow w4.heap.size 23 6 (.slice (some ⟨w4.heap.size, 0, none⟩) 0 0) 0 [] := World.ownsRow_made w4 #[] 0 (Nat.le_refl _) (by simp [maxLen]) rfl
  have HO := Lib.hid hO
  have HB4a : Hid (Below w.heap.size w (w4.alloc (.cells #[] 23))) := Lib.hid (HB4.out.alloc HB4.out.size _)
  clear hO
  obtain ⟨sa, hsa⟩ : ∃ sa, sa = ba (encR a).1 := ⟨_, rfl⟩
  obtain ⟨sb, hsb⟩ : ∃ sb, sb = ba (encR b).1 := ⟨_, rfl⟩
  have hsaz : sa.size ≤ 20000 := by rw [hsa, ba_size]; exact HQa.out
  have hsbz : sb.size ≤ 20000 := by rw [hsb, ba_size]; exact HQb.out
  have hA2 : ∀ W, (Op.stringOp .add sa sb).run Tryd.prog W = .ok (.string (sa ++ sb)) W := fun W => run_string_add_sum W _ _ (by omega)
  have HEn : Hid (encR (a ++ b) = if (encR a).2 = 0 ∧ (encR b).2 = 0 then ((encR a).1 ++ (encR b).1, 0) else ([], 1)) := Lib.hid (HJo.out (by rw [HN.out, HM.out]; omega))
  have hea := HSa.out (by rw [HN.out]; omega)
  have heb := HSb.out (by rw [HM.out]; omega)
  have HSA := Lib.hid hsa
  have HSB := Lib.hid hsb
  rw [← hsa, ← hsb]
  clear hsa hsb
  go_upto_region 6 with (first
    | (at_builtin; refine append_ol rfl _ _ rfl w4.heap.size _ _ _ rfl HO.out A a c (by rw [HN.out]; rfl) (HA.out.below HB4a.out) HA0.out (by rw [HN.out]; omega) (by simp) ?_; intro v' w5 hown' hb5; have HO5 := Lib.hid hown'; have HB5 := Lib.hid hb5; clear hown' hb5)
    | (at_builtin; refine append_ol rfl _ _ rfl w4.heap.size _ _ _ rfl HO5.out B b d (by rw [HM.out]; rfl) (HB.out.below (HB4a.out.trans (HB5.out.mono (by have := HB4.out.size; omega)))) HB0.out (by rw [HN.out, HM.out]; omega) (by have := HB5.out.size; simp at this; omega) ?_; intro v'' w6 hown'' hb6; have HO6 := Lib.hid hown''; have HB6 := Lib.hid hb6; clear hown'' hb6))
  have hO6 := HO6.out
  rw [show 0 + a.length + b.length = (a ++ b).length by simp, show [] ++ lcells a ++ lcells b = lcells (a ++ b) by simp [lcells]] at hO6
  obtain ⟨p, cap, rfl, hc1, hc2, hol⟩ := own_ol (size := 6) hO6 HFit.out
  have HB46 : Hid (Below w4.heap.size w4 w6) := Lib.hid ((((Below.refl _ _).alloc (Nat.le_refl _) _).trans HB5.out).trans HB6.out)
  have HB6' : Hid (Below w.heap.size w w6) := Lib.hid (HB4.out.trans (HB46.out.mono HB4.out.size))
  have HEn6 := Lib.hid (encode_any p (a ++ b) cap w6 hol (by rw [List.length_append, HN.out, HM.out]; omega) (HT.out.below HB6'.out).1)
  rw [HEn.out] at HEn6
  have HSS : Hid (ba ((encR a).1 ++ (encR b).1) = sa ++ sb) := Lib.hid (by rw [HSA.out, HSB.out]; exact ByteArray.ext (by simp [ba, ByteArray.data_append]))
  clear hol hc1 hc2 hO6
  generalize (encR a).2 = ea at *
  generalize (encR b).2 = eb at *
  generalize (a ++ b).length = ab at *
  rcases hea with rfl | rfl
  · rcases heb with rfl | rfl
    · simp only [and_self, if_true] at HEn6
      rw [HSS.out] at HEn6
      refine HEn6.out.mono ?_
      rintro e w7 ⟨rfl, hb⟩
      have HB7 := Lib.hid (HB6'.out.trans (hb.mono HB6'.out.size))
      clear hb
      go_wp2
      go_ret
      exact ⟨rfl, HB7.out⟩
    · rw [if_neg (by omega)] at HEn6
      have e2 : ba ([] : List UInt8) = ⟨#[]⟩ := rfl
      simp only [] at HEn6
      rw [e2] at HEn6
      clear e2
      refine HEn6.out.mono ?_
      rintro e w7 ⟨rfl, hb⟩
      have HB7 := Lib.hid (HB6'.out.trans (hb.mono HB6'.out.size))
      clear hb
      go_wp2
      go_ret
      exact ⟨rfl, HB7.out⟩
  · rw [if_neg (by omega)] at HEn6
    have e2 : ba ([] : List UInt8) = ⟨#[]⟩ := rfl
    simp only [] at HEn6
    rw [e2] at HEn6
    clear e2
    refine HEn6.out.mono ?_
    rintro e w7 ⟨rfl, hb⟩
    have HB7 := Lib.hid (HB6'.out.trans (hb.mono HB6'.out.size))
    clear hb
    go_wp2
    go_ret
    exact ⟨rfl, HB7.out⟩
/-- The law, of what came in. -/
theorem joins_true {H : Type} {enc : TypeId × Value → H} {W : World} {base : Nat} {v0 v1 : Value} {d0 d1 : DataW H} {p0 p1 : List MemPlace} (hm : TB W) (o0 : Value.okWide Tryd.prog W .any base 25 v0) (o1 : Value.okWide Tryd.prog W .any base 25 v1)
    (h0 : DataW.Trod enc Tryd.prog W 0 (fun _ => true) true 25 v0 d0 p0) (h1 : DataW.Trod enc Tryd.prog W 0 (fun _ => true) true 25 v1 d1 p1) (l0 : ∀ x ∈ p0, x.block < W.heap.size) (l1 : ∀ x ∈ p1, x.block < W.heap.size) :
    Calls Tryd.prog 6 #[v0, v1] W fun e w' => e = .returned (.bool true) ∧ Below W.heap.size W w' := by
  obtain ⟨A, c, a, rfl, a1, a2, hA, hA0⟩ := ol_open o0 h0 l0
  obtain ⟨B, d, b, rfl, b1, b2, hB, hB0⟩ := ol_open o1 h1 l1
  exact joins_law A B a b c d W hA hB (Nat.le_trans a1 a2) (Nat.le_trans b1 b2) hA0 hB0 hm
end Go.Proofs.YtdjhnjokmmbafaaDoor
