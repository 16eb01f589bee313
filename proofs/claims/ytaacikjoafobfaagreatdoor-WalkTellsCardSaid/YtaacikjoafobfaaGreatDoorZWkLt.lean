/-
  The law WalkTells: of any forest, and any numbers, all that it is asked is the document's, or its error.
-/
import Derived.Test.YtaacikjoafobfaaGreatDoorG51
import Derived.Test.YtaacikjoafobfaaGreatDoorG50
import Derived.Test.YtaacikjoafobfaaGreatDoorG28
import Derived.Test.YtaacikjoafobfaaGreatDoorG18
namespace Go.Proofs.YtaacikjoafobfaaGreatDoor.R8
open Go.ChangeShapes Go.WideShapes Go.ChangeAt Go.RowKit
set_option linter.unusedVariables false
set_option linter.unusedSimpArgs false

/-- A list of numbers, and an error's number, are told. -/
def GivesLE (L : List Int) (x : Int) (w : World) (e : Ending) (w' : World) : Prop := ∃ p cap, e = .returned (.tuple #[.slice p L.length cap, .int .i64 x]) ∧ IR w' p L ∧ Below w.heap.size w w'
theorem givesLE_own {l : List Nat} {w w' : World} {e : Ending} (h : ∃ v, e = .returned (.tuple #[v, .int .i64 0]) ∧ w'.ownsRow w.heap.size 3 1 v l.length (ivN l) ∧ Below w.heap.size w w') : GivesLE (l.map Int.ofNat) 0 w e w' := by
  obtain ⟨v, rfl, hv, hb⟩ := h
  obtain ⟨p, cap, rfl, -⟩ := own_form2 hv
  exact ⟨p, cap, by rw [List.length_map], own_ir2 (l := l.map Int.ofNat) (n := l.length) (c := cap) (by rw [List.length_map]; exact hv), hb⟩
theorem bes_like {F G : List Mn} (h : G.map core = F.map core) (x b : Int) : besP G x b = besP F x b := by
  unfold besP
  rw [upP_like h, kids_like h]
theorem attrR_like {F G : List Mn} (h : G.map core = F.map core) {i : Nat} (hG : i < G.length) (hF : i < F.length) (t : ByteArray) : attrR G[i] t = attrR F[i] t := by
  have e : core G[i] = core F[i] := by
    have := congrArg (fun l => l[i]?) h
    simpa [List.getElem?_map, List.getElem?_eq_getElem hG, List.getElem?_eq_getElem hF] using this
  show attrR (core G[i]) t = attrR (core F[i]) t
  rw [e]
/-- What is told of a number, by package walk and by the document. -/
structure WOf (w : World) (A : Option Addr) (n c : Nat) (A' : Option Addr) (c' : Nat) (x b : Int) (t : ByteArray) (u1 u2 : Int) (K : List Int) (k2 b1 b2 : Int) (L : List Int) (o2 : Int) (S : ByteArray) (s2 : Int) (a1 : ByteArray) (a2 y1 y2 : Int) : Prop where
  klen : K.length ≤ 1000
  len : L.length ≤ 1000
  p1 : ∀ V, Below w.heap.size w V → Calls Tryz.prog 34 #[.slice A n c, .int .i64 x] V (GivesV (.tuple #[.int .i64 u1, .int .i64 u2]) V)
  q1 : ∀ V, Below w.heap.size w V → Calls Tryz.prog 35 #[.slice A' n c', .int .i64 x] V (GivesV (.tuple #[.int .i64 u1, .int .i64 u2]) V)
  p2 : ∀ V, Below w.heap.size w V → Calls Tryz.prog 36 #[.slice A n c, .int .i64 x] V (GivesLE K k2 V)
  q2 : ∀ V, Below w.heap.size w V → Calls Tryz.prog 37 #[.slice A' n c', .int .i64 x] V (GivesLE K k2 V)
  p3 : ∀ V, Below w.heap.size w V → Calls Tryz.prog 38 #[.slice A n c, .int .i64 x, .int .i64 b] V (GivesV (.tuple #[.int .i64 b1, .int .i64 b2]) V)
  q3 : ∀ V, Below w.heap.size w V → Calls Tryz.prog 39 #[.slice A' n c', .int .i64 x, .int .i64 b] V (GivesV (.tuple #[.int .i64 b1, .int .i64 b2]) V)
  p4 : ∀ V, Below w.heap.size w V → Calls Tryz.prog 27 #[.slice A n c, .int .i64 x] V (GivesLE L o2 V)
  q4 : ∀ V, Below w.heap.size w V → Calls Tryz.prog 40 #[.slice A' n c', .int .i64 x] V (GivesLE L o2 V)
  p5 : ∀ V, Below w.heap.size w V → Calls Tryz.prog 41 #[.slice A n c, .int .i64 x] V (GivesV (.tuple #[.string S, .int .i64 s2]) V)
  q5 : ∀ V, Below w.heap.size w V → Calls Tryz.prog 42 #[.slice A' n c', .int .i64 x] V (GivesV (.tuple #[.string S, .int .i64 s2]) V)
  p6 : ∀ V, Below w.heap.size w V → Calls Tryz.prog 43 #[.slice A n c, .int .i64 x, .string t] V (GivesV (.tuple #[.string a1, .int .i64 a2]) V)
  q6 : ∀ V, Below w.heap.size w V → Calls Tryz.prog 44 #[.slice A' n c', .int .i64 x, .string t] V (GivesV (.tuple #[.string a1, .int .i64 a2]) V)
  p7 : ∀ V, Below w.heap.size w V → Calls Tryz.prog 29 #[.slice A n c, .string t] V (GivesV (.tuple #[.int .i64 y1, .int .i64 y2]) V)
  q7 : ∀ V, Below w.heap.size w V → Calls Tryz.prog 45 #[.slice A' n c', .string t] V (GivesV (.tuple #[.int .i64 y1, .int .i64 y2]) V)
theorem gives_same {v : Value} {V : World} {e : Ending} {w' : World} (h : e = .returned v ∧ V = w') : GivesV v V e w' := by
  obtain ⟨rfl, rfl⟩ := h
  exact ⟨rfl, Below.refl _ _⟩
theorem w_of {w : World} {A A' : Option Addr} {G G' : List Mn} (c c' : Nat) (x b : Int) (hb : I64 b) (t : ByteArray) (hF : FR w A G) (hm : mayB G = true) (hF' : FR w A' G') (hl : G'.map core = G.map core) :
    ∃ u1 u2 K k2 b1 b2 L o2 S s2 a1 a2 y1 y2, WOf w A G.length c A' c' x b t u1 u2 K k2 b1 b2 L o2 S s2 a1 a2 y1 y2 := by
  have hm' : mayB G' = true := by rw [mayB_like hl]; exact hm
  have hn : G'.length = G.length := len_like hl
  by_cases hx : 0 ≤ x ∧ x < G.length
  · obtain ⟨i, rfl⟩ := Int.eq_ofNat_of_zero_le hx.1
    have hi : i < G.length := by omega
    have hi' : i < G'.length := by omega
    refine ⟨(upP G i).1, (upP G i).2, kidsOf G i, 0, (besP G i b).1, (besP G i b).2, (ord G i).map Int.ofNat, 0, ⟨(cont G i).toArray⟩, 0, (attrR G[i] t).1, (attrR G[i] t).2, (byP G t).1, (byP G t).2, ?_, ?_, ?_, ?_, ?_, ?_, ?_, ?_, ?_, ?_, ?_, ?_, ?_, ?_, ?_, ?_⟩
    · have := may_kids hm _ (List.getElem_mem hi)
      rw [kidsOf_at hi]
      omega
    · rw [List.length_map]
      have h2 := ord_len hm hi
      have h3 := (may_sz hm).1
      omega
    · exact fun V hV => wparent_any A G c i V (hF.below hV) hm
    · intro V hV
      have := rparent_any A' G' c' i V (hF'.below hV) hm'
      rw [upP_like hl, hn] at this
      exact this.mono fun e w' h => gives_same h
    · intro V hV
      refine (wkids_any A G c i V (hF.below hV) hm hi).mono fun e w' h => ?_
      obtain ⟨v, rfl, hv, hb'⟩ := h
      obtain ⟨p, cap, rfl, -⟩ := own_form2 hv
      exact ⟨p, cap, rfl, own_ir2 hv, hb'⟩
    · intro V hV
      have := rkids_node A' G' c' i V (hF'.below hV) hi'
      rw [kids_like hl, hn] at this
      refine this.mono fun e w' h => ?_
      obtain ⟨p, cap, rfl, hI, rfl⟩ := h
      exact ⟨p, cap, rfl, hI, Below.refl _ _⟩
    · exact fun V hV => wbeside_any A G c i b V (hF.below hV) hm hb
    · intro V hV
      have := rbeside_any A' G' c' i b V (hF'.below hV) hm'
      rw [bes_like hl, hn] at this
      exact this.mono fun e w' h => gives_same h
    · exact fun V hV => (worder_any A G c i V (hF.below hV) hm hi).mono fun e w' h => givesLE_own h
    · intro V hV
      have := rOrder_node A' G' c' i V (hF'.below hV) hm' hi'
      rw [ord_like hl, hn] at this
      exact this.mono fun e w' h => givesLE_own h
    · exact fun V hV => wcontent_any A G c i V (hF.below hV) hm hi
    · intro V hV
      have := rcontent_node A' G' c' i V (hF'.below hV) hm' hi'
      rw [cont_like hl, hn] at this
      exact this
    · exact fun V hV => wattr_any A G c i t V (hF.below hV) hm hi
    · intro V hV
      have := rattr_node A' G' c' i t V (hF'.below hV) hm' hi'
      rw [attrR_like hl hi' hi, hn] at this
      exact this.mono fun e w' h => gives_same h
    · exact fun V hV => wbyid_any A G c t V (hF.below hV) hm
    · intro V hV
      have := rbyid_any A' G' c' t V (hF'.below hV) hm'
      rw [byP_like hl, hn] at this
      exact this
  · have hx' : ¬ (0 ≤ x ∧ x < (G'.length : Int)) := by rw [hn]; exact hx
    have hL0 : ∀ V : World, IR V none [] := fun V j hj => absurd hj (by simp)
    refine ⟨(upP G x).1, (upP G x).2, [], 70, (besP G x b).1, (besP G x b).2, [], 70, ⟨#[]⟩, 70, ⟨#[]⟩, 70, (byP G t).1, (byP G t).2, by simp, by simp, ?_, ?_, ?_, ?_, ?_, ?_, ?_, ?_, ?_, ?_, ?_, ?_, ?_, ?_⟩
    · exact fun V hV => wparent_any A G c x V (hF.below hV) hm
    · intro V hV
      have := rparent_any A' G' c' x V (hF'.below hV) hm'
      rw [upP_like hl, hn] at this
      exact this.mono fun e w' h => gives_same h
    · exact fun V hV => (wkids_none A G c x V (hF.below hV) hm hx).mono fun e w' h => ⟨none, 0, h.1, hL0 _, h.2⟩
    · intro V hV
      rw [← hn]
      exact (rkids_none A' G'.length c' x V hx').mono fun e w' h => ⟨none, 0, h.1, hL0 _, by rw [h.2]; exact Below.refl _ _⟩
    · exact fun V hV => wbeside_any A G c x b V (hF.below hV) hm hb
    · intro V hV
      have := rbeside_any A' G' c' x b V (hF'.below hV) hm'
      rw [bes_like hl, hn] at this
      exact this.mono fun e w' h => gives_same h
    · exact fun V hV => (worder_none A G c x V (hF.below hV) hm hx).mono fun e w' h => ⟨none, 0, h.1, hL0 _, h.2⟩
    · intro V hV
      rw [← hn]
      exact (rOrder_none A' G'.length c' x V hx').mono fun e w' h => ⟨none, 0, h.1, hL0 _, h.2⟩
    · exact fun V hV => wcontent_none A G c x V (hF.below hV) hm hx
    · intro V hV
      rw [← hn]
      exact rcontent_none A' G'.length c' x V hx'
    · exact fun V hV => wattr_none A G c x t V (hF.below hV) hm hx
    · intro V hV
      rw [← hn]
      exact (rattr_none A' G'.length c' x t V hx').mono fun e w' h => gives_same h
    · exact fun V hV => wbyid_any A G c t V (hF.below hV) hm
    · intro V hV
      have := rbyid_any A' G' c' t V (hF'.below hV) hm'
      rw [byP_like hl, hn] at this
      exact this
set_option maxRecDepth 100000 in
set_option maxHeartbeats 16000000 in
theorem wtells_law (A : Option Addr) (l : List Ops.Po) (c : Nat) (x b : Int) (hb64 : I64 b) (t : ByteArray) (w : World) (hL : Ops.OL w A l) (hl : l.length ≤ 9223372036854775807) (hK : Ops.KT w) :
    Calls Tryz.prog 10 #[.slice A l.length c, .int .i64 x, .int .i64 b, .string t] w (GivesV (.bool true) w) := by
  have HB0 := Lib.hid (bounded8 A l c w hL hl)
  have HS := Lib.hid (fun (V : World) (hb : Below w.heap.size w V) => shown8 V (hK.below hb))
  have HG := Lib.hid (fun (V : World) (hb : Below w.heap.size w V) (h : l.length ≤ 150) => grown_any A l c V (hL.below hb) (by omega) (hK.below hb))
  have HLE : Hid (bdO l = true → l.length ≤ 150) := Lib.hid (fun h => by
    unfold bdO at h
    rw [Bool.and_eq_true, decide_eq_true_eq] at h
    exact h.2)
  obtain ⟨nl, hnn⟩ : ∃ n, l.length = n := ⟨_, rfl⟩
  rw [hnn] at HB0 HG HLE hl ⊢
  clear hL hK hnn
  generalize bdO l = BL at *
  have HI64 := Lib.hid hb64
  clear hb64
  go_enter Tryz.func10, Tryz.ntmps10
  go_wp2_with fail
  refine HB0.out.mono ?_
  rintro e w' ⟨rfl, hw⟩
  obtain rfl := hw.symm
  cases BL with
  | false =>
    go_wp2_with fail
    refine (HS.out _ (Below.refl _ _)).mono ?_
    rintro e w1 ⟨rfl, hb⟩
    have HB := Lib.hid hb
    clear hb
    go_wp2
    go_ret
    exact ⟨rfl, HB.out⟩
  | true =>
  have hln := HLE.out rfl
  by_cases hsz : t.size ≤ 300
  case neg =>
    have q1 : decide ((300 : Int) < (t.size : Int)) = true := by simp; omega
    go_wp2_with fail
    refine (HS.out _ (Below.refl _ _)).mono ?_
    rintro e w1 ⟨rfl, hb⟩
    have HB := Lib.hid hb
    clear hb
    go_wp2
    go_ret
    exact ⟨rfl, HB.out⟩
  have q1 : decide ((300 : Int) < (t.size : Int)) = false := by simp; omega
  go_wp2_with fail
  refine (HS.out _ (Below.refl _ _)).mono ?_
  rintro e w4 ⟨rfl, hb⟩
  have HB4 := Lib.hid hb
  clear hb
  go_wp2_with fail
  refine (HG.out w4 HB4.out hln).mono ?_
  rintro e w5 ⟨Af, G, cf, rfl, hF, hm, hlk, hb⟩
  have HB5 := Lib.hid (HB4.out.trans (hb.mono HB4.out.size))
  have HIt := Lib.hid (its_any Af G cf w5 hF (may_sz2 hm))
  have HF5 := Lib.hid hF
  have HM5 := Lib.hid hm
  obtain ⟨n, hn⟩ : ∃ n, G.length = n := ⟨_, rfl⟩
  have HNN := Lib.hid hn
  rw [hn] at HIt ⊢
  clear hb hlk HS HG HLE HB0 hF hm hn
  go_wp2_with fail
  refine HIt.out.mono ?_
  rintro e w6 ⟨A', c', G', rfl, hlk, hF', hb⟩
  have HB6 := Lib.hid (HB5.out.trans (hb.mono HB5.out.size))
  obtain ⟨u1, u2, K, k2, b1, b2, L, o2, S, s2, a1, a2, y1, y2, hT⟩ := w_of (w := w6) cf c' x b HI64.out t (HF5.out.below hb) HM5.out hF' hlk
  rw [HNN.out] at hT
  have hkl := hT.klen
  have hll := hT.len
  have P1 := Lib.hid hT.p1
  have P2 := Lib.hid hT.p2
  have P3 := Lib.hid hT.p3
  have P4 := Lib.hid hT.p4
  have P5 := Lib.hid hT.p5
  have P6 := Lib.hid hT.p6
  have P7 := Lib.hid hT.p7
  have Q1 := Lib.hid hT.q1
  have Q2 := Lib.hid hT.q2
  have Q3 := Lib.hid hT.q3
  have Q4 := Lib.hid hT.q4
  have Q5 := Lib.hid hT.q5
  have Q6 := Lib.hid hT.q6
  have Q7 := Lib.hid hT.q7
  clear hb hT hlk hF' HIt HF5 HM5 HNN hsz q1
  have z1 : (u1 != u1) = false := by simp
  have z2 : (u2 != u2) = false := by simp
  have z3 : (k2 != k2) = false := by simp
  have z4 : (b1 != b1) = false := by simp
  have z5 : (b2 != b2) = false := by simp
  have z6 : (o2 == o2) = true := by simp
  have z7 : (S.toList == S.toList) = true := by simp
  have z8 : (s2 == s2) = true := by simp
  have z9 : (a1.toList == a1.toList) = true := by simp
  have z10 : (a2 == a2) = true := by simp
  have z11 : (y1 == y1) = true := by simp
  have z12 : (y2 == y2) = true := by simp
  go_wp2_with fail
  refine (P1.out w6 (Below.refl _ _)).mono ?_
  rintro e w7 ⟨rfl, hb⟩
  have HC7 := Lib.hid hb
  clear hb
  go_wp2_with fail
  refine (Q1.out w7 HC7.out).mono ?_
  rintro e w8 ⟨rfl, hb⟩
  have HC8 := Lib.hid (HC7.out.trans (hb.mono HC7.out.size))
  clear hb
  go_wp2_with fail
  refine (P2.out w8 HC8.out).mono ?_
  rintro e w9 ⟨pk, pkc, rfl, hIpk, hb⟩
  have HC9 := Lib.hid (HC8.out.trans (hb.mono HC8.out.size))
  have Ipk9 := Lib.hid hIpk
  clear hIpk
  clear hb
  go_wp2_with fail
  refine (Q2.out w9 HC9.out).mono ?_
  rintro e w10 ⟨qk, qkc, rfl, hIqk, hb⟩
  have HC10 := Lib.hid (HC9.out.trans (hb.mono HC9.out.size))
  have Ipk10 := Lib.hid (Ipk9.out.below hb)
  have Iqk10 := Lib.hid hIqk
  clear hIqk
  clear hb
  go_wp2_with fail
  refine (P3.out w10 HC10.out).mono ?_
  rintro e w11 ⟨rfl, hb⟩
  have HC11 := Lib.hid (HC10.out.trans (hb.mono HC10.out.size))
  have Ipk11 := Lib.hid (Ipk10.out.below hb)
  have Iqk11 := Lib.hid (Iqk10.out.below hb)
  clear hb
  go_wp2_with fail
  refine (Q3.out w11 HC11.out).mono ?_
  rintro e w12 ⟨rfl, hb⟩
  have HC12 := Lib.hid (HC11.out.trans (hb.mono HC11.out.size))
  have Ipk12 := Lib.hid (Ipk11.out.below hb)
  have Iqk12 := Lib.hid (Iqk11.out.below hb)
  clear hb
  have HN12 := Lib.hid (rints_w pk qk K K pkc qkc w12 Ipk12.out Iqk12.out hkl hkl)
  rw [show eqI K K = true by simp [eqI]] at HN12
  generalize K.length = nK at *
  go_wp2_with fail
  refine HN12.out.mono ?_
  rintro e w13 ⟨rfl, hb⟩
  have HC13 := Lib.hid (HC12.out.trans (hb.mono HC12.out.size))
  clear hb
  go_wp2_with fail
  refine (P4.out w13 HC13.out).mono ?_
  rintro e w14 ⟨po, poc, rfl, hIpo, hb⟩
  have HC14 := Lib.hid (HC13.out.trans (hb.mono HC13.out.size))
  have Ipo14 := Lib.hid hIpo
  clear hIpo
  clear hb
  go_wp2_with fail
  refine (Q4.out w14 HC14.out).mono ?_
  rintro e w15 ⟨qo, qoc, rfl, hIqo, hb⟩
  have HC15 := Lib.hid (HC14.out.trans (hb.mono HC14.out.size))
  have Ipo15 := Lib.hid (Ipo14.out.below hb)
  have Iqo15 := Lib.hid hIqo
  clear hIqo
  clear hb
  go_wp2_with fail
  refine (P5.out w15 HC15.out).mono ?_
  rintro e w16 ⟨rfl, hb⟩
  have HC16 := Lib.hid (HC15.out.trans (hb.mono HC15.out.size))
  have Ipo16 := Lib.hid (Ipo15.out.below hb)
  have Iqo16 := Lib.hid (Iqo15.out.below hb)
  clear hb
  go_wp2_with fail
  refine (Q5.out w16 HC16.out).mono ?_
  rintro e w17 ⟨rfl, hb⟩
  have HC17 := Lib.hid (HC16.out.trans (hb.mono HC16.out.size))
  have Ipo17 := Lib.hid (Ipo16.out.below hb)
  have Iqo17 := Lib.hid (Iqo16.out.below hb)
  clear hb
  go_wp2_with fail
  refine (P6.out w17 HC17.out).mono ?_
  rintro e w18 ⟨rfl, hb⟩
  have HC18 := Lib.hid (HC17.out.trans (hb.mono HC17.out.size))
  have Ipo18 := Lib.hid (Ipo17.out.below hb)
  have Iqo18 := Lib.hid (Iqo17.out.below hb)
  clear hb
  go_wp2_with fail
  refine (Q6.out w18 HC18.out).mono ?_
  rintro e w19 ⟨rfl, hb⟩
  have HC19 := Lib.hid (HC18.out.trans (hb.mono HC18.out.size))
  have Ipo19 := Lib.hid (Ipo18.out.below hb)
  have Iqo19 := Lib.hid (Iqo18.out.below hb)
  clear hb
  go_wp2_with fail
  refine (P7.out w19 HC19.out).mono ?_
  rintro e w20 ⟨rfl, hb⟩
  have HC20 := Lib.hid (HC19.out.trans (hb.mono HC19.out.size))
  have Ipo20 := Lib.hid (Ipo19.out.below hb)
  have Iqo20 := Lib.hid (Iqo19.out.below hb)
  clear hb
  go_wp2_with fail
  refine (Q7.out w20 HC20.out).mono ?_
  rintro e w21 ⟨rfl, hb⟩
  have HC21 := Lib.hid (HC20.out.trans (hb.mono HC20.out.size))
  have Ipo21 := Lib.hid (Ipo20.out.below hb)
  have Iqo21 := Lib.hid (Iqo20.out.below hb)
  clear hb
  have HN21 := Lib.hid (rints_w po qo L L poc qoc w21 Ipo21.out Iqo21.out hll hll)
  rw [show eqI L L = true by simp [eqI]] at HN21
  generalize L.length = nL at *
  go_wp2_with fail
  refine HN21.out.mono ?_
  rintro e w22 ⟨rfl, hb⟩
  have HC22 := Lib.hid (HC21.out.trans (hb.mono HC21.out.size))
  clear hb
  go_wp2
  go_ret
  exact ⟨rfl, HB6.out.trans (HC22.out.mono HB6.out.size)⟩
set_option maxRecDepth 100000 in
theorem wtells_true {H : Type} {enc : TypeId × Value → H} {W : World} {base : Nat} {v0 : Value} {d0 : DataW H} {p0 : List MemPlace} {v1 : Value} {d1 : DataW H} {p1 : List MemPlace} {v2 : Value} {d2 : DataW H} {p2 : List MemPlace} {v3 : Value} {d3 : DataW H} {p3 : List MemPlace} (hK : Ops.KT W) (o0 : Value.okWide Tryz.prog W .any base 22 v0) (o1 : Value.okWide Tryz.prog W .any base 3 v1) (o2 : Value.okWide Tryz.prog W .any base 3 v2) (o3 : Value.okWide Tryz.prog W .any base 9 v3)
    (h0 : DataW.Trod enc Tryz.prog W 0 (fun _ => true) true 22 v0 d0 p0) (h1 : DataW.Trod enc Tryz.prog W 0 (fun _ => true) true 3 v1 d1 p1) (h2 : DataW.Trod enc Tryz.prog W 0 (fun _ => true) true 3 v2 d2 p2) (h3 : DataW.Trod enc Tryz.prog W 0 (fun _ => true) true 9 v3 d3 p3)
    (l0 : ∀ x ∈ p0, x.block < W.heap.size) (l1 : ∀ x ∈ p1, x.block < W.heap.size) (l2 : ∀ x ∈ p2, x.block < W.heap.size) (l3 : ∀ x ∈ p3, x.block < W.heap.size) :
    Calls Tryz.prog 10 #[v0, v1, v2, v3] W fun e W' => e = .returned (.bool true) ∧ Below W.heap.size W W' := by
  obtain ⟨A, cap, l, rfl, e1, e2, hL, -⟩ := Ops.ol_open o0 h0 l0
  obtain ⟨x, rfl, rfl, rfl, w1⟩ := open_int Tryz.underlying3 o1 h1
  obtain ⟨b, rfl, rfl, rfl, w2⟩ := open_int Tryz.underlying3 o2 h2
  obtain ⟨t, rfl, rfl, rfl, w3⟩ := Go.ChangeMaps.open_string Tryz.underlying9 o3 h3
  exact wtells_law A l cap x b (i64_wf w2) t W hL (Nat.le_trans e1 e2) hK
end Go.Proofs.YtaacikjoafobfaaGreatDoor.R8
