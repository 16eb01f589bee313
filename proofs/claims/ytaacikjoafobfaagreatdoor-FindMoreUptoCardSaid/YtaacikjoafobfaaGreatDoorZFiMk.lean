/-
  The law FindMore: with a test more, or a step more, a compound finds no more.
-/
import Derived.Test.YtaacikjoafobfaaGreatDoorRows
import Derived.Test.YtaacikjoafobfaaGreatDoorZFiMo
import Derived.Test.YtaacikjoafobfaaGreatDoorZFiMc
import Derived.Test.YtaacikjoafobfaaGreatDoorG04
import Derived.StillTailTactics
import Derived.Deep.RegionHeld3
import Derived.Shelf.RegionOpenPlain
import Derived.Deep.CutRange
namespace Go.Proofs.YtaacikjoafobfaaGreatDoor.Fi
open Go.ChangeShapes Go.WideShapes Go.ChangeAt Go.RowKit
open Sx (Tr Ms Mr TR MR XR tV r1 ls te stp rws cx cl cx_iff tcells t3 tr_of)
set_option linter.unusedVariables false
set_option linter.unusedSimpArgs false

theorem held_skip {P : Program} {Q : Exit → Act → World → Prop} {ops : Array Oper} {md : Region.Mode} {S : World → Prop} {i : Nat} {oi : Oper} {d : Option Tmp} {fuel : Nat} {listed : Array Bool} {a : Act} {w : World} (hi : ops[i]? = some oi) (hd : oi.dst = d)
    (hs : Region.noSelect ops = true) (hf : Region.free md ops listed i = true) (hr : (Region.ready md ops listed).contains i = true)
    (hQ : ∀ c a w, Q (.panic c) (a.put d undef) w → Q (.panic c) a w) (hw : Region.wanted oi (yielded ops a.tmps) = false) (hS : S w)
    (h : wpAnyH P md ops Q S fuel (listed.setIfInBounds i true) (a.put d undef) w) : wpAnyH P md ops Q S (fuel + 1) listed a w := by
  subst hd
  exact wpAnyH_take hi hs hf hr hQ (Or.inr ⟨hw, rfl⟩) hS h
theorem if_wp {c : Prop} [Decidable c] {A B : Prop} (h : c) (hA : A) : if c then A else B := by
  rw [if_pos h]
  exact hA
theorem block3m {w : World} {g : Nat} {x y z : Value} {t : TypeId} (h : w.heap[g]? = some (.cells #[x, y, z] t (0, 0))) : w.cell? ⟨g, 0, none⟩ = some x ∧ w.cell? ⟨g, 1, none⟩ = some y ∧ w.cell? ⟨g, 2, none⟩ = some z := by
  refine ⟨?_, ?_, ?_⟩ <;> simp [World.cell?, h]
set_option maxRecDepth 100000 in
set_option maxHeartbeats 16000000 in
theorem more_law (A : Option Addr) (l : List Ops.Po) (c : Nat) (P : Option Addr) (a : List Tr) (pc : Nat) (t : Tr) (ch : Bool) (w : World) (hL : Ops.OL w A l) (hl : l.length ≤ 9223372036854775807) (hP : TR w P a) (ha : a.length ≤ 1048576) (hK : Ops.KT w) :
    Calls Tryz.prog 9 #[.slice A l.length c, .slice P a.length pc, tV t, .bool ch] w (GivesV (.bool true) w) := by
  obtain ⟨tk, tn, tv⟩ := t
  obtain ⟨W0, hW0⟩ : ∃ W0, W0 = w.alloc (.cells #[.int .i64 tk, .string tn, .string tv] 77) := ⟨_, rfl⟩
  have HB0 : Hid (Below w.heap.size w W0) := Lib.hid (by rw [hW0]; exact (Below.refl _ _).alloc (Nat.le_refl _) _)
  have HX0 : Hid (W0.heap[w.heap.size]? = some (.cells #[.int .i64 tk, .string tn, .string tv] 77 (0, 0))) := Lib.hid (by rw [hW0]; exact heap_alloc_new w _)
  have HS0 : Hid (w.heap.size < W0.heap.size) := Lib.hid (lt_of_block HX0.out)
  have HBd := Lib.hid (bounded10 A l c W0 (hL.below HB0.out) hl)
  have HTw := Lib.hid (fun (V : World) (hb : Below w.heap.size w V) => hP.below hb)
  have HFw := Lib.hid (few_cnt (some ⟨W0.heap.size + 1, 0, none⟩) (one1X W0 P a pc) 1 (one1W W0 P a.length pc) (one1_xr (HTw.out W0 HB0.out)) (by simp [one1X, cX, cM, cL, cS]; omega))
  have hl1 : (one1X W0 P a pc).length = 1 := rfl
  rw [hl1] at HFw
  have HSa : Hid (smallS (one1X W0 P a pc) ∧ cX (one1X W0 P a pc) ≤ 40 → (∀ t ∈ a, t.2.1.size ≤ 100000) ∧ a.length ≤ 40) := Lib.hid (fun ⟨h1, h2⟩ => by
    refine ⟨fun t ht => Nat.le_trans (h1 _ (List.mem_singleton.2 rfl) ((P, pc), (a, false)) (List.mem_singleton.2 rfl) t ht).1 (by decide), ?_⟩
    simp [one1X, cX, cM, cL, cS] at h2
    omega)
  obtain ⟨W1, hW1⟩ : ∃ W1, W1 = one1W W0 P a.length pc := ⟨_, rfl⟩
  have HB1 : Hid (Below W0.heap.size W0 W1) := Lib.hid (by rw [hW1]; exact one1_below ..)
  rw [← hW1] at HFw
  have HS := Lib.hid (fun (V : World) (hb : Below w.heap.size w V) => shown10 V (hK.below hb))
  have HG := Lib.hid (fun (V : World) (hb : Below w.heap.size w V) (h : l.length ≤ 150) => grown10 A l c V (hL.below hb) (by omega) (hK.below hb))
  have HLE : Hid (bdO l = true → l.length ≤ 150) := Lib.hid (fun h => by
    unfold bdO at h
    rw [Bool.and_eq_true, decide_eq_true_eq] at h
    exact h.2)
  generalize one1X W0 P a pc = X at *
  obtain ⟨nl, hnn⟩ : ∃ n, l.length = n := ⟨_, rfl⟩
  rw [hnn] at HBd HG HLE hl ⊢
  obtain ⟨na, hna⟩ : ∃ na, a.length = na := ⟨_, rfl⟩
  have HNA := Lib.hid hna
  rw [hna] at hW1 HSa ⊢
  clear hL hK hnn hP hna ha
  generalize bdO l = BL at *
  unfold one1W at hW1
  unfold tV
  simp only []
  go_enter Tryz.func9, Tryz.ntmps9
  go_wp2_with fail
  rw [← hW0]
  clear hW0
  refine HBd.out.mono ?_
  rintro e w' ⟨rfl, hw⟩
  obtain rfl := hw.symm
  cases BL with
  | false =>
    go_wp2_with fail
    refine (HS.out _ HB0.out).mono ?_
    rintro e w1 ⟨rfl, hb⟩
    have HB := Lib.hid (HB0.out.trans (hb.mono HB0.out.size))
    clear hb
    go_wp2
    go_ret
    exact ⟨rfl, HB.out⟩
  | true =>
  have hln := HLE.out rfl
  go_wp2_with fail
  rw [← hW1]
  clear hW1
  refine HFw.out.mono ?_
  rintro e w3 ⟨⟨bb, rfl, hsm⟩, hb⟩
  have HV3 := Lib.hid (HB1.out.trans (hb.mono HB1.out.size))
  have HB3 := Lib.hid (HB0.out.trans (HV3.out.mono HB0.out.size))
  have HX3 := Lib.hid ((HV3.out.block _ HS0.out).trans HX0.out)
  have HSm := Lib.hid hsm
  clear hb hsm
  by_cases hb1 : bb = true
  case neg =>
    obtain rfl : bb = false := by simpa using hb1
    clear hb1
    go_wp2_with fail
    refine (HS.out _ HB3.out).mono ?_
    rintro e w4 ⟨rfl, hb⟩
    have HB := Lib.hid (HB3.out.trans (hb.mono HB3.out.size))
    clear hb
    go_wp2
    go_ret
    exact ⟨rfl, HB.out⟩
  subst hb1
  have HSt := Lib.hid (HSa.out (HSm.out rfl))
  have hna40 : na ≤ 40 := HSt.out.2
  have b1 : w3.cell? ⟨w.heap.size, 1, none⟩ = some (.string tn) := by simp [World.cell?, HX3.out]
  have b2 : w3.cell? ⟨w.heap.size, 2, none⟩ = some (.string tv) := by simp [World.cell?, HX3.out]
  by_cases hz1 : tn.size ≤ 100
  case neg =>
    have q1 : decide ((100 : Int) < (tn.size : Int)) = true := by simp; omega
    clear hz1
    go_wp2_with fail
    refine (HS.out _ HB3.out).mono ?_
    rintro e w4 ⟨rfl, hb⟩
    have HB := Lib.hid (HB3.out.trans (hb.mono HB3.out.size))
    clear hb
    go_wp2
    go_ret
    exact ⟨rfl, HB.out⟩
  by_cases hz2 : tv.size ≤ 100
  case neg =>
    have q1 : decide ((100 : Int) < (tn.size : Int)) = false := by simp; omega
    have q2 : decide ((100 : Int) < (tv.size : Int)) = true := by simp; omega
    clear hz2
    go_wp2_with fail
    refine (HS.out _ HB3.out).mono ?_
    rintro e w4 ⟨rfl, hb⟩
    have HB := Lib.hid (HB3.out.trans (hb.mono HB3.out.size))
    clear hb
    go_wp2
    go_ret
    exact ⟨rfl, HB.out⟩
  have q1 : decide ((100 : Int) < (tn.size : Int)) = false := by simp; omega
  have q2 : decide ((100 : Int) < (tv.size : Int)) = false := by simp; omega
  go_wp2_with fail
  refine (HS.out _ HB3.out).mono ?_
  rintro e w4 ⟨rfl, hb⟩
  have HB4 := Lib.hid (HB3.out.trans (hb.mono HB3.out.size))
  have HV4 := Lib.hid (HV3.out.trans (hb.mono HV3.out.size))
  clear hb b1 b2 q1 q2
  go_wp2_with fail
  refine (HG.out w4 HB4.out hln).mono ?_
  rintro e w5 ⟨Af, G, cf, rfl, hF, hm, hlk, hb⟩
  have HB5 := Lib.hid (HB4.out.trans (hb.mono HB4.out.size))
  have HV5 := Lib.hid (HV4.out.trans (hb.mono HV4.out.size))
  clear hb hlk HS HG HLE HBd HFw
  have hn60 := (may_sz hm).1
  have h0n := (mayB_parts hm).1
  obtain ⟨n, hn⟩ : ∃ n, G.length = n := ⟨_, rfl⟩
  have HNN := Lib.hid hn
  have HMay := Lib.hid hm
  have HFR := Lib.hid hF
  have HX5 := Lib.hid ((HV5.out.block _ HS0.out).trans HX0.out)
  have HT5 := Lib.hid (HTw.out w5 HB5.out)
  obtain ⟨W6, hW6⟩ : ∃ W6, W6 = one1W w5 P na pc := ⟨_, rfl⟩
  have HB6 : Hid (Below w5.heap.size w5 W6) := Lib.hid (by rw [hW6]; exact one1_below ..)
  have HXs1 : Hid (Xs W6 (some ⟨w5.heap.size + 1, 0, none⟩) (one1X w5 P a pc)) := Lib.hid (by
    have := one1_xs (c := pc) HT5.out (by rw [HNA.out]; omega) HSt.out.1
    rw [HNA.out] at this
    rw [hW6]
    exact this)
  have hS05 : w.heap.size < w5.heap.size := Nat.lt_of_lt_of_le HS0.out HV5.out.size
  have HX6 := Lib.hid ((HB6.out.block _ hS05).trans HX5.out)
  have HT6 := Lib.hid (HT5.out.below HB6.out)
  have HSr : Hid (∀ V : World, Below W6.heap.size W6 V → Srow V P na 3 (tcells a)) := Lib.hid (fun V hb => by
    have := srow_tests (HT6.out.below hb)
    rwa [HNA.out] at this)
  have hS06 : w.heap.size < W6.heap.size := Nat.lt_of_lt_of_le hS05 HB6.out.size
  rw [hn] at hn60 h0n ⊢
  clear hF hm hn
  unfold one1W at hW6
  go_upto_region 5 with fail
  rw [← hW6]
  clear hW6
  obtain ⟨i1, hi1, hz1', hz2', hz3'⟩ := info_parts info_t9
  have HJ := Lib.hid (And.intro hi1 (And.intro hz1' (And.intro hz2' hz3')))
  clear hi1 hz1' hz2' hz3'
  obtain ⟨b0, b1, b2⟩ := block3m HX6.out
  have HBx := Lib.hid (fun (V : World) (hb : Below W6.heap.size W6 V) => block3m ((hb.block _ hS06).trans HX6.out))
  have HBy := Lib.hid (fun (V : World) (hb : Below W6.heap.size W6 V) => (hb.block _ hS06).trans HX6.out)
  obtain ⟨bx, hbx⟩ : ∃ bx, w.heap.size = bx := ⟨_, rfl⟩
  have HBX := Lib.hid hbx
  rw [hbx] at hS06 b0 b1 b2 HBx HBy ⊢
  clear hbx
  go_cut [11] from 15 to 109 (fun q wx => ∃ (w7 : World) (p2 : Option Addr) (c2 : Nat), q = .slice (some ⟨w7.heap.size + 1, 0, none⟩) 1 1 ∧ wx = one1W w7 p2 (na + 1) c2 ∧ Hid (w7.ownsRow W6.heap.size 77 3 (.slice p2 (na + 1) c2) (na + 1) (tcells a ++ tcells [(tk, tn, tv)])) ∧ Hid (Below W6.heap.size W6 w7))
  case first =>
    have hne1 : bx ≠ W6.heap.size := by omega
    have hne2 : W6.heap.size ≠ bx := by omega
    have hne3 : bx ≠ W6.heap.size + 1 := by omega
    have hne4 : W6.heap.size + 1 ≠ bx := by omega
    have mixed : Tryz.prog.follows Departure.mixedOrders = true := by kernel_rfl
    have HE1 : Hid ((W6.drew.alloc (.cells #[] 77)).ownsRow W6.heap.size 77 3 (.slice (some ⟨W6.heap.size, 0, none⟩) 0 0) 0 []) := Lib.hid (World.ownsRow_made (e := 77) (size := 3) (base := W6.heap.size) W6.drew #[] 0 (Nat.le_refl _) (by simp [maxLen]) rfl)
    have HE2 : Hid (((W6.drew.alloc (.cells #[] 77)).alloc (.cells #[.int .i64 tk, .string tn, .string tv] 77)).ownsRow W6.heap.size 77 3 (.slice (some ⟨W6.heap.size, 0, none⟩) 0 0) 0 []) := Lib.hid (HE1.out.alloc _)
    have HE3 : Hid (((W6.drew.alloc (.cells #[.int .i64 tk, .string tn, .string tv] 77)).alloc (.cells #[] 77)).ownsRow W6.heap.size 77 3 (.slice (some ⟨W6.heap.size + 1, 0, none⟩) 0 0) 0 []) := Lib.hid (by
      have := World.ownsRow_made (e := 77) (size := 3) (base := W6.heap.size) (W6.drew.alloc (.cells #[.int .i64 tk, .string tn, .string tv] 77)) #[] 0 (by simp) (by simp [maxLen]) rfl
      rw [World.size_alloc] at this
      exact this)
    have HBe1 : Hid (Below W6.heap.size W6 (W6.drew.alloc (.cells #[] 77))) := Lib.hid ((Below.refl W6.heap.size W6).drew.alloc (Nat.le_refl _) _)
    have HBe2 : Hid (Below W6.heap.size W6 ((W6.drew.alloc (.cells #[] 77)).alloc (.cells #[.int .i64 tk, .string tn, .string tv] 77))) := Lib.hid (HBe1.out.alloc (by simp) _)
    have HBe3 : Hid (Below W6.heap.size W6 ((W6.drew.alloc (.cells #[.int .i64 tk, .string tn, .string tv] 77)).alloc (.cells #[] 77))) := Lib.hid (((Below.refl W6.heap.size W6).drew.alloc (Nat.le_refl _) _).alloc (by simp) _)
    have HTb2 : Hid (((W6.drew.alloc (.cells #[] 77)).alloc (.cells #[.int .i64 tk, .string tn, .string tv] 77)).heap[W6.heap.size + 1]? = some (.cells #[.int .i64 tk, .string tn, .string tv] 77 (0, 0))) := Lib.hid (by
      have := heap_alloc_new (W6.drew.alloc (.cells #[] 77)) (.cells #[.int .i64 tk, .string tn, .string tv] 77)
      rwa [World.size_alloc] at this)
    have HTb3 : Hid (((W6.drew.alloc (.cells #[.int .i64 tk, .string tn, .string tv] 77)).alloc (.cells #[] 77)).heap[W6.heap.size]? = some (.cells #[.int .i64 tk, .string tn, .string tv] 77 (0, 0))) := Lib.hid ((Below.heap_alloc _ _ _ (by simp)).trans (heap_alloc_new W6.drew _))
    go_region_law_o (first
      | (refine step_srow rfl (.tmp 49) (.tmp 50) 52 rfl W6.heap.size 77 i1 (.agg #[.int .i64 0, .string ⟨#[]⟩, .string ⟨#[]⟩]) 3 40 Tryz.underlying52 HJ.out.1 HJ.out.2.1 HJ.out.2.2.1 HJ.out.2.2.2 rfl (by decide) (.slice (some ⟨W6.heap.size, 0, none⟩) 0 0) 0 [] (by simp [Act.eval, Act.put]) HE1.out P na pc (tcells a) (by simp [Act.eval, Act.put]) (HSr.out _ (HBe1.out)) (by unfold maxLen; omega) (by omega) (by first | (simp; done) | (simp; omega)) ?_; intro v' w7 hown' hgrow hat; have HB7 : Hid (Below W6.heap.size W6 w7) := Lib.hid ((HBe1.out).grown hgrow (by first | (simp; done) | (simp; omega)) (fun q e => ((HE1.out).lt q e).1)); rw [Nat.zero_add, List.nil_append] at hown'; obtain ⟨p1, c1, rfl, -, -⟩ := own_form2 hown'; have HO1 := Lib.hid hown'; obtain ⟨d0, d1, d2⟩ := HBx.out w7 HB7.out; have hs7 := HB7.out.size; clear hown' hgrow hat)
      | (refine step_srow rfl (.tmp 49) (.tmp 50) 52 rfl W6.heap.size 77 i1 (.agg #[.int .i64 0, .string ⟨#[]⟩, .string ⟨#[]⟩]) 3 40 Tryz.underlying52 HJ.out.1 HJ.out.2.1 HJ.out.2.2.1 HJ.out.2.2.2 rfl (by decide) (.slice (some ⟨W6.heap.size, 0, none⟩) 0 0) 0 [] (by simp [Act.eval, Act.put]) HE2.out P na pc (tcells a) (by simp [Act.eval, Act.put]) (HSr.out _ (HBe2.out)) (by unfold maxLen; omega) (by omega) (by first | (simp; done) | (simp; omega)) ?_; intro v' w7 hown' hgrow hat; have HT7 : Hid (∃ g, g < w7.heap.size ∧ w7.heap[g]? = some (.cells #[.int .i64 tk, .string tn, .string tv] 77 (0, 0)) ∧ g = W6.heap.size + 1) := Lib.hid ⟨W6.heap.size + 1, by have := hgrow.size; simp at this; omega, (hgrow.block _ (by first | (simp; done) | (simp; omega)) (by simp [Value.ownBlock])).trans HTb2.out, rfl⟩; have HB7 : Hid (Below W6.heap.size W6 w7) := Lib.hid ((HBe2.out).grown hgrow (by first | (simp; done) | (simp; omega)) (fun q e => ((HE2.out).lt q e).1)); rw [Nat.zero_add, List.nil_append] at hown'; obtain ⟨p1, c1, rfl, -, -⟩ := own_form2 hown'; have HO1 := Lib.hid hown'; obtain ⟨d0, d1, d2⟩ := HBx.out w7 HB7.out; have hs7 := HB7.out.size; clear hown' hgrow hat)
      | (refine step_srow rfl (.tmp 49) (.tmp 50) 52 rfl W6.heap.size 77 i1 (.agg #[.int .i64 0, .string ⟨#[]⟩, .string ⟨#[]⟩]) 3 40 Tryz.underlying52 HJ.out.1 HJ.out.2.1 HJ.out.2.2.1 HJ.out.2.2.2 rfl (by decide) (.slice (some ⟨(W6.heap.size + 1), 0, none⟩) 0 0) 0 [] (by simp [Act.eval, Act.put]) HE3.out P na pc (tcells a) (by simp [Act.eval, Act.put]) (HSr.out _ (HBe3.out)) (by unfold maxLen; omega) (by omega) (by first | (simp; done) | (simp; omega)) ?_; intro v' w7 hown' hgrow hat; have HT7 : Hid (∃ g, g < w7.heap.size ∧ w7.heap[g]? = some (.cells #[.int .i64 tk, .string tn, .string tv] 77 (0, 0)) ∧ g = W6.heap.size) := Lib.hid ⟨W6.heap.size, by have := hgrow.size; simp at this; omega, (hgrow.block _ (by first | (simp; done) | (simp; omega)) (by simp [Value.ownBlock])).trans HTb3.out, rfl⟩; have HB7 : Hid (Below W6.heap.size W6 w7) := Lib.hid ((HBe3.out).grown hgrow (by first | (simp; done) | (simp; omega)) (fun q e => ((HE3.out).lt q e).1)); rw [Nat.zero_add, List.nil_append] at hown'; obtain ⟨p1, c1, rfl, -, -⟩ := own_form2 hown'; have HO1 := Lib.hid hown'; obtain ⟨d0, d1, d2⟩ := HBx.out w7 HB7.out; have hs7 := HB7.out.size; clear hown' hgrow hat)
      | (refine step_srow rfl (.tmp 51) (.tmp 53) 52 rfl W6.heap.size 77 i1 (.agg #[.int .i64 0, .string ⟨#[]⟩, .string ⟨#[]⟩]) 3 40 Tryz.underlying52 HJ.out.1 HJ.out.2.1 HJ.out.2.2.1 HJ.out.2.2.2 rfl (by decide) (.slice p1 na c1) na (tcells a) (by simp [Act.eval, Act.put]) (HO1.out.alloc (.cells #[.int .i64 tk, .string tn, .string tv] 77)) (some ⟨w7.heap.size, 0, none⟩) 1 1 (tcells [(tk, tn, tv)]) (by simp [Act.eval, Act.put]) (srow_tests (T := [(tk, tn, tv)]) (tr_box (t := (tk, tn, tv)) (heap_alloc_new w7 (.cells #[.int .i64 tk, .string tn, .string tv] 77)))) (by unfold maxLen; omega) (by omega) (by first | omega | (simp; omega)) ?_; intro v' w8 hown' hgrow hat; have HB8 : Hid (Below W6.heap.size W6 w8) := Lib.hid ((HB7.out.alloc HB7.out.size _).grown hgrow (by first | omega | (simp; omega)) (fun q e => (((HO1.out.alloc (.cells #[.int .i64 tk, .string tn, .string tv] 77))).lt q e).1)); obtain ⟨p2, c2, rfl, -, -⟩ := own_form2 hown'; have HO2 := Lib.hid hown'; clear hown' hgrow hat)
      | (obtain ⟨g7, hg7, hx7, rfl⟩ := HT7.out; refine step_srow rfl (.tmp 51) (.tmp 53) 52 rfl W6.heap.size 77 i1 (.agg #[.int .i64 0, .string ⟨#[]⟩, .string ⟨#[]⟩]) 3 40 Tryz.underlying52 HJ.out.1 HJ.out.2.1 HJ.out.2.2.1 HJ.out.2.2.2 rfl (by decide) (.slice p1 na c1) na (tcells a) (by simp [Act.eval, Act.put]) HO1.out (some ⟨_, 0, none⟩) 1 1 (tcells [(tk, tn, tv)]) (by simp [Act.eval, Act.put]) (srow_tests (T := [(tk, tn, tv)]) (tr_box (t := (tk, tn, tv)) hx7)) (by unfold maxLen; omega) (by omega) (by first | omega | (simp; omega)) ?_; intro v' w8 hown' hgrow hat; have HB8 : Hid (Below W6.heap.size W6 w8) := Lib.hid ((HB7.out).grown hgrow (by first | omega | (simp; omega)) (fun q e => ((HO1.out).lt q e).1)); obtain ⟨p2, c2, rfl, -, -⟩ := own_form2 hown'; have HO2 := Lib.hid hown'; clear hown' hgrow hat)
      )
    all_goals
      go_wp2
      go_meet
      exact ⟨w8, p2, c2, rfl, rfl, HO2, HB8⟩
  case rest =>
  obtain ⟨w7, p2, c2, rfl, hwc, HO2, HB7⟩ := hcut
  clear b0 b1 b2 HJ
  have HB8 : Hid (Below W6.heap.size W6 wc) := Lib.hid (by rw [hwc]; exact HB7.out.trans ((one1_below w7 p2 (na + 1) c2).mono HB7.out.size))
  have HXs2 : Hid (Xs wc (some ⟨w7.heap.size + 1, 0, none⟩) (one1X w7 p2 (a ++ [(tk, tn, tv)]) c2)) := Lib.hid (by
    have e1 : (a ++ [(tk, tn, tv)]).length = na + 1 := by rw [List.length_append, HNA.out]; rfl
    have e2 : tcells a ++ tcells [(tk, tn, tv)] = tcells (a ++ [(tk, tn, tv)]) := by simp [tcells]
    have h := HO2.out
    rw [e2, ← e1] at h
    have := one1_xs (c := c2) (tr_of h) (by rw [e1]; omega) (fun u hu => by
      rw [List.mem_append, List.mem_singleton] at hu
      rcases hu with hu | rfl
      · exact HSt.out.1 u hu
      · exact Nat.le_trans hz1 (by decide))
    rw [e1] at this
    rw [hwc]
    exact this)
  obtain ⟨b0, b1, b2⟩ := HBx.out wc HB8.out
  obtain ⟨W9, hW9⟩ : ∃ W9, W9 = wc.alloc (.cells #[.int .i64 tk, .string tn, .string tv] 77) := ⟨_, rfl⟩
  have HB9 : Hid (Below wc.heap.size wc W9) := Lib.hid (by rw [hW9]; exact (Below.refl _ _).alloc (Nat.le_refl _) _)
  have HX9 : Hid (W9.heap[wc.heap.size]? = some (.cells #[.int .i64 tk, .string tn, .string tv] 77 (0, 0))) := Lib.hid (by rw [hW9]; exact heap_alloc_new wc _)
  have HZ9 : Hid (W9.heap.size = wc.heap.size + 1) := Lib.hid (by rw [hW9, World.size_alloc])
  have HB69 : Hid (Below W6.heap.size W6 W9) := Lib.hid (HB8.out.trans (HB9.out.mono HB8.out.size))
  obtain ⟨W10, hW10⟩ : ∃ W10, W10 = one2W W9 (some ⟨wc.heap.size, 0, none⟩) 1 1 P na pc ch := ⟨_, rfl⟩
  have HB10 : Hid (Below W6.heap.size W6 W10) := Lib.hid (by rw [hW10]; exact HB69.out.trans ((one2_below ..).mono HB69.out.size))
  have HB8x : Hid (Below wc.heap.size wc W10) := Lib.hid (by rw [hW10]; exact HB9.out.trans ((one2_below ..).mono HB9.out.size))
  have HXs3 : Hid (Xs W10 (some ⟨wc.heap.size + 1 + 1, 0, none⟩) (one2X W9 (some ⟨wc.heap.size, 0, none⟩) [(tk, tn, tv)] 1 P a pc ch)) := Lib.hid (by
    have := one2_xs (c := 1) (d := pc) (tr_box (t := (tk, tn, tv)) HX9.out) (HT6.out.below HB69.out) ch (by simp) (fun u hu => by
      rw [List.mem_singleton] at hu
      subst hu
      exact Nat.le_trans hz1 (by decide)) (by rw [HNA.out]; omega) HSt.out.1
    rw [HNA.out, HZ9.out] at this
    rw [hW10]
    exact this)
  rw [hW9] at hW10
  unfold one2W at hW10
  simp only [World.size_alloc] at hW10
  have HI1 : Hid (∀ (V : World) (i : Nat) (hb : Below W10.heap.size W10 V) (hi : i < G.length), Calls Tryz.prog 22 #[.slice Af n cf, .int .i64 i, .slice (some ⟨w5.heap.size + 1, 0, none⟩) 1 1] V (GivesV (.bool (fitsB G[i] a)) V)) := Lib.hid (fun V i hb hi => by
    have h6 := HB10.out.trans (hb.mono HB10.out.size)
    have := is_any Af G cf i (some ⟨w5.heap.size + 1, 0, none⟩) (one1X w5 P a pc) 1 V (HFR.out.below (HB6.out.trans (h6.mono HB6.out.size))) HMay.out hi (HXs1.out.below h6)
    unfold one1X at this
    rw [isP_one hi, HNN.out] at this
    exact this)
  have HI2 : Hid (∀ (V : World) (i : Nat) (hb : Below W10.heap.size W10 V) (hi : i < G.length), Calls Tryz.prog 22 #[.slice Af n cf, .int .i64 i, .slice (some ⟨w7.heap.size + 1, 0, none⟩) 1 1] V (GivesV (.bool (fitsB G[i] a && fitsB G[i] [(tk, tn, tv)])) V)) := Lib.hid (fun V i hb hi => by
    have h6 := HB10.out.trans (hb.mono HB10.out.size)
    have := is_any Af G cf i (some ⟨w7.heap.size + 1, 0, none⟩) (one1X w7 p2 (a ++ [(tk, tn, tv)]) c2) 1 V (HFR.out.below (HB6.out.trans (h6.mono HB6.out.size))) HMay.out hi (HXs2.out.below (HB8x.out.trans (hb.mono HB8x.out.size)))
    unfold one1X at this
    rw [isP_one hi, fitsB_snoc, HNN.out] at this
    exact this)
  have HI3 : Hid (∀ (V : World) (i : Nat) (hb : Below W10.heap.size W10 V) (hi : i < G.length), fitsB G[i] a = false → Calls Tryz.prog 22 #[.slice Af n cf, .int .i64 i, .slice (some ⟨wc.heap.size + 1 + 1, 0, none⟩) 1 1] V (GivesV (.bool false) V)) := Lib.hid (fun V i hb hi hx => by
    have h6 := HB10.out.trans (hb.mono HB10.out.size)
    have := is_any Af G cf i (some ⟨wc.heap.size + 1 + 1, 0, none⟩) (one2X W9 (some ⟨wc.heap.size, 0, none⟩) [(tk, tn, tv)] 1 P a pc ch) 1 V (HFR.out.below (HB6.out.trans (h6.mono HB6.out.size))) HMay.out hi (HXs3.out.below hb)
    unfold one2X at this
    rw [isP_two hi _ _ _ _ _ _ _ _ _ _ hx, HNN.out] at this
    exact this)
  have HI4 : Hid (∀ (V : World) (i g : Nat) (hb : Below W10.heap.size W10 V) (hi : i < G.length) (hg : V.heap[g]? = some (.cells #[.int .i64 tk, .string tn, .string tv] 77 (0, 0))), Calls Tryz.prog 24 #[nval G[i], .slice (some ⟨g, 0, none⟩) 1 1] V (GivesV (.bool (fitsB G[i] [(tk, tn, tv)])) V)) := Lib.hid (fun V i g hb hi hg => by
    have h6 := HB10.out.trans (hb.mono HB10.out.size)
    obtain ⟨-, g', off', -, hg', hn'⟩ := (HFR.out.below (HB6.out.trans (h6.mono HB6.out.size))) i G[i] (List.getElem?_eq_getElem hi)
    exact fits_any G[i] (some ⟨g, 0, none⟩) [(tk, tn, tv)] 1 V hn'.ar (may_nb HMay.out _ (List.getElem_mem hi)) (tr_box (t := (tk, tn, tv)) hg) (fun u hu => by
      rw [List.mem_singleton] at hu
      subst hu
      exact Nat.le_trans hz1 (by decide)) (by simp))
  have HNd : Hid (∀ (V : World) (i : Nat) (hb : Below W10.heap.size W10 V) (hi : i < G.length), _) := Lib.hid (fun V i hb hi => (HFR.out.below (HB6.out.trans ((HB10.out.trans (hb.mono HB10.out.size)).mono HB6.out.size)) i G[i] (List.getElem?_eq_getElem hi)).2)
  have HBz := Lib.hid (fun (V : World) (hb : Below W10.heap.size W10 V) => HBx.out V (HB10.out.trans (hb.mono HB10.out.size)))
  have HBw : Hid (Below w.heap.size w W10) := Lib.hid (HB5.out.trans ((HB6.out.trans (HB10.out.mono HB6.out.size)).mono HB5.out.size))
  clear hwc hW9
  go_wp2_with fail
  rw [← hW10]
  clear hW10 b0 b1 b2
  have q9 : decide ((0 : Int) < (n : Int)) = true := by simp; omega
  go_loopw [13] (fun q wr => ∃ (V : World) (i : Nat), V = wr ∧ i ≤ n ∧ q = .int .i64 i ∧ Hid (Below W10.heap.size W10 V)) (fun q _ => n - (intOf q).toNat)
  case atStart => exact ⟨_, 0, rfl, Nat.zero_le _, rfl, Lib.hid (Below.refl _ _)⟩
  case round =>
    obtain ⟨V, i, rfl, hi, rfl, HV⟩ := hrel
    by_cases hlt : i < n
    · have k0 : (0 : Int) ≤ (i : Int) := by omega
      have k1 : (i : Int) < (n : Int) := by omega
      have hiG : i < G.length := by rw [HNN.out]; exact hlt
      have HIi := Lib.hid (HI1.out V i HV.out hiG)
      have HIm := Lib.hid (fun (U : World) (hU : Below W10.heap.size W10 U) => HI2.out U i hU hiG)
      have HIn := Lib.hid (fun (U : World) (hU : Below W10.heap.size W10 U) => HI3.out U i hU hiG)
      have HIf := Lib.hid (fun (U : World) (g : Nat) (hU : Below W10.heap.size W10 U) => HI4.out U i g hU hiG)
      have HNi := Lib.hid (fun (U : World) (hU : Below W10.heap.size W10 U) => HNd.out U i hU hiG)
      generalize fitsB G[i] a = x at *
      generalize fitsB G[i] [(tk, tn, tv)] = y at *
      generalize G[i] = mi at *
      go_wp2_with fail
      refine HIi.out.mono ?_
      rintro e w6 ⟨rfl, hb⟩
      have HV6 := Lib.hid (HV.out.trans (hb.mono HV.out.size))
      clear hb
      obtain ⟨g, off, hA, hg, hnd⟩ := HNi.out w6 HV6.out
      have c0 := hnd.c0
      have c1 := hnd.c1
      have c2' := hnd.c2
      have c3 := hnd.c3
      have c4 := hnd.c4
      have c5 := hnd.c5
      clear hnd
      have mixed : Tryz.prog.follows Departure.mixedOrders = true := by kernel_rfl
      cases x with
      | false =>
        have HIm2 : Hid (∀ (U : World), Below w6.heap.size w6 U → Calls Tryz.prog 22 #[.slice Af n cf, .int .i64 i, .slice (some ⟨w7.heap.size + 1, 0, none⟩) 1 1] U (GivesV (.bool false) U)) := Lib.hid (fun U hU => HIm.out U (HV6.out.trans (hU.mono HV6.out.size)))
        have HIn2 := Lib.hid (fun (U : World) (hU : Below w6.heap.size w6 U) => HIn.out U (HV6.out.trans (hU.mono HV6.out.size)) rfl)
        have HCk := Lib.hid (fun (U : World) (hU : Below w6.heap.size w6 U) => (HBz.out U (HV6.out.trans (hU.mono HV6.out.size))).1)
        clear c0 c1 c2' c3 c4 c5 hA hg
        go_upto_region 11 with fail
        refine wp_region_held_drew (S := fun U : World => U.cell? ⟨bx, 0, none⟩ = some (.int .i64 tk)) (by kernel_rfl) (HCk.out _ (Below.refl _ _).drew) (fun hHeld => ?_)
        refine held_take (i := 0) (d := some 76) (v := ?_) rfl rfl (by kernel_rfl) (by kernel_rfl) (by kernel_rfl) (fun _ _ _ h => h) (by rfl) ?_ (by assumption) ?_
        rotate_left
        · intro w hS; first | (go_simp; done) | (go_simp; with_reducible rfl)
        simp only [Act.put, List.setIfInBounds_toArray, List.set_cons_zero, List.set_cons_succ]
        refine held_take (i := 1) (d := some 77) (v := ?_) rfl rfl (by kernel_rfl) (by kernel_rfl) (by kernel_rfl) (fun _ _ _ h => h) (by rfl) ?_ (by assumption) ?_
        rotate_left
        · intro w hS; first | (go_simp; done) | (go_simp; with_reducible rfl)
        simp only [Act.put, List.setIfInBounds_toArray, List.set_cons_zero, List.set_cons_succ]
        refine held_take (i := 2) (d := some 78) (v := ?_) rfl rfl (by kernel_rfl) (by kernel_rfl) (by kernel_rfl) (fun _ _ _ h => h) (by rfl) ?_ (by assumption) ?_
        rotate_left
        · intro w hS; first | (go_simp; done) | (go_simp; with_reducible rfl)
        simp only [Act.put, List.setIfInBounds_toArray, List.set_cons_zero, List.set_cons_succ]
        refine held_take (i := 3) (d := some 79) (v := ?_) rfl rfl (by kernel_rfl) (by kernel_rfl) (by kernel_rfl) (fun _ _ _ h => h) (by rfl) ?_ (by assumption) ?_
        rotate_left
        · intro w hS; first | (go_simp; done) | (go_simp; with_reducible rfl)
        simp only [Act.put, List.setIfInBounds_toArray, List.set_cons_zero, List.set_cons_succ]
        refine held_take (i := 4) (d := some 80) (v := ?_) rfl rfl (by kernel_rfl) (by kernel_rfl) (by kernel_rfl) (fun _ _ _ h => h) (by rfl) ?_ (by assumption) ?_
        rotate_left
        · intro w hS; first | (go_simp; done) | (go_simp; with_reducible rfl)
        simp only [Act.put, List.setIfInBounds_toArray, List.set_cons_zero, List.set_cons_succ]
        refine held_take (i := 5) (d := some 81) (v := ?_) rfl rfl (by kernel_rfl) (by kernel_rfl) (by kernel_rfl) (fun _ _ _ h => h) (by rfl) ?_ (by assumption) ?_
        rotate_left
        · intro w hS; first | (go_simp; done) | (go_simp; with_reducible rfl)
        simp only [Act.put, List.setIfInBounds_toArray, List.set_cons_zero, List.set_cons_succ]
        refine wpAnyH_ready (rs := [6]) (by kernel_rfl) (by simp) ?_
        refine AllReadyH.cons rfl (fun K hK => ?_) AllReadyH.nil
        refine if_wp (by rfl) ?_
        go_simp
        refine (HIm2.out _ (Below.refl _ _).drew).mono ?_
        rintro e wp ⟨rfl, hb⟩
        have HBp : Hid (Below w6.heap.size w6 wp) := Lib.hid ((Below.refl _ _).drew.trans hb)
        clear hb
        refine hK.out _ _ (HCk.out _ HBp.out) (fun hHeld2 => ?_)
        clear hK K hHeld
        have hHeld := hHeld2
        clear hHeld2
        try simp only [Act.put, List.setIfInBounds_toArray, List.set_cons_zero, List.set_cons_succ]
        refine held_take (i := 7) (d := some 83) (v := ?_) rfl rfl (by kernel_rfl) (by kernel_rfl) (by kernel_rfl) (fun _ _ _ h => h) (by rfl) ?_ (by assumption) ?_
        rotate_left
        · intro w hS; first | (go_simp; done) | (go_simp; with_reducible rfl)
        simp only [Act.put, List.setIfInBounds_toArray, List.set_cons_zero, List.set_cons_succ]
        refine held_take (i := 8) (d := some 84) (v := ?_) rfl rfl (by kernel_rfl) (by kernel_rfl) (by kernel_rfl) (fun _ _ _ h => h) (by rfl) ?_ (by assumption) ?_
        rotate_left
        · intro w hS; first | (go_simp; done) | (go_simp; with_reducible rfl)
        simp only [Act.put, List.setIfInBounds_toArray, List.set_cons_zero, List.set_cons_succ]
        refine held_take (i := 9) (d := some 85) (v := ?_) rfl rfl (by kernel_rfl) (by kernel_rfl) (by kernel_rfl) (fun _ _ _ h => h) (by rfl) ?_ (by assumption) ?_
        rotate_left
        · intro w hS; first | (go_simp; done) | (go_simp; with_reducible rfl)
        simp only [Act.put, List.setIfInBounds_toArray, List.set_cons_zero, List.set_cons_succ]
        refine held_take (i := 10) (d := some 86) (v := ?_) rfl rfl (by kernel_rfl) (by kernel_rfl) (by kernel_rfl) (fun _ _ _ h => h) (by rfl) ?_ (by assumption) ?_
        rotate_left
        · intro w hS; first | (go_simp; done) | (go_simp; with_reducible rfl)
        simp only [Act.put, List.setIfInBounds_toArray, List.set_cons_zero, List.set_cons_succ]
        refine wpAnyH_ready (rs := [11]) (by kernel_rfl) (by simp) ?_
        refine AllReadyH.cons rfl (fun K hK => ?_) AllReadyH.nil
        refine if_wp (by rfl) ?_
        go_simp
        refine (HIn2.out _ HBp.out).mono ?_
        rintro e wq ⟨rfl, hb⟩
        have HBq := Lib.hid (HBp.out.trans (hb.mono HBp.out.size))
        clear hb
        refine hK.out _ _ (HCk.out _ HBq.out) (fun hHeld2 => ?_)
        clear hK K hHeld
        have hHeld := hHeld2
        clear hHeld2
        try simp only [Act.put, List.setIfInBounds_toArray, List.set_cons_zero, List.set_cons_succ]
        refine held_take (i := 12) (d := some 88) (v := ?_) rfl rfl (by kernel_rfl) (by kernel_rfl) (by kernel_rfl) (fun _ _ _ h => h) (by rfl) ?_ (by assumption) ?_
        rotate_left
        · intro w hS; first | (go_simp; done) | (go_simp; with_reducible rfl)
        simp only [Act.put, List.setIfInBounds_toArray, List.set_cons_zero, List.set_cons_succ]
        refine held_take (i := 13) (d := some 89) (v := ?_) rfl rfl (by kernel_rfl) (by kernel_rfl) (by kernel_rfl) (fun _ _ _ h => h) (by rfl) ?_ (by assumption) ?_
        rotate_left
        · intro w hS; first | (go_simp; done) | (go_simp; with_reducible rfl)
        simp only [Act.put, List.setIfInBounds_toArray, List.set_cons_zero, List.set_cons_succ]
        refine held_take (i := 14) (d := some 90) (v := ?_) rfl rfl (by kernel_rfl) (by kernel_rfl) (by kernel_rfl) (fun _ _ _ h => h) (by rfl) ?_ (by assumption) ?_
        rotate_left
        · intro w hS; first | (go_simp; done) | (go_simp; with_reducible rfl)
        simp only [Act.put, List.setIfInBounds_toArray, List.set_cons_zero, List.set_cons_succ]
        refine held_take (i := 15) (d := some 91) (v := ?_) rfl rfl (by kernel_rfl) (by kernel_rfl) (by kernel_rfl) (fun _ _ _ h => h) (by rfl) ?_ (by assumption) ?_
        rotate_left
        · intro w hS; first | (go_simp; done) | (go_simp; with_reducible rfl)
        simp only [Act.put, List.setIfInBounds_toArray, List.set_cons_zero, List.set_cons_succ]
        refine held_take (i := 16) (d := some 92) (v := ?_) rfl rfl (by kernel_rfl) (by kernel_rfl) (by kernel_rfl) (fun _ _ _ h => h) (by rfl) ?_ (by assumption) ?_
        rotate_left
        · intro w hS; first | (go_simp; done) | (go_simp; with_reducible rfl)
        simp only [Act.put, List.setIfInBounds_toArray, List.set_cons_zero, List.set_cons_succ]
        refine held_take (i := 17) (d := some 93) (v := ?_) rfl rfl (by kernel_rfl) (by kernel_rfl) (by kernel_rfl) (fun _ _ _ h => h) (by rfl) ?_ (by assumption) ?_
        rotate_left
        · intro w hS; first | (go_simp; done) | (go_simp; with_reducible rfl)
        simp only [Act.put, List.setIfInBounds_toArray, List.set_cons_zero, List.set_cons_succ]
        refine held_take (i := 19) (d := some 95) (v := ?_) rfl rfl (by kernel_rfl) (by kernel_rfl) (by kernel_rfl) (fun _ _ _ h => h) (by rfl) ?_ (by assumption) ?_
        rotate_left
        · intro w hS; first | (go_simp; done) | (go_simp; with_reducible rfl)
        simp only [Act.put, List.setIfInBounds_toArray, List.set_cons_zero, List.set_cons_succ]
        refine wpAnyH_ready (rs := [18]) (by kernel_rfl) (by simp) ?_
        refine AllReadyH.cons rfl (fun K hK => ?_) AllReadyH.nil
        refine if_wp (by rfl) ?_
        go_simp
        refine (HIm2.out _ HBq.out).mono ?_
        rintro e wr ⟨rfl, hb⟩
        have HBr := Lib.hid (HBq.out.trans (hb.mono HBq.out.size))
        clear hb
        refine hK.out _ _ (HCk.out _ HBr.out) (fun hHeld2 => ?_)
        clear hK K hHeld
        have hHeld := hHeld2
        clear hHeld2
        try simp only [Act.put, List.setIfInBounds_toArray, List.set_cons_zero, List.set_cons_succ]
        refine held_take (i := 20) (d := some 96) (v := ?_) rfl rfl (by kernel_rfl) (by kernel_rfl) (by kernel_rfl) (fun _ _ _ h => h) (by rfl) ?_ (by assumption) ?_
        rotate_left
        · intro w hS; first | (go_simp; done) | (go_simp; with_reducible rfl)
        simp only [Act.put, List.setIfInBounds_toArray, List.set_cons_zero, List.set_cons_succ]
        refine held_skip (i := 21) (d := some 97) rfl rfl (by kernel_rfl) (by kernel_rfl) (by kernel_rfl) (fun _ _ _ h => h) (by rfl) (by assumption) ?_
        simp only [Act.put, List.setIfInBounds_toArray, List.set_cons_zero, List.set_cons_succ]
        refine held_skip (i := 22) (d := some 98) rfl rfl (by kernel_rfl) (by kernel_rfl) (by kernel_rfl) (fun _ _ _ h => h) (by rfl) (by assumption) ?_
        simp only [Act.put, List.setIfInBounds_toArray, List.set_cons_zero, List.set_cons_succ]
        refine held_skip (i := 23) (d := some 99) rfl rfl (by kernel_rfl) (by kernel_rfl) (by kernel_rfl) (fun _ _ _ h => h) (by rfl) (by assumption) ?_
        simp only [Act.put, List.setIfInBounds_toArray, List.set_cons_zero, List.set_cons_succ]
        refine held_skip (i := 24) (d := some 100) rfl rfl (by kernel_rfl) (by kernel_rfl) (by kernel_rfl) (fun _ _ _ h => h) (by rfl) (by assumption) ?_
        simp only [Act.put, List.setIfInBounds_toArray, List.set_cons_zero, List.set_cons_succ]
        refine held_skip (i := 25) (d := some 101) rfl rfl (by kernel_rfl) (by kernel_rfl) (by kernel_rfl) (fun _ _ _ h => h) (by rfl) (by assumption) ?_
        simp only [Act.put, List.setIfInBounds_toArray, List.set_cons_zero, List.set_cons_succ]
        refine held_skip (i := 26) (d := some 102) rfl rfl (by kernel_rfl) (by kernel_rfl) (by kernel_rfl) (fun _ _ _ h => h) (by rfl) (by assumption) ?_
        simp only [Act.put, List.setIfInBounds_toArray, List.set_cons_zero, List.set_cons_succ]
        refine held_skip (i := 27) (d := some 103) rfl rfl (by kernel_rfl) (by kernel_rfl) (by kernel_rfl) (fun _ _ _ h => h) (by rfl) (by assumption) ?_
        simp only [Act.put, List.setIfInBounds_toArray, List.set_cons_zero, List.set_cons_succ]
        refine held_take (i := 28) (d := some 104) (v := ?_) rfl rfl (by kernel_rfl) (by kernel_rfl) (by kernel_rfl) (fun _ _ _ h => h) (by rfl) ?_ (by assumption) ?_
        rotate_left
        · intro w hS; first | (go_simp; done) | (go_simp; with_reducible rfl)
        simp only [Act.put, List.setIfInBounds_toArray, List.set_cons_zero, List.set_cons_succ]
        refine held_take (i := 29) (d := some 105) (v := ?_) rfl rfl (by kernel_rfl) (by kernel_rfl) (by kernel_rfl) (fun _ _ _ h => h) (by rfl) ?_ (by assumption) ?_
        rotate_left
        · intro w hS; first | (go_simp; done) | (go_simp; with_reducible rfl)
        simp only [Act.put, List.setIfInBounds_toArray, List.set_cons_zero, List.set_cons_succ]
        refine held_take (i := 30) (d := some 106) (v := ?_) rfl rfl (by kernel_rfl) (by kernel_rfl) (by kernel_rfl) (fun _ _ _ h => h) (by rfl) ?_ (by assumption) ?_
        rotate_left
        · intro w hS; first | (go_simp; done) | (go_simp; with_reducible rfl)
        simp only [Act.put, List.setIfInBounds_toArray, List.set_cons_zero, List.set_cons_succ]
        refine wpAnyH_done (by kernel_rfl) ?_ _
        clear hHeld
        go_wp2
        go_roundw
        case rel => exact ⟨_, i + 1, rfl, by omega, by go_num, Lib.hid (HV6.out.trans (HBr.out.mono HV6.out.size))⟩
        case measure => simp [intOf] <;> omega
      | true =>
        have HIm2 : Hid (∀ (U : World), Below w6.heap.size w6 U → Calls Tryz.prog 22 #[.slice Af n cf, .int .i64 i, .slice (some ⟨w7.heap.size + 1, 0, none⟩) 1 1] U (GivesV (.bool y) U)) := Lib.hid (fun U hU => HIm.out U (HV6.out.trans (hU.mono HV6.out.size)))
        have HIf2 := Lib.hid (fun (U : World) (g : Nat) (hU : Below w6.heap.size w6 U) => HIf.out U g (HV6.out.trans (hU.mono HV6.out.size)))
        have HCk : Hid (∀ (U : World) (hU : Below w6.heap.size w6 U), U.cell? ⟨g, off + i * 6, none⟩ = some (.int .i64 mi.kind) ∧ U.cell? ⟨g, off + i * 6 + 1, none⟩ = some (.string mi.name) ∧ U.cell? ⟨g, off + i * 6 + 2, none⟩ = some (.string mi.text) ∧ U.cell? ⟨g, off + i * 6 + 3, none⟩ = some (.slice mi.aA mi.attrs.length mi.aC) ∧ U.cell? ⟨g, off + i * 6 + 4, none⟩ = some (.int .i64 mi.parent) ∧ U.cell? ⟨g, off + i * 6 + 5, none⟩ = some (.slice mi.kA mi.kids.length mi.kC) ∧ U.cell? ⟨bx, 0, none⟩ = some (.int .i64 tk) ∧ U.cell? ⟨bx, 1, none⟩ = some (.string tn) ∧ U.cell? ⟨bx, 2, none⟩ = some (.string tv)) := Lib.hid (fun U hU => by
          obtain ⟨h0, h1, h2⟩ := HBz.out U (HV6.out.trans (hU.mono HV6.out.size))
          exact ⟨(hU.cell hg).trans c0, (hU.cell hg).trans c1, (hU.cell hg).trans c2', (hU.cell hg).trans c3, (hU.cell hg).trans c4, (hU.cell hg).trans c5, h0, h1, h2⟩)
        obtain ⟨z0, z1, z2⟩ := HBz.out w6 HV6.out
        have hbx6 : bx < w6.heap.size := Nat.lt_of_lt_of_le hS06 (HB10.out.trans (HV6.out.mono HB10.out.size)).size
        have hne1 : bx ≠ w6.heap.size := by omega
        have hne2 : w6.heap.size ≠ bx := by omega
        have hne3 : g ≠ w6.heap.size := by omega
        have hne4 : w6.heap.size ≠ g := by omega
        clear hbx6
        obtain ⟨kd, nm0, tx, al, pa, kl, aA, aC, kA, kC⟩ := mi
        unfold nval at HIf2
        simp only [] at c0 c1 c2' c3 c4 c5 HIf2 HCk
        obtain ⟨al2, hal2⟩ : ∃ q, al.length = q := ⟨_, rfl⟩
        obtain ⟨kl2, hkl2⟩ : ∃ q, kl.length = q := ⟨_, rfl⟩
        rw [hal2] at c3 HIf2 HCk
        rw [hkl2] at c5 HIf2 HCk
        clear hal2 hkl2 HIf HNi HIm HIn HIi
        subst hA
        go_upto_region 11 with fail
        clear c0 c1 c2' c3 c4 c5 z0 z1 z2
        refine wp_region_held_drew (S := fun U : World => U.cell? ⟨g, off + i * 6, none⟩ = some (.int .i64 kd) ∧ U.cell? ⟨g, off + i * 6 + 1, none⟩ = some (.string nm0) ∧ U.cell? ⟨g, off + i * 6 + 2, none⟩ = some (.string tx) ∧ U.cell? ⟨g, off + i * 6 + 3, none⟩ = some (.slice aA al2 aC) ∧ U.cell? ⟨g, off + i * 6 + 4, none⟩ = some (.int .i64 pa) ∧ U.cell? ⟨g, off + i * 6 + 5, none⟩ = some (.slice kA kl2 kC) ∧ U.cell? ⟨bx, 0, none⟩ = some (.int .i64 tk) ∧ U.cell? ⟨bx, 1, none⟩ = some (.string tn) ∧ U.cell? ⟨bx, 2, none⟩ = some (.string tv)) (by kernel_rfl) (HCk.out _ (Below.refl _ _).drew) (fun hHeld => ?_)
        refine held_take (i := 0) (d := some 76) (v := ?_) rfl rfl (by kernel_rfl) (by kernel_rfl) (by kernel_rfl) (fun _ _ _ h => h) (by rfl) ?_ (by assumption) ?_
        rotate_left
        · intro w hS; first | (go_simp; done) | (go_simp; with_reducible rfl)
        simp only [Act.put, List.setIfInBounds_toArray, List.set_cons_zero, List.set_cons_succ]
        refine held_take (i := 1) (d := some 77) (v := ?_) rfl rfl (by kernel_rfl) (by kernel_rfl) (by kernel_rfl) (fun _ _ _ h => h) (by rfl) ?_ (by assumption) ?_
        rotate_left
        · intro w hS; first | (go_simp; done) | (go_simp; with_reducible rfl)
        simp only [Act.put, List.setIfInBounds_toArray, List.set_cons_zero, List.set_cons_succ]
        refine held_take (i := 2) (d := some 78) (v := ?_) rfl rfl (by kernel_rfl) (by kernel_rfl) (by kernel_rfl) (fun _ _ _ h => h) (by rfl) ?_ (by assumption) ?_
        rotate_left
        · intro w hS; first | (go_simp; done) | (go_simp; with_reducible rfl)
        simp only [Act.put, List.setIfInBounds_toArray, List.set_cons_zero, List.set_cons_succ]
        refine held_skip (i := 3) (d := some 79) rfl rfl (by kernel_rfl) (by kernel_rfl) (by kernel_rfl) (fun _ _ _ h => h) (by rfl) (by assumption) ?_
        simp only [Act.put, List.setIfInBounds_toArray, List.set_cons_zero, List.set_cons_succ]
        refine held_skip (i := 4) (d := some 80) rfl rfl (by kernel_rfl) (by kernel_rfl) (by kernel_rfl) (fun _ _ _ h => h) (by rfl) (by assumption) ?_
        simp only [Act.put, List.setIfInBounds_toArray, List.set_cons_zero, List.set_cons_succ]
        refine held_skip (i := 5) (d := some 81) rfl rfl (by kernel_rfl) (by kernel_rfl) (by kernel_rfl) (fun _ _ _ h => h) (by rfl) (by assumption) ?_
        simp only [Act.put, List.setIfInBounds_toArray, List.set_cons_zero, List.set_cons_succ]
        refine held_skip (i := 6) (d := some 82) rfl rfl (by kernel_rfl) (by kernel_rfl) (by kernel_rfl) (fun _ _ _ h => h) (by rfl) (by assumption) ?_
        simp only [Act.put, List.setIfInBounds_toArray, List.set_cons_zero, List.set_cons_succ]
        refine held_skip (i := 7) (d := some 83) rfl rfl (by kernel_rfl) (by kernel_rfl) (by kernel_rfl) (fun _ _ _ h => h) (by rfl) (by assumption) ?_
        simp only [Act.put, List.setIfInBounds_toArray, List.set_cons_zero, List.set_cons_succ]
        refine held_skip (i := 8) (d := some 84) rfl rfl (by kernel_rfl) (by kernel_rfl) (by kernel_rfl) (fun _ _ _ h => h) (by rfl) (by assumption) ?_
        simp only [Act.put, List.setIfInBounds_toArray, List.set_cons_zero, List.set_cons_succ]
        refine held_skip (i := 9) (d := some 85) rfl rfl (by kernel_rfl) (by kernel_rfl) (by kernel_rfl) (fun _ _ _ h => h) (by rfl) (by assumption) ?_
        simp only [Act.put, List.setIfInBounds_toArray, List.set_cons_zero, List.set_cons_succ]
        refine held_skip (i := 10) (d := some 86) rfl rfl (by kernel_rfl) (by kernel_rfl) (by kernel_rfl) (fun _ _ _ h => h) (by rfl) (by assumption) ?_
        simp only [Act.put, List.setIfInBounds_toArray, List.set_cons_zero, List.set_cons_succ]
        refine held_skip (i := 11) (d := some 87) rfl rfl (by kernel_rfl) (by kernel_rfl) (by kernel_rfl) (fun _ _ _ h => h) (by rfl) (by assumption) ?_
        simp only [Act.put, List.setIfInBounds_toArray, List.set_cons_zero, List.set_cons_succ]
        refine held_skip (i := 12) (d := some 88) rfl rfl (by kernel_rfl) (by kernel_rfl) (by kernel_rfl) (fun _ _ _ h => h) (by rfl) (by assumption) ?_
        simp only [Act.put, List.setIfInBounds_toArray, List.set_cons_zero, List.set_cons_succ]
        refine held_take (i := 13) (d := some 89) (v := ?_) rfl rfl (by kernel_rfl) (by kernel_rfl) (by kernel_rfl) (fun _ _ _ h => h) (by rfl) ?_ (by assumption) ?_
        rotate_left
        · intro w hS; first | (go_simp; done) | (go_simp; with_reducible rfl)
        simp only [Act.put, List.setIfInBounds_toArray, List.set_cons_zero, List.set_cons_succ]
        refine held_take (i := 14) (d := some 90) (v := ?_) rfl rfl (by kernel_rfl) (by kernel_rfl) (by kernel_rfl) (fun _ _ _ h => h) (by rfl) ?_ (by assumption) ?_
        rotate_left
        · intro w hS; first | (go_simp; done) | (go_simp; with_reducible rfl)
        simp only [Act.put, List.setIfInBounds_toArray, List.set_cons_zero, List.set_cons_succ]
        refine held_take (i := 15) (d := some 91) (v := ?_) rfl rfl (by kernel_rfl) (by kernel_rfl) (by kernel_rfl) (fun _ _ _ h => h) (by rfl) ?_ (by assumption) ?_
        rotate_left
        · intro w hS; first | (go_simp; done) | (go_simp; with_reducible rfl)
        simp only [Act.put, List.setIfInBounds_toArray, List.set_cons_zero, List.set_cons_succ]
        refine held_take (i := 16) (d := some 92) (v := ?_) rfl rfl (by kernel_rfl) (by kernel_rfl) (by kernel_rfl) (fun _ _ _ h => h) (by rfl) ?_ (by assumption) ?_
        rotate_left
        · intro w hS; first | (go_simp; done) | (go_simp; with_reducible rfl)
        simp only [Act.put, List.setIfInBounds_toArray, List.set_cons_zero, List.set_cons_succ]
        refine held_take (i := 17) (d := some 93) (v := ?_) rfl rfl (by kernel_rfl) (by kernel_rfl) (by kernel_rfl) (fun _ _ _ h => h) (by rfl) ?_ (by assumption) ?_
        rotate_left
        · intro w hS; first | (go_simp; done) | (go_simp; with_reducible rfl)
        simp only [Act.put, List.setIfInBounds_toArray, List.set_cons_zero, List.set_cons_succ]
        refine held_take (i := 19) (d := some 95) (v := ?_) rfl rfl (by kernel_rfl) (by kernel_rfl) (by kernel_rfl) (fun _ _ _ h => h) (by rfl) ?_ (by assumption) ?_
        rotate_left
        · intro w hS; first | (go_simp; done) | (go_simp; with_reducible rfl)
        simp only [Act.put, List.setIfInBounds_toArray, List.set_cons_zero, List.set_cons_succ]
        refine wpAnyH_ready (rs := [18]) (by kernel_rfl) (by simp) ?_
        refine AllReadyH.cons rfl (fun K hK => ?_) AllReadyH.nil
        refine if_wp (by rfl) ?_
        go_simp
        refine (HIm2.out _ (Below.refl _ _).drew).mono ?_
        rintro e wm ⟨rfl, hb⟩
        have HBm : Hid (Below w6.heap.size w6 wm) := Lib.hid ((Below.refl _ _).drew.trans hb)
        clear hb
        refine hK.out _ _ (HCk.out _ HBm.out) (fun hHeld2 => ?_)
        clear hK K hHeld
        have hHeld := hHeld2
        clear hHeld2
        try simp only [Act.put, List.setIfInBounds_toArray, List.set_cons_zero, List.set_cons_succ]
        refine held_take (i := 20) (d := some 96) (v := ?_) rfl rfl (by kernel_rfl) (by kernel_rfl) (by kernel_rfl) (fun _ _ _ h => h) (by rfl) ?_ (by assumption) ?_
        rotate_left
        · intro w hS; first | (go_simp; done) | (go_simp; with_reducible rfl)
        simp only [Act.put, List.setIfInBounds_toArray, List.set_cons_zero, List.set_cons_succ]
        refine held_take (i := 21) (d := some 97) (v := ?_) rfl rfl (by kernel_rfl) (by kernel_rfl) (by kernel_rfl) (fun _ _ _ h => h) (by rfl) ?_ (by assumption) ?_
        rotate_left
        · intro w hS; first | (go_simp; done) | (go_simp; with_reducible rfl)
        simp only [Act.put, List.setIfInBounds_toArray, List.set_cons_zero, List.set_cons_succ]
        refine held_take (i := 22) (d := some 98) (v := ?_) rfl rfl (by kernel_rfl) (by kernel_rfl) (by kernel_rfl) (fun _ _ _ h => h) (by rfl) ?_ (by assumption) ?_
        rotate_left
        · intro w hS; first | (go_simp; done) | (go_simp; with_reducible rfl)
        simp only [Act.put, List.setIfInBounds_toArray, List.set_cons_zero, List.set_cons_succ]
        refine held_take (i := 23) (d := some 99) (v := ?_) rfl rfl (by kernel_rfl) (by kernel_rfl) (by kernel_rfl) (fun _ _ _ h => h) (by rfl) ?_ (by assumption) ?_
        rotate_left
        · intro w hS; first | (go_simp; done) | (go_simp; with_reducible rfl)
        simp only [Act.put, List.setIfInBounds_toArray, List.set_cons_zero, List.set_cons_succ]
        refine held_take (i := 24) (d := some 100) (v := ?_) rfl rfl (by kernel_rfl) (by kernel_rfl) (by kernel_rfl) (fun _ _ _ h => h) (by rfl) ?_ (by assumption) ?_
        rotate_left
        · intro w hS; first | (go_simp; done) | (go_simp; with_reducible rfl)
        simp only [Act.put, List.setIfInBounds_toArray, List.set_cons_zero, List.set_cons_succ]
        refine held_take (i := 25) (d := some 101) (v := ?_) rfl rfl (by kernel_rfl) (by kernel_rfl) (by kernel_rfl) (fun _ _ _ h => h) (by rfl) ?_ (by assumption) ?_
        rotate_left
        · intro w hS; first | (go_simp; done) | (go_simp; with_reducible rfl)
        simp only [Act.put, List.setIfInBounds_toArray, List.set_cons_zero, List.set_cons_succ]
        refine wpAnyH_ready (rs := [26]) (by kernel_rfl) (by simp) ?_
        refine AllReadyH.cons rfl (fun K hK => ?_) AllReadyH.nil
        refine if_wp (by rfl) ?_
        go_simp
        refine hK.out _ _ (HCk.out _ (HBm.out.alloc HBm.out.size _)) (fun hHeld2 => ?_)
        clear hK K hHeld
        have hHeld := hHeld2
        clear hHeld2
        try simp only [Act.put, List.setIfInBounds_toArray, List.set_cons_zero, List.set_cons_succ]
        refine wpAnyH_ready (rs := [27]) (by kernel_rfl) (by simp) ?_
        refine AllReadyH.cons rfl (fun K hK => ?_) AllReadyH.nil
        refine if_wp (by rfl) ?_
        go_simp
        refine (HIf2.out _ _ (HBm.out.alloc HBm.out.size _) (heap_alloc_new wm _)).mono ?_
        rintro e wz ⟨rfl, hb⟩
        have HBr := Lib.hid ((HBm.out.alloc HBm.out.size (.cells #[.int .i64 tk, .string tn, .string tv] 77)).trans (hb.mono (HBm.out.alloc HBm.out.size _).size))
        clear hb
        refine hK.out _ _ (HCk.out _ HBr.out) (fun hHeld2 => ?_)
        clear hK K hHeld
        have hHeld := hHeld2
        clear hHeld2
        try simp only [Act.put, List.setIfInBounds_toArray, List.set_cons_zero, List.set_cons_succ]
        refine held_take (i := 28) (d := some 104) (v := ?_) rfl rfl (by kernel_rfl) (by kernel_rfl) (by kernel_rfl) (fun _ _ _ h => h) (by rfl) ?_ (by assumption) ?_
        rotate_left
        · intro w hS; first | (go_simp; done) | (go_simp; with_reducible rfl)
        simp only [Act.put, List.setIfInBounds_toArray, List.set_cons_zero, List.set_cons_succ]
        refine held_take (i := 29) (d := some 105) (v := ?_) rfl rfl (by kernel_rfl) (by kernel_rfl) (by kernel_rfl) (fun _ _ _ h => h) (by rfl) ?_ (by assumption) ?_
        rotate_left
        · intro w hS; first | (go_simp; done) | (go_simp; with_reducible rfl)
        simp only [Act.put, List.setIfInBounds_toArray, List.set_cons_zero, List.set_cons_succ]
        refine held_take (i := 30) (d := some 106) (v := ?_) rfl rfl (by kernel_rfl) (by kernel_rfl) (by kernel_rfl) (fun _ _ _ h => h) (by rfl) ?_ (by assumption) ?_
        rotate_left
        · intro w hS; first | (go_simp; done) | (go_simp; with_reducible rfl)
        simp only [Act.put, List.setIfInBounds_toArray, List.set_cons_zero, List.set_cons_succ]
        refine wpAnyH_done (by kernel_rfl) ?_ _
        clear hHeld
        go_wp2
        go_roundw
        case rel => exact ⟨_, i + 1, rfl, by omega, by go_num, Lib.hid (HV6.out.trans (HBr.out.mono HV6.out.size))⟩
        case measure => simp [intOf] <;> omega
    · obtain rfl : i = n := by omega
      have HBe := Lib.hid (HBw.out.trans (HV.out.mono HBw.out.size))
      go_wp2
      go_ret
      exact ⟨rfl, HBe.out⟩
set_option maxRecDepth 100000 in
/-- A compound that came in, counted. -/
theorem comp_openc {H : Type} {enc : TypeId × Value → H} {W : World} {base : Nat} {v : Value} {d : DataW H} {ps : List MemPlace} (hv : Value.okWide Tryz.prog W .any base 52 v)
    (h : DataW.Trod enc Tryz.prog W 0 (fun _ => true) true 52 v d ps) (hlt : ∀ x ∈ ps, x.block < W.heap.size) :
    ∃ (A : Option Addr) (cap : Nat) (T : List Tr), v = .slice A T.length cap ∧ T.length ≤ cap ∧ cap ≤ 9223372036854775807 ∧ TR W A T ∧ T.length + 1 ≤ Rows.uptoBulk d := by
  obtain ⟨a0, len0, cap0, rfl⟩ := okWide_slice Tryz.underlying52 hv
  obtain ⟨fuel, hf⟩ := h
  exact tests_cellM (v := .slice a0 len0 cap0) (by simpa [Value.cells] using hf) hlt
set_option maxRecDepth 100000 in
/-- The law, of what came in. -/
theorem more_true {H : Type} {enc : TypeId × Value → H} {W : World} {base : Nat} {v0 : Value} {d0 : DataW H} {p0 : List MemPlace} {v1 : Value} {d1 : DataW H} {p1 : List MemPlace} {v2 : Value} {d2 : DataW H} {p2 : List MemPlace} {v3 : Value} {d3 : DataW H} {p3 : List MemPlace} (hk : Rows.uptoSmall H [d0, d1, d2, d3] = true) (hK : Ops.KT W) (o0 : Value.okWide Tryz.prog W .any base 22 v0) (o1 : Value.okWide Tryz.prog W .any base 52 v1) (o2 : Value.okWide Tryz.prog W .any base 77 v2) (o3 : Value.okWide Tryz.prog W .any base 4 v3)
    (h0 : DataW.Trod enc Tryz.prog W 0 (fun _ => true) true 22 v0 d0 p0) (h1 : DataW.Trod enc Tryz.prog W 0 (fun _ => true) true 52 v1 d1 p1) (h2 : DataW.Trod enc Tryz.prog W 0 (fun _ => true) true 77 v2 d2 p2) (h3 : DataW.Trod enc Tryz.prog W 0 (fun _ => true) true 4 v3 d3 p3)
    (l0 : ∀ x ∈ p0, x.block < W.heap.size) (l1 : ∀ x ∈ p1, x.block < W.heap.size) (l2 : ∀ x ∈ p2, x.block < W.heap.size) (l3 : ∀ x ∈ p3, x.block < W.heap.size) :
    Calls Tryz.prog 9 #[v0, v1, v2, v3] W fun e W' => e = .returned (.bool true) ∧ Below W.heap.size W W' := by
  have hs : Rows.uptoBulk d1 ≤ 1048576 := by
    have hs : Rows.uptoBulkAll [d0, d1, d2, d3] ≤ 1048576 := by simpa [Rows.uptoSmall] using hk
    simp only [Rows.uptoBulkAll] at hs
    omega
  obtain ⟨A, cap, l, rfl, e1, e2, hL, -⟩ := Ops.ol_open o0 h0 l0
  obtain ⟨P, pc, a, rfl, f1, f2, hP, hC⟩ := comp_openc o1 h1 l1
  obtain ⟨t, rfl⟩ := Sx.So.test_open o2 h2
  obtain ⟨ch, rfl, rfl, rfl⟩ := open_bool Tryz.underlying4 o3 h3
  exact more_law A l cap P a pc t ch W hL (Nat.le_trans e1 e2) hP (by omega) hK
end Go.Proofs.YtaacikjoafobfaaGreatDoor.Fi
