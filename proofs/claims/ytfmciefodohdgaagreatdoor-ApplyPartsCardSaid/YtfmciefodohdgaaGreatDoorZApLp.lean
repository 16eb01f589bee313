/-
  The law ApplyParts: two lists, one behind the other, are one, up to the first error.
-/
import Derived.Test.YtfmciefodohdgaaGreatDoorZApLu
import Derived.Test.YtfmciefodohdgaaGreatDoorG22
import Derived.Test.YtfmciefodohdgaaGreatDoorG23
namespace Go.Proofs.YtfmciefodohdgaaGreatDoor
open Go.ChangeShapes Go.WideShapes Go.ChangeAt Go.RowKit
set_option linter.unusedVariables false
set_option linter.unusedSimpArgs false

set_option maxRecDepth 100000 in
set_option maxHeartbeats 8000000 in
theorem parts_law (A B : Option Addr) (a b : List Ops.Po) (ca cb : Nat) (mx : Int) (w : World) (hA : Ops.OL w A a) (hB : Ops.OL w B b) (hla : a.length ≤ 9223372036854775807) (hlb : b.length ≤ 9223372036854775807) (hK : Ops.KT w) (hm : w.cell? ⟨1, 0, none⟩ = some (.int .i64 mx)) :
    Calls Tryz.prog 5 #[.slice A a.length ca, .slice B b.length cb] w (GivesV (.bool true) w) := by
  have hg0 : 1 < w.heap.size := World.block_lt_of_cell? _ _ hm
  have HLA := Lib.hid hA
  have HLB := Lib.hid hB
  have HD1 := Lib.hid (bounded7 A a ca w hA hla)
  have HD2 := Lib.hid (bounded7 B b cb w hB hlb)
  have HS := Lib.hid (fun (V : World) (hb : Below w.heap.size w V) => shown7 mx V (hK.below hb) ((hb.cell (p := ⟨1, 0, none⟩) hg0).trans hm))
  have HLE : Hid (∀ l : List Ops.Po, bdO l = true → l.length ≤ 150) := Lib.hid (fun l h => by
    unfold bdO at h
    rw [Bool.and_eq_true, decide_eq_true_eq] at h
    exact h.2)
  have HAL := Lib.hid (fun (V : World) (A' : Option Addr) (G : List Mn) (c' : Nat) (B' : Option Addr) (l : List Ops.Po) (d' n m : Nat) (hb : Below w.heap.size w V) (hF : FR V A' G) (hG : mayB G = true) (hL : Ops.OL V B' l) (hl : l.length ≤ 1000) (hn : G.length = n) (hm : l.length = m) => (show Calls Tryz.prog 22 #[.slice A' n c', .slice B' m d'] V (AllRes G l V) from hn ▸ hm ▸ all_any A' G c' B' l d' V hF hG hL hl (hK.below hb)))
  have HSA := Lib.hid (fun (V : World) (A' B' : Option Addr) (F G : List Mn) (c' d' n m : Nat) (hF : FR V A' F) (hG : FR V B' G) (h1 : mayB F = true) (h2 : mayB G = true) (hn : F.length = n) (hm : G.length = m) (he : sameF F G = true) => (show Calls Tryz.prog 21 #[.slice A' n c', .slice B' m d'] V (GivesV (.bool true) V) from he ▸ hn ▸ hm ▸ same_any A' B' F G c' d' V hF hG (may_sz2 h1) (may_sz2 h2)))
  obtain ⟨na, hna⟩ : ∃ n, a.length = n := ⟨_, rfl⟩
  obtain ⟨nb, hnb⟩ : ∃ n, b.length = n := ⟨_, rfl⟩
  have HNA := Lib.hid hna
  have HNB := Lib.hid hnb
  have HL1 : Hid (bdO a = true → na ≤ 150) := Lib.hid (fun h => hna ▸ HLE.out a h)
  have HL2 : Hid (bdO b = true → nb ≤ 150) := Lib.hid (fun h => hnb ▸ HLE.out b h)
  rw [hna] at HD1 hla ⊢
  rw [hnb] at HD2 hlb ⊢
  clear hA hB hK hm hna hnb HLE
  generalize bdO a = B1 at *
  generalize bdO b = B2 at *
  go_enter Tryz.func5, Tryz.ntmps5
  go_wp2_with fail
  refine HD1.out.mono ?_
  rintro e w' ⟨rfl, hw⟩
  obtain rfl := hw.symm
  cases B1 with
  | false =>
    go_wp2_with fail
    refine (HS.out w (Below.refl w.heap.size w)).mono ?_
    rintro e w1 ⟨rfl, hb⟩
    have HB := Lib.hid ((Below.refl w.heap.size w).trans (hb.mono (Below.refl w.heap.size w).size))
    clear hb
    go_wp2
    go_ret
    exact ⟨rfl, HB.out⟩
  | true =>
  go_wp2_with fail
  refine HD2.out.mono ?_
  rintro e w' ⟨rfl, hw⟩
  obtain rfl := hw.symm
  cases B2 with
  | false =>
    go_wp2_with fail
    refine (HS.out w (Below.refl w.heap.size w)).mono ?_
    rintro e w1 ⟨rfl, hb⟩
    have HB := Lib.hid ((Below.refl w.heap.size w).trans (hb.mono (Below.refl w.heap.size w).size))
    clear hb
    go_wp2
    go_ret
    exact ⟨rfl, HB.out⟩
  | true =>
  have ha150 := HL1.out (by first | exact rfl | trivial)
  have hb150 := HL2.out (by first | exact rfl | trivial)
  clear HD1 HD2 HL1 HL2
  go_wp2_with fail
  refine (HS.out w (Below.refl w.heap.size w)).mono ?_
  rintro e w1 ⟨rfl, hb⟩
  have HB := Lib.hid hb
  clear hb
  go_wp2_with fail
  refine (new_any w1).mono ?_
  rintro e w2 ⟨A0, rfl, hA, hb⟩
  have HB2 := Lib.hid (HB.out.trans (hb.mono HB.out.size))
  have HA0 := Lib.hid hA
  clear hA hb
  have HLA2 := Lib.hid (HLA.out.below HB2.out)
  have HC1 := Lib.hid (HAL.out w2 A0 [newM] 1 A a ca 1 na HB2.out HA0.out newM_may HLA2.out (by rw [HNA.out]; omega) rfl HNA.out)
  go_wp2_with fail
  refine HC1.out.mono ?_
  unfold AllRes
  rintro e w3 ⟨g1, cap1, G1, rfl, hO, hc, hb⟩
  have HF1 := Lib.hid hO.fr
  have HE1 := Lib.hid hc
  have HB3 := Lib.hid (HB2.out.trans (hb.mono HB2.out.size))
  have HM1 : Hid (mayB G1 = true) := Lib.hid (by rw [mayB_like hc]; exact all_may newM_may a)
  clear hO hc hb
  obtain ⟨n1, hn1⟩ : ∃ n1, (allP [newM] a).2.1 = n1 := ⟨_, rfl⟩
  obtain ⟨e1, he1⟩ : ∃ e1, (allP [newM] a).2.2 = e1 := ⟨_, rfl⟩
  obtain ⟨l1, hl1⟩ : ∃ l1, G1.length = l1 := ⟨_, rfl⟩
  have HN1 := Lib.hid hn1
  have HR1 := Lib.hid he1
  have HG1 := Lib.hid hl1
  rw [hn1, he1, hl1]
  clear hn1 he1 hl1
  have HLB3 := Lib.hid (HLB.out.below HB3.out)
  have HC2 := Lib.hid (HAL.out w3 (some ⟨g1, 0, none⟩) G1 cap1 B b cb l1 nb HB3.out HF1.out HM1.out HLB3.out (by rw [HNB.out]; omega) HG1.out HNB.out)
  go_wp2_with fail
  refine HC2.out.mono ?_
  unfold AllRes
  rintro e w4 ⟨g2, cap2, G2, rfl, hO, hc, hb⟩
  have HF2 := Lib.hid hO.fr
  have HE2 := Lib.hid hc
  have HB4 := Lib.hid (HB3.out.trans (hb.mono HB3.out.size))
  have HM2 : Hid (mayB G2 = true) := Lib.hid (by rw [mayB_like hc]; exact all_may HM1.out b)
  clear hO hc hb
  obtain ⟨n2, hn2⟩ : ∃ n2, (allP G1 b).2.1 = n2 := ⟨_, rfl⟩
  obtain ⟨e2, he2⟩ : ∃ e2, (allP G1 b).2.2 = e2 := ⟨_, rfl⟩
  obtain ⟨l2, hl2⟩ : ∃ l2, G2.length = l2 := ⟨_, rfl⟩
  have HN2 := Lib.hid hn2
  have HR2 := Lib.hid he2
  have HG2 := Lib.hid hl2
  rw [hn2, he2, hl2]
  clear hn2 he2 hl2
  go_wp2_with fail
  refine (new_any w4).mono ?_
  rintro e w5 ⟨A5, rfl, hA, hb⟩
  have HB5 := Lib.hid (HB4.out.trans (hb.mono HB4.out.size))
  have HA5 := Lib.hid hA
  have HF25 := Lib.hid (HF2.out.below hb)
  clear hA hb
  have HOX : Hid ((w5.alloc (.cells #[] 35)).ownsRow w5.heap.size 35 6 (.slice (some ⟨w5.heap.size, 0, none⟩) 0 0) ([] : List Ops.Po).length (ocells [])) := Lib.hid (World.ownsRow_made w5 #[] 0 (Nat.le_refl _) (by simp [maxLen]) rfl)
  have HXb : Hid (Below w5.heap.size w5 (w5.alloc (.cells #[] 35))) := Lib.hid ((Below.refl _ _).alloc (Nat.le_refl _) _)
  have HLX := Lib.hid (HLA.out.below (HB5.out.trans (HXb.out.mono HB5.out.size)))
  have HS1 : Hid (([] : List Ops.Po).length + a.length ≤ 1000) := Lib.hid (by rw [HNA.out]; simp; omega)
  go_wp2_with (at_builtin; refine wpList_ops rfl _ _ rfl rfl rfl HOX.out ca rfl HNA.out HLX.out HS1.out HXb.out.size ?_)
  intro v1 X1 ho1 hg1
  have HX1 := Lib.hid (HXb.out.grown hg1 HXb.out.size (fun k hk => by cases hk; exact Nat.le_refl _))
  obtain ⟨p1, c1, rfl, -⟩ := own_ol ho1 (ol_fit HLA.out)
  have HO1 := Lib.hid ho1
  rw [HNA.out] at HO1 ⊢
  have HO1' := HO1
  rw [← HNA.out] at HO1
  clear ho1 hg1
  have HLY := Lib.hid (HLB.out.below (HB5.out.trans (HX1.out.mono HB5.out.size)))
  have HS2 : Hid (a.length + b.length ≤ 1000) := Lib.hid (by rw [HNA.out, HNB.out]; omega)
  have HO1v : Hid (X1.ownsRow w5.heap.size 35 6 (.slice p1 na c1) a.length (ocells a)) := Lib.hid (by have := HO1.out; rw [HNA.out] at this ⊢; exact this)
  go_wp2_with (at_builtin; refine wpList_ops rfl _ _ rfl rfl rfl HO1v.out cb rfl HNB.out HLY.out HS2.out HX1.out.size ?_)
  intro v2 X2 ho2 hg2
  rw [← List.length_append] at ho2
  have HX2 := Lib.hid (HX1.out.grown hg2 HX1.out.size (fun k hk => (HO1v.out.lt k hk).1))
  obtain ⟨p2, c2, rfl, hL2⟩ := own_ol ho2 (fun o ho => (List.mem_append.1 ho).elim (ol_fit HLA.out o) (ol_fit HLB.out o))
  have hab : (a ++ b).length = na + nb := by rw [List.length_append, HNA.out, HNB.out]
  obtain ⟨nab, hnab⟩ : ∃ nab, na + nb = nab := ⟨_, rfl⟩
  rw [hnab] at hab
  rw [hab]
  have HBX := Lib.hid (HB5.out.trans (HX2.out.mono HB5.out.size))
  have HC3 := Lib.hid (HAL.out X2 A5 [newM] 1 p2 (a ++ b) c2 1 nab HBX.out (HA5.out.below HX2.out) newM_may hL2 (by rw [hab]; omega) rfl hab)
  have HF2X := Lib.hid (HF25.out.below HX2.out)
  clear ho2 hg2 hL2 hab
  go_wp2_with fail
  refine HC3.out.mono ?_
  unfold AllRes
  rintro e w6 ⟨g6, cap6, G6, rfl, hO, hc, hb⟩
  have HF6 := Lib.hid hO.fr
  have HE6 := Lib.hid hc
  have HB6 := Lib.hid (HBX.out.trans (hb.mono HBX.out.size))
  have HF26 := Lib.hid (HF2X.out.below hb)
  clear hO hc hb
  have HNM : Hid ([newM].length = 1) := Lib.hid rfl
  by_cases h1 : e1 = 0
  · have x1 : (e1 != 0) = false := by simp [h1]
    subst h1
    obtain ⟨q1, q2, q3, q4, q5⟩ := parts_ok HR1.out HE1.out (b := b)
    rw [HNA.out, HN2.out] at q1
    rw [HR2.out] at q2 q4 q5
    rw [HN2.out, HNB.out] at q3 q5
    rw [q1, q2]
    by_cases h2 : e2 = 0
    · subst h2
      obtain ⟨q6, q7⟩ := q5 rfl
      subst q6
      have hl6 : G6.length = l2 := by rw [len_like (HE6.out.trans (q7.trans HE2.out.symm))]; exact HG2.out
      have y1 : IntKind.i64.wrap ((na : Int) + (n2 : Int)) = ((na + n2 : Nat) : Int) := by rw [IntKind.wrap_i64]; omega
      rw [hl6]
      have HCS := Lib.hid (HSA.out w6 (some ⟨g6, 0, none⟩) (some ⟨g2, 0, none⟩) G6 G2 cap6 cap2 l2 l2 HF6.out HF26.out (by rw [mayB_like HE6.out]; exact all_may newM_may _) HM2.out hl6 HG2.out (sameF_of (HE6.out.trans (q7.trans HE2.out.symm))))
      clear q1 q2 q3 q4 q5 q7 hl6 hnab
      generalize na + n2 = iN at *
      go_wp2_with fail
      refine HCS.out.mono ?_
      rintro e w7 ⟨rfl, hb⟩
      have HB7 := Lib.hid (HB6.out.trans (hb.mono HB6.out.size))
      clear hb
      go_wp2
      go_ret
      exact ⟨rfl, HB7.out⟩
    · have x2 : (e2 != 0) = true := by simpa using h2
      have hl6 : G6.length = 1 := by rw [len_like HE6.out, q4 h2]; rfl
      have y1 : IntKind.i64.wrap ((na : Int) + (n2 : Int)) = ((na + n2 : Nat) : Int) := by rw [IntKind.wrap_i64]; omega
      rw [hl6]
      clear q1 q2 q3 q4 q5 hl6 hnab
      generalize na + n2 = iN at *
      go_wp2
      go_ret
      exact ⟨rfl, HB6.out⟩
  · have x1 : (e1 != 0) = true := by simpa using h1
    obtain ⟨q1, q2⟩ := parts_err (F := [newM]) (a := a) (b := b) (by rw [HR1.out]; exact h1)
    have hl6 : G6.length = 1 := by rw [len_like HE6.out, q2]; rfl
    rw [q1, HN1.out, HR1.out, hl6]
    clear q1 q2 hl6 hnab
    go_wp2
    go_ret
    exact ⟨rfl, HB6.out⟩
set_option maxRecDepth 100000 in
/-- The law, of what came in. -/
theorem parts_true {H : Type} {enc : TypeId × Value → H} {W : World} {base : Nat} {v0 v1 : Value} {d0 d1 : DataW H} {p0 p1 : List MemPlace} (hm : ∃ mx, W.cell? ⟨1, 0, none⟩ = some (.int .i64 mx)) (hK : Ops.KT W) (o0 : Value.okWide Tryz.prog W .any base 22 v0) (o1 : Value.okWide Tryz.prog W .any base 22 v1)
    (h0 : DataW.Trod enc Tryz.prog W 0 (fun _ => true) true 22 v0 d0 p0) (h1 : DataW.Trod enc Tryz.prog W 0 (fun _ => true) true 22 v1 d1 p1) (l0 : ∀ x ∈ p0, x.block < W.heap.size) (l1 : ∀ x ∈ p1, x.block < W.heap.size) :
    Calls Tryz.prog 5 #[v0, v1] W fun e W' => e = .returned (.bool true) ∧ Below W.heap.size W W' := by
  obtain ⟨mx, hm⟩ := hm
  obtain ⟨A, cap, l, rfl, e1, e2, hL, -⟩ := Ops.ol_open o0 h0 l0
  obtain ⟨B, cap2, b, rfl, f1, f2, hL2, -⟩ := Ops.ol_open o1 h1 l1
  exact parts_law A B l b cap cap2 mx W hL hL2 (Nat.le_trans e1 e2) (Nat.le_trans f1 f2) hK hm
end Go.Proofs.YtfmciefodohdgaaGreatDoor
