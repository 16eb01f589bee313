/-
  The document's layer 8: node, and Order.
  The document's layer 8: Parent, Kids, Beside, Content, Attr, ById.
  The document's layer 8: Content, Attr, ById; what package walk tells of what is no node.
  law08 compares two lists of numbers by the document's Ints: the contract, for its own seat's text.
-/
import Derived.Test.YtaacikjoafobfaaGreatDoorG26
import Derived.Test.YtaacikjoafobfaaGreatDoorG28
import Derived.Test.YtaacikjoafobfaaGreatDoorG25
import Derived.Test.YtaacikjoafobfaaGreatDoorG29
import Derived.Test.YtaacikjoafobfaaGreatDoorG27
import Derived.Test.YtaacikjoafobfaaGreatDoorG04
import Derived.Laws.Concat
namespace Go.Proofs.YtaacikjoafobfaaGreatDoor.R8
open Go.ChangeShapes Go.WideShapes Go.ChangeAt Go.RowKit
set_option linter.unusedVariables false
set_option linter.unusedSimpArgs false

theorem info_int : (Tryz.prog.info? 3).map (fun i => (i.zero, i.size, i.bytes)) = some (some (.int .i64 0), 1, 8) := by kernel_rfl
theorem rnode_any (A : Option Addr) (n c : Nat) (x : Int) (w : World) :
    Calls Tryz.prog 68 #[.slice A n c, .int .i64 x] w fun e w' => e = .returned (.bool (decide (0 ≤ x ∧ x < n))) ∧ w = w' := by
  by_cases h0 : 0 ≤ x
  · by_cases h1 : x < n
    all_goals
      go_enter Tryz.func68, Tryz.ntmps68
      go_wp2
      go_ret
      exact ⟨ret_bool (by simp [h0, h1]), rfl⟩
  · go_enter Tryz.func68, Tryz.ntmps68
    go_wp2
    go_ret
    exact ⟨ret_bool (by simp; intro h; omega), rfl⟩
theorem own_some {w : World} {base : Nat} {v : Value} {l : List Nat} (h : w.ownsRow base 3 1 v l.length (ivN l)) (hl : l ≠ []) : ∃ g cap, v = .slice (some ⟨g, 0, none⟩) l.length cap ∧ l.length ≤ cap ∧ cap ≤ maxLen ∧ base ≤ g ∧ g < w.heap.size ∧ ∀ j u, (ivN l)[j]? = some u → w.cell? ((⟨g, 0, none⟩ : Addr).add j) = some u := by
  have h0 := h
  rcases h.2 with ⟨-, h'⟩ | ⟨g, cap, cur, rfl, hb, hg, h1, h2, -⟩
  · exact absurd (List.eq_nil_of_length_eq_zero h') hl
  · exact ⟨g, cap, rfl, h1, h2, hb, (Array.getElem?_eq_some_iff.1 hg).1, fun j u hu => h0.cells rfl j u hu⟩
theorem ivN_len (l : List Nat) : (ivN l).length = l.length := by simp [ivN, ivs]
theorem ivN_app (l m : List Nat) : ivN (l ++ m) = ivN l ++ ivN m := by simp [ivN, ivs]
theorem ivN_one (l : List Nat) : ∀ u ∈ ivN l, u.oneCell' = true := by
  intro u hu
  simp only [ivN, ivs, List.map_map, List.mem_map] at hu
  obtain ⟨a, -, rfl⟩ := hu
  rfl
theorem cell_int (w : World) (g : Nat) (x : Value) (t : TypeId) (h : w.heap[g]? = some (.cells #[x] t (0, 0))) : ∀ j u, [x][j]? = some u → w.cell? ((⟨g, 0, none⟩ : Addr).add j) = some u := by
  intro j u hu
  rw [add_plain, Nat.zero_add]
  match j, hu with
  | 0, hu => cases hu; simp [World.cell?, h]
  | j + 1, hu => simp at hu
set_option maxRecDepth 100000 in
set_option maxHeartbeats 4000000 in
theorem rorder_fuel (A : Option Addr) (F : List Mn) (c : Nat) (hm : mayB F = true) : ∀ (f i : Nat) (w : World), FR w A F → Dp F f i →
    Calls Tryz.prog 71 #[.slice A F.length c, .int .i64 i] w fun e w' => ∃ v, e = .returned v ∧ w'.ownsRow w.heap.size 3 1 v (ord F i).length (ivN (ord F i)) ∧ Below w.heap.size w w' := by
  intro f
  induction f with
  | zero => intro i w _ hd; exact absurd hd (by simp [Dp])
  | succ f ih =>
    rintro i w hF ⟨hi, hks⟩
    have HF := Lib.hid hF
    have HK : Hid (∀ k ∈ kidsOf F i, ∃ j : Nat, k = j ∧ j < F.length ∧ Dp F f j) := Lib.hid (fun k hk => by
      obtain ⟨j, rfl, hj, -⟩ := kid_node hm hi hk
      exact ⟨j, rfl, hj, by simpa using (hks _ hk).2⟩)
    have HO := Lib.hid (ord_open hm hi)
    have hlen := Nat.le_trans (ord_len hm hi) (mayB_parts hm).2.1
    have HL : Hid (∀ j, (i :: ((kidsOf F i).take j).flatMap (fun k => ord F k.toNat)).length ≤ 60) := Lib.hid (fun j => by
      have h1 := (flatN_take (fun k => ord F k.toNat) (kidsOf F i) j).length_le
      rw [ord_open hm hi] at hlen
      simp only [List.length_cons] at hlen ⊢
      omega)
    have HNE : Hid (∀ j, j < F.length → ord F j ≠ []) := Lib.hid (fun j hj => by rw [ord_open hm hj]; simp)
    have HN : Hid (∀ V, Below w.heap.size w V → ∃ g off, A = some ⟨g, off, none⟩ ∧ g < w.heap.size ∧ V.cell? ⟨g, off + i * 6 + 5, none⟩ = some (.slice F[i].kA (kidsOf F i).length F[i].kC) ∧ IR V F[i].kA (kidsOf F i)) := Lib.hid (fun V hb => by
      obtain ⟨-, g, off, hA, hg, hnd⟩ := hF i F[i] (List.getElem?_eq_getElem hi)
      have h5 := hnd.c5
      have hr := hnd.ir
      rw [← kidsOf_at hi] at h5 hr
      exact ⟨g, off, hA, hg, (hb.cell (p := ⟨g, off + i * 6 + 5, none⟩) hg).trans h5, hr.below hb⟩)
    have HIH := Lib.hid (fun (j : Nat) (V : World) (hb : Below w.heap.size w V) (hd : Dp F f j) => ih j V (hF.below hb) hd)
    have hkb : (kidsOf F i).length ≤ 1000 := by
      have := may_kids hm _ (List.getElem_mem hi)
      rw [kidsOf_at hi]
      omega
    generalize F[i].kA = kA at *
    generalize F[i].kC = kC at *
    generalize kidsOf F i = ks at *
    obtain ⟨kn, hkn⟩ : ∃ kn, ks.length = kn := ⟨_, rfl⟩
    have HKN := Lib.hid hkn
    rw [hkn] at HN hkb
    obtain ⟨n, hn⟩ : ∃ n, F.length = n := ⟨_, rfl⟩
    have HNN := Lib.hid hn
    rw [hn] at HIH ⊢
    have hin : i < n := by omega
    have i0 : (0 : Int) ≤ (i : Int) := by omega
    have i1 : (i : Int) < (n : Int) := by omega
    obtain ⟨z0, hI1, hI2, hI3, hI4⟩ := info_parts info_int
    have HI := Lib.hid (And.intro hI1 (And.intro hI2 (And.intro hI3 hI4)))
    have HB0 : Hid (Below w.heap.size w (w.alloc (.cells #[.int .i64 i] 3))) := Lib.hid ((Below.refl _ _).alloc (Nat.le_refl _) _)
    have HO0 : Hid ((w.alloc (.cells #[.int .i64 i] 3)).ownsRow w.heap.size 3 1 (.slice (some ⟨w.heap.size, 0, none⟩) 1 1) 1 (ivN [i])) := Lib.hid ⟨rfl, .inr ⟨w.heap.size, 1, #[.int .i64 i], rfl, Nat.le_refl _, heap_alloc_new _ _, Nat.le_refl _, by simp [maxLen], rfl, rfl⟩⟩
    clear hF hks hlen ih hkn hn hI1 hI2 hI3 hI4 hi
    go_enter Tryz.func71, Tryz.ntmps71
    go_wp2_with fail
    go_loopw [5, 6] (fun q5 q6 wr => ∃ (V : World) (j nl cap : Nat) (p : Option Addr) (L : List Nat), V = wr ∧ j ≤ kn ∧ q5 = .slice p nl cap ∧ q6 = .int .i64 j ∧ nl ≤ 60 ∧ Hid (L.length = nl ∧ L = i :: (ks.take j).flatMap (fun k => ord F k.toNat)) ∧ Hid (V.ownsRow w.heap.size 3 1 (.slice p nl cap) nl (ivN L)) ∧ Hid (Below w.heap.size w V)) (fun _ q6 _ => kn - (intOf q6).toNat)
    case atStart => exact ⟨_, 0, 1, 1, _, [i], rfl, Nat.zero_le _, rfl, rfl, by omega, Lib.hid ⟨rfl, by simp⟩, HO0, HB0⟩
    case round =>
      clear HO0 HB0
      obtain ⟨V, j, nl, cap, p, L, rfl, hj, rfl, rfl, hnl, HLL, HOw, HB⟩ := hrel
      obtain ⟨g, off, rfl, hg, c5, hIR⟩ := HN.out V HB.out
      by_cases hlt : j < kn
      · have k0 : (0 : Int) ≤ (j : Int) := by omega
        have k1 : (j : Int) < (kn : Int) := by omega
        have hjl : j < ks.length := by rw [HKN.out]; exact hlt
        obtain ⟨gk, ok, rfl, hgk, ck⟩ := hIR j hjl
        rw [getD_at 0 hjl] at ck
        obtain ⟨a, ha, haF, haD⟩ := HK.out ks[j] (List.getElem_mem hjl)
        have HTk : Hid (i :: (ks.take (j + 1)).flatMap (fun k => ord F k.toNat) = (i :: (ks.take j).flatMap (fun k => ord F k.toNat)) ++ ord F a) := Lib.hid (by
          rw [take_more hjl, List.flatMap_append, ha]
          simp)
        rw [ha] at ck
        have HC := Lib.hid (HIH.out a V HB.out haD)
        have HNa := Lib.hid (HNE.out a haF)
        have HLa := HL.out (j + 1)
        have HLb : Hid ((ord F a).length + nl ≤ 60) := Lib.hid (by
          rw [HTk.out, ← HLL.out.2, List.length_append, HLL.out.1] at HLa
          omega)
        clear ha hIR HLa
        generalize ord F a = oa at *
        go_wp2_with fail
        refine HC.out.mono ?_
        rintro e w1 ⟨v1, rfl, hv1, hb⟩
        obtain ⟨g1, cap1, rfl, m1, m2, m3, m4, m5⟩ := own_some hv1 HNa.out
        obtain ⟨na, hna⟩ : ∃ na, oa.length = na := ⟨_, rfl⟩
        have HNA := Lib.hid hna
        have HCe := Lib.hid m5
        have HOx := Lib.hid (own_below HOw.out hb)
        have HB1 := Lib.hid (HB.out.trans (hb.mono HB.out.size))
        have hs1 := HB1.out.size
        have hab := HLb.out
        rw [hna] at m1 hab ⊢
        clear hna m5 hv1 hb
        go_wp2_with (at_builtin; refine wpList_append_own_at _ rfl _ _ 34 rfl w.heap.size 3 z0 (.int .i64 0) 1 8 Tryz.underlying34 HI.out.1 HI.out.2.1 HI.out.2.2.1 HI.out.2.2.2 rfl (by decide) _ _ _ rfl HOx.out ⟨g1, 0, none⟩ na cap1 (ivN oa) rfl (by rw [ivN_len, HNA.out, Nat.mul_one]) HCe.out (ivN_one oa) (by unfold maxLen; omega) (by omega) hs1 ?_; intro v' w2 hown' hgrow _ hat; have HO' := Lib.hid hown'; have HGR := Lib.hid hgrow; clear hown' hgrow hat)
        obtain ⟨p', cap', rfl, -⟩ := own_form2 HO'.out
        have HB2 : Hid (Below w.heap.size w w2) := Lib.hid (HB1.out.grown HGR.out hs1 (fun q e => (HOx.out.lt q e).1))
        have HL2 : Hid ((L ++ oa).length = nl + na ∧ L ++ oa = i :: (ks.take (j + 1)).flatMap (fun k => ord F k.toNat)) := Lib.hid ⟨by rw [List.length_append, HLL.out.1, HNA.out], by rw [HTk.out, HLL.out.2]⟩
        have HO2 : Hid (w2.ownsRow w.heap.size 3 1 (.slice p' (nl + na) cap') (nl + na) (ivN (L ++ oa))) := Lib.hid (by rw [ivN_app]; exact HO'.out)
        go_roundw
        case rel => exact ⟨_, j + 1, nl + na, cap', p', L ++ oa, rfl, by omega, rfl, by go_num, by omega, HL2, HO2, HB2⟩
        case measure => simp [intOf] <;> omega
      · obtain rfl : j = kn := by omega
        have HE : Hid (L = ord F i ∧ nl = (ord F i).length) := Lib.hid (by
          have h1 := HLL.out.2
          rw [List.take_of_length_le (by rw [HKN.out]; exact Nat.le_refl _), ← HO.out] at h1
          exact ⟨h1, by rw [← h1, HLL.out.1]⟩)
        go_wp2
        go_ret
        exact ⟨_, rfl, by rw [← HE.out.1, HLL.out.1]; exact HOw.out, HB.out⟩
/-- What Order tells of a node. -/
theorem rOrder_node (A : Option Addr) (F : List Mn) (c i : Nat) (w : World) (hF : FR w A F) (hm : mayB F = true) (hi : i < F.length) :
    Calls Tryz.prog 40 #[.slice A F.length c, .int .i64 i] w fun e w' => ∃ v, e = .returned (.tuple #[v, .int .i64 0]) ∧ w'.ownsRow w.heap.size 3 1 v (ord F i).length (ivN (ord F i)) ∧ Below w.heap.size w w' := by
  have HN := Lib.hid (rnode_any A F.length c i w)
  have HO := Lib.hid (rorder_fuel A F c hm F.length i w hF (dp_all hm hi))
  have e : decide (0 ≤ (i : Int) ∧ (i : Int) < (F.length : Int)) = true := by simp; omega
  rw [e] at HN
  generalize F.length = n at *
  clear hF hm hi e
  go_enter Tryz.func40, Tryz.ntmps40
  go_wp2_with fail
  refine HN.out.mono ?_
  rintro e w1 ⟨rfl, rfl⟩
  go_wp2_with fail
  refine HO.out.mono ?_
  rintro e w2 ⟨v, rfl, hv, hb⟩
  have HV := Lib.hid hv
  have HB := Lib.hid hb
  clear hv hb
  go_wp2
  go_ret2
  exact ⟨v, rfl, HV.out, HB.out⟩
theorem rOrder_none (A : Option Addr) (n c : Nat) (x : Int) (w : World) (hx : ¬ (0 ≤ x ∧ x < n)) :
    Calls Tryz.prog 40 #[.slice A n c, .int .i64 x] w fun e w' => e = .returned (.tuple #[.slice none 0 0, .int .i64 70]) ∧ Below w.heap.size w w' := by
  have HN := Lib.hid (rnode_any A n c x w)
  have e : decide (0 ≤ x ∧ x < (n : Int)) = false := by simpa using hx
  rw [e] at HN
  clear e hx
  go_enter Tryz.func40, Tryz.ntmps40
  go_wp2_with fail
  refine HN.out.mono ?_
  rintro e w1 ⟨rfl, rfl⟩
  go_wp2
  go_ret2
  exact ⟨rfl, Below.refl _ _⟩
end Go.Proofs.YtaacikjoafobfaaGreatDoor.R8
namespace Go.Proofs.YtaacikjoafobfaaGreatDoor.R8
open Go.ChangeShapes Go.WideShapes Go.ChangeAt Go.RowKit
set_option linter.unusedVariables false
set_option linter.unusedSimpArgs false

theorem node_at {w : World} {A : Option Addr} {F : List Mn} (hF : FR w A F) {i : Nat} (hi : i < F.length) : ∃ g off, A = some ⟨g, off, none⟩ ∧ g < w.heap.size ∧ NodeAt w g (off + i * 6) F[i] := (hF i F[i] (List.getElem?_eq_getElem hi)).2
set_option maxRecDepth 100000 in
theorem rparent_any (A : Option Addr) (F : List Mn) (c : Nat) (x : Int) (w : World) (hF : FR w A F) (hm : mayB F = true) :
    Calls Tryz.prog 35 #[.slice A F.length c, .int .i64 x] w fun e w' => e = .returned (.tuple #[.int .i64 (upP F x).1, .int .i64 (upP F x).2]) ∧ w = w' := by
  have HN := Lib.hid (rnode_any A F.length c x w)
  by_cases hx : 0 ≤ x ∧ x < F.length
  · obtain ⟨i, rfl⟩ := Int.eq_ofNat_of_zero_le hx.1
    have hi : i < F.length := by omega
    have e : decide (0 ≤ (i : Int) ∧ (i : Int) < (F.length : Int)) = true := by simp; omega
    rw [e] at HN
    obtain ⟨g, off, rfl, hg, hnd⟩ := node_at hF hi
    have c4 := hnd.c4
    have hp := (may_iff.1 hm).2.2.1 i hi
    have HU : Hid (upP F (i : Int) = if F[i].parent = -1 then (0, 3) else (F[i].parent, 0)) := Lib.hid (by
      unfold upP
      rw [show isB F (i : Int) = true by rw [isB, decide_eq_true_eq]; omega, Int.toNat_natCast, par_at hi]
      simp)
    have hp2 : F[i].parent = -1 ∨ 0 ≤ F[i].parent := by
      have h1 := hp.1
      rw [par_at hi] at h1
      rcases h1 with h | ⟨-, j, h, -⟩
      · exact .inl h
      · exact .inr (by omega)
    generalize upP F (i : Int) = R at *
    obtain ⟨n, hn⟩ : ∃ n, F.length = n := ⟨_, rfl⟩
    rw [hn] at HN hi ⊢
    have k0 : (0 : Int) ≤ (i : Int) := by omega
    have k1 : (i : Int) < (n : Int) := by omega
    clear hF hm hx e hnd hp hn
    generalize (F[i]'(by omega)).parent = p at *
    rcases hp2 with rfl | hp2
    · have HR : Hid (R = (0, 3)) := Lib.hid (by rw [HU.out]; rfl)
      clear HU
      go_enter Tryz.func35, Tryz.ntmps35
      go_wp2_with fail
      refine HN.out.mono ?_
      rintro e w1 ⟨rfl, rfl⟩
      go_wp2
      go_ret2
      exact ⟨by rw [HR.out]; rfl, rfl⟩
    · have HR : Hid (R = (p, 0)) := Lib.hid (by rw [HU.out, if_neg (by omega)])
      have q : decide (p < 0) = false := by simp; omega
      clear HU
      go_enter Tryz.func35, Tryz.ntmps35
      go_wp2_with fail
      refine HN.out.mono ?_
      rintro e w1 ⟨rfl, rfl⟩
      go_wp2
      go_ret2
      exact ⟨by rw [HR.out]; rfl, rfl⟩
  · have e : decide (0 ≤ x ∧ x < (F.length : Int)) = false := by simpa using hx
    have HR : Hid (upP F x = (0, 70)) := Lib.hid (by unfold upP; rw [show isB F x = false by rw [isB, decide_eq_false_iff_not]; exact hx]; rfl)
    rw [e] at HN
    generalize upP F x = R at *
    generalize F.length = n at *
    clear hF hm hx e
    go_enter Tryz.func35, Tryz.ntmps35
    go_wp2_with fail
    refine HN.out.mono ?_
    rintro e w1 ⟨rfl, rfl⟩
    go_wp2
    go_ret2
    exact ⟨by rw [HR.out]; rfl, rfl⟩
theorem rkids_node (A : Option Addr) (F : List Mn) (c i : Nat) (w : World) (hF : FR w A F) (hi : i < F.length) :
    Calls Tryz.prog 37 #[.slice A F.length c, .int .i64 i] w fun e w' => ∃ p cap, e = .returned (.tuple #[.slice p (kidsOf F i).length cap, .int .i64 0]) ∧ IR w' p (kidsOf F i) ∧ w = w' := by
  have HN := Lib.hid (rnode_any A F.length c i w)
  have e : decide (0 ≤ (i : Int) ∧ (i : Int) < (F.length : Int)) = true := by simp; omega
  rw [e] at HN
  obtain ⟨g, off, rfl, hg, hnd⟩ := node_at hF hi
  have c5 := hnd.c5
  have hir := hnd.ir
  rw [← kidsOf_at hi] at c5 hir
  have HI := Lib.hid hir
  generalize kidsOf F i = ks at *
  generalize F[i].kA = kA at *
  generalize F[i].kC = kC at *
  obtain ⟨n, hn⟩ : ∃ n, F.length = n := ⟨_, rfl⟩
  rw [hn] at HN hi ⊢
  have k0 : (0 : Int) ≤ (i : Int) := by omega
  have k1 : (i : Int) < (n : Int) := by omega
  obtain ⟨nk, hk⟩ : ∃ n, ks.length = n := ⟨_, rfl⟩
  rw [hk] at c5 ⊢
  clear hF e hnd hn hir hk
  go_enter Tryz.func37, Tryz.ntmps37
  go_wp2_with fail
  refine HN.out.mono ?_
  rintro e w1 ⟨rfl, rfl⟩
  go_wp2
  go_ret2
  exact ⟨kA, kC, rfl, HI.out, rfl⟩
theorem rkids_none (A : Option Addr) (n c : Nat) (x : Int) (w : World) (hx : ¬ (0 ≤ x ∧ x < n)) :
    Calls Tryz.prog 37 #[.slice A n c, .int .i64 x] w fun e w' => e = .returned (.tuple #[.slice none 0 0, .int .i64 70]) ∧ w = w' := by
  have HN := Lib.hid (rnode_any A n c x w)
  have e : decide (0 ≤ x ∧ x < (n : Int)) = false := by simpa using hx
  rw [e] at HN
  clear e hx
  go_enter Tryz.func37, Tryz.ntmps37
  go_wp2_with fail
  refine HN.out.mono ?_
  rintro e w1 ⟨rfl, rfl⟩
  go_wp2
  go_ret2
  exact ⟨rfl, rfl⟩
/-! ### Beside -/
/-- Where x stands alone. -/
def OneIn (l : List Int) (x : Int) (at_ : Nat) : Prop := ∃ h : at_ < l.length, l[at_] = x ∧ ∀ j (hj : j < l.length), l[j] = x → j = at_
theorem one_in {l : List Int} {x : Int} (h : l.count x = 1) : OneIn l x (l.findIdx fun y => decide (y = x)) := by
  have hx : x ∈ l := List.count_pos_iff.1 (by omega)
  have hlt : (l.findIdx fun y => decide (y = x)) < l.length := List.findIdx_lt_length_of_exists ⟨x, hx, by simp⟩
  have hat : l[l.findIdx fun y => decide (y = x)] = x := by simpa using List.findIdx_getElem (p := fun y => decide (y = x)) (xs := l) (w := hlt)
  refine ⟨hlt, hat, fun j hj e => ?_⟩
  generalize (l.findIdx fun y => decide (y = x)) = a at *
  rcases Nat.lt_trichotomy j a with hja | rfl | hja
  · exfalso
    have e2 : l = l.take a ++ l[a] :: l.drop (a + 1) := by rw [← List.drop_eq_getElem_cons hlt, List.take_append_drop]
    have h1 : x ∈ l.take a := List.mem_take_iff_getElem.2 ⟨j, by omega, e⟩
    have h2 : 0 < (l.take a).count x := List.count_pos_iff.2 h1
    rw [e2, List.count_append, List.count_cons, hat] at h
    simp at h
    omega
  · rfl
  · exfalso
    have e2 : l = l.take j ++ l[j] :: l.drop (j + 1) := by rw [← List.drop_eq_getElem_cons hj, List.take_append_drop]
    have h1 : x ∈ l.take j := List.mem_take_iff_getElem.2 ⟨a, by omega, hat⟩
    have h2 : 0 < (l.take j).count x := List.count_pos_iff.2 h1
    rw [e2, List.count_append, List.count_cons, e] at h
    simp at h
    omega
theorem near_hit {l : List Int} {a k : Nat} (hk : k < l.length) : nearP l a ((k : Int) - a) = (l[k], 0) := by
  unfold nearP
  rw [if_neg (by omega), show ((a : Int) + ((k : Int) - a)).toNat = k by omega, getD_at 0 hk]
theorem near_no {l : List Int} {a : Nat} {b : Int} (h : ∀ k : Nat, k < l.length → (k : Int) - a ≠ b) : nearP l a b = (0, 3) := by
  unfold nearP
  rw [if_pos]
  by_cases h1 : b < -(a : Int)
  · exact .inl h1
  · right
    by_cases h2 : (l.length : Int) - a ≤ b
    · exact h2
    · exfalso
      exact h ((a : Int) + b).toNat (by omega) (by omega)
set_option maxRecDepth 100000 in
set_option maxHeartbeats 4000000 in
theorem rbeside_any (A : Option Addr) (F : List Mn) (c : Nat) (x by_ : Int) (w : World) (hF : FR w A F) (hm : mayB F = true) :
    Calls Tryz.prog 39 #[.slice A F.length c, .int .i64 x, .int .i64 by_] w fun e w' => e = .returned (.tuple #[.int .i64 (besP F x by_).1, .int .i64 (besP F x by_).2]) ∧ w = w' := by
  have HP := Lib.hid (rparent_any A F c x w hF hm)
  by_cases hu : (upP F x).2 = 0
  case neg =>
    have HR : Hid (besP F x by_ = (0, (upP F x).2)) := Lib.hid (by unfold besP; rw [if_pos hu])
    have q : ((upP F x).2 != 0) = true := by simpa using hu
    obtain ⟨⟨u1, u2⟩, hU⟩ : ∃ U, upP F x = U := ⟨_, rfl⟩
    rw [hU] at HP HR q
    simp only [] at HP HR q
    generalize besP F x by_ = R at *
    generalize F.length = n at *
    clear hF hm hu hU
    go_enter Tryz.func39, Tryz.ntmps39
    go_wp2_with fail
    refine HP.out.mono ?_
    rintro e w1 ⟨rfl, rfl⟩
    go_wp2
    go_ret2
    exact ⟨by rw [HR.out]; rfl, rfl⟩
  have hb : isB F x = true ∧ par F x.toNat ≠ -1 := by
    unfold upP at hu
    split at hu
    · simp at hu
    · rename_i h
      split at hu
      · simp at hu
      · rename_i h2
        exact ⟨by simpa using h, h2⟩
  have hx := hb.1
  rw [isB, decide_eq_true_eq] at hx
  obtain ⟨i, rfl⟩ := Int.eq_ofNat_of_zero_le hx.1
  have hi : i < F.length := by omega
  have hpar := hb.2
  rw [Int.toNat_natCast] at hpar
  obtain ⟨-, p, hp, hpl, hcnt⟩ := ((may_iff.1 hm).2.2.1 i hi).1.resolve_left hpar
  have hU : upP F (i : Int) = ((p : Int), 0) := by
    unfold upP
    rw [hb.1, Int.toNat_natCast, if_neg (by simp), if_neg hpar, hp]
  have HB : Hid (besP F (i : Int) by_ = nearP (kidsOf F p) ((kidsOf F p).findIdx fun y => decide (y = (i : Int))) by_) := Lib.hid (by
    unfold besP
    rw [hU]
    simp)
  have HO := Lib.hid (one_in hcnt)
  rw [hU] at HP
  obtain ⟨g, off, rfl, hg, hnd⟩ := node_at hF hpl
  have c5 := hnd.c5
  have hir := hnd.ir
  have hks := may_kids hm _ (List.getElem_mem hpl)
  rw [← kidsOf_at hpl] at c5 hir hks
  have HI := Lib.hid hir
  generalize besP F (i : Int) by_ = R at *
  generalize ((kidsOf F p).findIdx fun y => decide (y = (i : Int))) = a at *
  generalize kidsOf F p = ks at *
  generalize F[p].kA = kA at *
  generalize F[p].kC = kC at *
  obtain ⟨n, hn⟩ : ∃ n, F.length = n := ⟨_, rfl⟩
  rw [hn] at HP hpl ⊢
  have p0 : (0 : Int) ≤ (p : Int) := by omega
  have p1 : (p : Int) < (n : Int) := by omega
  obtain ⟨nk, hk⟩ : ∃ z, ks.length = z := ⟨_, rfl⟩
  have HK := Lib.hid hk
  rw [hk] at c5 hks
  generalize (i : Int) = x at *
  clear hF hm hu hb hx hi hpar hp hcnt hU hnd hir hn hk
  go_enter Tryz.func39, Tryz.ntmps39
  go_wp2_with fail
  refine HP.out.mono ?_
  rintro e w1 ⟨rfl, rfl⟩
  go_wp2_with fail
  go_loopw [11] (fun q11 wr => ∃ j : Nat, w = wr ∧ j ≤ nk ∧ q11 = .int .i64 j ∧ Hid (a < j → ∀ k : Nat, k < nk → (k : Int) - a ≠ by_)) (fun q11 _ => nk - (intOf q11).toNat)
  case atStart => exact ⟨0, rfl, Nat.zero_le _, rfl, Lib.hid (fun h => by omega)⟩
  case round =>
    obtain ⟨j, rfl, hj, rfl, HJ⟩ := hrel
    by_cases hlt : j < nk
    · have j0 : (0 : Int) ≤ (j : Int) := by omega
      have j1 : (j : Int) < (nk : Int) := by omega
      have hjl : j < ks.length := by rw [HK.out]; exact hlt
      obtain ⟨gk, ok, rfl, hgk, ck⟩ := HI.out j hjl
      rw [getD_at 0 hjl] at ck
      have HA : Hid (ks[j] = x ↔ j = a) := Lib.hid (by
        obtain ⟨h1, h2, h3⟩ := HO.out
        constructor
        · exact h3 j hjl
        · rintro rfl
          exact h2)
      have HIk := Lib.hid (fun (k : Nat) (hk : k < ks.length) => show w.cell? ⟨gk, ok + k, none⟩ = some (.int .i64 ks[k]) from by
        obtain ⟨g', o', hA, -, h⟩ := HI.out k hk
        cases hA
        rwa [getD_at 0 hk] at h)
      generalize ks[j] = y at *
      go_wp2_with fail
      go_loopw [12] (fun q12 wr => ∃ k : Nat, w = wr ∧ k ≤ nk ∧ q12 = .int .i64 k ∧ Hid (a = j → ∀ k' : Nat, k' < k → (k' : Int) - a ≠ by_)) (fun q12 _ => nk - (intOf q12).toNat)
      case atStart => exact ⟨0, rfl, Nat.zero_le _, rfl, Lib.hid (fun h k hk => by omega)⟩
      case round =>
        obtain ⟨k, rfl, hk, rfl, HKk⟩ := hrel
        by_cases hkl : k < nk
        · have k0 : (0 : Int) ≤ (k : Int) := by omega
          have k1 : (k : Int) < (nk : Int) := by omega
          have hkl2 : k < ks.length := by rw [HK.out]; exact hkl
          have cz := HIk.out k hkl2
          by_cases hy : y = x
          · have hja := HA.out.1 hy
            have q1 : (y == x) = true := by simpa using hy
            by_cases hb : (k : Int) - (j : Int) = by_
            · have q2 : ((k : Int) - (j : Int) == by_) = true := by simpa using hb
              have HR : Hid (R = (ks[k], 0)) := Lib.hid (by rw [HB.out, ← hja, ← hb]; exact near_hit hkl2)
              clear hy hja hb
              go_wp2
              go_ret2
              exact ⟨by rw [HR.out]; rfl, by first | trivial | rfl⟩
            · have q2 : ((k : Int) - (j : Int) == by_) = false := by simpa using hb
              have HK2 : Hid (a = j → ∀ k' : Nat, k' < k + 1 → (k' : Int) - a ≠ by_) := Lib.hid (fun h k' hk' => by
                by_cases e : k' = k
                · subst e; rw [h]; exact hb
                · exact HKk.out h k' (by omega))
              clear hy hja hb cz
              go_wp2
              go_roundw
              case rel => exact ⟨k + 1, by first | trivial | rfl, by omega, by go_num, HK2⟩
              case measure => simp [intOf] <;> omega
          · have q1 : (y == x) = false := by simpa using hy
            have hja : ¬ a = j := fun e => hy (HA.out.2 e.symm)
            have HK2 : Hid (a = j → ∀ k' : Nat, k' < k + 1 → (k' : Int) - a ≠ by_) := Lib.hid (fun h => absurd h hja)
            clear hy hja cz
            go_wp2
            go_roundw
            case rel => exact ⟨k + 1, by first | trivial | rfl, by omega, by go_num, HK2⟩
            case measure => simp [intOf] <;> omega
        · obtain rfl : k = nk := by omega
          have HJ2 : Hid (a < j + 1 → ∀ k' : Nat, k' < k → (k' : Int) - a ≠ by_) := Lib.hid (fun h => by
            by_cases e : a = j
            · exact HKk.out e
            · exact HJ.out (by omega))
          clear ck
          go_wp2
          go_roundw
          case rel => exact ⟨j + 1, by first | trivial | rfl, by omega, by go_num, HJ2⟩
          case measure => simp [intOf] <;> omega
    · obtain rfl : j = nk := by omega
      have HR : Hid (R = (0, 3)) := Lib.hid (by
        rw [HB.out]
        refine near_no fun k hk => ?_
        obtain ⟨h1, -⟩ := HO.out
        have := HK.out
        exact HJ.out (by omega) k (by omega))
      go_wp2
      go_ret2
      exact ⟨by rw [HR.out]; rfl, by first | trivial | rfl⟩
end Go.Proofs.YtaacikjoafobfaaGreatDoor.R8
namespace Go.Proofs.YtaacikjoafobfaaGreatDoor.R8
open Go.ChangeShapes Go.WideShapes Go.ChangeAt Go.RowKit
set_option linter.unusedVariables false
set_option linter.unusedSimpArgs false

theorem flat_pre {α : Type} (P : α → List UInt8) (l : List α) (k : Nat) : (l.take k).flatMap P <+: l.flatMap P := by
  conv => rhs; rw [← List.take_append_drop k l]
  rw [List.flatMap_append]
  exact List.prefix_append _ _
theorem str_of {s : ByteArray} {l : List UInt8} (h : s.data.toList = l) : s = ⟨l.toArray⟩ := by
  subst h
  exact ByteArray.ext (by simp)
set_option maxRecDepth 100000 in
set_option maxHeartbeats 4000000 in
theorem rcontent_node (A : Option Addr) (F : List Mn) (c i : Nat) (w : World) (hF : FR w A F) (hm : mayB F = true) (hi : i < F.length) :
    Calls Tryz.prog 42 #[.slice A F.length c, .int .i64 i] w fun e w' => e = .returned (.tuple #[.string ⟨(cont F i).toArray⟩, .int .i64 0]) ∧ Below w.heap.size w w' := by
  have HO := Lib.hid (rOrder_node A F c i w hF hm hi)
  have HL := Lib.hid (fun (j : Nat) (hj : j ∈ ord F i) => ord_lt hm hi hj)
  have hlen := Nat.le_trans (ord_len hm hi) (mayB_parts hm).2.1
  have HCl := Lib.hid (fun (k : Nat) => Nat.le_trans (flat_pre (txt F) (ord F i) k).length_le (cont_len hm hi))
  have HNd := Lib.hid (fun (V : World) (j : Nat) (hb : Below w.heap.size w V) (hj : j < F.length) => node_at (hF.below hb) hj)
  have HTx := Lib.hid (fun (j : Nat) (hj : j < F.length) => txt_at (F := F) hj)
  have HR : Hid (cont F i = (ord F i).flatMap (txt F)) := Lib.hid rfl
  generalize cont F i = R at *
  obtain ⟨N, hN⟩ : ∃ N, F.length = N := ⟨_, rfl⟩
  have HNN := Lib.hid hN
  rw [hN] at HO ⊢
  clear hF hm hi hN
  generalize ord F i = o at *
  obtain ⟨m, hmm⟩ : ∃ m, o.length = m := ⟨_, rfl⟩
  have HM := Lib.hid hmm
  rw [hmm] at HO hlen
  clear hmm
  go_enter Tryz.func42, Tryz.ntmps42
  go_wp2_with fail
  refine HO.out.mono ?_
  rintro e w1 ⟨v, rfl, hv, hb⟩
  have HB1 := Lib.hid hb
  obtain ⟨p1, c1, rfl, -⟩ := own_form2 hv
  have HIR : Hid (IR w1 p1 (o.map Int.ofNat)) := Lib.hid (own_ir2 (l := o.map Int.ofNat) (n := m) (c := c1) (by rw [List.length_map, HM.out]; exact hv))
  clear hv hb
  go_wp2_with fail
  go_loopw [8, 9] (fun q8 q9 wr => ∃ (S : ByteArray) (k : Nat), w1 = wr ∧ k ≤ m ∧ q8 = .string S ∧ q9 = .int .i64 k ∧ Hid (S.data.toList = (o.take k).flatMap (txt F))) (fun _ q9 _ => m - (intOf q9).toNat)
  case atStart => exact ⟨⟨#[]⟩, 0, rfl, Nat.zero_le _, rfl, rfl, Lib.hid rfl⟩
  case round =>
    obtain ⟨S, k, rfl, hk, rfl, rfl, HS⟩ := hrel
    by_cases hlt : k < m
    · have k0 : (0 : Int) ≤ (k : Int) := by omega
      have k1 : (k : Int) < (m : Int) := by omega
      have hkl : k < o.length := by rw [HM.out]; exact hlt
      obtain ⟨gk, ok, rfl, hgk, ck⟩ := HIR.out k (by rw [List.length_map]; exact hkl)
      rw [getD_at 0 (by rw [List.length_map]; exact hkl), List.getElem_map] at ck
      have ck : w1.cell? ⟨gk, ok + k, none⟩ = some (.int .i64 ((o[k] : Nat) : Int)) := ck
      have haF := HL.out _ (List.getElem_mem hkl)
      have HTk : Hid ((o.take (k + 1)).flatMap (txt F) = (o.take k).flatMap (txt F) ++ txt F o[k]) := Lib.hid (by
        rw [List.take_succ_eq_append_getElem hkl, List.flatMap_append]
        simp)
      have HC1 := Lib.hid (HCl.out (k + 1))
      generalize o[k] = a at *
      obtain ⟨g, off, rfl, hg, hnd⟩ := HNd.out w1 a HB1.out haF
      have a0 : (0 : Int) ≤ (a : Int) := by omega
      have a1 : (a : Int) < (N : Int) := by rw [← HNN.out]; omega
      have c0 := hnd.c0
      have c2 := hnd.c2
      have HTa := Lib.hid (HTx.out a haF)
      clear hnd
      generalize F[a].kind = kd at *
      generalize F[a].text = tx at *
      by_cases hkd : kd = 2
      · have HTa2 : Hid (txt F a = tx.data.toList) := Lib.hid (by rw [HTa.out, if_pos hkd])
        have q : (kd == 2) = true := by simpa using hkd
        have hsz : S.size + tx.size ≤ 3600 := by
          have h := HC1.out
          rw [HTk.out, HTa2.out, ← HS.out, List.length_append] at h
          exact h
        have hA : ∀ W, (Op.stringOp .add S tx).run Tryz.prog W = .ok (.string (S ++ tx)) W := fun W => run_string_add_sum W _ _ (by omega)
        have HS2 : Hid ((S ++ tx).data.toList = (o.take (k + 1)).flatMap (txt F)) := Lib.hid (by rw [HTk.out, HTa2.out, ← HS.out, ByteArray.data_append, Array.toList_append])
        clear hkd
        go_wp2
        go_roundw
        case rel => exact ⟨_, k + 1, by first | trivial | rfl, by omega, rfl, by go_num, HS2⟩
        case measure => simp [intOf] <;> omega
      · have q : (kd == 2) = false := by simpa using hkd
        have HS2 : Hid (S.data.toList = (o.take (k + 1)).flatMap (txt F)) := Lib.hid (by rw [HTk.out, HTa.out, if_neg hkd, List.append_nil]; exact HS.out)
        clear hkd
        go_wp2
        go_roundw
        case rel => exact ⟨S, k + 1, by first | trivial | rfl, by omega, rfl, by go_num, HS2⟩
        case measure => simp [intOf] <;> omega
    · obtain rfl : k = m := by omega
      have HSe : Hid (S = ⟨R.toArray⟩) := Lib.hid (by
        have h := HS.out
        rw [List.take_of_length_le (by rw [HM.out]; exact Nat.le_refl _), ← HR.out] at h
        exact str_of h)
      go_wp2
      go_ret2
      exact ⟨by rw [HSe.out]; rfl, HB1.out⟩
set_option maxRecDepth 100000 in
theorem rcontent_none (A : Option Addr) (n c : Nat) (x : Int) (w : World) (hx : ¬ (0 ≤ x ∧ x < n)) :
    Calls Tryz.prog 42 #[.slice A n c, .int .i64 x] w fun e w' => e = .returned (.tuple #[.string ⟨#[]⟩, .int .i64 70]) ∧ Below w.heap.size w w' := by
  have HO := Lib.hid (rOrder_none A n c x w hx)
  clear hx
  go_enter Tryz.func42, Tryz.ntmps42
  go_wp2_with fail
  refine HO.out.mono ?_
  rintro e w1 ⟨rfl, hb⟩
  have HB := Lib.hid hb
  clear hb
  go_wp2_with fail
  go_loopw [8, 9] (fun q8 q9 wr => q8 = .string ⟨#[]⟩ ∧ q9 = .int .i64 0 ∧ w1 = wr) (fun _ _ _ => 0)
  case atStart => exact ⟨rfl, rfl, rfl⟩
  case round =>
    obtain ⟨rfl, rfl, rfl⟩ := hrel
    go_wp2
    go_ret2
    exact ⟨rfl, HB.out⟩
set_option maxRecDepth 100000 in
set_option maxHeartbeats 4000000 in
theorem rattr_node (A : Option Addr) (F : List Mn) (c i : Nat) (name : ByteArray) (w : World) (hF : FR w A F) (hm : mayB F = true) (hi : i < F.length) :
    Calls Tryz.prog 44 #[.slice A F.length c, .int .i64 i, .string name] w fun e w' => e = .returned (.tuple #[.string (attrR F[i] name).1, .int .i64 (attrR F[i] name).2]) ∧ w = w' := by
  have HN := Lib.hid (rnode_any A F.length c i w)
  have e : decide (0 ≤ (i : Int) ∧ (i : Int) < (F.length : Int)) = true := by simp; omega
  rw [e] at HN
  obtain ⟨g, off, rfl, hg, hnd⟩ := node_at hF hi
  have c0 := hnd.c0
  have c3 := hnd.c3
  have HA := Lib.hid hnd.ar
  have hal := (may_sz hm).2 F[i] (List.getElem_mem hi)
  obtain ⟨R, hR⟩ : ∃ R, attrR F[i] name = R := ⟨_, rfl⟩
  have HK : Hid (F[i].kind ≠ 1 → R = (⟨#[]⟩, 71)) := Lib.hid (fun h => by rw [← hR, attrR, if_neg h])
  have HY : Hid (F[i].kind = 1 → ∀ k (hk : k < F[i].attrs.length), (∀ a ∈ F[i].attrs.take k, a.1 ≠ name) → F[i].attrs[k].1 = name → R = (F[i].attrs[k].2, 0)) := Lib.hid (fun h1 k hk h hx => by rw [← hR, attrR, if_pos h1, find_hit hk h hx])
  have HNo : Hid (F[i].kind = 1 → (∀ a ∈ F[i].attrs, a.1 ≠ name) → R = (⟨#[]⟩, 75)) := Lib.hid (fun h1 h => by rw [← hR, attrR, if_pos h1, find_no h])
  rw [hR]
  obtain ⟨n, hn⟩ : ∃ n, F.length = n := ⟨_, rfl⟩
  rw [hn] at HN ⊢
  have k0 : (0 : Int) ≤ (i : Int) := by omega
  have k1 : (i : Int) < (n : Int) := by omega
  clear hF hm e hnd hn hR
  generalize (F[i]'(by omega)).kind = kd at *
  generalize (F[i]'(by omega)).attrs = attrs at *
  generalize (F[i]'(by omega)).aA = aA at *
  generalize (F[i]'(by omega)).aC = aC at *
  obtain ⟨na, hna⟩ : ∃ z, attrs.length = z := ⟨_, rfl⟩
  have HNA := Lib.hid hna
  rw [hna] at c3 hal
  clear hna hi
  by_cases hkd : kd = 1
  case neg =>
    have HR := Lib.hid (HK.out hkd)
    have q : (kd != 1) = true := by simpa using hkd
    clear hkd HK HY HNo
    go_enter Tryz.func44, Tryz.ntmps44
    go_wp2_with fail
    refine HN.out.mono ?_
    rintro e w1 ⟨rfl, rfl⟩
    go_wp2
    go_ret2
    exact ⟨by rw [HR.out]; rfl, rfl⟩
  have HY1 := Lib.hid (HY.out hkd)
  have HN1 := Lib.hid (HNo.out hkd)
  have q : (kd != 1) = false := by simpa using hkd
  clear hkd HK HY HNo
  go_enter Tryz.func44, Tryz.ntmps44
  go_wp2_with fail
  refine HN.out.mono ?_
  rintro e w1 ⟨rfl, rfl⟩
  go_wp2_with fail
  go_loopw [8] (fun q wr => ∃ k : Nat, w = wr ∧ k ≤ na ∧ q = .int .i64 k ∧ Hid (∀ a ∈ attrs.take k, a.1 ≠ name)) (fun q _ => na - (intOf q).toNat)
  case atStart => exact ⟨0, rfl, Nat.zero_le _, rfl, Lib.hid (by simp)⟩
  case round =>
    obtain ⟨k, rfl, hk, rfl, HT⟩ := hrel
    by_cases hlt : k < na
    · have k2 : (0 : Int) ≤ (k : Int) := by omega
      have k3 : (k : Int) < (na : Int) := by omega
      have hkl : k < attrs.length := by rw [HNA.out]; exact hlt
      obtain ⟨ga, oa, rfl, hga, d0, d1⟩ := HA.out k hkl
      rw [getD_at default hkl] at d0 d1
      have HY2 := Lib.hid (HY1.out k hkl HT.out)
      have HT2 : Hid (attrs[k].1 ≠ name → ∀ a ∈ attrs.take (k + 1), a.1 ≠ name) := Lib.hid (fun h a ha => by
        rw [take_more hkl, List.mem_append, List.mem_singleton] at ha
        rcases ha with ha | rfl
        · exact HT.out a ha
        · exact h)
      generalize attrs[k] = at_ at *
      obtain ⟨an, av⟩ := at_
      simp only [] at d0 d1 HY2 HT2
      by_cases hx : an = name
      · have hq : (an.toList == name.toList) = true := by simpa using congrArg ByteArray.toList hx
        have HR := Lib.hid (HY2.out hx)
        clear hx
        go_wp2
        go_ret2
        exact ⟨by rw [HR.out]; rfl, by first | trivial | rfl⟩
      · have hq : (an.toList == name.toList) = false := by simpa [toList_inj] using hx
        have HT3 := Lib.hid (HT2.out hx)
        clear hx
        go_wp2
        go_roundw
        case rel => exact ⟨k + 1, by first | trivial | rfl, by omega, by go_num, HT3⟩
        case measure => simp [intOf] <;> omega
    · obtain rfl : k = na := by omega
      have et : attrs.take k = attrs := List.take_of_length_le (by rw [HNA.out]; exact Nat.le_refl _)
      rw [et] at HT
      have HR := Lib.hid (HN1.out HT.out)
      go_wp2
      go_ret2
      exact ⟨by rw [HR.out]; rfl, by first | trivial | rfl⟩
theorem rattr_none (A : Option Addr) (n c : Nat) (x : Int) (name : ByteArray) (w : World) (hx : ¬ (0 ≤ x ∧ x < n)) :
    Calls Tryz.prog 44 #[.slice A n c, .int .i64 x, .string name] w fun e w' => e = .returned (.tuple #[.string ⟨#[]⟩, .int .i64 70]) ∧ w = w' := by
  have HN := Lib.hid (rnode_any A n c x w)
  have e : decide (0 ≤ x ∧ x < (n : Int)) = false := by simpa using hx
  rw [e] at HN
  clear e hx
  go_enter Tryz.func44, Tryz.ntmps44
  go_wp2_with fail
  refine HN.out.mono ?_
  rintro e w1 ⟨rfl, rfl⟩
  go_wp2
  go_ret2
  exact ⟨rfl, rfl⟩
set_option maxRecDepth 100000 in
set_option maxHeartbeats 4000000 in
theorem rbyid_any (A : Option Addr) (F : List Mn) (c : Nat) (t : ByteArray) (w : World) (hF : FR w A F) (hm : mayB F = true) :
    Calls Tryz.prog 45 #[.slice A F.length c, .string t] w fun e w' => e = .returned (.tuple #[.int .i64 (byP F t).1, .int .i64 (byP F t).2]) ∧ Below w.heap.size w w' := by
  have h0 := (mayB_parts hm).1
  have HO := Lib.hid (rOrder_node A F c 0 w hF hm h0)
  have HL := Lib.hid (fun (j : Nat) (hj : j ∈ ord F 0) => ord_lt hm h0 hj)
  have hlen := Nat.le_trans (ord_len hm h0) (mayB_parts hm).2.1
  have HAt := Lib.hid (fun (V : World) (j : Nat) (hb : Below w.heap.size w V) (hj : j < F.length) => rattr_node A F c j idS V (hF.below hb) hm hj)
  have HH := Lib.hid (fun (j : Nat) (hj : j < F.length) => attr_hit hm hj t)
  have HBh := Lib.hid (fun (ht : ¬ t.size = 0) (k : Nat) (hk : k < (ord F 0).length) (h : ∀ y ∈ (ord F 0).take k, hasId F t y = false) (hx : hasId F t (ord F 0)[k] = true) => by_hit ht (pre := (ord F 0).take k) (x := (ord F 0)[k]) (by
    rw [← List.take_succ_eq_append_getElem hk]
    exact List.take_prefix _ _) h hx)
  have HBm := Lib.hid (fun (h : ∀ y ∈ ord F 0, hasId F t y = false) => by_miss h)
  have HBe : Hid (t.size = 0 → byP F t = (0, 3)) := Lib.hid (fun h => by unfold byP; rw [if_pos h])
  generalize byP F t = R at *
  obtain ⟨N, hN⟩ : ∃ N, F.length = N := ⟨_, rfl⟩
  rw [hN] at HO ⊢
  have HAt2 := Lib.hid (fun (V : World) (j : Nat) (hb : Below w.heap.size w V) (hj : j < F.length) => show Calls Tryz.prog 44 #[.slice A N c, .int .i64 j, .string idS] V (fun e w' => e = .returned (.tuple #[.string (attrR F[j] idS).1, .int .i64 (attrR F[j] idS).2]) ∧ V = w') from by rw [← hN]; exact HAt.out V j hb hj)
  clear hF hm h0 HAt hN
  generalize ord F 0 = o at *
  obtain ⟨m, hmm⟩ : ∃ m, o.length = m := ⟨_, rfl⟩
  have HM := Lib.hid hmm
  rw [hmm] at HO hlen
  clear hmm
  obtain ⟨te, hte⟩ : ∃ b, t.toList.isEmpty = b := ⟨_, rfl⟩
  have HTe : Hid (te = true ↔ t.size = 0) := Lib.hid (by
    rw [← hte, Lib.toList_data, List.isEmpty_iff, Lib.size_eq]
    exact ⟨fun h => by rw [h]; rfl, fun h => List.eq_nil_of_length_eq_zero h⟩)
  have hte2 : (t.toList = []) = (te = true) := by rw [← hte, List.isEmpty_iff]
  go_enter Tryz.func45, Tryz.ntmps45
  go_wp2_with fail
  refine HO.out.mono ?_
  rintro e w1 ⟨v, rfl, hv, hb⟩
  have HB1 := Lib.hid hb
  obtain ⟨p1, c1, rfl, -⟩ := own_form2 hv
  have HIR : Hid (IR w1 p1 (o.map Int.ofNat)) := Lib.hid (own_ir2 (l := o.map Int.ofNat) (n := m) (c := c1) (by rw [List.length_map, HM.out]; exact hv))
  clear hv hb
  go_wp2_with fail
  go_loopw [8] (fun q8 wr => ∃ k : Nat, w1 = wr ∧ k ≤ m ∧ q8 = .int .i64 k ∧ Hid (te = false → ∀ y ∈ o.take k, hasId F t y = false)) (fun q8 _ => m - (intOf q8).toNat)
  case atStart => exact ⟨0, rfl, Nat.zero_le _, rfl, Lib.hid (fun _ => by simp)⟩
  case round =>
    obtain ⟨k, rfl, hk, rfl, HT⟩ := hrel
    by_cases hlt : k < m
    · have k0 : (0 : Int) ≤ (k : Int) := by omega
      have k1 : (k : Int) < (m : Int) := by omega
      have hkl : k < o.length := by rw [HM.out]; exact hlt
      obtain ⟨gk, ok, rfl, hgk, ck⟩ := HIR.out k (by rw [List.length_map]; exact hkl)
      rw [getD_at 0 (by rw [List.length_map]; exact hkl), List.getElem_map] at ck
      have ck : w1.cell? ⟨gk, ok + k, none⟩ = some (.int .i64 ((o[k] : Nat) : Int)) := ck
      have haF := HL.out _ (List.getElem_mem hkl)
      have HC := Lib.hid (HAt2.out w1 o[k] HB1.out haF)
      have HHk := Lib.hid (HH.out o[k] haF)
      have HHit := Lib.hid (fun (h1 : te = false) (h2 : hasId F t o[k] = true) => HBh.out (fun h => by have := HTe.out.2 h; rw [h1] at this; cases this) k hkl (HT.out h1) h2)
      have HT2 : Hid (hasId F t o[k] = false → te = false → ∀ y ∈ o.take (k + 1), hasId F t y = false) := Lib.hid (fun h h1 y hy => by
        rw [List.take_succ_eq_append_getElem hkl, List.mem_append, List.mem_singleton] at hy
        rcases hy with hy | rfl
        · exact HT.out h1 y hy
        · exact h)
      generalize (attrR F[o[k]] idS) = r at *
      generalize hasId F t o[k] = hs at *
      generalize o[k] = a at *
      obtain ⟨r1, r2⟩ := r
      simp only [] at HC HHk
      unfold idS at HC
      go_wp2_with fail
      refine HC.out.mono ?_
      rintro e w2 ⟨rfl, rfl⟩
      by_cases h2 : r2 = 0
      case neg =>
        have q2 : (r2 == 0) = false := by simpa using h2
        have hhs : Hid (hs = false) := Lib.hid (by
          cases hs with
          | false => rfl
          | true => exact absurd (HHk.out.2 rfl).1 h2)
        have HT3 := Lib.hid (HT2.out hhs.out)
        clear h2 hte2 hte
        go_wp2
        go_roundw
        case rel => exact ⟨k + 1, by first | trivial | rfl, by omega, by go_num, HT3⟩
        case measure => simp [intOf] <;> omega
      have q2 : (r2 == 0) = true := by simpa using h2
      by_cases h1 : r1 = t
      case neg =>
        have q1 : (r1.toList == t.toList) = false := by simpa [toList_inj] using h1
        have hhs : Hid (hs = false) := Lib.hid (by
          cases hs with
          | false => rfl
          | true => exact absurd (HHk.out.2 rfl).2 h1)
        have HT3 := Lib.hid (HT2.out hhs.out)
        clear h1 h2 hte2 hte
        go_wp2
        go_roundw
        case rel => exact ⟨k + 1, by first | trivial | rfl, by omega, by go_num, HT3⟩
        case measure => simp [intOf] <;> omega
      have q1 : (r1.toList == t.toList) = true := by simpa using congrArg ByteArray.toList h1
      have hhs := Lib.hid (HHk.out.1 ⟨h2, h1⟩)
      clear h1 h2
      cases te with
      | true =>
        have HT3 : Hid (true = false → ∀ y ∈ o.take (k + 1), hasId F t y = false) := Lib.hid (fun h => by cases h)
        have he' : t.toList = [] := by simpa using hte2
        have q3 : (r1.toList == []) = true := by rw [← he']; exact q1
        have q4 : (t.toList != []) = false := by rw [he']; rfl
        clear hte2
        go_wp2
        go_roundw
        case rel => exact ⟨k + 1, by first | trivial | rfl, by omega, by go_num, by first | exact HT3 | exact Lib.hid (fun h => by simp at h)⟩
        case measure => simp [intOf] <;> omega
      | false =>
        have he' : ¬ t.toList = [] := by simpa using hte2
        have HR := Lib.hid (HHit.out rfl hhs.out)
        clear hte2
        go_wp2
        go_ret2
        exact ⟨by rw [HR.out]; rfl, HB1.out⟩
    · obtain rfl : k = m := by omega
      have HR : Hid (R = (0, 3)) := Lib.hid (by
        cases h : te with
        | true => exact HBe.out (HTe.out.1 h)
        | false =>
          have := HT.out h
          rw [List.take_of_length_le (by rw [HM.out]; exact Nat.le_refl _)] at this
          exact HBm.out this)
      go_wp2
      go_ret2
      exact ⟨by rw [HR.out]; rfl, HB1.out⟩
/-! ### what is no node -/
theorem worder_none (A : Option Addr) (F : List Mn) (c : Nat) (t : Int) (w : World) (hF : FR w A F) (hm : mayB F = true) (ht : ¬ (0 ≤ t ∧ t < F.length)) :
    Calls Tryz.prog 27 #[.slice A F.length c, .int .i64 t] w fun e w' => e = .returned (.tuple #[.slice none 0 0, .int .i64 70]) ∧ Below w.heap.size w w' := by
  have HN := Lib.hid (wnode_any A F c t w hF hm)
  rw [show isB F t = false by rw [isB, decide_eq_false_iff_not]; exact ht] at HN
  generalize F.length = n at *
  clear hF hm ht
  go_enter Tryz.func27, Tryz.ntmps27
  go_wp2_with fail
  refine HN.out.mono ?_
  rintro e w1 ⟨rfl, hb⟩
  have HB := Lib.hid hb
  clear hb
  go_wp2
  go_ret2
  exact ⟨rfl, HB.out⟩
theorem wkids_none (A : Option Addr) (F : List Mn) (c : Nat) (t : Int) (w : World) (hF : FR w A F) (hm : mayB F = true) (ht : ¬ (0 ≤ t ∧ t < F.length)) :
    Calls Tryz.prog 36 #[.slice A F.length c, .int .i64 t] w fun e w' => e = .returned (.tuple #[.slice none 0 0, .int .i64 70]) ∧ Below w.heap.size w w' := by
  have HN := Lib.hid (wnode_any A F c t w hF hm)
  rw [show isB F t = false by rw [isB, decide_eq_false_iff_not]; exact ht] at HN
  generalize F.length = n at *
  clear hF hm ht
  go_enter Tryz.func36, Tryz.ntmps36
  go_wp2_with fail
  refine HN.out.mono ?_
  rintro e w1 ⟨rfl, hb⟩
  have HB := Lib.hid hb
  clear hb
  go_wp2
  go_ret2
  exact ⟨rfl, HB.out⟩
theorem wcontent_none (A : Option Addr) (F : List Mn) (c : Nat) (t : Int) (w : World) (hF : FR w A F) (hm : mayB F = true) (ht : ¬ (0 ≤ t ∧ t < F.length)) :
    Calls Tryz.prog 41 #[.slice A F.length c, .int .i64 t] w fun e w' => e = .returned (.tuple #[.string ⟨#[]⟩, .int .i64 70]) ∧ Below w.heap.size w w' := by
  have HW : Hid (Below w.heap.size w (w.alloc (.cells #[.slice A F.length c] 29))) := Lib.hid ((Below.refl _ _).alloc (Nat.le_refl _) _)
  have HK := Lib.hid (heap_alloc_new w (.cells #[.slice A F.length c] 29))
  have HN := Lib.hid (wnode_any A F c t _ (hF.below HW.out) hm)
  rw [show isB F t = false by rw [isB, decide_eq_false_iff_not]; exact ht] at HN
  generalize F.length = n at *
  clear hF hm ht
  obtain ⟨W, hW⟩ : ∃ W, W = w.alloc (.cells #[.slice A n c] 29) := ⟨_, rfl⟩
  rw [← hW] at HW HK HN
  have x0 := block1 HK.out
  go_enter Tryz.func41, Tryz.ntmps41
  go_upto_region 1 with fail
  rw [← hW]
  clear hW
  go_wp2_with fail
  refine HN.out.mono ?_
  rintro e w1 ⟨rfl, hb⟩
  have HB := Lib.hid (HW.out.trans (hb.mono HW.out.size))
  clear hb x0
  go_wp2
  go_ret2
  exact ⟨rfl, HB.out⟩
theorem wattr_none (A : Option Addr) (F : List Mn) (c : Nat) (t : Int) (name : ByteArray) (w : World) (hF : FR w A F) (hm : mayB F = true) (ht : ¬ (0 ≤ t ∧ t < F.length)) :
    Calls Tryz.prog 43 #[.slice A F.length c, .int .i64 t, .string name] w fun e w' => e = .returned (.tuple #[.string ⟨#[]⟩, .int .i64 70]) ∧ Below w.heap.size w w' := by
  have HN := Lib.hid (wnode_any A F c t w hF hm)
  rw [show isB F t = false by rw [isB, decide_eq_false_iff_not]; exact ht] at HN
  generalize F.length = n at *
  clear hF hm ht
  go_enter Tryz.func43, Tryz.ntmps43
  go_wp2_with fail
  refine HN.out.mono ?_
  rintro e w1 ⟨rfl, hb⟩
  have HB := Lib.hid hb
  clear hb
  go_wp2
  go_ret2
  exact ⟨rfl, HB.out⟩
end Go.Proofs.YtaacikjoafobfaaGreatDoor.R8
namespace Go.Proofs.YtaacikjoafobfaaGreatDoor.R8
open Go.ChangeShapes Go.WideShapes Go.ChangeAt Go.RowKit
set_option linter.unusedVariables false
set_option linter.unusedSimpArgs false

set_option maxHeartbeats 1000000 in
theorem rints_w (A B : Option Addr) (l l' : List Int) (c d : Nat) (w : World) (hI : IR w A l) (hJ : IR w B l') (h1 : l.length ≤ 1000) (h2 : l'.length ≤ 1000) :
    Calls Tryz.prog 20 #[.slice A l.length c, .slice B l'.length d] w (GivesV (.bool (eqI l l')) w) := by
  have HI := Lib.hid hI
  have HJ := Lib.hid hJ
  have HE : Hid (eqI l l' = decide (l = l')) := Lib.hid rfl
  generalize eqI l l' = R at *
  obtain ⟨n, hn⟩ : ∃ n, l.length = n := ⟨_, rfl⟩
  obtain ⟨n', hn'⟩ : ∃ n, l'.length = n := ⟨_, rfl⟩
  have HN := Lib.hid hn
  have HN' := Lib.hid hn'
  rw [hn] at h1 ⊢
  rw [hn'] at h2 ⊢
  clear hI hJ hn hn'
  go_enter Tryz.func20, Tryz.ntmps20
  by_cases hnn : n = n'
  · have hb : ((n : Int) != (n' : Int)) = false := by subst hnn; simp
    have HNN := Lib.hid hnn
    clear hnn
    go_wp2_with fail
    go_loopw [5] (fun q wr => ∃ k : Nat, k ≤ n ∧ q = .int .i64 k ∧ Hid (l.take k = l'.take k) ∧ Hid (Below w.heap.size w wr)) (fun q _ => n - (intOf q).toNat)
    case atStart => exact ⟨0, Nat.zero_le _, rfl, Lib.hid rfl, Lib.hid (Below.refl _ _)⟩
    case round =>
      obtain ⟨k, hk, rfl, HK, HB⟩ := hrel
      by_cases hlt : k < n
      · have k0 : (0 : Int) ≤ (k : Int) := by omega
        have k1 : (k : Int) < (n : Int) := by omega
        have k2 : (k : Int) < (n' : Int) := by have := HNN.out; omega
        have hkl : k < l.length := by rw [HN.out]; exact hlt
        have hkl' : k < l'.length := by rw [HN'.out, ← HNN.out]; exact hlt
        obtain ⟨g, off, rfl, hg, hc⟩ := HI.out.below HB.out k hkl
        obtain ⟨g', off', rfl, hg', hc'⟩ := HJ.out.below HB.out k hkl'
        have HT := Lib.hid (eq_upto (l := l) (l' := l') (k := k) 0 (by rw [HN.out, HN'.out, HNN.out]) hkl HK.out)
        have HX : Hid (l.getD k 0 ≠ l'.getD k 0 → l ≠ l') := Lib.hid (ne_of_take 0)
        generalize l.getD k 0 = y at *
        generalize l'.getD k 0 = y' at *
        clear hkl hkl'
        rcases Bool.eq_false_or_eq_true (y != y') with hy | hy
        · go_upto_region 6 with fail
          go_quiet (fail)
          go_wp2
          go_ret
          refine ⟨ret_bool ?_, below_drewN HB.out _⟩
          rw [HE.out]
          exact (decide_eq_false (HX.out (by simpa using hy))).symm
        · go_upto_region 6 with fail
          go_quiet (fail)
          go_wp2
          go_roundw
          case rel => exact ⟨k + 1, by omega, by go_num, Lib.hid (HT.out.2 (by simpa using hy)), Lib.hid (below_drewN HB.out _)⟩
          case measure => simp [intOf] <;> omega
      · obtain rfl : k = n := by omega
        have e : l = l' := by
          have := HK.out
          rwa [List.take_of_length_le (by rw [HN.out]; exact Nat.le_refl _), List.take_of_length_le (by rw [HN'.out, ← HNN.out]; exact Nat.le_refl _)] at this
        have HEE : Hid (R = true) := Lib.hid (by rw [HE.out, decide_eq_true_eq]; exact e)
        clear e
        go_wp2
        go_ret
        exact ⟨ret_bool HEE.out.symm, HB.out⟩
  · have hb : ((n : Int) != (n' : Int)) = true := by simp; omega
    go_wp2
    go_ret
    refine ⟨ret_bool ?_, Below.refl _ _⟩
    rw [HE.out]
    symm
    rw [decide_eq_false_iff_not]
    intro e
    rw [← HN.out, ← HN'.out, e] at hnn
    exact hnn rfl
end Go.Proofs.YtaacikjoafobfaaGreatDoor.R8
