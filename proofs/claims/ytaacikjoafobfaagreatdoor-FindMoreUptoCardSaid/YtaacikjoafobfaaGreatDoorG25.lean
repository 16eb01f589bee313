/-
  package walk, of a forest that may be: isNode, Parent, Kids, and where an int stands in a list.
  package walk, of a forest that may be: Kids, and where an int stands in a list.
  package walk, of a forest that may be: Beside.
  The mathematics of layer 8: a node's order, of a plain forest that may be.
  The mathematics of layer 8: what a node says, who stands beside it, who is found by an id.
  package walk: what an attribute says.
-/
import Derived.Test.YtaacikjoafobfaaGreatDoorG12
import Derived.Test.YtaacikjoafobfaaGreatDoorG09
import Derived.Test.YtaacikjoafobfaaGreatDoorG16
import Derived.Test.YtaacikjoafobfaaGreatDoorG02
import Derived.Test.YtaacikjoafobfaaGreatDoorG19
import Derived.Test.YtaacikjoafobfaaGreatDoorG04
import Derived.Test.YtaacikjoafobfaaGreatDoorG05
namespace Go.Proofs.YtaacikjoafobfaaGreatDoor
open Go.ChangeShapes Go.WideShapes Go.ChangeAt Go.RowKit
set_option linter.unusedVariables false
set_option linter.unusedSimpArgs false

set_option maxRecDepth 100000 in
theorem wnode_any (A : Option Addr) (F : List Mn) (c : Nat) (x : Int) (w : World) (hF : FR w A F) (hm : mayB F = true) :
    Calls Tryz.prog 61 #[.slice A F.length c, .int .i64 x] w fun e w' => e = .returned (.bool (isB F x)) ∧ Below w.heap.size w w' := by
  have HM := Lib.hid (may_any A F c w hF (may_sz1 hm))
  rw [hm] at HM
  have HB : Hid (isB F x = decide (0 ≤ x ∧ x < F.length)) := Lib.hid rfl
  generalize isB F x = R at *
  obtain ⟨n, hn⟩ : ∃ n, F.length = n := ⟨_, rfl⟩
  rw [hn] at HM HB ⊢
  clear hF hm hn
  go_enter Tryz.func61, Tryz.ntmps61
  by_cases h1 : 0 ≤ x
  · have d1 : decide ((0 : Int) ≤ x) = true := by simpa using h1
    by_cases h2 : x < (n : Int)
    · have d2 : decide (x < (n : Int)) = true := by simpa using h2
      have hR : Hid (R = true) := Lib.hid (by rw [HB.out]; simp [h1, h2])
      go_wp2_with fail
      refine HM.out.mono ?_
      rintro e w1 ⟨rfl, hb⟩
      go_wp2
      go_ret
      exact ⟨by rw [hR.out]; rfl, hb⟩
    · have d2 : decide (x < (n : Int)) = false := by simpa using h2
      have hR : Hid (R = false) := Lib.hid (by rw [HB.out]; simp [h2])
      go_wp2
      go_ret
      exact ⟨by rw [hR.out]; rfl, Below.refl _ _⟩
  · have d1 : decide ((0 : Int) ≤ x) = false := by simpa using h1
    have hR : Hid (R = false) := Lib.hid (by rw [HB.out]; simp [h1])
    go_wp2
    go_ret
    exact ⟨by rw [hR.out]; rfl, Below.refl _ _⟩
/-- Parent: what it tells of x. -/
def upP (F : List Mn) (x : Int) : Int × Int := if isB F x = false then (0, 70) else if par F x.toNat = -1 then (0, 3) else (par F x.toNat, 0)
set_option maxRecDepth 100000 in
theorem wparent_any (A : Option Addr) (F : List Mn) (c : Nat) (x : Int) (w : World) (hF : FR w A F) (hm : mayB F = true) :
    Calls Tryz.prog 34 #[.slice A F.length c, .int .i64 x] w fun e w' => e = .returned (.tuple #[.int .i64 (upP F x).1, .int .i64 (upP F x).2]) ∧ Below w.heap.size w w' := by
  have HN := Lib.hid (wnode_any A F c x w hF hm)
  have HF := Lib.hid hF
  obtain ⟨n, hn⟩ : ∃ n, F.length = n := ⟨_, rfl⟩
  have HNN := Lib.hid hn
  rw [hn] at HN ⊢
  clear hF hm hn
  rcases Bool.eq_false_or_eq_true (isB F x) with hb | hb
  · obtain ⟨i, rfl, hi⟩ : ∃ i : Nat, x = i ∧ i < F.length := by
      rw [isB, decide_eq_true_eq] at hb
      exact ⟨x.toNat, by omega, by omega⟩
    have hin : i < n := by rw [← HNN.out]; exact hi
    have k0 : (0 : Int) ≤ (i : Int) := by omega
    have k1 : (i : Int) < (n : Int) := by omega
    obtain ⟨-, g, off, rfl, hg, hnd⟩ := HF.out i F[i] (List.getElem?_eq_getElem hi)
    have HP : Hid (upP F (i : Int) = if par F i = -1 then (0, 3) else (par F i, 0)) := Lib.hid (by unfold upP; rw [hb, if_neg (by simp), Int.toNat_natCast])
    have c4 : w.cell? ⟨g, off + i * 6 + 4, none⟩ = some (.int .i64 (par F i)) := by rw [par_at hi]; exact hnd.c4
    rw [hb] at HN
    clear hnd hb hi
    generalize upP F (i : Int) = R at *
    go_enter Tryz.func34, Tryz.ntmps34
    go_wp2_with fail
    refine HN.out.mono ?_
    rintro e w1 ⟨rfl, hb⟩
    have c4' := (hb.cell hg).trans c4
    have HB := Lib.hid hb
    clear hb c4
    by_cases hp : par F i = -1
    · have HR : Hid (R = (0, 3)) := Lib.hid (by rw [HP.out, if_pos hp])
      rw [hp] at c4'
      go_wp2
      go_ret2
      exact ⟨by rw [HR.out]; rfl, HB.out⟩
    · have HR : Hid (R = (par F i, 0)) := Lib.hid (by rw [HP.out, if_neg hp])
      generalize par F i = p at *
      have hq : (p == -1) = false := by simpa using hp
      go_wp2
      go_ret2
      exact ⟨by rw [HR.out]; rfl, HB.out⟩
  · have HP : Hid (upP F x = (0, 70)) := Lib.hid (by unfold upP; rw [if_pos hb])
    rw [hb] at HN
    go_enter Tryz.func34, Tryz.ntmps34
    go_wp2_with fail
    refine HN.out.mono ?_
    rintro e w1 ⟨rfl, hb1⟩
    go_wp2
    go_ret2
    exact ⟨by rw [HP.out]; rfl, hb1⟩
end Go.Proofs.YtaacikjoafobfaaGreatDoor
namespace Go.Proofs.YtaacikjoafobfaaGreatDoor
open Go.ChangeShapes Go.WideShapes Go.ChangeAt Go.RowKit
set_option linter.unusedVariables false
set_option linter.unusedSimpArgs false

set_option maxRecDepth 100000 in
theorem wkids_any (A : Option Addr) (F : List Mn) (c i : Nat) (w : World) (hF : FR w A F) (hm : mayB F = true) (hi : i < F.length) :
    Calls Tryz.prog 36 #[.slice A F.length c, .int .i64 i] w fun e w' => ∃ v, e = .returned (.tuple #[v, .int .i64 0]) ∧ w'.ownsRow w.heap.size 3 1 v (kidsOf F i).length (ivs (kidsOf F i)) ∧ Below w.heap.size w w' := by
  have HN := Lib.hid (wnode_any A F c (i : Int) w hF hm)
  rw [show isB F (i : Int) = true by rw [isB, decide_eq_true_eq]; omega] at HN
  obtain ⟨-, g, off, rfl, hg, hnd⟩ := hF i F[i] (List.getElem?_eq_getElem hi)
  have c5 := hnd.c5
  have hir := hnd.ir
  have hks := may_kids hm _ (List.getElem_mem hi)
  rw [← kidsOf_at hi] at c5 hir hks
  have HIR := Lib.hid hir
  obtain ⟨n, hn⟩ : ∃ n, F.length = n := ⟨_, rfl⟩
  rw [hn] at HN hi ⊢
  have k0 : (0 : Int) ≤ (i : Int) := by omega
  have k1 : (i : Int) < (n : Int) := by omega
  clear hnd hir hn hF hm
  generalize kidsOf F i = ks at *
  generalize (F[i]).kA = kA at *
  have HCL := Lib.hid (fun (V : World) (ck : Nat) (h : IR V kA ks) => cloneI kA ks ck V h (by omega))
  obtain ⟨kn, hkn⟩ : ∃ kn, ks.length = kn := ⟨_, rfl⟩
  rw [hkn] at c5 HCL ⊢
  clear hkn hks
  go_enter Tryz.func36, Tryz.ntmps36
  go_wp2_with fail
  refine HN.out.mono ?_
  rintro e w1 ⟨rfl, hb⟩
  have c5' := (hb.cell hg).trans c5
  have HB := Lib.hid hb
  have HIR1 := Lib.hid (HIR.out.below hb)
  clear hb c5
  go_wp2_with fail
  refine (HCL.out w1 _ HIR1.out).mono ?_
  rintro e w2 ⟨v, rfl, hv, hb⟩
  go_wp2
  go_ret2
  exact ⟨v, rfl, own_mono hv HB.out.size, HB.out.trans (hb.mono HB.out.size)⟩
/-- Where x stands first, or -1. -/
def atI (l : List Int) (x : Int) : Int := if l.any (fun y => decide (y = x)) = true then (l.findIdx (fun y => decide (y = x)) : Int) else -1
theorem at_hit {l : List Int} {x : Int} {k : Nat} (hk : k < l.length) (h : (l.take k).any (fun y => decide (y = x)) = false) (hx : l[k] = x) : atI l x = (k : Int) := by
  have ha : l.any (fun y => decide (y = x)) = true := List.any_eq_true.2 ⟨l[k], List.getElem_mem hk, by simpa using hx⟩
  have hf : l.findIdx (fun y => decide (y = x)) = k := by
    rw [List.findIdx_eq hk]
    refine ⟨by simpa using hx, fun j hj => ?_⟩
    have := List.any_eq_false.1 h l[j] (List.mem_take_iff_getElem.2 ⟨j, by omega, rfl⟩)
    simpa using this
  unfold atI
  rw [if_pos ha, hf]
set_option maxHeartbeats 2000000 in
theorem index_at (Ak : Option Addr) (l : List Int) (ck : Nat) (x : Int) (w : World) (hI : IR w Ak l) (hl : l.length ≤ 1000) :
    Calls Tryz.prog 70 #[.slice Ak l.length ck, .int .i64 x] w fun e w' => e = .returned (.int .i64 (atI l x)) ∧ w' = w := by
  have HI := Lib.hid hI
  obtain ⟨n, hnn⟩ : ∃ n, l.length = n := ⟨_, rfl⟩
  have HNN := Lib.hid hnn
  obtain ⟨R, hR⟩ : ∃ R, atI l x = R := ⟨_, rfl⟩
  have HR := Lib.hid hR
  rw [hR]
  rw [hnn] at hl ⊢
  clear hI hnn hR
  go_enter Tryz.func70, Tryz.ntmps70
  go_wp2
  go_loopw [8] (fun q wr => ∃ k : Nat, k ≤ n ∧ q = .int .i64 k ∧ Hid ((l.take k).any (fun y => decide (y = x)) = false) ∧ w = wr) (fun q _ => n - (intOf q).toNat)
  case atStart => exact ⟨0, Nat.zero_le _, rfl, Lib.hid rfl, rfl⟩
  case round =>
    obtain ⟨k, hk, rfl, HT, rfl⟩ := hrel
    by_cases hlt : k < n
    · have k0 : (0 : Int) ≤ (k : Int) := by omega
      have k1 : (k : Int) < (n : Int) := by omega
      have hkl : k < l.length := by rw [HNN.out]; exact hlt
      obtain ⟨ga, oa, rfl, hga, hc⟩ := HI.out k hkl
      have HT2 := Lib.hid (any_more hkl HT.out)
      have HH : Hid (l[k] = x → R = (k : Int)) := Lib.hid (fun h => by rw [← HR.out]; exact at_hit hkl HT.out h)
      rw [getD_at 0 hkl] at hc
      generalize l[k] = y at *
      by_cases hy : y = x
      · have hq : (x == y) = true := by simpa using hy.symm
        have HA := Lib.hid (HH.out hy)
        go_wp2
        go_ret
        exact ⟨by rw [HA.out]; rfl, rfl⟩
      · have hq : (x == y) = false := by simpa using fun e : x = y => hy e.symm
        rw [decide_eq_false hy] at HT2
        go_wp2
        go_roundw
        case rel => exact ⟨k + 1, by omega, by go_num, HT2, by first | trivial | rfl⟩
        case measure => simp [intOf] <;> omega
    · obtain rfl : k = n := by omega
      have e : l.take k = l := List.take_of_length_le (by rw [HNN.out]; exact Nat.le_refl _)
      rw [e] at HT
      have HA : Hid (R = -1) := Lib.hid (by rw [← HR.out, atI, HT.out]; rfl)
      go_wp2
      go_ret
      exact ⟨by rw [HA.out]; rfl, rfl⟩
end Go.Proofs.YtaacikjoafobfaaGreatDoor
namespace Go.Proofs.YtaacikjoafobfaaGreatDoor
open Go.ChangeShapes Go.WideShapes Go.ChangeAt Go.RowKit
set_option linter.unusedVariables false
set_option linter.unusedSimpArgs false

/-- Among Kids, from the place at on, by places behind. -/
def nearP (ks : List Int) (at_ : Nat) (by_ : Int) : Int × Int := if by_ < -(at_ : Int) ∨ (ks.length : Int) - at_ ≤ by_ then (0, 3) else (ks.getD ((at_ : Int) + by_).toNat 0, 0)
/-- Beside: what it tells. -/
def besP (F : List Mn) (x by_ : Int) : Int × Int := if (upP F x).2 ≠ 0 then (0, (upP F x).2) else nearP (kidsOf F (upP F x).1.toNat) ((kidsOf F (upP F x).1.toNat).findIdx fun y => decide (y = x)) by_
set_option maxRecDepth 100000 in
theorem wbeside_any (A : Option Addr) (F : List Mn) (c : Nat) (x by_ : Int) (w : World) (hF : FR w A F) (hm : mayB F = true) (hby : I64 by_) :
    Calls Tryz.prog 38 #[.slice A F.length c, .int .i64 x, .int .i64 by_] w fun e w' => e = .returned (.tuple #[.int .i64 (besP F x by_).1, .int .i64 (besP F x by_).2]) ∧ Below w.heap.size w w' := by
  have HN := Lib.hid (wparent_any A F c x w hF hm)
  have HF := Lib.hid hF
  have HM := Lib.hid hm
  obtain ⟨b1, b2⟩ := hby
  obtain ⟨n, hn⟩ : ∃ n, F.length = n := ⟨_, rfl⟩
  have HNN := Lib.hid hn
  rw [hn] at HN ⊢
  clear hF hm hn
  by_cases he : (upP F x).2 = 0
  · have hx : isB F x = true ∧ par F x.toNat ≠ -1 ∧ (upP F x).1 = par F x.toNat := by
      unfold upP at he ⊢
      split at he
      · cases he
      split at he
      · cases he
      rename_i h1 h2
      rw [if_neg h1, if_neg h2]
      exact ⟨by simpa using h1, h2, rfl⟩
    obtain ⟨hb, hne, hu⟩ := hx
    obtain ⟨i, rfl, hi⟩ := isB_nat hb
    rw [Int.toNat_natCast] at hne hu
    obtain ⟨p, hp1, hp2⟩ := isB_nat ((linked_up (may_iff.1 HM.out).2.2.1 i hi).resolve_left hne)
    obtain ⟨-, -, q3, q4, q5⟩ := place_at HM.out hi hp1
    obtain ⟨-, g, off, rfl, hg, hnd⟩ := HF.out p F[p] (List.getElem?_eq_getElem hp2)
    have c5 := hnd.c5
    have hir := hnd.ir
    have hks := may_kids HM.out _ (List.getElem_mem hp2)
    rw [← kidsOf_at hp2] at c5 hir hks
    have HIR := Lib.hid hir
    have HP : Hid (besP F (i : Int) by_ = nearP (kidsOf F p) ((kidsOf F p).findIdx fun y => decide (y = (i : Int))) by_) := Lib.hid (by unfold besP; rw [if_neg (by rw [he]; simp), hu, hp1, Int.toNat_natCast])
    rw [hu, hp1, he] at HN
    have hpn : p < n := by rw [← HNN.out]; exact hp2
    have k0 : (0 : Int) ≤ (p : Int) := by omega
    have k1 : (p : Int) < (n : Int) := by omega
    have hat : atI (kidsOf F p) (i : Int) = ((kidsOf F p).findIdx fun y => decide (y = (i : Int))) := by
      refine at_hit q3 ?_ ?_
      · rw [List.any_eq_false]
        intro y hy
        obtain ⟨j, hj, rfl⟩ := List.mem_take_iff_getElem.1 hy
        have := q5 j (by omega)
        rw [getD_at 0 (by omega)] at this
        simpa using this
      · rw [getD_at 0 q3] at q4
        exact q4
    have HIX := Lib.hid (fun (V : World) (ck : Nat) (h : IR V (F[p]).kA (kidsOf F p)) => index_at (F[p]).kA (kidsOf F p) ck (i : Int) V h (by omega))
    rw [hat] at HIX
    clear hnd hir hne hu he hb hp1 q4 q5 hat
    generalize besP F (i : Int) by_ = R at *
    generalize (kidsOf F p).findIdx (fun y => decide (y = (i : Int))) = at_ at *
    generalize kidsOf F p = ks at *
    generalize (F[p]).kA = kA at *
    obtain ⟨kn, hkn⟩ : ∃ kn, ks.length = kn := ⟨_, rfl⟩
    have HKN := Lib.hid hkn
    rw [hkn] at c5 HIX q3 hks
    clear hkn
    have z1 : IntKind.i64.wrap (-(at_ : Int)) = -(at_ : Int) := by rw [IntKind.wrap_i64]; omega
    have z2 : IntKind.i64.wrap ((kn : Int) - (at_ : Int)) = (kn : Int) - (at_ : Int) := by rw [IntKind.wrap_i64]; omega
    go_enter Tryz.func38, Tryz.ntmps38
    go_wp2_with fail
    refine HN.out.mono ?_
    rintro e w1 ⟨rfl, hb⟩
    have c5' := (hb.cell hg).trans c5
    have HB := Lib.hid hb
    have HIR1 := Lib.hid (HIR.out.below hb)
    clear hb c5
    go_wp2_with fail
    refine (HIX.out w1 _ HIR1.out).mono ?_
    rintro e w2 ⟨rfl, hw⟩
    obtain rfl := hw.symm
    by_cases h1 : by_ < -(at_ : Int)
    · have d1 : decide (by_ < -(at_ : Int)) = true := by simpa using h1
      have HR : Hid (R = (0, 3)) := Lib.hid (by rw [HP.out, nearP, if_pos (.inl h1)])
      go_wp2
      go_ret2
      exact ⟨by rw [HR.out]; rfl, HB.out⟩
    · have d1 : decide (by_ < -(at_ : Int)) = false := by simpa using h1
      by_cases h2 : (kn : Int) - at_ ≤ by_
      · have d2 : decide ((kn : Int) - (at_ : Int) ≤ by_) = true := by simpa using h2
        have HR : Hid (R = (0, 3)) := Lib.hid (by rw [HP.out, nearP, HKN.out, if_pos (.inr h2)])
        go_wp2
        go_ret2
        exact ⟨by rw [HR.out]; rfl, HB.out⟩
      · have d2 : decide ((kn : Int) - (at_ : Int) ≤ by_) = false := by simpa using h2
        obtain ⟨q, hq⟩ : ∃ q : Nat, (at_ : Int) + by_ = q := ⟨((at_ : Int) + by_).toNat, by omega⟩
        have HR : Hid (R = (ks.getD q 0, 0)) := Lib.hid (by rw [HP.out, nearP, HKN.out, if_neg (by omega), hq, Int.toNat_natCast])
        have hqk : q < kn := by omega
        have z3 : IntKind.i64.wrap ((at_ : Int) + by_) = (q : Int) := by rw [IntKind.wrap_i64]; omega
        have k2 : (0 : Int) ≤ (q : Int) := by omega
        have k3 : (q : Int) < (kn : Int) := by omega
        obtain ⟨gk, ok, rfl, hgk, d0⟩ := HIR1.out q (by rw [HKN.out]; exact hqk)
        clear hq
        generalize ks.getD q 0 = y at *
        go_wp2
        go_ret2
        exact ⟨by rw [HR.out]; rfl, HB.out⟩
  · have HP : Hid (besP F x by_ = (0, (upP F x).2)) := Lib.hid (by unfold besP; rw [if_pos he])
    obtain ⟨ee, hee⟩ : ∃ ee, (upP F x).2 = ee := ⟨_, rfl⟩
    rw [hee] at HN HP he
    have x1 : (ee != 0) = true := by simpa using he
    clear hee
    generalize (upP F x).1 = uu at *
    go_enter Tryz.func38, Tryz.ntmps38
    go_wp2_with fail
    refine HN.out.mono ?_
    rintro e w1 ⟨rfl, hb1⟩
    go_wp2
    go_ret2
    exact ⟨by rw [HP.out]; rfl, hb1⟩
end Go.Proofs.YtaacikjoafobfaaGreatDoor
namespace Go.Proofs.YtaacikjoafobfaaGreatDoor
open Go.ChangeShapes Go.WideShapes Go.ChangeAt Go.RowKit
set_option linter.unusedVariables false
set_option linter.unusedSimpArgs false

theorem vis_more {F : List Mn} : ∀ (f i : Nat), Dp F f i → vis F (f + 1) i = vis F f i := by
  intro f
  induction f with
  | zero => intro i h; exact absurd h (by simp [Dp])
  | succ f ih =>
    rintro i ⟨hi, hk⟩
    have e : (kidsOf F i).flatMap (fun k => vis F (f + 1) k.toNat) = (kidsOf F i).flatMap (fun k => vis F f k.toNat) := flatMap_congr' (fun k hk' => ih _ (hk k hk').2)
    rw [vis]
    conv => rhs; rw [vis]
    rw [e]
/-- All that stands below a node, itself first. -/
def ord (F : List Mn) (i : Nat) : List Nat := vis F F.length i
theorem ord_open {F : List Mn} (h : mayB F = true) {i : Nat} (hi : i < F.length) : ord F i = i :: (kidsOf F i).flatMap (fun k => ord F k.toNat) := by
  unfold ord
  rw [← vis_more _ _ (dp_all h hi), vis]
theorem kid_node {F : List Mn} (h : mayB F = true) {i : Nat} (hi : i < F.length) {k : Int} (hk : k ∈ kidsOf F i) : ∃ j : Nat, k = j ∧ j < F.length ∧ par F j = i := by
  obtain ⟨j, h1, h2, h3, -⟩ := dep_kid h hi hk
  exact ⟨j, h1, h2, h3⟩
theorem par_kid {F : List Mn} (h : mayB F = true) {j i : Nat} (hj : j < F.length) (hp : par F j = (i : Int)) : i < F.length ∧ (j : Int) ∈ kidsOf F i := by
  obtain ⟨-, -, h3, -, -⟩ := may_iff.1 h
  obtain ⟨-, p', e1, hpl, hcnt⟩ := ((h3 j hj).1).resolve_left (by omega)
  obtain rfl : i = p' := by omega
  exact ⟨hpl, List.count_pos_iff.1 (by omega)⟩
theorem ord_self {F : List Mn} (h : mayB F = true) {i : Nat} (hi : i < F.length) : i ∈ ord F i := by rw [ord_open h hi]; simp
theorem ord_lt {F : List Mn} (h : mayB F = true) {i : Nat} (hi : i < F.length) {j : Nat} (hj : j ∈ ord F i) : j < F.length := (vis_up h _ i hi j hj).1
/-- What stands below a kid stands below the node. -/
theorem ord_sub {F : List Mn} (h : mayB F = true) {i k : Nat} (hi : i < F.length) (hk : (k : Int) ∈ kidsOf F i) {j : Nat} (hj : j ∈ ord F k) : j ∈ ord F i := by
  rw [ord_open h hi, List.mem_cons, List.mem_flatMap]
  exact .inr ⟨k, hk, by rw [Int.toNat_natCast]; exact hj⟩
theorem vis_kids {F : List Mn} : ∀ (f i : Nat), Dp F f i → ∀ p ∈ vis F f i, ∀ k ∈ kidsOf F p, k.toNat ∈ vis F f i := by
  intro f
  induction f with
  | zero => intro i h; exact absurd h (by simp [Dp])
  | succ f ih =>
    rintro i ⟨hi, hk⟩ p hp k hkp
    rw [vis, List.mem_cons, List.mem_flatMap] at hp ⊢
    rcases hp with rfl | ⟨k', hk', hp⟩
    · refine .inr ⟨k, hkp, ?_⟩
      have := (hk k hkp).2
      cases f with
      | zero => exact absurd this (by simp [Dp])
      | succ f => rw [vis]; simp
    · exact .inr ⟨k', hk', ih _ (hk k' hk').2 p hp k hkp⟩
theorem ord_kids {F : List Mn} (h : mayB F = true) {i p k : Nat} (hi : i < F.length) (hp : p ∈ ord F i) (hk : (k : Int) ∈ kidsOf F p) : k ∈ ord F i := by
  have := vis_kids F.length i (dp_all h hi) p hp k hk
  rwa [Int.toNat_natCast] at this
theorem anc_shift (F : List Mn) : ∀ (m : Nat) (x : Int), anc F (m + 1) x = anc F m (par F x.toNat) := by
  intro m
  induction m with
  | zero => intro x; rfl
  | succ m ih => intro x; rw [anc, ih, anc]
theorem onWay_le {F : List Mn} {t : Int} : ∀ (m : Nat) (x : Int), onWay F t m x = true → ∀ m', m ≤ m' → onWay F t m' x = true := by
  intro m
  induction m with
  | zero => intro x h; simp [onWay] at h
  | succ m ih =>
    intro x h m' hm
    obtain ⟨k, rfl⟩ : ∃ k, m' = k + 1 := ⟨m' - 1, by omega⟩
    rw [onWay] at h ⊢
    split at h
    · cases h
    rename_i hx
    rw [if_neg hx]
    rw [Bool.or_eq_true] at h ⊢
    exact h.imp id (fun h => ih _ h k (by omega))
theorem dep_top {F : List Mn} (h : mayB F = true) {i : Nat} (hi : i < F.length) (hp : par F i = -1) : dep F F.length i = 1 := by
  obtain ⟨p1, p2, p3, p4, p5⟩ := mayB_parts h
  rw [← dep_more F _ _ (p5 i hi), dep, if_neg (by omega), Int.toNat_natCast, hp]
  obtain ⟨n, hn⟩ : ∃ n, F.length = n + 1 := ⟨F.length - 1, by omega⟩
  rw [hn, dep, if_pos rfl]
theorem way_anc {F : List Mn} (h : mayB F = true) {i : Nat} (hi : i < F.length) : ∀ (m j : Nat), j < F.length → anc F m j = i → dep F F.length j = dep F F.length i + m → onWay F i (m + 1) j = true := by
  intro m
  induction m with
  | zero =>
    intro j hj ha _
    rw [anc] at ha
    rw [onWay, if_neg (by omega), ha]
    simp
  | succ m ih =>
    intro j hj ha hd
    have h1 := dep_pos (F := F) (i := i) (by omega)
    have hne : par F j ≠ -1 := fun e => by have := dep_top h hj e; omega
    obtain ⟨p, hp, hpl, hdp⟩ := par_node h hj hne
    rw [anc_shift, Int.toNat_natCast, hp] at ha
    rw [onWay, if_neg (by omega), Int.toNat_natCast, hp, ih p hpl ha (by omega), Bool.or_true]
/-- A node's order has what is below it. -/
theorem ord_iff {F : List Mn} (h : mayB F = true) {i j : Nat} (hi : i < F.length) (hj : j < F.length) : j ∈ ord F i ↔ belowB F i j = true := by
  have hjb : isB F j = true := by rw [isB, decide_eq_true_eq]; omega
  have e : belowB F i j = onWay F i F.length j := by rw [belowB, h, hjb, Bool.true_and, Bool.true_and]
  rw [e]
  constructor
  · intro hm
    obtain ⟨-, m, ha, hd⟩ := vis_up h _ i hi j hm
    have h1 := dep_pos (F := F) (i := i) (by omega)
    have h2 := dep_le F F.length j
    exact onWay_le _ _ (way_anc h hi m j hj ha hd) _ (by omega)
  · have : ∀ (m j : Nat), j < F.length → onWay F i m j = true → j ∈ ord F i := by
      intro m
      induction m with
      | zero => intro j _ h; simp [onWay] at h
      | succ m ih =>
        intro j hj hw
        rw [onWay, if_neg (by omega), Int.toNat_natCast, Bool.or_eq_true, decide_eq_true_eq] at hw
        rcases hw with hw | hw
        · obtain rfl : j = i := by omega
          exact ord_self h hj
        · by_cases hp : par F j = -1
          · rw [hp, onWay_none] at hw; cases hw
          · obtain ⟨p, hpe, hpl, -⟩ := par_node h hj hp
            rw [hpe] at hw
            exact ord_kids h hi (ih p hpl hw) (par_kid h hj hpe).2
    exact this _ j hj
theorem ord_nodup {F : List Mn} (h : mayB F = true) {i : Nat} (hi : i < F.length) : (ord F i).Nodup := vis_nodup h _ i hi
theorem ord_len {F : List Mn} (h : mayB F = true) {i : Nat} (hi : i < F.length) : (ord F i).length ≤ F.length := vis_len h _ hi
/-- How often a node is in an order. -/
theorem ord_count {F : List Mn} (h : mayB F = true) {i j : Nat} (hi : i < F.length) (hj : j < F.length) : (ord F i).count j = if belowB F i j = true then 1 else 0 := by
  have h1 := List.nodup_iff_count.1 (ord_nodup h hi) j
  split
  · rename_i hb
    have h2 := List.count_pos_iff.2 ((ord_iff h hi hj).2 hb)
    omega
  · rename_i hb
    exact List.count_eq_zero.2 (fun hm => hb ((ord_iff h hi hj).1 hm))
/-- Who is below a node's parent, too. -/
theorem below_up {F : List Mn} (h : mayB F = true) {p at_ i : Nat} (ha : at_ < F.length) (hi : i < F.length) (hp : par F at_ = (p : Int)) (hb : belowB F at_ i = true) : p < F.length ∧ belowB F p i = true ∧ dep F F.length at_ = dep F F.length p + 1 := by
  obtain ⟨hpl, hk⟩ := par_kid h ha hp
  refine ⟨hpl, (ord_iff h hpl hi).1 (ord_sub h hpl hk ((ord_iff h ha hi).2 hb)), ?_⟩
  obtain ⟨p', e, -, hd⟩ := par_node h ha (by omega)
  obtain rfl : p = p' := by omega
  exact hd
theorem count_or {n : Nat} {f g : Nat → Bool} (hd : ∀ k, f k = true → g k = true → False) : ((List.range n).filter fun k => f k || g k).length = ((List.range n).filter f).length + ((List.range n).filter g).length := by
  rw [← List.countP_eq_length_filter, ← List.countP_eq_length_filter, ← List.countP_eq_length_filter]
  induction n with
  | zero => rfl
  | succ n ih =>
    rw [List.range_succ, List.countP_append, List.countP_append, List.countP_append, ih]
    simp only [List.countP_cons, List.countP_nil, Nat.zero_add]
    rcases hf : f n with _ | _
    · rcases hg : g n with _ | _ <;> simp <;> omega
    · rcases hg : g n with _ | _
      · simp; omega
      · exact (hd n hf hg).elim
theorem count_one {n x : Nat} (hx : x < n) : ((List.range n).filter fun k : Nat => decide ((x : Int) = (k : Int))).length = 1 := by
  have : ((List.range n).filter fun k : Nat => decide ((x : Int) = (k : Int))) = (List.range n).filter (fun k : Nat => k == x) := List.filter_congr (fun k _ => by
    rw [Bool.eq_iff_iff, decide_eq_true_eq, beq_iff_eq]
    omega)
  rw [this, ← List.countP_eq_length_filter]
  have h1 := List.nodup_iff_count.1 (List.nodup_range (n := n)) x
  have h2 := List.count_pos_iff.2 (List.mem_range.2 hx)
  show (List.range n).count x = 1
  omega
theorem way_count {F : List Mn} (h : mayB F = true) : ∀ (m i : Nat), i < F.length → endsB F m i = true → ((List.range F.length).filter fun k : Nat => onWay F k m i).length = dep F m i := by
  intro m
  induction m with
  | zero => intro i hi he; simp [endsB] at he
  | succ m ih =>
    intro i hi he
    rw [endsB, Bool.or_eq_true, decide_eq_true_eq, Int.toNat_natCast] at he
    have he := he.resolve_left (by omega)
    have e1 : (List.range F.length).filter (fun k : Nat => onWay F k (m + 1) i) = (List.range F.length).filter (fun k : Nat => decide ((i : Int) = (k : Int)) || onWay F k m (par F i)) := List.filter_congr (fun k _ => by
      rw [onWay, if_neg (by omega), Int.toNat_natCast])
    rw [e1, dep, if_neg (by omega), Int.toNat_natCast, count_or, count_one hi]
    · by_cases hp : par F i = -1
      · rw [hp]
        have e2 : (List.range F.length).filter (fun k : Nat => onWay F k m (-1)) = [] := List.filter_eq_nil_iff.2 (fun k _ => by rw [onWay_none]; simp)
        rw [e2]
        cases m with
        | zero => rfl
        | succ m => rw [dep, if_pos rfl]; rfl
      · obtain ⟨p, hpe, hpl, -⟩ := par_node h hi hp
        rw [hpe] at he ⊢
        rw [ih p hpl he]
        omega
    · intro k h1 h2
      rw [decide_eq_true_eq] at h1
      obtain rfl : i = k := by omega
      by_cases hp : par F i = -1
      · rw [hp, onWay_none] at h2; cases h2
      · obtain ⟨p, hpe, hpl, hd⟩ := par_node h hi hp
        rw [hpe] at h2
        have := onWay_dep h m p hpl h2
        omega
/-- As many nodes have one below them as its way up is long. -/
theorem above_count {F : List Mn} (h : mayB F = true) {i : Nat} (hi : i < F.length) : ((List.range F.length).filter fun k : Nat => belowB F k i).length = dep F F.length i := by
  have hib : isB F i = true := by rw [isB, decide_eq_true_eq]; omega
  rw [← way_count h F.length i hi ((mayB_parts h).2.2.2.2 i hi)]
  have e : (List.range F.length).filter (fun k : Nat => belowB F k i) = (List.range F.length).filter (fun k : Nat => onWay F k F.length i) := List.filter_congr (fun k _ => by rw [belowB, h, hib, Bool.true_and, Bool.true_and])
  rw [e]
/-! ### all orders -/
theorem nodup_sub : ∀ (l m : List Nat), l.Nodup → (∀ x ∈ l, x ∈ m) → l.length ≤ m.length := by
  intro l
  induction l with
  | nil => intro m _ _; simp
  | cons a l ih =>
    intro m h1 h2
    rw [List.nodup_cons] at h1
    have ha : a ∈ m := h2 a (by simp)
    have := ih (m.erase a) h1.2 (fun x hx => by
      rw [List.mem_erase_of_ne (fun e => by subst e; exact h1.1 hx)]
      exact h2 x (by simp [hx]))
    rw [List.length_erase_of_mem ha] at this
    have := List.length_pos_of_mem ha
    simp only [List.length_cons]
    omega
/-- All nodes are in the orders of those that stand alone. -/
theorem tops_all {F : List Mn} (h : mayB F = true) : ((topsOf F F.length).flatMap fun t => ord F t.toNat).length = F.length := by
  obtain ⟨p1, p2, p3, p4, p5⟩ := mayB_parts h
  have hr : ∀ t : Int, t ∈ topsOf F F.length → ∀ j ∈ ord F t.toNat, j < F.length ∧ t = root F F.length j := fun t ht j hj => by
    obtain ⟨t', rfl, ht1, ht2⟩ := topsOf_mem.1 ht
    rw [Int.toNat_natCast] at hj
    have hjl := ord_lt h ht1 hj
    have hb := (ord_iff h ht1 hjl).1 hj
    have hjb : isB F j = true := by rw [isB, decide_eq_true_eq]; omega
    rw [belowB, h, hjb, Bool.true_and, Bool.true_and, (root_spec h F.length j hjl (p5 j hjl)).2 t' ht2, decide_eq_true_eq] at hb
    exact ⟨hjl, hb⟩
  have hnd : ((topsOf F F.length).flatMap fun t => ord F t.toNat).Nodup := nodup_flat _ (topsOf_nodup F _) (fun t ht => by
    obtain ⟨t', rfl, ht1, ht2⟩ := topsOf_mem.1 ht
    rw [Int.toNat_natCast]
    exact ord_nodup h ht1) (fun x hx y hy z hzx hzy => by rw [(hr x hx z hzx).2, (hr y hy z hzy).2])
  have h1 := nodup_sub _ (List.range F.length) hnd (fun x hx => by
    obtain ⟨t, ht, hx⟩ := List.mem_flatMap.1 hx
    exact List.mem_range.2 (hr t ht x hx).1)
  have h2 := nodup_sub (List.range F.length) ((topsOf F F.length).flatMap fun t => ord F t.toNat) (List.nodup_range) (fun x hx => by
    have hx := List.mem_range.1 hx
    obtain ⟨⟨r, hr1, hr2, hr3⟩, h4⟩ := root_spec h F.length x hx (p5 x hx)
    refine List.mem_flatMap.2 ⟨(r : Int), topsOf_mem.2 ⟨r, rfl, hr2, hr3⟩, ?_⟩
    rw [Int.toNat_natCast, ord_iff h hr2 hx]
    have hxb : isB F x = true := by rw [isB, decide_eq_true_eq]; omega
    rw [belowB, h, hxb, Bool.true_and, Bool.true_and, h4 r hr3, hr1]
    simp)
  rw [List.length_range] at h1 h2
  omega
end Go.Proofs.YtaacikjoafobfaaGreatDoor
namespace Go.Proofs.YtaacikjoafobfaaGreatDoor
open Go.ChangeShapes Go.WideShapes Go.ChangeAt Go.RowKit
set_option linter.unusedVariables false
set_option linter.unusedSimpArgs false

/-! ### what a node says -/
def txt (F : List Mn) (k : Nat) : List UInt8 := ((F[k]?).map fun m => if m.kind = 2 then m.text.data.toList else []).getD []
def cont (F : List Mn) (i : Nat) : List UInt8 := (ord F i).flatMap (txt F)
theorem cont_open {F : List Mn} (h : mayB F = true) {i : Nat} (hi : i < F.length) : cont F i = txt F i ++ (kidsOf F i).flatMap (fun k => cont F k.toNat) := by
  unfold cont
  rw [ord_open h hi, List.flatMap_cons, List.flatMap_assoc]
theorem cont_len {F : List Mn} (h : mayB F = true) {i : Nat} (hi : i < F.length) : (cont F i).length ≤ 3600 := by
  have h1 := ord_len h hi
  have h2 := (mayB_parts h).2.1
  have h3 := flat_le (C := 60) (f := txt F) (ord F i) (fun x hx => by
    have hx' := ord_lt h hi hx
    unfold txt
    rw [List.getElem?_eq_getElem hx', Option.map_some, Option.getD_some]
    split
    · have := (may_str h F[x] (List.getElem_mem _)).2.1
      rw [size_list] at this
      exact this
    · simp)
  unfold cont
  omega
/-! ### who stands beside -/
theorem find_at {l : List Int} (hn : l.Nodup) {k : Nat} (hk : k < l.length) {x : Int} (hx : l.getD k 0 = x) : l.findIdx (fun y => decide (y = x)) = k := by
  rw [getD_at 0 hk] at hx
  rw [List.findIdx_eq hk]
  refine ⟨by simpa using hx, fun j hj => ?_⟩
  have hne : l[j] ≠ l[k] := fun e => by
    have := (List.getElem_inj hn).1 e
    omega
  rw [hx] at hne
  simpa using hne
theorem bes_kid {F : List Mn} (h : mayB F = true) {p a : Nat} (hp : p < F.length) (ha : a < (kidsOf F p).length) (by_ : Int) : besP F ((kidsOf F p).getD a 0) by_ = nearP (kidsOf F p) a by_ ∧ upP F ((kidsOf F p).getD a 0) = ((p : Int), 0) := by
  have hm : (kidsOf F p).getD a 0 ∈ kidsOf F p := by rw [getD_at 0 ha]; exact List.getElem_mem _
  obtain ⟨j, hj, hjl, hjp⟩ := kid_node h hp hm
  have hf := find_at (kids_nodup h hp) ha rfl
  have hu : upP F ((kidsOf F p).getD a 0) = ((p : Int), 0) := by
    unfold upP
    rw [hj, if_neg (by rw [isB]; simp; omega), Int.toNat_natCast, hjp, if_neg (by omega)]
  refine ⟨?_, hu⟩
  unfold besP
  rw [hu]
  simp only [ne_eq, not_true, if_false, Int.toNat_natCast]
  rw [hf]
theorem bes_some {F : List Mn} (h : mayB F = true) {i : Nat} (hi : i < F.length) {by_ : Int} (he : (besP F i by_).2 = 0) : ∃ p a : Nat, p < F.length ∧ a < (kidsOf F p).length ∧ (kidsOf F p).getD a 0 = (i : Int) ∧ 0 ≤ (a : Int) + by_ ∧ (a : Int) + by_ < (kidsOf F p).length ∧ (besP F i by_).1 = (kidsOf F p).getD ((a : Int) + by_).toNat 0 := by
  have hib : isB F i = true := by rw [isB, decide_eq_true_eq]; omega
  by_cases hp : par F i = -1
  · exfalso
    have hu : upP F i = (0, 3) := by unfold upP; rw [if_neg (by rw [hib]; simp), Int.toNat_natCast, if_pos hp]
    unfold besP at he
    rw [hu] at he
    simp at he
  · obtain ⟨p, hpe, hpl, -⟩ := par_node h hi hp
    obtain ⟨-, -, q3, q4, -⟩ := place_at h hi hpe
    refine ⟨p, _, hpl, q3, q4, ?_⟩
    obtain ⟨e1, -⟩ := bes_kid h hpl q3 by_
    rw [q4] at e1
    rw [e1] at he ⊢
    unfold nearP at he ⊢
    split at he
    · cases he
    · rename_i hc
      rw [if_neg hc]
      refine ⟨by omega, by omega, rfl⟩
/-- Who stands behind a node has it ahead. -/
theorem beside_back {F : List Mn} (h : mayB F = true) {i : Nat} (hi : i < F.length) {n : Nat} (he : (besP F i n).2 = 0) :
    ∃ (j : Nat) (u : Int), (besP F i n).1 = j ∧ j < F.length ∧ besP F j (-(n : Int)) = ((i : Int), 0) ∧ upP F i = (u, 0) ∧ upP F j = (u, 0) ∧ (n = 0 ↔ j = i) := by
  obtain ⟨p, a, hp, ha, hx, h1, h2, h3⟩ := bes_some h hi he
  have hb : a + n < (kidsOf F p).length := by omega
  rw [show ((a : Int) + n).toNat = a + n by omega] at h3
  have hm : (kidsOf F p).getD (a + n) 0 ∈ kidsOf F p := by rw [getD_at 0 hb]; exact List.getElem_mem _
  obtain ⟨j, hj, hjl, hjp⟩ := kid_node h hp hm
  obtain ⟨e1, e2⟩ := bes_kid h hp hb (-(n : Int))
  obtain ⟨-, e3⟩ := bes_kid h hp ha 0
  rw [hj] at e1 e2
  rw [hx] at e3
  refine ⟨j, p, by rw [h3, hj], hjl, ?_, e3, e2, ?_⟩
  · rw [e1]
    unfold nearP
    rw [if_neg (by omega), show (((a + n : Nat) : Int) + -(n : Int)).toNat = a by omega, hx]
  · constructor
    · rintro rfl
      rw [Nat.add_zero, hx] at hj
      omega
    · intro e
      subst e
      have : (kidsOf F p)[a + n] = (kidsOf F p)[a] := by rw [← getD_at 0 hb, ← getD_at 0 ha, hj, hx]
      have := (List.getElem_inj (kids_nodup h hp)).1 this
      omega
/-- First and last have nobody there. -/
theorem beside_ends {F : List Mn} (h : mayB F = true) {i : Nat} (hi : i < F.length) (hk : 0 < (kidsOf F i).length) : besP F ((kidsOf F i).getD 0 0) (-1) = (0, 3) ∧ besP F ((kidsOf F i).getD ((kidsOf F i).length - 1) 0) 1 = (0, 3) := by
  refine ⟨?_, ?_⟩
  · rw [(bes_kid h hi hk _).1, nearP, if_pos (.inl (by omega))]
  · rw [(bes_kid h hi (by omega) _).1, nearP, if_pos (.inr (by omega))]
theorem beside_kid {F : List Mn} (h : mayB F = true) {i k : Nat} (hi : i < F.length) (hk : k < (kidsOf F i).length) : besP F ((kidsOf F i).getD 0 0) k = ((kidsOf F i).getD k 0, 0) := by
  rw [(bes_kid h hi (by omega) _).1, nearP, if_neg (by omega), show (((0 : Nat) : Int) + k).toNat = k by omega]
end Go.Proofs.YtaacikjoafobfaaGreatDoor
namespace Go.Proofs.YtaacikjoafobfaaGreatDoor
open Go.ChangeShapes Go.WideShapes Go.ChangeAt Go.RowKit
set_option linter.unusedVariables false
set_option linter.unusedSimpArgs false

/-! ### who is found by an id -/
def valP (l : List (ByteArray × ByteArray)) (name : ByteArray) : Option ByteArray := (l.find? fun a => decide (a.1 = name)).map (·.2)
def idS : ByteArray := ⟨#[105, 100]⟩
def hasId (F : List Mn) (t : ByteArray) (k : Nat) : Bool := decide (valP (((F[k]?).map Mn.attrs).getD []) idS = some t)
theorem find_hit {l : List (ByteArray × ByteArray)} {name : ByteArray} {k : Nat} (hk : k < l.length) (h : ∀ a ∈ l.take k, a.1 ≠ name) (hx : l[k].1 = name) : valP l name = some l[k].2 := by
  have e : l = l.take k ++ l[k] :: l.drop (k + 1) := by rw [← List.drop_eq_getElem_cons hk, List.take_append_drop]
  have e2 : l.find? (fun a => decide (a.1 = name)) = some l[k] := by
    conv => lhs; rw [e]
    rw [List.find?_append, List.find?_eq_none.2 (fun a ha => by simpa using h a ha), Option.none_or, List.find?_cons_of_pos (by simpa using hx)]
  unfold valP
  rw [e2]
  rfl
theorem find_no {l : List (ByteArray × ByteArray)} {name : ByteArray} (h : ∀ a ∈ l, a.1 ≠ name) : valP l name = none := by
  unfold valP
  rw [List.find?_eq_none.2 (fun a ha => by simpa using h a ha)]
  rfl
/-- What valueOf tells. -/
def valR (l : List (ByteArray × ByteArray)) (name : ByteArray) : Value := .tuple #[.string ((valP l name).getD ⟨#[]⟩), .bool (valP l name).isSome]
set_option maxRecDepth 100000 in
set_option maxHeartbeats 2000000 in
theorem value_any (m : Mn) (name : ByteArray) (w : World) (hA : AR w m.aA m.attrs) (hl : m.attrs.length ≤ 1000) :
    Calls Tryz.prog 67 #[nval m, .string name] w fun e w' => e = .returned (valR m.attrs name) ∧ Below w.heap.size w w' := by
  have HA := Lib.hid hA
  obtain ⟨R, hR⟩ : ∃ R, valR m.attrs name = R := ⟨_, rfl⟩
  have HY : Hid (∀ k (hk : k < m.attrs.length), (∀ a ∈ m.attrs.take k, a.1 ≠ name) → m.attrs[k].1 = name → R = .tuple #[.string m.attrs[k].2, .bool true]) := Lib.hid (fun k hk h hx => by rw [← hR, valR, find_hit hk h hx]; rfl)
  have HN : Hid ((∀ a ∈ m.attrs, a.1 ≠ name) → R = .tuple #[.string ⟨#[]⟩, .bool false]) := Lib.hid (fun h => by rw [← hR, valR, find_no h]; rfl)
  rw [hR]
  obtain ⟨kd, nm0, tx, attrs, pa, kids, aA, aC, kA, kC⟩ := m
  unfold nval at *
  simp only [] at *
  obtain ⟨n, hnn⟩ : ∃ n, attrs.length = n := ⟨_, rfl⟩
  have HNN := Lib.hid hnn
  rw [hnn] at hl ⊢
  clear hA hnn hR
  generalize kids.length = kl at *
  go_enter Tryz.func67, Tryz.ntmps67
  go_wp2_with fail
  go_loopw [11] (fun q wr => ∃ k : Nat, k ≤ n ∧ q = .int .i64 k ∧ Hid (∀ a ∈ attrs.take k, a.1 ≠ name) ∧ Hid (Below w.heap.size w wr)) (fun q _ => n - (intOf q).toNat)
  case atStart => exact ⟨0, Nat.zero_le _, rfl, Lib.hid (by simp), Lib.hid ((Below.refl _ _).alloc (Nat.le_refl _) _)⟩
  case round =>
    obtain ⟨k, hk, rfl, HT, HB⟩ := hrel
    by_cases hlt : k < n
    · have k0 : (0 : Int) ≤ (k : Int) := by omega
      have k1 : (k : Int) < (n : Int) := by omega
      have hkl : k < attrs.length := by rw [HNN.out]; exact hlt
      obtain ⟨ga, oa, rfl, hga, d0, d1⟩ := (HA.out.below HB.out) k hkl
      rw [getD_at default hkl] at d0 d1
      have HY1 := Lib.hid (HY.out k hkl HT.out)
      have HT2 : Hid (attrs[k].1 ≠ name → ∀ a ∈ attrs.take (k + 1), a.1 ≠ name) := Lib.hid (fun h a ha => by
        rw [take_more hkl, List.mem_append, List.mem_singleton] at ha
        rcases ha with ha | rfl
        · exact HT.out a ha
        · exact h)
      generalize attrs[k] = at_ at *
      obtain ⟨an, av⟩ := at_
      simp only [] at d0 d1 HY1 HT2
      obtain ⟨W, hW⟩ : ∃ W, W = wr.alloc (.cells #[.string an, .string av] 99) := ⟨_, rfl⟩
      have HWB : Hid (Below w.heap.size w W) := Lib.hid (by rw [hW]; exact HB.out.alloc HB.out.size _)
      have HWk : Hid (W.heap[wr.heap.size]? = some (.cells #[.string an, .string av] 99 (0, 0))) := Lib.hid (by rw [hW]; exact heap_alloc_new _ _)
      go_upto_region 4 with fail
      rw [← hW]
      clear hW d0 d1
      obtain ⟨x0, x1⟩ := block2 HWk.out
      by_cases hx : an = name
      · have hq : (an.toList == name.toList) = true := by simpa using congrArg ByteArray.toList hx
        have HR := Lib.hid (HY1.out hx)
        clear hx
        go_wp2
        go_ret2
        exact ⟨by rw [HR.out]; rfl, HWB.out⟩
      · have hq : (an.toList == name.toList) = false := by simpa [toList_inj] using hx
        have HT3 := Lib.hid (HT2.out hx)
        clear hx
        go_wp2
        go_roundw
        case rel => exact ⟨k + 1, by omega, by go_num, HT3, HWB⟩
        case measure => simp [intOf] <;> omega
    · obtain rfl : k = n := by omega
      have et : attrs.take k = attrs := List.take_of_length_le (by rw [HNN.out]; exact Nat.le_refl _)
      rw [et] at HT
      have HR := Lib.hid (HN.out HT.out)
      go_wp2
      go_ret2
      exact ⟨by rw [HR.out]; rfl, HB.out⟩
end Go.Proofs.YtaacikjoafobfaaGreatDoor
