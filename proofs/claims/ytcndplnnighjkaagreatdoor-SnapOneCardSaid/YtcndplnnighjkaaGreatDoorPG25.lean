/-
  package walk, of a forest that may be: isNode, Parent, Kids, and where an int stands in a list.
-/
import Derived.Test.YtcndplnnighjkaaGreatDoorPG12
import Derived.Test.YtcndplnnighjkaaGreatDoorPG09
import Derived.Test.YtcndplnnighjkaaGreatDoorPG16
import Derived.Test.YtcndplnnighjkaaGreatDoorPG02
import Derived.Test.YtcndplnnighjkaaGreatDoorPG19
import Derived.Test.YtcndplnnighjkaaGreatDoorPG04
import Derived.Test.YtcndplnnighjkaaGreatDoorPG05
namespace Go.Proofs.YtcndplnnighjkaaGreatDoor
open Go.ChangeShapes Go.WideShapes Go.ChangeAt Go.RowKit
set_option linter.unusedVariables false
set_option linter.unusedSimpArgs false
set_option maxRecDepth 100000 in
theorem wnode_any (A : Option Addr) (F : List Mn) (c : Nat) (x : Int) (w : World) (hF : FR w A F) (hm : mayB F = true) :
 Calls Tryz.prog 60 #[.slice A F.length c, .int .i64 x] w fun e w' => e = .returned (.bool (isB F x)) /\ Below w.heap.size w w' := by
 have HM := Lib.hid (may_any A F c w hF (may_sz1 hm))
 rw [hm] at HM
 have HB : Hid (isB F x = decide (0 <= x /\ x < F.length)) := Lib.hid rfl
 generalize isB F x = R at *
 obtain ⟨n, hn⟩ : ∃ n, F.length = n := ⟨_, rfl⟩
 rw [hn] at HM HB ⊢
 clear hF hm hn
 go_enter Tryz.func60, Tryz.ntmps60
 by_cases h1 : 0 <= x
 · have d1 : decide ((0 : Int) <= x) = true := by simpa using h1
   by_cases h2 : x < (n : Int)
   · have d2 : decide (x < (n : Int)) = true := by simpa using h2
     have hR : Hid (R = true) := Lib.hid (by rw [HB.out]; simp [h1, h2])
     go_wp2_with fail
     refine HM.out.mono ?_
     rintro e w1 ⟨rfl, hb⟩
     go_wp2
     go_ret
     exact ⟨by rw [hR.out]; rfl, hb⟩
   · have d2 : decide (x < (n : Int)) = false := by simpa using h2
     have hR : Hid (R = false) := Lib.hid (by rw [HB.out]; simp [h2])
     go_wp2
     go_ret
     exact ⟨by rw [hR.out]; rfl, Below.refl _ _⟩
 · have d1 : decide ((0 : Int) <= x) = false := by simpa using h1
   have hR : Hid (R = false) := Lib.hid (by rw [HB.out]; simp [h1])
   go_wp2
   go_ret
   exact ⟨by rw [hR.out]; rfl, Below.refl _ _⟩
def upP (F : List Mn) (x : Int) : Int × Int := if isB F x = false then (0, 70) else if par F x.toNat = -1 then (0, 3) else (par F x.toNat, 0)
set_option maxRecDepth 100000 in
theorem wparent_any (A : Option Addr) (F : List Mn) (c : Nat) (x : Int) (w : World) (hF : FR w A F) (hm : mayB F = true) :
 Calls Tryz.prog 29 #[.slice A F.length c, .int .i64 x] w fun e w' => e = .returned (.tuple #[.int .i64 (upP F x).1, .int .i64 (upP F x).2]) /\ Below w.heap.size w w' := by
 have HN := Lib.hid (wnode_any A F c x w hF hm)
 have HF := Lib.hid hF
 obtain ⟨n, hn⟩ : ∃ n, F.length = n := ⟨_, rfl⟩
 have HNN := Lib.hid hn
 rw [hn] at HN ⊢
 clear hF hm hn
 rcases Bool.eq_false_or_eq_true (isB F x) with hb | hb
 · obtain ⟨i, rfl, hi⟩ : ∃ i : Nat, x = i /\ i < F.length := by
    rw [isB, decide_eq_true_eq] at hb
    exact ⟨x.toNat, by omega, by omega⟩
   have hin : i < n := by rw [<- HNN.out]; exact hi
   have k0 : (0 : Int) <= (i : Int) := by omega
   have k1 : (i : Int) < (n : Int) := by omega
   obtain ⟨-, g, off, rfl, hg, hnd⟩ := HF.out i F[i] (List.getElem?_eq_getElem hi)
   have HP : Hid (upP F (i : Int) = if par F i = -1 then (0, 3) else (par F i, 0)) := Lib.hid (by unfold upP; rw [hb, if_neg (by simp), Int.toNat_natCast])
   have c4 : w.cell? ⟨g, off + i * 6 + 4, none⟩ = some (.int .i64 (par F i)) := by rw [par_at hi]; exact hnd.c4
   rw [hb] at HN
   clear hnd hb hi
   generalize upP F (i : Int) = R at *
   go_enter Tryz.func29, Tryz.ntmps29
   go_wp2_with fail
   refine HN.out.mono ?_
   rintro e w1 ⟨rfl, hb⟩
   have c4' := (hb.cell hg).trans c4
   have HB := Lib.hid hb
   clear hb c4
   by_cases hp : par F i = -1
   · have HR : Hid (R = (0, 3)) := Lib.hid (by rw [HP.out, if_pos hp])
     rw [hp] at c4'
     go_wp2
     go_ret2
     exact ⟨by rw [HR.out]; rfl, HB.out⟩
   · have HR : Hid (R = (par F i, 0)) := Lib.hid (by rw [HP.out, if_neg hp])
     generalize par F i = p at *
     have hq : (p == -1) = false := by simpa using hp
     go_wp2
     go_ret2
     exact ⟨by rw [HR.out]; rfl, HB.out⟩
 · have HP : Hid (upP F x = (0, 70)) := Lib.hid (by unfold upP; rw [if_pos hb])
   rw [hb] at HN
   go_enter Tryz.func29, Tryz.ntmps29
   go_wp2_with fail
   refine HN.out.mono ?_
   rintro e w1 ⟨rfl, hb1⟩
   go_wp2
   go_ret2
   exact ⟨by rw [HP.out]; rfl, hb1⟩
end Go.Proofs.YtcndplnnighjkaaGreatDoor
namespace Go.Proofs.YtcndplnnighjkaaGreatDoor
open Go.ChangeShapes Go.WideShapes Go.ChangeAt Go.RowKit
set_option linter.unusedVariables false
set_option linter.unusedSimpArgs false
set_option maxRecDepth 100000 in
theorem wkids_any (A : Option Addr) (F : List Mn) (c i : Nat) (w : World) (hF : FR w A F) (hm : mayB F = true) (hi : i < F.length) :
 Calls Tryz.prog 32 #[.slice A F.length c, .int .i64 i] w fun e w' => ∃ v, e = .returned (.tuple #[v, .int .i64 0]) /\ w'.ownsRow w.heap.size 3 1 v (kidsOf F i).length (ivs (kidsOf F i)) /\ Below w.heap.size w w' := by
 have HN := Lib.hid (wnode_any A F c (i : Int) w hF hm)
 rw [show isB F (i : Int) = true by rw [isB, decide_eq_true_eq]; omega] at HN
 obtain ⟨-, g, off, rfl, hg, hnd⟩ := hF i F[i] (List.getElem?_eq_getElem hi)
 have c5 := hnd.c5
 have hir := hnd.ir
 have hks := may_kids hm _ (List.getElem_mem hi)
 rw [<- kidsOf_at hi] at c5 hir hks
 have HIR := Lib.hid hir
 obtain ⟨n, hn⟩ : ∃ n, F.length = n := ⟨_, rfl⟩
 rw [hn] at HN hi ⊢
 have k0 : (0 : Int) <= (i : Int) := by omega
 have k1 : (i : Int) < (n : Int) := by omega
 clear hnd hir hn hF hm
 generalize kidsOf F i = ks at *
 generalize (F[i]).kA = kA at *
 have HCL := Lib.hid (fun (V : World) (ck : Nat) (h : IR V kA ks) => cloneI kA ks ck V h (by omega))
 obtain ⟨kn, hkn⟩ : ∃ kn, ks.length = kn := ⟨_, rfl⟩
 rw [hkn] at c5 HCL ⊢
 clear hkn hks
 go_enter Tryz.func32, Tryz.ntmps32
 go_wp2_with fail
 refine HN.out.mono ?_
 rintro e w1 ⟨rfl, hb⟩
 have c5' := (hb.cell hg).trans c5
 have HB := Lib.hid hb
 have HIR1 := Lib.hid (HIR.out.below hb)
 clear hb c5
 go_wp2_with fail
 refine (HCL.out w1 _ HIR1.out).mono ?_
 rintro e w2 ⟨v, rfl, hv, hb⟩
 go_wp2
 go_ret2
 exact ⟨v, rfl, own_mono hv HB.out.size, HB.out.trans (hb.mono HB.out.size)⟩
def atI (l : List Int) (x : Int) : Int := if l.any (fun y => decide (y = x)) = true then (l.findIdx (fun y => decide (y = x)) : Int) else -1
theorem at_hit {l : List Int} {x : Int} {k : Nat} (hk : k < l.length) (h : (l.take k).any (fun y => decide (y = x)) = false) (hx : l[k] = x) : atI l x = (k : Int) := by
 have ha : l.any (fun y => decide (y = x)) = true := List.any_eq_true.2 ⟨l[k], List.getElem_mem hk, by simpa using hx⟩
 have hf : l.findIdx (fun y => decide (y = x)) = k := by
  rw [List.findIdx_eq hk]
  refine ⟨by simpa using hx, fun j hj => ?_⟩
  have := List.any_eq_false.1 h l[j] (List.mem_take_iff_getElem.2 ⟨j, by omega, rfl⟩)
  simpa using this
 unfold atI
 rw [if_pos ha, hf]
set_option maxHeartbeats 2000000 in
theorem index_at (Ak : Option Addr) (l : List Int) (ck : Nat) (x : Int) (w : World) (hI : IR w Ak l) (hl : l.length <= 1000) :
 Calls Tryz.prog 62 #[.slice Ak l.length ck, .int .i64 x] w fun e w' => e = .returned (.int .i64 (atI l x)) /\ w' = w := by
 have HI := Lib.hid hI
 obtain ⟨n, hnn⟩ : ∃ n, l.length = n := ⟨_, rfl⟩
 have HNN := Lib.hid hnn
 obtain ⟨R, hR⟩ : ∃ R, atI l x = R := ⟨_, rfl⟩
 have HR := Lib.hid hR
 rw [hR]
 rw [hnn] at hl ⊢
 clear hI hnn hR
 go_enter Tryz.func62, Tryz.ntmps62
 go_wp2
 go_loopw [8] (fun q wr => ∃ k : Nat, k <= n /\ q = .int .i64 k /\ Hid ((l.take k).any (fun y => decide (y = x)) = false) /\ w = wr) (fun q _ => n - (intOf q).toNat)
 case atStart => exact ⟨0, Nat.zero_le _, rfl, Lib.hid rfl, rfl⟩
 case round =>
  obtain ⟨k, hk, rfl, HT, rfl⟩ := hrel
  by_cases hlt : k < n
  · have k0 : (0 : Int) <= (k : Int) := by omega
    have k1 : (k : Int) < (n : Int) := by omega
    have hkl : k < l.length := by rw [HNN.out]; exact hlt
    obtain ⟨ga, oa, rfl, hga, hc⟩ := HI.out k hkl
    have HT2 := Lib.hid (any_more hkl HT.out)
    have HH : Hid (l[k] = x -> R = (k : Int)) := Lib.hid (fun h => by rw [<- HR.out]; exact at_hit hkl HT.out h)
    rw [getD_at 0 hkl] at hc
    generalize l[k] = y at *
    by_cases hy : y = x
    · have hq : (x == y) = true := by simpa using hy.symm
      have HA := Lib.hid (HH.out hy)
      go_wp2
      go_ret
      exact ⟨by rw [HA.out]; rfl, rfl⟩
    · have hq : (x == y) = false := by simpa using fun e : x = y => hy e.symm
      rw [decide_eq_false hy] at HT2
      go_wp2
      go_roundw
      case rel => exact ⟨k + 1, by omega, by go_num, HT2, by first | trivial | rfl⟩
      case measure => simp [intOf] <;> omega
  · obtain rfl : k = n := by omega
    have e : l.take k = l := List.take_of_length_le (by rw [HNN.out]; exact Nat.le_refl _)
    rw [e] at HT
    have HA : Hid (R = -1) := Lib.hid (by rw [<- HR.out, atI, HT.out]; rfl)
    go_wp2
    go_ret
    exact ⟨by rw [HA.out]; rfl, rfl⟩
end Go.Proofs.YtcndplnnighjkaaGreatDoor
namespace Go.Proofs.YtcndplnnighjkaaGreatDoor
open Go.ChangeShapes Go.WideShapes Go.ChangeAt Go.RowKit
set_option linter.unusedVariables false
set_option linter.unusedSimpArgs false
def nearP (ks : List Int) (at_ : Nat) (by_ : Int) : Int × Int := if by_ < -(at_ : Int) \/ (ks.length : Int) - at_ <= by_ then (0, 3) else (ks.getD ((at_ : Int) + by_).toNat 0, 0)
def besP (F : List Mn) (x by_ : Int) : Int × Int := if (upP F x).2 ≠ 0 then (0, (upP F x).2) else nearP (kidsOf F (upP F x).1.toNat) ((kidsOf F (upP F x).1.toNat).findIdx fun y => decide (y = x)) by_
set_option maxRecDepth 100000 in
theorem wbeside_any (A : Option Addr) (F : List Mn) (c : Nat) (x by_ : Int) (w : World) (hF : FR w A F) (hm : mayB F = true) (hby : I64 by_) :
 Calls Tryz.prog 34 #[.slice A F.length c, .int .i64 x, .int .i64 by_] w fun e w' => e = .returned (.tuple #[.int .i64 (besP F x by_).1, .int .i64 (besP F x by_).2]) /\ Below w.heap.size w w' := by
 have HN := Lib.hid (wparent_any A F c x w hF hm)
 have HF := Lib.hid hF
 have HM := Lib.hid hm
 obtain ⟨b1, b2⟩ := hby
 obtain ⟨n, hn⟩ : ∃ n, F.length = n := ⟨_, rfl⟩
 have HNN := Lib.hid hn
 rw [hn] at HN ⊢
 clear hF hm hn
 by_cases he : (upP F x).2 = 0
 · have hx : isB F x = true /\ par F x.toNat ≠ -1 /\ (upP F x).1 = par F x.toNat := by
    unfold upP at he ⊢
    split at he
    · cases he
    split at he
    · cases he
    rename_i h1 h2
    rw [if_neg h1, if_neg h2]
    exact ⟨by simpa using h1, h2, rfl⟩
   obtain ⟨hb, hne, hu⟩ := hx
   obtain ⟨i, rfl, hi⟩ := isB_nat hb
   rw [Int.toNat_natCast] at hne hu
   obtain ⟨p, hp1, hp2⟩ := isB_nat ((linked_up (may_iff.1 HM.out).2.2.1 i hi).resolve_left hne)
   obtain ⟨-, -, q3, q4, q5⟩ := place_at HM.out hi hp1
   obtain ⟨-, g, off, rfl, hg, hnd⟩ := HF.out p F[p] (List.getElem?_eq_getElem hp2)
   have c5 := hnd.c5
   have hir := hnd.ir
   have hks := may_kids HM.out _ (List.getElem_mem hp2)
   rw [<- kidsOf_at hp2] at c5 hir hks
   have HIR := Lib.hid hir
   have HP : Hid (besP F (i : Int) by_ = nearP (kidsOf F p) ((kidsOf F p).findIdx fun y => decide (y = (i : Int))) by_) := Lib.hid (by unfold besP; rw [if_neg (by rw [he]; simp), hu, hp1, Int.toNat_natCast])
   rw [hu, hp1, he] at HN
   have hpn : p < n := by rw [<- HNN.out]; exact hp2
   have k0 : (0 : Int) <= (p : Int) := by omega
   have k1 : (p : Int) < (n : Int) := by omega
   have hat : atI (kidsOf F p) (i : Int) = ((kidsOf F p).findIdx fun y => decide (y = (i : Int))) := by
    refine at_hit q3 ?_ ?_
    · rw [List.any_eq_false]
      intro y hy
      obtain ⟨j, hj, rfl⟩ := List.mem_take_iff_getElem.1 hy
      have := q5 j (by omega)
      rw [getD_at 0 (by omega)] at this
      simpa using this
    · rw [getD_at 0 q3] at q4
      exact q4
   have HIX := Lib.hid (fun (V : World) (ck : Nat) (h : IR V (F[p]).kA (kidsOf F p)) => index_at (F[p]).kA (kidsOf F p) ck (i : Int) V h (by omega))
   rw [hat] at HIX
   clear hnd hir hne hu he hb hp1 q4 q5 hat
   generalize besP F (i : Int) by_ = R at *
   generalize (kidsOf F p).findIdx (fun y => decide (y = (i : Int))) = at_ at *
   generalize kidsOf F p = ks at *
   generalize (F[p]).kA = kA at *
   obtain ⟨kn, hkn⟩ : ∃ kn, ks.length = kn := ⟨_, rfl⟩
   have HKN := Lib.hid hkn
   rw [hkn] at c5 HIX q3 hks
   clear hkn
   have z1 : IntKind.i64.wrap (-(at_ : Int)) = -(at_ : Int) := by rw [IntKind.wrap_i64]; omega
   have z2 : IntKind.i64.wrap ((kn : Int) - (at_ : Int)) = (kn : Int) - (at_ : Int) := by rw [IntKind.wrap_i64]; omega
   go_enter Tryz.func34, Tryz.ntmps34
   go_wp2_with fail
   refine HN.out.mono ?_
   rintro e w1 ⟨rfl, hb⟩
   have c5' := (hb.cell hg).trans c5
   have HB := Lib.hid hb
   have HIR1 := Lib.hid (HIR.out.below hb)
   clear hb c5
   go_wp2_with fail
   refine (HIX.out w1 _ HIR1.out).mono ?_
   rintro e w2 ⟨rfl, hw⟩
   obtain rfl := hw.symm
   by_cases h1 : by_ < -(at_ : Int)
   · have d1 : decide (by_ < -(at_ : Int)) = true := by simpa using h1
     have HR : Hid (R = (0, 3)) := Lib.hid (by rw [HP.out, nearP, if_pos (.inl h1)])
     go_wp2
     go_ret2
     exact ⟨by rw [HR.out]; rfl, HB.out⟩
   · have d1 : decide (by_ < -(at_ : Int)) = false := by simpa using h1
     by_cases h2 : (kn : Int) - at_ <= by_
     · have d2 : decide ((kn : Int) - (at_ : Int) <= by_) = true := by simpa using h2
       have HR : Hid (R = (0, 3)) := Lib.hid (by rw [HP.out, nearP, HKN.out, if_pos (.inr h2)])
       go_wp2
       go_ret2
       exact ⟨by rw [HR.out]; rfl, HB.out⟩
     · have d2 : decide ((kn : Int) - (at_ : Int) <= by_) = false := by simpa using h2
       obtain ⟨q, hq⟩ : ∃ q : Nat, (at_ : Int) + by_ = q := ⟨((at_ : Int) + by_).toNat, by omega⟩
       have HR : Hid (R = (ks.getD q 0, 0)) := Lib.hid (by rw [HP.out, nearP, HKN.out, if_neg (by omega), hq, Int.toNat_natCast])
       have hqk : q < kn := by omega
       have z3 : IntKind.i64.wrap ((at_ : Int) + by_) = (q : Int) := by rw [IntKind.wrap_i64]; omega
       have k2 : (0 : Int) <= (q : Int) := by omega
       have k3 : (q : Int) < (kn : Int) := by omega
       obtain ⟨gk, ok, rfl, hgk, d0⟩ := HIR1.out q (by rw [HKN.out]; exact hqk)
       clear hq
       generalize ks.getD q 0 = y at *
       go_wp2
       go_ret2
       exact ⟨by rw [HR.out]; rfl, HB.out⟩
 · have HP : Hid (besP F x by_ = (0, (upP F x).2)) := Lib.hid (by unfold besP; rw [if_pos he])
   obtain ⟨ee, hee⟩ : ∃ ee, (upP F x).2 = ee := ⟨_, rfl⟩
   rw [hee] at HN HP he
   have x1 : (ee != 0) = true := by simpa using he
   clear hee
   generalize (upP F x).1 = uu at *
   go_enter Tryz.func34, Tryz.ntmps34
   go_wp2_with fail
   refine HN.out.mono ?_
   rintro e w1 ⟨rfl, hb1⟩
   go_wp2
   go_ret2
   exact ⟨by rw [HP.out]; rfl, hb1⟩
end Go.Proofs.YtcndplnnighjkaaGreatDoor
namespace Go.Proofs.YtcndplnnighjkaaGreatDoor
open Go.ChangeShapes Go.WideShapes Go.ChangeAt Go.RowKit
set_option linter.unusedVariables false
set_option linter.unusedSimpArgs false
def ord (F : List Mn) (i : Nat) : List Nat := vis F F.length i
theorem kid_node {F : List Mn} (h : mayB F = true) {i : Nat} (hi : i < F.length) {k : Int} (hk : k ∈ kidsOf F i) : ∃ j : Nat, k = j /\ j < F.length /\ par F j = i := by
 obtain ⟨j, h1, h2, h3, -⟩ := dep_kid h hi hk
 exact ⟨j, h1, h2, h3⟩
theorem ord_lt {F : List Mn} (h : mayB F = true) {i : Nat} (hi : i < F.length) {j : Nat} (hj : j ∈ ord F i) : j < F.length := (vis_up h _ i hi j hj).1
theorem ord_len {F : List Mn} (h : mayB F = true) {i : Nat} (hi : i < F.length) : (ord F i).length <= F.length := vis_len h _ hi
end Go.Proofs.YtcndplnnighjkaaGreatDoor
namespace Go.Proofs.YtcndplnnighjkaaGreatDoor
open Go.ChangeShapes Go.WideShapes Go.ChangeAt Go.RowKit
set_option linter.unusedVariables false
set_option linter.unusedSimpArgs false
def txt (F : List Mn) (k : Nat) : List UInt8 := ((F[k]?).map fun m => if m.kind = 2 then m.text.data.toList else []).getD []
def cont (F : List Mn) (i : Nat) : List UInt8 := (ord F i).flatMap (txt F)
theorem cont_len {F : List Mn} (h : mayB F = true) {i : Nat} (hi : i < F.length) : (cont F i).length <= 3600 := by
 have h1 := ord_len h hi
 have h2 := (mayB_parts h).2.1
 have h3 := flat_le (C := 60) (f := txt F) (ord F i) (fun x hx => by
  have hx' := ord_lt h hi hx
  unfold txt
  rw [List.getElem?_eq_getElem hx', Option.map_some, Option.getD_some]
  split
  · have := (may_str h F[x] (List.getElem_mem _)).2.1
    rw [size_list] at this
    exact this
  · simp)
 unfold cont
 omega
end Go.Proofs.YtcndplnnighjkaaGreatDoor
namespace Go.Proofs.YtcndplnnighjkaaGreatDoor
open Go.ChangeShapes Go.WideShapes Go.ChangeAt Go.RowKit
set_option linter.unusedVariables false
set_option linter.unusedSimpArgs false
def valP (l : List (ByteArray × ByteArray)) (name : ByteArray) : Option ByteArray := (l.find? fun a => decide (a.1 = name)).map (·.2)
def idS : ByteArray := ⟨#[105, 100]⟩
def hasId (F : List Mn) (t : ByteArray) (k : Nat) : Bool := decide (valP (((F[k]?).map Mn.attrs).getD []) idS = some t)
theorem find_hit {l : List (ByteArray × ByteArray)} {name : ByteArray} {k : Nat} (hk : k < l.length) (h : ∀ a ∈ l.take k, a.1 ≠ name) (hx : l[k].1 = name) : valP l name = some l[k].2 := by
 have e : l = l.take k ++ l[k] :: l.drop (k + 1) := by rw [<- List.drop_eq_getElem_cons hk, List.take_append_drop]
 have e2 : l.find? (fun a => decide (a.1 = name)) = some l[k] := by
  conv => lhs; rw [e]
  rw [List.find?_append, List.find?_eq_none.2 (fun a ha => by simpa using h a ha), Option.none_or, List.find?_cons_of_pos (by simpa using hx)]
 unfold valP
 rw [e2]
 rfl
theorem find_no {l : List (ByteArray × ByteArray)} {name : ByteArray} (h : ∀ a ∈ l, a.1 ≠ name) : valP l name = none := by
 unfold valP
 rw [List.find?_eq_none.2 (fun a ha => by simpa using h a ha)]
 rfl
def valR (l : List (ByteArray × ByteArray)) (name : ByteArray) : Value := .tuple #[.string ((valP l name).getD ⟨#[]⟩), .bool (valP l name).isSome]
set_option maxRecDepth 100000 in
set_option maxHeartbeats 2000000 in
theorem value_any (m : Mn) (name : ByteArray) (w : World) (hA : AR w m.aA m.attrs) (hl : m.attrs.length <= 1000) :
 Calls Tryz.prog 67 #[nval m, .string name] w fun e w' => e = .returned (valR m.attrs name) /\ Below w.heap.size w w' := by
 have HA := Lib.hid hA
 obtain ⟨R, hR⟩ : ∃ R, valR m.attrs name = R := ⟨_, rfl⟩
 have HY : Hid (∀ k (hk : k < m.attrs.length), (∀ a ∈ m.attrs.take k, a.1 ≠ name) -> m.attrs[k].1 = name -> R = .tuple #[.string m.attrs[k].2, .bool true]) := Lib.hid (fun k hk h hx => by rw [<- hR, valR, find_hit hk h hx]; rfl)
 have HN : Hid ((∀ a ∈ m.attrs, a.1 ≠ name) -> R = .tuple #[.string ⟨#[]⟩, .bool false]) := Lib.hid (fun h => by rw [<- hR, valR, find_no h]; rfl)
 rw [hR]
 obtain ⟨kd, nm0, tx, attrs, pa, kids, aA, aC, kA, kC⟩ := m
 unfold nval at *
 simp only [] at *
 obtain ⟨n, hnn⟩ : ∃ n, attrs.length = n := ⟨_, rfl⟩
 have HNN := Lib.hid hnn
 rw [hnn] at hl ⊢
 clear hA hnn hR
 generalize kids.length = kl at *
 go_enter Tryz.func67, Tryz.ntmps67
 go_wp2_with fail
 go_loopw [11] (fun q wr => ∃ k : Nat, k <= n /\ q = .int .i64 k /\ Hid (∀ a ∈ attrs.take k, a.1 ≠ name) /\ Hid (Below w.heap.size w wr)) (fun q _ => n - (intOf q).toNat)
 case atStart => exact ⟨0, Nat.zero_le _, rfl, Lib.hid (by simp), Lib.hid ((Below.refl _ _).alloc (Nat.le_refl _) _)⟩
 case round =>
  obtain ⟨k, hk, rfl, HT, HB⟩ := hrel
  by_cases hlt : k < n
  · have k0 : (0 : Int) <= (k : Int) := by omega
    have k1 : (k : Int) < (n : Int) := by omega
    have hkl : k < attrs.length := by rw [HNN.out]; exact hlt
    obtain ⟨ga, oa, rfl, hga, d0, d1⟩ := (HA.out.below HB.out) k hkl
    rw [getD_at default hkl] at d0 d1
    have HY1 := Lib.hid (HY.out k hkl HT.out)
    have HT2 : Hid (attrs[k].1 ≠ name -> ∀ a ∈ attrs.take (k + 1), a.1 ≠ name) := Lib.hid (fun h a ha => by
     rw [take_more hkl, List.mem_append, List.mem_singleton] at ha
     rcases ha with ha | rfl
     · exact HT.out a ha
     · exact h)
    generalize attrs[k] = at_ at *
    obtain ⟨an, av⟩ := at_
    simp only [] at d0 d1 HY1 HT2
    obtain ⟨W, hW⟩ : ∃ W, W = wr.alloc (.cells #[.string an, .string av] 112) := ⟨_, rfl⟩
    have HWB : Hid (Below w.heap.size w W) := Lib.hid (by rw [hW]; exact HB.out.alloc HB.out.size _)
    have HWk : Hid (W.heap[wr.heap.size]? = some (.cells #[.string an, .string av] 112 (0, 0))) := Lib.hid (by rw [hW]; exact heap_alloc_new _ _)
    go_upto_region 4 with fail
    rw [<- hW]
    clear hW d0 d1
    obtain ⟨x0, x1⟩ := block2 HWk.out
    by_cases hx : an = name
    · have hq : (an.toList == name.toList) = true := by simpa using congrArg ByteArray.toList hx
      have HR := Lib.hid (HY1.out hx)
      clear hx
      go_wp2
      go_ret2
      exact ⟨by rw [HR.out]; rfl, HWB.out⟩
    · have hq : (an.toList == name.toList) = false := by simpa [toList_inj] using hx
      have HT3 := Lib.hid (HT2.out hx)
      clear hx
      go_wp2
      go_roundw
      case rel => exact ⟨k + 1, by omega, by go_num, HT3, HWB⟩
      case measure => simp [intOf] <;> omega
  · obtain rfl : k = n := by omega
    have et : attrs.take k = attrs := List.take_of_length_le (by rw [HNN.out]; exact Nat.le_refl _)
    rw [et] at HT
    have HR := Lib.hid (HN.out HT.out)
    go_wp2
    go_ret2
    exact ⟨by rw [HR.out]; rfl, HB.out⟩
end Go.Proofs.YtcndplnnighjkaaGreatDoor
