/-
  package walk, of a forest that may be: isNode, Parent, Kids, and where an int stands in a list.
  package walk, of a forest that may be: Kids, and where an int stands in a list.
  package walk, of a forest that may be: Beside.
  The mathematics of layer 8: a node's order, of a plain forest that may be.
  The mathematics of layer 8: what a node says, who stands beside it, who is found by an id.
  package walk: what an attribute says.
-/
import Derived.Test.YtaacikjoafobfaaGreatDoorP12
import Derived.Test.YtaacikjoafobfaaGreatDoorP09
import Derived.Test.YtaacikjoafobfaaGreatDoorP16
import Derived.Test.YtaacikjoafobfaaGreatDoorP02
import Derived.Test.YtaacikjoafobfaaGreatDoorP19
import Derived.Test.YtaacikjoafobfaaGreatDoorP04
import Derived.Test.YtaacikjoafobfaaGreatDoorP05
namespace Go.Proofs.YtaacikjoafobfaaGreatDoor
open Go.ChangeShapes Go.WideShapes Go.ChangeAt Go.RowKit
set_option linter.unusedVariables false
set_option linter.unusedSimpArgs false

set_option maxRecDepth 100000 in
theorem wnode_any (A : Option Addr) (F : List Mn) (c : Nat) (x : Int) (w : World) (hF : FR w A F) (hm : mayB F = true) :
    Calls Tryz.prog 61 #[.slice A F.length c, .int .i64 x] w fun e w' => e = .returned (.bool (isB F x)) ∧ Below w.heap.size w w' := by
  have HM := Lib.hid (may_any A F c w hF (may_sz1 hm))
  rw [hm] at HM
  have HB : Hid (isB F x = decide (0 ≤ x ∧ x < F.length)) := Lib.hid rfl
  generalize isB F x = R at *
  obtain ⟨n, hn⟩ : ∃ n, F.length = n := ⟨_, rfl⟩
  rw [hn] at HM HB ⊢
  clear hF hm hn
  go_enter Tryz.func61, Tryz.ntmps61
  by_cases h1 : 0 ≤ x
  · have d1 : decide ((0 : Int) ≤ x) = true := by simpa using h1
    by_cases h2 : x < (n : Int)
    · have d2 : decide (x < (n : Int)) = true := by simpa using h2
      have hR : Hid (R = true) := Lib.hid (by rw [HB.out]; simp [h1, h2])
      go_wp2_with fail
      refine HM.out.mono ?_
      rintro e w1 ⟨rfl, hb⟩
      go_wp2
      go_ret
      exact ⟨by rw [hR.out]; rfl, hb⟩
    · have d2 : decide (x < (n : Int)) = false := by simpa using h2
      have hR : Hid (R = false) := Lib.hid (by rw [HB.out]; simp [h2])
      go_wp2
      go_ret
      exact ⟨by rw [hR.out]; rfl, Below.refl _ _⟩
  · have d1 : decide ((0 : Int) ≤ x) = false := by simpa using h1
    have hR : Hid (R = false) := Lib.hid (by rw [HB.out]; simp [h1])
    go_wp2
    go_ret
    exact ⟨by rw [hR.out]; rfl, Below.refl _ _⟩
end Go.Proofs.YtaacikjoafobfaaGreatDoor
namespace Go.Proofs.YtaacikjoafobfaaGreatDoor
open Go.ChangeShapes Go.WideShapes Go.ChangeAt Go.RowKit
set_option linter.unusedVariables false
set_option linter.unusedSimpArgs false

/-- Where x stands first, or -1. -/
def atI (l : List Int) (x : Int) : Int := if l.any (fun y => decide (y = x)) = true then (l.findIdx (fun y => decide (y = x)) : Int) else -1
theorem at_hit {l : List Int} {x : Int} {k : Nat} (hk : k < l.length) (h : (l.take k).any (fun y => decide (y = x)) = false) (hx : l[k] = x) : atI l x = (k : Int) := by
  have ha : l.any (fun y => decide (y = x)) = true := List.any_eq_true.2 ⟨l[k], List.getElem_mem hk, by simpa using hx⟩
  have hf : l.findIdx (fun y => decide (y = x)) = k := by
    rw [List.findIdx_eq hk]
    refine ⟨by simpa using hx, fun j hj => ?_⟩
    have := List.any_eq_false.1 h l[j] (List.mem_take_iff_getElem.2 ⟨j, by omega, rfl⟩)
    simpa using this
  unfold atI
  rw [if_pos ha, hf]
set_option maxHeartbeats 2000000 in
theorem index_at (Ak : Option Addr) (l : List Int) (ck : Nat) (x : Int) (w : World) (hI : IR w Ak l) (hl : l.length ≤ 1000) :
    Calls Tryz.prog 70 #[.slice Ak l.length ck, .int .i64 x] w fun e w' => e = .returned (.int .i64 (atI l x)) ∧ w' = w := by
  have HI := Lib.hid hI
  obtain ⟨n, hnn⟩ : ∃ n, l.length = n := ⟨_, rfl⟩
  have HNN := Lib.hid hnn
  obtain ⟨R, hR⟩ : ∃ R, atI l x = R := ⟨_, rfl⟩
  have HR := Lib.hid hR
  rw [hR]
  rw [hnn] at hl ⊢
  clear hI hnn hR
  go_enter Tryz.func70, Tryz.ntmps70
  go_wp2
  go_loopw [8] (fun q wr => ∃ k : Nat, k ≤ n ∧ q = .int .i64 k ∧ Hid ((l.take k).any (fun y => decide (y = x)) = false) ∧ w = wr) (fun q _ => n - (intOf q).toNat)
  case atStart => exact ⟨0, Nat.zero_le _, rfl, Lib.hid rfl, rfl⟩
  case round =>
    obtain ⟨k, hk, rfl, HT, rfl⟩ := hrel
    by_cases hlt : k < n
    · have k0 : (0 : Int) ≤ (k : Int) := by omega
      have k1 : (k : Int) < (n : Int) := by omega
      have hkl : k < l.length := by rw [HNN.out]; exact hlt
      obtain ⟨ga, oa, rfl, hga, hc⟩ := HI.out k hkl
      have HT2 := Lib.hid (any_more hkl HT.out)
      have HH : Hid (l[k] = x → R = (k : Int)) := Lib.hid (fun h => by rw [← HR.out]; exact at_hit hkl HT.out h)
      rw [getD_at 0 hkl] at hc
      generalize l[k] = y at *
      by_cases hy : y = x
      · have hq : (x == y) = true := by simpa using hy.symm
        have HA := Lib.hid (HH.out hy)
        go_wp2
        go_ret
        exact ⟨by rw [HA.out]; rfl, rfl⟩
      · have hq : (x == y) = false := by simpa using fun e : x = y => hy e.symm
        rw [decide_eq_false hy] at HT2
        go_wp2
        go_roundw
        case rel => exact ⟨k + 1, by omega, by go_num, HT2, by first | trivial | rfl⟩
        case measure => simp [intOf] <;> omega
    · obtain rfl : k = n := by omega
      have e : l.take k = l := List.take_of_length_le (by rw [HNN.out]; exact Nat.le_refl _)
      rw [e] at HT
      have HA : Hid (R = -1) := Lib.hid (by rw [← HR.out, atI, HT.out]; rfl)
      go_wp2
      go_ret
      exact ⟨by rw [HA.out]; rfl, rfl⟩
end Go.Proofs.YtaacikjoafobfaaGreatDoor
namespace Go.Proofs.YtaacikjoafobfaaGreatDoor
open Go.ChangeShapes Go.WideShapes Go.ChangeAt Go.RowKit
set_option linter.unusedVariables false
set_option linter.unusedSimpArgs false

theorem vis_more {F : List Mn} : ∀ (f i : Nat), Dp F f i → vis F (f + 1) i = vis F f i := by
  intro f
  induction f with
  | zero => intro i h; exact absurd h (by simp [Dp])
  | succ f ih =>
    rintro i ⟨hi, hk⟩
    have e : (kidsOf F i).flatMap (fun k => vis F (f + 1) k.toNat) = (kidsOf F i).flatMap (fun k => vis F f k.toNat) := flatMap_congr' (fun k hk' => ih _ (hk k hk').2)
    rw [vis]
    conv => rhs; rw [vis]
    rw [e]
/-- All that stands below a node, itself first. -/
def ord (F : List Mn) (i : Nat) : List Nat := vis F F.length i
theorem ord_open {F : List Mn} (h : mayB F = true) {i : Nat} (hi : i < F.length) : ord F i = i :: (kidsOf F i).flatMap (fun k => ord F k.toNat) := by
  unfold ord
  rw [← vis_more _ _ (dp_all h hi), vis]
theorem kid_node {F : List Mn} (h : mayB F = true) {i : Nat} (hi : i < F.length) {k : Int} (hk : k ∈ kidsOf F i) : ∃ j : Nat, k = j ∧ j < F.length ∧ par F j = i := by
  obtain ⟨j, h1, h2, h3, -⟩ := dep_kid h hi hk
  exact ⟨j, h1, h2, h3⟩
theorem ord_lt {F : List Mn} (h : mayB F = true) {i : Nat} (hi : i < F.length) {j : Nat} (hj : j ∈ ord F i) : j < F.length := (vis_up h _ i hi j hj).1
theorem ord_len {F : List Mn} (h : mayB F = true) {i : Nat} (hi : i < F.length) : (ord F i).length ≤ F.length := vis_len h _ hi
/-! ### all orders -/
end Go.Proofs.YtaacikjoafobfaaGreatDoor
namespace Go.Proofs.YtaacikjoafobfaaGreatDoor
open Go.ChangeShapes Go.WideShapes Go.ChangeAt Go.RowKit
set_option linter.unusedVariables false
set_option linter.unusedSimpArgs false

/-! ### what a node says -/
/-! ### who stands beside -/
theorem find_at {l : List Int} (hn : l.Nodup) {k : Nat} (hk : k < l.length) {x : Int} (hx : l.getD k 0 = x) : l.findIdx (fun y => decide (y = x)) = k := by
  rw [getD_at 0 hk] at hx
  rw [List.findIdx_eq hk]
  refine ⟨by simpa using hx, fun j hj => ?_⟩
  have hne : l[j] ≠ l[k] := fun e => by
    have := (List.getElem_inj hn).1 e
    omega
  rw [hx] at hne
  simpa using hne
end Go.Proofs.YtaacikjoafobfaaGreatDoor
namespace Go.Proofs.YtaacikjoafobfaaGreatDoor
open Go.ChangeShapes Go.WideShapes Go.ChangeAt Go.RowKit
set_option linter.unusedVariables false
set_option linter.unusedSimpArgs false

/-! ### who is found by an id -/
def valP (l : List (ByteArray × ByteArray)) (name : ByteArray) : Option ByteArray := (l.find? fun a => decide (a.1 = name)).map (·.2)
def idS : ByteArray := ⟨#[105, 100]⟩
theorem find_hit {l : List (ByteArray × ByteArray)} {name : ByteArray} {k : Nat} (hk : k < l.length) (h : ∀ a ∈ l.take k, a.1 ≠ name) (hx : l[k].1 = name) : valP l name = some l[k].2 := by
  have e : l = l.take k ++ l[k] :: l.drop (k + 1) := by rw [← List.drop_eq_getElem_cons hk, List.take_append_drop]
  have e2 : l.find? (fun a => decide (a.1 = name)) = some l[k] := by
    conv => lhs; rw [e]
    rw [List.find?_append, List.find?_eq_none.2 (fun a ha => by simpa using h a ha), Option.none_or, List.find?_cons_of_pos (by simpa using hx)]
  unfold valP
  rw [e2]
  rfl
theorem find_no {l : List (ByteArray × ByteArray)} {name : ByteArray} (h : ∀ a ∈ l, a.1 ≠ name) : valP l name = none := by
  unfold valP
  rw [List.find?_eq_none.2 (fun a ha => by simpa using h a ha)]
  rfl
end Go.Proofs.YtaacikjoafobfaaGreatDoor
