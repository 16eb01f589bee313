/-
  A node in memory; May; head.
-/
import Derived.Test.YthfeonmaajiajaaDoorRecD
namespace Go.Proofs.YthfeonmaajiajaaDoor
open Go.ChangeShapes Go.WideShapes Go.ChangeAt Go.RowKit
open Rm
set_option linter.unusedVariables false
set_option linter.unusedSimpArgs false

/-- A node's cells. -/
abbrev rcs (r : Rc) (A : Option Addr) (c : Nat) : Array Value := #[.int .i64 r.kind, .int .i64 r.par, .string (str r.name), .string (str r.text), .slice A r.attrs.length c, .int .u64 r.root, .int .i64 r.size]
theorem block7 {w : World} {k : Nat} {t : TypeId} {a0 a1 a2 a3 a4 a5 a6 : Value} (h : w.heap[k]? = some (.cells #[a0, a1, a2, a3, a4, a5, a6] t (0, 0))) :
    w.cell? ⟨k, 0, none⟩ = some a0 ∧ w.cell? ⟨k, 1, none⟩ = some a1 ∧ w.cell? ⟨k, 2, none⟩ = some a2 ∧ w.cell? ⟨k, 3, none⟩ = some a3 ∧ w.cell? ⟨k, 4, none⟩ = some a4 ∧ w.cell? ⟨k, 5, none⟩ = some a5 ∧ w.cell? ⟨k, 6, none⟩ = some a6 :=
  ⟨block_cell h rfl, block_cell h rfl, block_cell h rfl, block_cell h rfl, block_cell h rfl, block_cell h rfl, block_cell h rfl⟩
/-- What is known of any node that came in. -/
structure RcB (r : Rc) : Prop where
  k0 : -9223372036854775808 ≤ r.kind ∧ r.kind ≤ 9223372036854775807
  p0 : -9223372036854775808 ≤ r.par ∧ r.par ≤ 9223372036854775807
  n0 : r.name.length ≤ 9223372036854775807
  t0 : r.text.length ≤ 9223372036854775807
  a0 : r.attrs.length ≤ 9223372036854775807
  a1 : ∀ a ∈ r.attrs, a.length ≤ 9223372036854775807
  r0 : 0 ≤ r.root ∧ r.root ≤ 18446744073709551615
  s0 : -9223372036854775808 ≤ r.size ∧ r.size ≤ 9223372036854775807
theorem mayB_eq (r : Rc) : mayB r = (decide (0 ≤ r.kind ∧ r.kind ≤ 3) && (decide (-1 ≤ r.par ∧ r.par ≤ 59) && (decide (r.name.length ≤ 20) && (decide (r.text.length ≤ 60) && (aMay r.attrs && decide (0 ≤ r.size ∧ r.size ≤ 200)))))) := by
  have e : mayB r = true ↔ MayR r := by unfold mayB; exact decide_eq_true_iff
  rw [Bool.eq_iff_iff, e]
  unfold MayR aMay
  simp only [Bool.and_eq_true, decide_eq_true_eq]
  constructor
  · rintro ⟨h1, h2, h3, h4, h5, h6, h7, h8, h9, h10, h11⟩; exact ⟨⟨h1, h2⟩, ⟨h3, h4⟩, h5, h6, ⟨h7, h8, h9⟩, h10, h11⟩
  · rintro ⟨⟨h1, h2⟩, ⟨h3, h4⟩, h5, h6, ⟨h7, h8, h9⟩, h10, h11⟩; exact ⟨h1, h2, h3, h4, h5, h6, h7, h8, h9, h10, h11⟩
set_option maxHeartbeats 4000000 in
set_option maxRecDepth 100000 in
theorem may_any (r : Rc) (A : Option Addr) (c : Nat) (w : World) (hA : LV w A (svs r.attrs)) (hr : RcB r) :
    Calls Tryd.prog 11 #[.agg (rcs r A c)] w fun e w' => e = .returned (.bool (mayB r)) ∧ Below w.heap.size w w' := by
  obtain ⟨W, hW⟩ : ∃ W, W = w.alloc (.cells (rcs r A c) 27) := ⟨_, rfl⟩
  have HW : Hid (Below w.heap.size w W ∧ W.heap[w.heap.size]? = some (.cells (rcs r A c) 27 (0, 0))) := Lib.hid (by subst hW; exact ⟨(Below.refl _ w).alloc (Nat.le_refl _) _, heap_new _ _⟩)
  have HM := Lib.hid (mayB_eq r)
  have HC := Lib.hid (attrsMay_any A r.attrs.length c r.attrs W rfl hr.a0 (hA.below HW.out.1) hr.a1)
  have hn : (str r.name).size = r.name.length := str_size _
  have ht : (str r.text).size = r.text.length := str_size _
  obtain ⟨k0, k0'⟩ := hr.k0
  obtain ⟨p0, p0'⟩ := hr.p0
  obtain ⟨s0, s0'⟩ := hr.s0
  have n0 := hr.n0
  have t0 := hr.t0
  have a0 := hr.a0
  rw [HM.out]
  have HWk := Lib.hid HW.out.2
  unfold rcs at *
  have HK1 := Lib.hid (fun W => within_any r.kind 0 3 W)
  have HK2 := Lib.hid (fun W => within_any r.par (-1) 59 W)
  have HK3 := Lib.hid (fun W => within_any r.size 0 200 W)
  obtain ⟨b1, e1⟩ : ∃ b, decide (0 ≤ r.kind ∧ r.kind ≤ 3) = b := ⟨_, rfl⟩
  obtain ⟨b2, e2⟩ : ∃ b, decide (-1 ≤ r.par ∧ r.par ≤ 59) = b := ⟨_, rfl⟩
  obtain ⟨b3, e3⟩ : ∃ b, decide (0 ≤ r.size ∧ r.size ≤ 200) = b := ⟨_, rfl⟩
  obtain ⟨b4, e4⟩ : ∃ b, aMay r.attrs = b := ⟨_, rfl⟩
  rw [e1] at HK1 ⊢
  rw [e2] at HK2 ⊢
  rw [e3] at HK3 ⊢
  rw [e4] at HC ⊢
  obtain ⟨b5, e5⟩ : ∃ b, decide (r.name.length ≤ 20) = b := ⟨_, rfl⟩
  obtain ⟨b6, e6⟩ : ∃ b, decide (r.text.length ≤ 60) = b := ⟨_, rfl⟩
  rw [e5, e6]
  have E5 := Lib.hid e5
  have E6 := Lib.hid e6
  clear hA hr HM e1 e2 e3 e4 e5 e6
  obtain ⟨x0, x1, x2, x3, x4, x5, x6⟩ := block7 HWk.out
  generalize r.name.length = ln at *
  generalize r.text.length = lt at *
  generalize r.attrs.length = lx at *
  have HWB := Lib.hid HW.out.1
  go_enter Tryd.func11, Tryd.ntmps11
  go_upto_region 1 with fail
  rw [← hW]
  clear hW HW HWk
  cases b1
  · go_wp2_with fail
    refine (HK1.out _).mono ?_
    rintro e w' ⟨rfl, rfl⟩
    go_wp2
    go_ret
    exact ⟨rfl, HWB.out⟩
  cases b2
  · go_wp2_with fail
    refine (HK1.out _).mono ?_
    rintro e w' ⟨rfl, rfl⟩
    go_wp2_with fail
    refine (HK2.out _).mono ?_
    rintro e w' ⟨rfl, rfl⟩
    go_wp2
    go_ret
    exact ⟨rfl, HWB.out⟩
  rcases Bool.eq_false_or_eq_true b5 with h | h
  · subst h
    have h3 : ln ≤ 20 := of_decide_eq_true E5.out
    rcases Bool.eq_false_or_eq_true b6 with h | h
    · subst h
      have h4 : lt ≤ 60 := of_decide_eq_true E6.out
      cases b4
      · go_wp2_with fail
        refine (HK1.out _).mono ?_
        rintro e w' ⟨rfl, rfl⟩
        go_wp2_with fail
        refine (HK2.out _).mono ?_
        rintro e w' ⟨rfl, rfl⟩
        go_wp2_with fail
        refine HC.out.mono ?_
        rintro e w' ⟨rfl, rfl⟩
        go_wp2
        go_ret
        exact ⟨rfl, HWB.out⟩
      · go_wp2_with fail
        refine (HK1.out _).mono ?_
        rintro e w' ⟨rfl, rfl⟩
        go_wp2_with fail
        refine (HK2.out _).mono ?_
        rintro e w' ⟨rfl, rfl⟩
        go_wp2_with fail
        refine HC.out.mono ?_
        rintro e w' ⟨rfl, rfl⟩
        go_wp2_with fail
        refine (HK3.out _).mono ?_
        rintro e w' ⟨rfl, rfl⟩
        go_wp2
        go_ret
        exact ⟨rfl, HWB.out⟩
    · subst h
      have h4 : ¬ lt ≤ 60 := of_decide_eq_false E6.out
      go_wp2_with fail
      refine (HK1.out _).mono ?_
      rintro e w' ⟨rfl, rfl⟩
      go_wp2_with fail
      refine (HK2.out _).mono ?_
      rintro e w' ⟨rfl, rfl⟩
      go_wp2
      go_ret
      exact ⟨rfl, HWB.out⟩
  · subst h
    have h3 : ¬ ln ≤ 20 := of_decide_eq_false E5.out
    go_wp2_with fail
    refine (HK1.out _).mono ?_
    rintro e w' ⟨rfl, rfl⟩
    go_wp2_with fail
    refine (HK2.out _).mono ?_
    rintro e w' ⟨rfl, rfl⟩
    go_wp2
    go_ret
    exact ⟨rfl, HWB.out⟩

/-! ### the tables -/
def hb : Nat → Nat := fun i => if i = 0 then 2 else if i = 1 then 8 else if i = 2 then 5 else if i = 3 then 6 else if i = 4 then 4 else if i = 5 then 8 else 0
theorem hb_le8 : ∀ i, i < 8 → hb i ≤ 8 := by decide
theorem hb_le (i : Nat) (h : i < 8) : hb i ≤ 64 := Nat.le_trans (hb_le8 i h) (by decide)
def lb : Nat → Nat := fun _ => 6
def bb : Nat → Nat := fun _ => 8
/-- The three tables lie where they are laid. -/
structure BT (w : World) : Prop where
  gB : 0 < w.heap.size
  gH : 1 < w.heap.size
  gL : 2 < w.heap.size
  B : ∀ j, j < 8 → w.cell? ⟨0, j, none⟩ = some (.int .i64 8)
  H : ∀ j, j < 8 → w.cell? ⟨1, j, none⟩ = some (.int .i64 (hb j : Nat))
  L : ∀ j, j < 8 → w.cell? ⟨2, j, none⟩ = some (.int .i64 6)
theorem BT.below {w w' : World} (h : BT w) (hb : Below w.heap.size w w') : BT w' :=
  ⟨Nat.lt_of_lt_of_le h.gB hb.size, Nat.lt_of_lt_of_le h.gH hb.size, Nat.lt_of_lt_of_le h.gL hb.size, fun j hj => bcell hb h.gB (h.B j hj), fun j hj => bcell hb h.gH (h.H j hj), fun j hj => bcell hb h.gL (h.L j hj)⟩
theorem BT.allB {w : World} (h : BT w) : w.cell? ⟨0, 0, none⟩ = some (.int .i64 8) ∧ w.cell? ⟨0, 1, none⟩ = some (.int .i64 8) ∧ w.cell? ⟨0, 2, none⟩ = some (.int .i64 8) ∧ w.cell? ⟨0, 3, none⟩ = some (.int .i64 8) ∧ w.cell? ⟨0, 4, none⟩ = some (.int .i64 8) ∧ w.cell? ⟨0, 5, none⟩ = some (.int .i64 8) ∧ w.cell? ⟨0, 6, none⟩ = some (.int .i64 8) ∧ w.cell? ⟨0, 7, none⟩ = some (.int .i64 8) :=
  ⟨h.B 0 (by omega), h.B 1 (by omega), h.B 2 (by omega), h.B 3 (by omega), h.B 4 (by omega), h.B 5 (by omega), h.B 6 (by omega), h.B 7 (by omega)⟩
theorem BT.allL {w : World} (h : BT w) : w.cell? ⟨2, 0, none⟩ = some (.int .i64 6) ∧ w.cell? ⟨2, 1, none⟩ = some (.int .i64 6) ∧ w.cell? ⟨2, 2, none⟩ = some (.int .i64 6) ∧ w.cell? ⟨2, 3, none⟩ = some (.int .i64 6) ∧ w.cell? ⟨2, 4, none⟩ = some (.int .i64 6) ∧ w.cell? ⟨2, 5, none⟩ = some (.int .i64 6) ∧ w.cell? ⟨2, 6, none⟩ = some (.int .i64 6) ∧ w.cell? ⟨2, 7, none⟩ = some (.int .i64 6) :=
  ⟨h.L 0 (by omega), h.L 1 (by omega), h.L 2 (by omega), h.L 3 (by omega), h.L 4 (by omega), h.L 5 (by omega), h.L 6 (by omega), h.L 7 (by omega)⟩
theorem BT.allH {w : World} (h : BT w) : w.cell? ⟨1, 0, none⟩ = some (.int .i64 2) ∧ w.cell? ⟨1, 1, none⟩ = some (.int .i64 8) ∧ w.cell? ⟨1, 2, none⟩ = some (.int .i64 5) ∧ w.cell? ⟨1, 3, none⟩ = some (.int .i64 6) ∧ w.cell? ⟨1, 4, none⟩ = some (.int .i64 4) ∧ w.cell? ⟨1, 5, none⟩ = some (.int .i64 8) ∧ w.cell? ⟨1, 6, none⟩ = some (.int .i64 0) ∧ w.cell? ⟨1, 7, none⟩ = some (.int .i64 0) :=
  ⟨h.H 0 (by omega), h.H 1 (by omega), h.H 2 (by omega), h.H 3 (by omega), h.H 4 (by omega), h.H 5 (by omega), h.H 6 (by omega), h.H 7 (by omega)⟩
abbrev aB : Array Value := #[.int .i64 8, .int .i64 8, .int .i64 8, .int .i64 8, .int .i64 8, .int .i64 8, .int .i64 8, .int .i64 8]
abbrev aL : Array Value := #[.int .i64 6, .int .i64 6, .int .i64 6, .int .i64 6, .int .i64 6, .int .i64 6, .int .i64 6, .int .i64 6]
abbrev aH : Array Value := #[.int .i64 2, .int .i64 8, .int .i64 5, .int .i64 6, .int .i64 4, .int .i64 8, .int .i64 0, .int .i64 0]
theorem join_B (p : Nat → Int) (w : World) (hp : ∀ i, i < 8 → 0 ≤ p i ∧ p i < 256) : Calls Tryd.prog 31 #[.agg aB, .agg (pArr p)] w fun e w' => e = .returned (.int .u64 (J bb p 8)) ∧ Below w.heap.size w w' :=
  join_any bb p w (by decide) (fun _ _ => by show 8 ≤ 64; decide) (fun i hi => by have := hp i hi; exact ⟨this.1, by show p i < 2 ^ 8; omega⟩)
theorem join_L (p : Nat → Int) (w : World) (hp : ∀ i, i < 8 → 0 ≤ p i ∧ p i < 64) : Calls Tryd.prog 31 #[.agg aL, .agg (pArr p)] w fun e w' => e = .returned (.int .u64 (J lb p 8)) ∧ Below w.heap.size w w' :=
  join_any lb p w (by decide) (fun _ _ => by show 6 ≤ 64; decide) (fun i hi => by have := hp i hi; exact ⟨this.1, by show p i < 2 ^ 6; omega⟩)
theorem join_H (p : Nat → Int) (w : World) (hp : ∀ i, i < 8 → 0 ≤ p i ∧ p i < 2 ^ hb i) : Calls Tryd.prog 31 #[.agg aH, .agg (pArr p)] w fun e w' => e = .returned (.int .u64 (J hb p 8)) ∧ Below w.heap.size w w' :=
  join_any hb p w (by decide) (fun i hi => hb_le i hi) hp
theorem split_B (x : Int) (w : World) (x0 : 0 ≤ x) (x1 : x ≤ 18446744073709551615) : Calls Tryd.prog 29 #[.agg aB, .int .u64 x] w fun e w' => e = .returned (.agg (pArr (sp bb x))) ∧ Below w.heap.size w w' :=
  split_any bb x w (by decide) (fun _ _ => by show 8 ≤ 8; decide) x0 x1
theorem split_L (x : Int) (w : World) (x0 : 0 ≤ x) (x1 : x ≤ 18446744073709551615) : Calls Tryd.prog 29 #[.agg aL, .int .u64 x] w fun e w' => e = .returned (.agg (pArr (sp lb x))) ∧ Below w.heap.size w w' :=
  split_any lb x w (by decide) (fun _ _ => by show 6 ≤ 8; decide) x0 x1
theorem split_H (x : Int) (w : World) (x0 : 0 ≤ x) (x1 : x ≤ 18446744073709551615) : Calls Tryd.prog 29 #[.agg aH, .int .u64 x] w fun e w' => e = .returned (.agg (pArr (sp hb x))) ∧ Below w.heap.size w w' :=
  split_any hb x w (by decide) (fun i hi => hb_le8 i hi) x0 x1
end Go.Proofs.YthfeonmaajiajaaDoor
