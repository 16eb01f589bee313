/-
  A word taken apart: split.
-/
import Derived.Test.YthfeonmaajiajaaDoorRecB
namespace Go.Proofs.YthfeonmaajiajaaDoor
open Go.ChangeShapes Go.WideShapes Go.ChangeAt Go.RowKit
open Rm
set_option linter.unusedVariables false
set_option linter.unusedSimpArgs false

/-- Block k holds eight numbers. -/
def PB (w : World) (k : Nat) (o : Nat → Int) : Prop := ∀ j, j < 8 → w.cell? ⟨k, j, none⟩ = some (.int .i64 (o j)) ∧ w.frozen? ⟨k, j, none⟩ = false
theorem PB.set {W : World} {g : Nat} {f : Nat → Int} (h : PB W g f) {k : Nat} (hk : k < 8) (v : Int) : PB (W.setCell ⟨g, k, none⟩ (.int .i64 v)) g (fun j => if j = k then v else f j) := by
  intro j hj
  rw [World.frozen?_setCell]
  refine ⟨?_, (h j hj).2⟩
  by_cases e : j = k
  · subst e
    show _ = some (Value.int .i64 (if j = j then v else f j))
    rw [if_pos rfl]
    exact World.cell?_setCell_same' _ _ _ (by rw [(h j hj).1]; rfl)
  · show _ = some (Value.int .i64 (if j = k then v else f j))
    rw [if_neg e, World.cell?_setCell_other W ⟨g, k, none⟩ ⟨g, j, none⟩ _ (fun e' => by cases e'; exact e rfl)]
    exact (h j hj).1
theorem PB.congr {W : World} {g : Nat} {f f' : Nat → Int} (h : PB W g f) (e : ∀ j, j < 8 → f j = f' j) : PB W g f' := fun j hj => by rw [← e j hj]; exact h j hj
theorem PB.below {w w' : World} {k B : Nat} {o : Nat → Int} (h : PB w k o) (hb : Below B w w') (hk : k < B) : PB w' k o := fun j hj =>
  ⟨bcell hb hk (h j hj).1, (hb.frozen (p := ⟨k, j, none⟩) hk).trans (h j hj).2⟩
theorem PB.of_block {w : World} {k : Nat} {o : Nat → Int} {t : TypeId} (h : w.heap[k]? = some (.cells (pArr o) t (0, 0))) : PB w k o := fun j hj => ⟨block_cell h (pArr_at o hj), block_frozen h j⟩
theorem PB.all {w : World} {k : Nat} {o : Nat → Int} (h : PB w k o) : w.cell? ⟨k, 0, none⟩ = some (.int .i64 (o 0)) ∧ w.cell? ⟨k, 1, none⟩ = some (.int .i64 (o 1)) ∧ w.cell? ⟨k, 2, none⟩ = some (.int .i64 (o 2)) ∧ w.cell? ⟨k, 3, none⟩ = some (.int .i64 (o 3)) ∧ w.cell? ⟨k, 4, none⟩ = some (.int .i64 (o 4)) ∧ w.cell? ⟨k, 5, none⟩ = some (.int .i64 (o 5)) ∧ w.cell? ⟨k, 6, none⟩ = some (.int .i64 (o 6)) ∧ w.cell? ⟨k, 7, none⟩ = some (.int .i64 (o 7)) :=
  ⟨(h 0 (by omega)).1, (h 1 (by omega)).1, (h 2 (by omega)).1, (h 3 (by omega)).1, (h 4 (by omega)).1, (h 5 (by omega)).1, (h 6 (by omega)).1, (h 7 (by omega)).1⟩
theorem PB.fro {w : World} {k : Nat} {o : Nat → Int} (h : PB w k o) : w.frozen? ⟨k, 0, none⟩ = false ∧ w.frozen? ⟨k, 1, none⟩ = false ∧ w.frozen? ⟨k, 2, none⟩ = false ∧ w.frozen? ⟨k, 3, none⟩ = false ∧ w.frozen? ⟨k, 4, none⟩ = false ∧ w.frozen? ⟨k, 5, none⟩ = false ∧ w.frozen? ⟨k, 6, none⟩ = false ∧ w.frozen? ⟨k, 7, none⟩ = false :=
  ⟨(h 0 (by omega)).2, (h 1 (by omega)).2, (h 2 (by omega)).2, (h 3 (by omega)).2, (h 4 (by omega)).2, (h 5 (by omega)).2, (h 6 (by omega)).2, (h 7 (by omega)).2⟩
/-- Part i of a word. -/
def sp (b : Nat → Nat) (x : Int) (i : Nat) : Int := x / 2 ^ S b i % 2 ^ b i

set_option maxHeartbeats 1000000 in
theorem split1 (kw kb ko i t bi : Nat) (x : Int) (o : Nat → Int) (w : World) (hx : w.cell? ⟨kw, 0, none⟩ = some (.int .u64 x)) (hb : w.cell? ⟨kb, i, none⟩ = some (.int .i64 (bi : Nat))) (ho : PB w ko o) (hi : i < 8) (ht : t ≤ 64) (h8 : bi ≤ 8)
    (x0 : 0 ≤ x) (x1 : x ≤ 18446744073709551615) :
    Calls Tryd.prog 39 #[.int .i64 i, .int .i64 t, .pointer (some ⟨kw, 0, none⟩), .pointer (some ⟨kb, 0, none⟩), .pointer (some ⟨ko, 0, none⟩)] w fun e w' => e = .returned (.tuple #[]) ∧ PB w' ko (fun j => if j = i then x / 2 ^ t % 2 ^ bi else o j) ∧ Below ko w w' := by
  have hq : (0 : Int) < 2 ^ t := Int.pow_pos (by decide)
  have y0 : 0 ≤ x / 2 ^ t := Int.ediv_nonneg x0 (Int.le_of_lt hq)
  have y1 : x / 2 ^ t ≤ x := Int.ediv_le_self _ x0
  have hand := and_part bi (x / 2 ^ t) (by omega) y0 (by omega)
  have hm0 : (0 : Int) < 2 ^ bi := Int.pow_pos (by decide)
  have hm1 : (2 : Int) ^ bi ≤ 256 := pow_le h8
  have r0 : 0 ≤ x / 2 ^ t % 2 ^ bi := Int.emod_nonneg _ (by omega)
  have r1 : x / 2 ^ t % 2 ^ bi < 2 ^ bi := Int.emod_lt_of_pos _ hm0
  have HO := Lib.hid ho
  obtain ⟨hc, hf⟩ := ho i hi
  have i0 : (0 : Int) ≤ (i : Int) := by omega
  have i1 : (i : Int) < 8 := by omega
  obtain ⟨y, hy⟩ : ∃ y, y = x / 2 ^ t := ⟨_, rfl⟩
  have HY := Lib.hid hy
  rw [← hy] at hand y0 y1 r0 r1 ⊢
  obtain ⟨m, hm⟩ : ∃ m : Int, m = 2 ^ bi := ⟨_, rfl⟩
  have HM := Lib.hid hm
  rw [← hm] at hand hm0 hm1 r0 r1 ⊢
  obtain ⟨R, hR⟩ : ∃ R : Int, R = y % m := ⟨_, rfl⟩
  rw [← hR] at hand r0 r1 ⊢
  have hyE : x / 2 ^ t = y := hy.symm
  have hmE : (2 : Int) ^ bi = m := hm.symm
  clear ho hy hm hR
  go_enter Tryd.func39, Tryd.ntmps39
  go_wp2_with fail
  go_region
  go_wp2
  go_end0
  exact ⟨rfl, fun j hj => (HO.out.set hi R) j hj, bdrewN ((Below.refl ko w).setCell (p := ⟨ko, i, none⟩) (Nat.le_refl _) _) 1⟩

set_option maxHeartbeats 2000000 in
set_option maxRecDepth 100000 in
theorem along_split (b : Nat → Nat) (x : Int) (o : Nat → Int) (kw kb ko : Nat) (w : World) (hS : S b 8 ≤ 64) (hb : ∀ i, i < 8 → b i ≤ 8) (x0 : 0 ≤ x) (x1 : x ≤ 18446744073709551615)
    (hx : w.cell? ⟨kw, 0, none⟩ = some (.int .u64 x)) (hc : ∀ i, i < 8 → w.cell? ⟨kb, i, none⟩ = some (.int .i64 (b i : Nat))) (ho : PB w ko o) (hkw : kw < ko) (hkb : kb < ko) (hko : ko < w.heap.size) :
    Calls Tryd.prog 38 #[.agg (bArr b), .func (.func 39) #[] #[.pointer (some ⟨kw, 0, none⟩), .pointer (some ⟨kb, 0, none⟩), .pointer (some ⟨ko, 0, none⟩)]] w fun e w' => e = .returned (.tuple #[]) ∧ PB w' ko (sp b x) ∧ Below ko w w' := by
  have HX := Lib.hid hx
  have HC := Lib.hid hc
  have HO := Lib.hid ho
  have HBb := Lib.hid hb
  have HS := Lib.hid hS
  have HI := Lib.hid (fun (q : Nat) (W : World) (hq : q < 8) => run_index8 (fun i => (b i : Int)) q hq W)
  clear hx hc ho hb hS
  go_enter Tryd.func38, Tryd.ntmps38
  go_wp2
  go_loopw [4, 8] (fun a i wr => ∃ q : Nat, q ≤ 8 ∧ i = .int .i64 q ∧ a = .int .i64 (S b q : Nat) ∧ Hid (PB wr ko (fun j => if j < q then sp b x j else o j)) ∧ Hid (Below ko w wr)) (fun _ i _ => 8 - (intOf i).toNat)
  case atStart => exact ⟨0, by omega, rfl, rfl, Lib.hid ((HO.out.below ((Below.refl (ko + 1) w).alloc (by omega) _) (by omega)).congr (fun j _ => by rw [if_neg (by omega)])), Lib.hid ((Below.refl ko w).alloc (by omega) _)⟩
  case round =>
    obtain ⟨q, hq, rfl, rfl, HA, HB⟩ := hrel
    by_cases hlt : q < 8
    · have q0 : (0 : Int) ≤ (q : Int) := by omega
      have q1 : (q : Int) < 8 := by omega
      have hix : ∀ W, Sem.run Tryd.prog (Instr.index 63 (.agg (bArr b)) (.int .i64 (q : Int))) W = .ok (.int .i64 (b q : Nat)) W := fun W => HI.out q W hlt
      have hb8 := HBb.out q hlt
      have hs8 : S b q ≤ 64 := Nat.le_trans (S_mono b (by omega)) HS.out
      have hss : S b q + b q ≤ 64 := Nat.le_trans (S_mono b (show q + 1 ≤ 8 by omega)) HS.out
      have HJ := Lib.hid (split1 kw kb ko q (S b q) (b q) x (fun j => if j < q then sp b x j else o j) wr (bcell HB.out hkw HX.out) (bcell HB.out hkb (HC.out q hlt)) HA.out hlt hs8 hb8 x0 x1)
      have HS1 : Hid (S b (q + 1) = S b q + b q) := Lib.hid rfl
      have HJ1 : Hid (sp b x q = x / 2 ^ S b q % 2 ^ b q) := Lib.hid rfl
      generalize S b q = s at *
      generalize b q = bq at *
      go_wp2_with fail
      refine HJ.out.mono ?_
      rintro e w1 ⟨rfl, h1, h2⟩
      have HA1 := Lib.hid h1
      have HB1 := Lib.hid (HB.out.trans h2)
      clear h1 h2
      go_wp2
      go_roundw
      case rel =>
        refine ⟨q + 1, by omega, by go_num, by rw [HS1.out]; go_num, Lib.hid (HA1.out.congr (fun j hj => ?_)), HB1⟩
        by_cases e : j = q
        · subst e; rw [if_pos rfl, if_pos (by omega), HJ1.out]
        · rw [if_neg e]
          by_cases e' : j < q
          · rw [if_pos e', if_pos (by omega)]
          · rw [if_neg e', if_neg (by omega)]
      case measure => simp [intOf]; omega
    · obtain rfl : q = 8 := by omega
      go_wp2
      go_end0
      exact ⟨rfl, HA.out.congr (fun j hj => by rw [if_pos hj]), HB.out⟩

set_option maxHeartbeats 2000000 in
set_option maxRecDepth 100000 in
theorem join_any (b : Nat → Nat) (p : Nat → Int) (w : World) (hS : S b 8 ≤ 64) (hb : ∀ i, i < 8 → b i ≤ 64) (hp : ∀ i, i < 8 → 0 ≤ p i ∧ p i < 2 ^ b i) :
    Calls Tryd.prog 31 #[.agg (bArr b), .agg (pArr p)] w fun e w' => e = .returned (.int .u64 (J b p 8)) ∧ Below w.heap.size w w' := by
  have HP := Lib.hid hp
  have HBb := Lib.hid hb
  have HS := Lib.hid hS
  clear hp hb hS
  obtain ⟨W, hW⟩ : ∃ W, W = ((w.alloc (.cells (bArr b) 63)).alloc (.cells (pArr p) 63)).alloc (.cells #[.int .u64 0] 23) := ⟨_, rfl⟩
  have HW : Hid (Below w.heap.size w W ∧ W.heap.size = w.heap.size + 3 ∧ W.heap[w.heap.size]? = some (.cells (bArr b) 63 (0, 0)) ∧ W.heap[w.heap.size + 1]? = some (.cells (pArr p) 63 (0, 0)) ∧ W.heap[w.heap.size + 2]? = some (.cells #[.int .u64 0] 23 (0, 0))) := Lib.hid (by
    subst hW
    refine ⟨(((Below.refl _ w).alloc (Nat.le_refl _) _).alloc (by simp) _).alloc (by simp; omega) _, by simp, ?_, ?_, ?_⟩
    · rw [heap_old _ _ (by simp; omega), heap_old _ _ (by simp)]; exact heap_new _ _
    · rw [heap_old _ _ (by simp)]; have := heap_new (w.alloc (.cells (bArr b) 63)) (.cells (pArr p) 63); simpa using this
    · have := heap_new ((w.alloc (.cells (bArr b) 63)).alloc (.cells (pArr p) 63)) (.cells #[.int .u64 0] 23); simpa using this)
  obtain ⟨y0, y1, y2, y3, y4, y5, y6, y7⟩ := (PB.of_block (o := fun i => (b i : Int)) HW.out.2.2.1).all
  have HC := Lib.hid (along_join b p (w.heap.size + 2) (w.heap.size + 1) W HS.out HBb.out HP.out (At1.of_block HW.out.2.2.2.2) (fun i hi => ((PB.of_block HW.out.2.2.2.1) i hi).1) (by omega) (by have := HW.out.2.1; omega))
  go_enter Tryd.func31, Tryd.ntmps31
  go_upto_region 2 with fail
  rw [← hW]
  clear hW
  go_wp2_with fail
  refine HC.out.mono ?_
  rintro e w1 ⟨rfl, h1, h2⟩
  have hc := h1.cell
  have HB1 := Lib.hid (HW.out.1.trans (h2.mono (by omega)))
  clear h1 h2
  go_wp2
  go_ret
  exact ⟨rfl, HB1.out⟩

set_option maxHeartbeats 2000000 in
set_option maxRecDepth 100000 in
theorem split_any (b : Nat → Nat) (x : Int) (w : World) (hS : S b 8 ≤ 64) (hb : ∀ i, i < 8 → b i ≤ 8) (x0 : 0 ≤ x) (x1 : x ≤ 18446744073709551615) :
    Calls Tryd.prog 29 #[.agg (bArr b), .int .u64 x] w fun e w' => e = .returned (.agg (pArr (sp b x))) ∧ Below w.heap.size w w' := by
  have HBb := Lib.hid hb
  have HS := Lib.hid hS
  clear hb hS
  obtain ⟨W, hW⟩ : ∃ W, W = (((w.alloc (.cells (bArr b) 63)).alloc (.cells #[.int .u64 x] 23)).alloc (.cells (pArr (fun _ => 0)) 63)).alloc (.cells (pArr (fun _ => 0)) 63) := ⟨_, rfl⟩
  have HW : Hid (Below w.heap.size w W ∧ W.heap.size = w.heap.size + 4 ∧ W.heap[w.heap.size]? = some (.cells (bArr b) 63 (0, 0)) ∧ W.heap[w.heap.size + 1]? = some (.cells #[.int .u64 x] 23 (0, 0)) ∧ W.heap[w.heap.size + 2]? = some (.cells (pArr (fun _ => 0)) 63 (0, 0)) ∧ W.heap[w.heap.size + 3]? = some (.cells (pArr (fun _ => 0)) 63 (0, 0))) := Lib.hid (by
    subst hW
    refine ⟨((((Below.refl _ w).alloc (Nat.le_refl _) _).alloc (by simp) _).alloc (by simp; omega) _).alloc (by simp; omega) _, by simp, ?_, ?_, ?_, ?_⟩
    · rw [heap_old _ _ (by simp; omega), heap_old _ _ (by simp; omega), heap_old _ _ (by simp)]; exact heap_new _ _
    · rw [heap_old _ _ (by simp), heap_old _ _ (by simp)]; have := heap_new (w.alloc (.cells (bArr b) 63)) (.cells #[.int .u64 x] 23); simpa using this
    · rw [heap_old _ _ (by simp)]; have := heap_new ((w.alloc (.cells (bArr b) 63)).alloc (.cells #[.int .u64 x] 23)) (.cells (pArr (fun _ => 0)) 63); simpa using this
    · have := heap_new (((w.alloc (.cells (bArr b) 63)).alloc (.cells #[.int .u64 x] 23)).alloc (.cells (pArr (fun _ => 0)) 63)) (.cells (pArr (fun _ => 0)) 63); simpa using this)
  obtain ⟨y0, y1, y2, y3, y4, y5, y6, y7⟩ := (PB.of_block (o := fun i => (b i : Int)) HW.out.2.2.1).all
  have HC := Lib.hid (along_split b x (fun _ => 0) (w.heap.size + 1) w.heap.size (w.heap.size + 3) W HS.out HBb.out x0 x1 (block_cell HW.out.2.2.2.1 rfl) (fun i hi => ((PB.of_block (o := fun i => (b i : Int)) HW.out.2.2.1) i hi).1) (PB.of_block HW.out.2.2.2.2.2) (by omega) (by omega) (by have := HW.out.2.1; omega))
  go_enter Tryd.func29, Tryd.ntmps29
  go_upto_region 2 with fail
  rw [← hW]
  clear hW
  go_wp2_with fail
  refine HC.out.mono ?_
  rintro e w1 ⟨rfl, h1, h2⟩
  obtain ⟨z0, z1, z2, z3, z4, z5, z6, z7⟩ := h1.all
  have HR := PB.of_block (o := fun _ => 0) ((h2.block (w.heap.size + 2) (by omega)).trans HW.out.2.2.2.2.1)
  obtain ⟨u0, u1, u2, u3, u4, u5, u6, u7⟩ := HR.all
  obtain ⟨f0, f1, f2, f3, f4, f5, f6, f7⟩ := HR.fro
  have HB1 := Lib.hid (HW.out.1.trans (h2.mono (by omega)))
  clear h1 h2 HR y0 y1 y2 y3 y4 y5 y6 y7
  go_wp2
  refine bodyPost_ret (v := .agg (pArr (sp b x))) (by simp [results, Tryd.results29, go_sem, u0, u1, u2, u3, u4, u5, u6, u7]) rfl ⟨rfl, ?_⟩
  exact (((((((HB1.out.setCell (by simp; omega) _).setCell (by simp; omega) _).setCell (by simp; omega) _).setCell (by simp; omega) _).setCell (by simp; omega) _).setCell (by simp; omega) _).setCell (by simp; omega) _).setCell (by simp; omega) _
end Go.Proofs.YthfeonmaajiajaaDoor
