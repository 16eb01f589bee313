/-
  The lengths of Attrs as words.
-/
import Derived.Test.YthfeonmaajiajaaDoorRecH
namespace Go.Proofs.YthfeonmaajiajaaDoor
open Go.ChangeShapes Go.WideShapes Go.ChangeAt Go.RowKit
open Rm
set_option linter.unusedVariables false
set_option linter.unusedSimpArgs false

theorem J_congr (b : Nat → Nat) (p q : Nat → Int) (n : Nat) (h : ∀ i, i < n → p i = q i) : J b p n = J b q n := by
  induction n with
  | zero => rfl
  | succ n ih => show J b p n + p n * 2 ^ S b n = J b q n + q n * 2 ^ S b n; rw [ih (fun i hi => h i (by omega)), h n (by omega)]
theorem six8 : ∀ (x : List Nat), x.length ≤ 8 → six x = J lb (fun j => ((x.getD j 0 : Nat) : Int)) 8
  | [], _ => by simp [six, J, S, lb]
  | [a], _ => by simp [six, J, S, lb]
  | [a, b], _ => by simp [six, J, S, lb]; try omega
  | [a, b, c], _ => by simp [six, J, S, lb]; try omega
  | [a, b, c, d], _ => by simp [six, J, S, lb]; try omega
  | [a, b, c, d, e], _ => by simp [six, J, S, lb]; try omega
  | [a, b, c, d, e, f], _ => by simp [six, J, S, lb]; try omega
  | [a, b, c, d, e, f, g], _ => by simp [six, J, S, lb]; try omega
  | [a, b, c, d, e, f, g, h], _ => by simp [six, J, S, lb]; try omega
  | _ :: _ :: _ :: _ :: _ :: _ :: _ :: _ :: _ :: _, h => by simp at h
/-- The length of attribute j. -/
def ln (a : List Wd) (j : Nat) : Int := (((la a).getD j 0 : Nat) : Int)
theorem ln_lo (a : List Wd) (h : a.length ≤ 16) : J lb (ln a) 8 = six (la (a.take 8)) := by
  rw [six8 _ (by simp [la]; omega)]
  refine J_congr _ _ _ _ (fun i hi => ?_)
  simp [ln, la, List.getD, List.getElem?_take, hi]
theorem ln_hi (a : List Wd) (h : a.length ≤ 16) : J lb (fun j => ln a (8 + j)) 8 = six (la (a.drop 8)) := by
  rw [six8 _ (by simp [la]; omega)]
  refine J_congr _ _ _ _ (fun i hi => ?_)
  simp [ln, la, List.getD]
theorem ln_bound {a : List Wd} (h : ∀ x ∈ a, x.length ≤ 60) (j : Nat) : 0 ≤ ln a j ∧ ln a j < 64 := by
  unfold ln la
  rw [List.getD, List.getElem?_map]
  cases hx : a[j]? with
  | none => simp
  | some x =>
    have := h x (List.mem_of_getElem? hx)
    simp
    omega
theorem ln_at {a : List Wd} {j : Nat} (hj : j < a.length) : ln a j = (a[j].length : Int) := by simp [ln, la, List.getD, hj]
theorem ln_out {a : List Wd} {j : Nat} (hj : a.length ≤ j) : ln a j = 0 := by simp [ln, la, List.getD, hj]

/-- Block k holds sixteen numbers. -/
def PQ (w : World) (k : Nat) (o : Nat → Int) : Prop := ∀ j, j < 16 → w.cell? ⟨k, j, none⟩ = some (.int .i64 (o j)) ∧ w.frozen? ⟨k, j, none⟩ = false
theorem PQ.set {W : World} {g : Nat} {f : Nat → Int} (h : PQ W g f) {k : Nat} (hk : k < 16) (v : Int) : PQ (W.setCell ⟨g, k, none⟩ (.int .i64 v)) g (fun j => if j = k then v else f j) := by
  intro j hj
  rw [World.frozen?_setCell]
  refine ⟨?_, (h j hj).2⟩
  by_cases e : j = k
  · subst e
    show _ = some (Value.int .i64 (if j = j then v else f j))
    rw [if_pos rfl]
    exact World.cell?_setCell_same' _ _ _ (by rw [(h j hj).1]; rfl)
  · show _ = some (Value.int .i64 (if j = k then v else f j))
    rw [if_neg e, World.cell?_setCell_other W ⟨g, k, none⟩ ⟨g, j, none⟩ _ (fun e' => by cases e'; exact e rfl)]
    exact (h j hj).1
theorem PQ.congr {W : World} {g : Nat} {f f' : Nat → Int} (h : PQ W g f) (e : ∀ j, j < 16 → f j = f' j) : PQ W g f' := fun j hj => by rw [← e j hj]; exact h j hj
theorem PQ.below {w w' : World} {k B : Nat} {o : Nat → Int} (h : PQ w k o) (hb : Below B w w') (hk : k < B) : PQ w' k o := fun j hj =>
  ⟨bcell hb hk (h j hj).1, (hb.frozen (p := ⟨k, j, none⟩) hk).trans (h j hj).2⟩
abbrev z16 : Array Value := #[.int .i64 0, .int .i64 0, .int .i64 0, .int .i64 0, .int .i64 0, .int .i64 0, .int .i64 0, .int .i64 0, .int .i64 0, .int .i64 0, .int .i64 0, .int .i64 0, .int .i64 0, .int .i64 0, .int .i64 0, .int .i64 0]
theorem z16_at {j : Nat} (h : j < 16) : z16[j]? = some (.int .i64 0) := by
  have : j = 0 ∨ j = 1 ∨ j = 2 ∨ j = 3 ∨ j = 4 ∨ j = 5 ∨ j = 6 ∨ j = 7 ∨ j = 8 ∨ j = 9 ∨ j = 10 ∨ j = 11 ∨ j = 12 ∨ j = 13 ∨ j = 14 ∨ j = 15 := by omega
  rcases this with rfl | rfl | rfl | rfl | rfl | rfl | rfl | rfl | rfl | rfl | rfl | rfl | rfl | rfl | rfl | rfl <;> rfl
theorem sat {w : World} {A : Option Addr} {l : List Wd} (h : LV w A (svs l)) {j : Nat} (hj : j < l.length) : ∃ g off, A = some ⟨g, off, none⟩ ∧ g < w.heap.size ∧ w.cell? ⟨g, off + j, none⟩ = some (.string (str l[j])) := by
  obtain ⟨g, off, e, hg, hc⟩ := h.at_ (j := j) (by rw [svs_length]; exact hj)
  exact ⟨g, off, e, hg, by rw [hc, svs_at hj]⟩

theorem under_Q : Tryd.prog.underlying 69 = some (.array 2 63) := by kernel_rfl
theorem sizeOf_P (W : World) : (sizeOf 63).run Tryd.prog W = .ok 8 W := by
  obtain ⟨i, hi, -⟩ := info_parts info_P
  rw [run_sizeOf W hi]
  exact congrArg (fun n => Result.ok n W) (show Tryd.prog.cellsOf 63 = 8 by kernel_rfl)
abbrev fArr (f : Nat → Int) : Array Value := #[.int .i64 (f 0), .int .i64 (f 1), .int .i64 (f 2), .int .i64 (f 3), .int .i64 (f 4), .int .i64 (f 5), .int .i64 (f 6), .int .i64 (f 7), .int .i64 (f 8), .int .i64 (f 9), .int .i64 (f 10), .int .i64 (f 11), .int .i64 (f 12), .int .i64 (f 13), .int .i64 (f 14), .int .i64 (f 15)]
theorem index72a (f : Nat → Int) (W : World) : (Instr.index 69 (.agg (fArr f)) (.int .i64 0)).run Tryd.prog W = .ok (.agg #[.int .i64 (f 0), .int .i64 (f 1), .int .i64 (f 2), .int .i64 (f 3), .int .i64 (f 4), .int .i64 (f 5), .int .i64 (f 6), .int .i64 (f 7)]) W := by
  simp [Instr.index, asIntOf, run_underlying under_Q, part, isAgg, run_underlying under_P, sizeOf_P, asAgg]
theorem index72b (f : Nat → Int) (W : World) : (Instr.index 69 (.agg (fArr f)) (.int .i64 1)).run Tryd.prog W = .ok (.agg #[.int .i64 (f 8), .int .i64 (f 9), .int .i64 (f 10), .int .i64 (f 11), .int .i64 (f 12), .int .i64 (f 13), .int .i64 (f 14), .int .i64 (f 15)]) W := by
  simp [Instr.index, asIntOf, run_underlying under_Q, part, isAgg, run_underlying under_P, sizeOf_P, asAgg]
set_option maxRecDepth 100000 in
set_option maxHeartbeats 4000000 in
theorem lengths_any (A : Option Addr) (n c : Nat) (a : List Wd) (w : World) (hA : LV w A (svs a)) (hl : a.length = n) (hn : n ≤ 16) (h60 : ∀ x ∈ a, x.length ≤ 60) (hT : BT w) :
    Calls Tryd.prog 18 #[.slice A n c] w (GivesU (lens a) w) := by
  by_cases h0 : n = 0
  · subst h0
    have ha : a = [] := List.eq_nil_of_length_eq_zero hl
    subst ha
    go_enter Tryd.func18, Tryd.ntmps18
    go_wp2
    go_ret
    exact ⟨_, rfl, World.ownsRow_nil _ _ _ _, Below.refl _ _⟩
  · have hne : ((n : Int) == 0) = false := by simp; omega
    have HLE : Hid (lens a = [J lb (ln a) 8, J lb (fun j => ln a (8 + j)) 8]) := Lib.hid (by
      rw [lens_some (fun e => h0 (by rw [← hl, e]; rfl)), ln_lo a (by omega), ln_hi a (by omega)])
    have HA := Lib.hid hA
    have HL := Lib.hid hl
    have HT := Lib.hid hT
    have H60 := Lib.hid h60
    have HJ0 := Lib.hid (fun W => join_L (ln a) W (fun j _ => ln_bound h60 j))
    have HJ1 := Lib.hid (fun W => join_L (fun j => ln a (8 + j)) W (fun j _ => ln_bound h60 (8 + j)))
    have HLb := Lib.hid (fun j => ln_bound h60 j)
    have h1 : 0 < n := by omega
    obtain ⟨i0, hi, hz0, hz1, hz2⟩ := info_parts info_G
    have HI := Lib.hid (And.intro hi (And.intro hz0 (And.intro hz1 hz2)))
    obtain ⟨W, hW⟩ : ∃ W, W = w.alloc (.cells z16 69) := ⟨_, rfl⟩
    have HW : Hid (Below w.heap.size w W ∧ W.heap[w.heap.size]? = some (.cells z16 69 (0, 0))) := Lib.hid (by subst hW; exact ⟨(Below.refl _ w).alloc (Nat.le_refl _) _, heap_new _ _⟩)
    have HP : Hid (PQ W w.heap.size (fun _ => 0)) := Lib.hid (fun j hj => ⟨block_cell HW.out.2 (z16_at hj), block_frozen HW.out.2 j⟩)
    clear hA hl hT h60 hi hz0 hz1 hz2 h0
    go_enter Tryd.func18, Tryd.ntmps18
    go_upto_region 4 with fail
    rw [← hW]
    clear hW
    go_wp2
    go_loopw [14] (fun i wr => ∃ k : Nat, k ≤ n ∧ i = .int .i64 k ∧ Hid (PQ wr w.heap.size (fun j => if j < k then ln a j else 0)) ∧ Hid (Below w.heap.size w wr)) (fun i _ => n - (intOf i).toNat)
    case atStart => exact ⟨0, Nat.zero_le _, rfl, Lib.hid (HP.out.congr (fun j _ => by rw [if_neg (by omega)])), Lib.hid HW.out.1⟩
    case round =>
      obtain ⟨k, hk, rfl, HQ, HB⟩ := hrel
      by_cases hlt : k < n
      · have hka : k < a.length := by rw [HL.out]; exact hlt
        obtain ⟨g, o, rfl, hg, hc⟩ := sat HA.out hka
        have hc2 := bcell HB.out hg hc
        have hsz : (str a[k]).size = a[k].length := str_size _
        have h60k := H60.out a[k] (List.getElem_mem hka)
        have HLN : Hid (ln a k = (a[k].length : Int)) := Lib.hid (ln_at hka)
        generalize a[k] = x at *
        obtain ⟨q, hq⟩ : ∃ q : Nat, k / 8 = q := ⟨_, rfl⟩
        obtain ⟨r, hr⟩ : ∃ r : Nat, k % 8 = r := ⟨_, rfl⟩
        have hq2 : ((k : Int) / 8) = (q : Int) := by omega
        have hr2 : ((k : Int) % 8) = (r : Int) := by omega
        have hq3 : q < 2 := by omega
        have hr3 : r < 8 := by omega
        have hk16 : k < 16 := by omega
        have hqr : q * 8 + r = k := by omega
        obtain ⟨hpc, hpf⟩ := HQ.out k hk16
        clear hc hq hr
        rw [← hqr] at hpc hpf
        have HQR := Lib.hid hqr
        clear hqr
        have q0 : (0 : Int) ≤ (q : Int) := by omega
        have q1 : (q : Int) < 2 := by omega
        have r0 : (0 : Int) ≤ (r : Int) := by omega
        have r1 : (r : Int) < 8 := by omega
        go_wp2
        go_roundw
        case rel =>
          have hb := HB.out.setCell (p := ⟨w.heap.size, q * 8 + r, none⟩) (Nat.le_refl _) (.int .i64 (x.length : Int))
          refine ⟨k + 1, by omega, by go_num, Lib.hid ?_, Lib.hid hb⟩
          rw [HQR.out]
          refine (HQ.out.set hk16 (x.length : Int)).congr (fun j hj => ?_)
          by_cases ej : j = k
          · subst ej
            rw [if_pos rfl, if_pos (by omega), HLN.out]
          · rw [if_neg ej]
            by_cases e' : j < k
            · rw [if_pos e', if_pos (by omega)]
            · rw [if_neg e', if_neg (by omega)]
        case measure => simp [intOf]; omega
      · obtain rfl : k = n := by omega
        have HQ2 : Hid (PQ wr w.heap.size (ln a)) := Lib.hid (HQ.out.congr (fun j hj => by
          by_cases h : j < k
          · rw [if_pos h]
          · rw [if_neg h, ln_out (by rw [HL.out]; omega)]))
        clear HQ
        obtain ⟨t0, t1, t2, t3, t4, t5, t6, t7⟩ := (HT.out.below HB.out).allL
        have y0 := (HQ2.out 0 (by omega)).1
        have y1 := (HQ2.out 1 (by omega)).1
        have y2 := (HQ2.out 2 (by omega)).1
        have y3 := (HQ2.out 3 (by omega)).1
        have y4 := (HQ2.out 4 (by omega)).1
        have y5 := (HQ2.out 5 (by omega)).1
        have y6 := (HQ2.out 6 (by omega)).1
        have y7 := (HQ2.out 7 (by omega)).1
        have y8 := (HQ2.out 8 (by omega)).1
        have y9 := (HQ2.out 9 (by omega)).1
        have y10 := (HQ2.out 10 (by omega)).1
        have y11 := (HQ2.out 11 (by omega)).1
        have y12 := (HQ2.out 12 (by omega)).1
        have y13 := (HQ2.out 13 (by omega)).1
        have y14 := (HQ2.out 14 (by omega)).1
        have y15 := (HQ2.out 15 (by omega)).1
        have HJa : Hid (∀ W, Calls Tryd.prog 31 #[.agg aL, .agg #[.int .i64 (ln a 0), .int .i64 (ln a 1), .int .i64 (ln a 2), .int .i64 (ln a 3), .int .i64 (ln a 4), .int .i64 (ln a 5), .int .i64 (ln a 6), .int .i64 (ln a 7)]] W fun e w' => e = .returned (.int .u64 (J lb (ln a) 8)) ∧ Below W.heap.size W w') := Lib.hid HJ0.out
        have HJb : Hid (∀ W, Calls Tryd.prog 31 #[.agg aL, .agg #[.int .i64 (ln a 8), .int .i64 (ln a 9), .int .i64 (ln a 10), .int .i64 (ln a 11), .int .i64 (ln a 12), .int .i64 (ln a 13), .int .i64 (ln a 14), .int .i64 (ln a 15)]] W fun e w' => e = .returned (.int .u64 (J lb (fun j => ln a (8 + j)) 8)) ∧ Below W.heap.size W w') := Lib.hid HJ1.out
        obtain ⟨Ja, hJa⟩ : ∃ x, J lb (ln a) 8 = x := ⟨_, rfl⟩
        obtain ⟨Jb, hJb⟩ : ∃ x, J lb (fun j => ln a (8 + j)) 8 = x := ⟨_, rfl⟩
        rw [hJa] at HJa HLE
        rw [hJb] at HJb HLE
        clear hJa hJb HJ0 HJ1
        generalize ln a = f at *
        go_upto_region 11 with fail
        clear y0 y1 y2 y3 y4 y5 y6 y7 y8 y9 y10 y11 y12 y13 y14 y15 t0 t1 t2 t3 t4 t5 t6 t7
        have HBwr := HB
        have ix0 := fun W => index72a f W
        have ix1 := fun W => index72b f W
        refine wp_loop_rounds 3 ?_
        rw [rounds_succ]
        have hgT1 := (HT.out.below HBwr.out).gL
        have hBs1 := HBwr.out.size
        go_upto_region 13 with fail
        obtain ⟨X1, hX1⟩ : ∃ X, X = wr.alloc (.cells #[.int .i64 (f 0), .int .i64 (f 1), .int .i64 (f 2), .int .i64 (f 3), .int .i64 (f 4), .int .i64 (f 5), .int .i64 (f 6), .int .i64 (f 7)] 63) := ⟨_, rfl⟩
        have HX1 : Hid (Below w.heap.size w X1 ∧ X1.heap[wr.heap.size]? = some (.cells #[.int .i64 (f 0), .int .i64 (f 1), .int .i64 (f 2), .int .i64 (f 3), .int .i64 (f 4), .int .i64 (f 5), .int .i64 (f 6), .int .i64 (f 7)] 63 (0, 0)) ∧ Below wr.heap.size wr X1) := Lib.hid (by subst hX1; exact ⟨HBwr.out.alloc HBwr.out.size _, heap_new _ _, (Below.refl _ _).alloc (Nat.le_refl _) _⟩)
        rw [← hX1]
        clear hX1 hgT1
        obtain ⟨t0, t1, t2, t3, t4, t5, t6, t7⟩ := (HT.out.below HX1.out.1).allL
        have z0 := block_cell (j := 0) HX1.out.2.1 rfl
        have z1 := block_cell (j := 1) HX1.out.2.1 rfl
        have z2 := block_cell (j := 2) HX1.out.2.1 rfl
        have z3 := block_cell (j := 3) HX1.out.2.1 rfl
        have z4 := block_cell (j := 4) HX1.out.2.1 rfl
        have z5 := block_cell (j := 5) HX1.out.2.1 rfl
        have z6 := block_cell (j := 6) HX1.out.2.1 rfl
        have z7 := block_cell (j := 7) HX1.out.2.1 rfl
        go_wp2_with fail
        clear t0 t1 t2 t3 t4 t5 t6 t7 z0 z1 z2 z3 z4 z5 z6 z7
        refine (HJa.out _).mono ?_
        rintro e v1 ⟨rfl, hb2⟩
        have HC1 : Hid (Below w.heap.size w v1) := Lib.hid (HX1.out.1.trans (hb2.mono HX1.out.1.size))
        have HR1 : Hid (v1.ownsRow w.heap.size 23 1 (.slice none 0 0) 0 []) := Lib.hid (World.ownsRow_nil _ _ _ _)
        have hs1 := HC1.out.size
        clear hb2
        go_wp2_with (at_builtin; refine wpList_append_own _ rfl _ _ 28 rfl w.heap.size 23 i0 (.int .u64 0) 1 8 Tryd.underlying28 HI.out.1 HI.out.2.1 HI.out.2.2.1 HI.out.2.2.2 rfl (by decide) _ _ _ rfl (HR1.out.alloc _) ⟨_, 0, none⟩ 1 1 [.int .u64 Ja] rfl rfl (cell_one_new _ _ _) (by simp [Value.oneCell']) (by unfold maxLen; omega) (by omega) (by simp; omega) ?_; intro v' w1 hown' hgrow _; obtain ⟨g1, cap1, rfl⟩ := ownsRow_succ hown'; have HO1 := Lib.hid hown'; have HBw1 : Hid (Below w.heap.size w w1) := Lib.hid ((HC1.out.alloc HC1.out.size _).grown hgrow (HC1.out.alloc HC1.out.size _).size (fun q e => (HR1.out.lt q e).1)); clear hown' hgrow)
        rw [rounds_succ]
        have hgT2 := (HT.out.below HBw1.out).gL
        have hBs2 := HBw1.out.size
        go_upto_region 13 with fail
        obtain ⟨X2, hX2⟩ : ∃ X, X = w1.alloc (.cells #[.int .i64 (f 8), .int .i64 (f 9), .int .i64 (f 10), .int .i64 (f 11), .int .i64 (f 12), .int .i64 (f 13), .int .i64 (f 14), .int .i64 (f 15)] 63) := ⟨_, rfl⟩
        have HX2 : Hid (Below w.heap.size w X2 ∧ X2.heap[w1.heap.size]? = some (.cells #[.int .i64 (f 8), .int .i64 (f 9), .int .i64 (f 10), .int .i64 (f 11), .int .i64 (f 12), .int .i64 (f 13), .int .i64 (f 14), .int .i64 (f 15)] 63 (0, 0)) ∧ Below w1.heap.size w1 X2) := Lib.hid (by subst hX2; exact ⟨HBw1.out.alloc HBw1.out.size _, heap_new _ _, (Below.refl _ _).alloc (Nat.le_refl _) _⟩)
        rw [← hX2]
        clear hX2 hgT2
        obtain ⟨t0, t1, t2, t3, t4, t5, t6, t7⟩ := (HT.out.below HX2.out.1).allL
        have z0 := block_cell (j := 0) HX2.out.2.1 rfl
        have z1 := block_cell (j := 1) HX2.out.2.1 rfl
        have z2 := block_cell (j := 2) HX2.out.2.1 rfl
        have z3 := block_cell (j := 3) HX2.out.2.1 rfl
        have z4 := block_cell (j := 4) HX2.out.2.1 rfl
        have z5 := block_cell (j := 5) HX2.out.2.1 rfl
        have z6 := block_cell (j := 6) HX2.out.2.1 rfl
        have z7 := block_cell (j := 7) HX2.out.2.1 rfl
        go_wp2_with fail
        clear t0 t1 t2 t3 t4 t5 t6 t7 z0 z1 z2 z3 z4 z5 z6 z7
        refine (HJb.out _).mono ?_
        rintro e v2 ⟨rfl, hb2⟩
        have HC2 : Hid (Below w.heap.size w v2) := Lib.hid (HX2.out.1.trans (hb2.mono HX2.out.1.size))
        have HR2 : Hid (v2.ownsRow w.heap.size 23 1 (.slice (some ⟨g1, 0, none⟩) 1 cap1) 1 [.int .u64 Ja]) := Lib.hid (own_below (own_below HO1.out HX2.out.2.2) hb2)
        have hs2 := HC2.out.size
        clear hb2
        go_wp2_with (at_builtin; refine wpList_append_own _ rfl _ _ 28 rfl w.heap.size 23 i0 (.int .u64 0) 1 8 Tryd.underlying28 HI.out.1 HI.out.2.1 HI.out.2.2.1 HI.out.2.2.2 rfl (by decide) _ _ _ rfl (HR2.out.alloc _) ⟨_, 0, none⟩ 1 1 [.int .u64 Jb] rfl rfl (cell_one_new _ _ _) (by simp [Value.oneCell']) (by unfold maxLen; omega) (by omega) (by simp; omega) ?_; intro v' w2 hown' hgrow _; obtain ⟨g2, cap2, rfl⟩ := ownsRow_succ hown'; have HO2 := Lib.hid hown'; have HBw2 : Hid (Below w.heap.size w w2) := Lib.hid ((HC2.out.alloc HC2.out.size _).grown hgrow (HC2.out.alloc HC2.out.size _).size (fun q e => (HR2.out.lt q e).1)); clear hown' hgrow)
        rw [rounds_succ]
        go_wp2
        go_ret
        refine ⟨_, rfl, ?_, HBw2.out⟩
        rw [HLE.out]
        exact HO2.out
end Go.Proofs.YthfeonmaajiajaaDoor
