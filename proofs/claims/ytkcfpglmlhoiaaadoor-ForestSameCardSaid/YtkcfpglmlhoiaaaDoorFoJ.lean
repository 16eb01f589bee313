/-
  Tops: the nodes that stand alone.
-/
import Derived.Test.YtkcfpglmlhoiaaaDoorFoI
import Derived.Deep.OwnRows
import Derived.Deep.AppendLies
import Derived.Maps.AppendAt
import Derived.Laws.CopyOwn
import Derived.Laws.AppendOwnNone
import Derived.OneCell
import Derived.OwnWalk
namespace Go.Proofs.YtkcfpglmlhoiaaaDoor
open Go.ChangeShapes Go.WideShapes Go.ChangeAt Go.RowKit
set_option linter.unusedVariables false
set_option linter.unusedSimpArgs false

def ivs (l : List Int) : List Value := l.map (Value.int .i64)
theorem ivs_length (l : List Int) : (ivs l).length = l.length := by simp [ivs]
theorem own_below {w w' : World} {base : Nat} {e : TypeId} {size n : Nat} {v : Value} {xs : List Value} (h : w.ownsRow base e size v n xs) (hb : Below w.heap.size w w') : w'.ownsRow base e size v n xs := by
  refine ⟨h.1, ?_⟩
  rcases h.2 with h' | ⟨g, cap, cur, h1, h2, h3, h4⟩
  · exact .inl h'
  · exact .inr ⟨g, cap, cur, h1, h2, (hb.block g (Array.getElem?_eq_some_iff.1 h3).1).trans h3, h4⟩
theorem own_form {w : World} {base : Nat} {e : TypeId} {v : Value} {n : Nat} {xs : List Value} (h : w.ownsRow base e 1 v n xs) : ∃ p cap, v = .slice p n cap ∧ n ≤ cap ∧ cap ≤ maxLen ∧ xs.length = n := by
  have h1 := h.1
  rw [Nat.mul_one] at h1
  rcases h.2 with ⟨rfl, rfl⟩ | ⟨g, cap, cur, rfl, _, _, hnc, hcm, _⟩
  · exact ⟨none, 0, rfl, Nat.le_refl _, by simp [maxLen], h1⟩
  · exact ⟨_, cap, rfl, hnc, hcm, h1⟩
theorem own_apart {w : World} {base k size : Nat} {e t : TypeId} {v : Value} {n : Nat} {xs : List Value} {cs : Array Value} (h : w.ownsRow base e size v n xs) (hk : w.heap[k]? = some (.cells cs t (0, 0))) (hne : e ≠ t) : v.ownBlock ≠ some k := by
  rcases h.2 with ⟨rfl, _⟩ | ⟨g, cap, cur, rfl, _, hg, _⟩
  · simp [Value.ownBlock]
  · intro he
    obtain rfl : g = k := by simpa [Value.ownBlock] using he
    rw [hg] at hk
    cases hk
    exact hne rfl
theorem info_int : (Tryd.prog.info? 3).map (fun i => (i.zero, i.size, i.bytes)) = some (some (.int .i64 0), 1, 8) := by kernel_rfl
/-- The list in the variable k, its row from B on. -/
structure Box (w : World) (k B : Nat) (l : List Int) : Prop where
  own : ∃ p cap, w.heap[k]? = some (.cells #[.slice p l.length cap] 32 (0, 0)) ∧ w.ownsRow B 3 1 (.slice p l.length cap) l.length (ivs l)
theorem Box.below {w w' : World} {k B : Nat} {l : List Int} (h : Box w k B l) (hb : Below w.heap.size w w') : Box w' k B l := by
  obtain ⟨p, cap, h1, h2⟩ := h.own
  exact ⟨p, cap, (hb.block k (lt_of_block h1)).trans h1, own_below h2 hb⟩
/-- A variable's block stays when a row of another type grows. -/
theorem box_grown {W w4 : World} {k B n : Nat} {x : Value} {o : Obj} {v : Value} {xs : List Value} (hk : W.heap[k]? = some (.cells #[x] 32 (0, 0))) (ho : W.ownsRow B 3 1 v n xs) (hg : (W.alloc o).grownBy w4 v.ownBlock) :
    Hid (w4.heap[k]? = some (.cells #[x] 32 (0, 0))) ∧ w4.cell? ⟨k, 0, none⟩ = some x ∧ w4.frozen? ⟨k, 0, none⟩ = false := by
  have hlt := lt_of_block hk
  have h : w4.heap[k]? = some (.cells #[x] 32 (0, 0)) := by
    exact (hg.block k (by simp; omega) (Ne.symm (own_apart ho hk (by decide)))).trans ((heap_alloc_old _ _ hlt).trans hk)
  exact ⟨Lib.hid h, block1 h, by simp [World.frozen?, h]⟩
set_option maxRecDepth 100000 in
set_option maxHeartbeats 2000000 in
theorem tops1_any (k B : Nat) (l : List Int) (i : Nat) (m : Mn) (w : World) (hX : Box w k B l) (hB : B ≤ w.heap.size) (hkB : k < B) (hl : l.length ≤ 1000) :
    Calls Tryd.prog 34 #[.int .i64 i, nval m, .pointer (some ⟨k, 0, none⟩)] w fun e w' => e = .returned (.bool true) ∧ Box w' k B (if m.parent = -1 then l ++ [(i : Int)] else l) ∧ Below k w w' := by
  obtain ⟨p, cap, hk, ho⟩ := hX.own
  have HK := Lib.hid hk
  have HO := Lib.hid ho
  have hlt := lt_of_block hk
  obtain ⟨i0, hi0, hz0, hz1, hz2⟩ := info_parts info_int
  have hI := Lib.hid hi0
  have hZ0 := Lib.hid hz0
  have hZ1 := Lib.hid hz1
  have hZ2 := Lib.hid hz2
  clear hi0 hz0 hz1 hz2 hX hk ho
  unfold nval
  obtain ⟨W, hW⟩ : ∃ W, W = w.alloc (.cells #[.int .i64 m.kind, .string m.name, .string m.text, .slice m.aA m.attrs.length m.aC, .int .i64 m.parent, .slice m.kA m.kids.length m.kC] 34) := ⟨_, rfl⟩
  have HWb : Hid (Below w.heap.size w W) := Lib.hid (by rw [hW]; exact (Below.refl _ _).alloc (Nat.le_refl _) _)
  have HWk : Hid (W.heap[w.heap.size]? = some (.cells #[.int .i64 m.kind, .string m.name, .string m.text, .slice m.aA m.attrs.length m.aC, .int .i64 m.parent, .slice m.kA m.kids.length m.kC] 34 (0, 0))) := Lib.hid (by rw [hW]; exact heap_alloc_new _ _)
  obtain ⟨x0, x1, x2, x3, x4, x5⟩ := block6 HWk.out
  have HK1 := Lib.hid ((HWb.out.block k hlt).trans HK.out)
  have HO1 := Lib.hid (own_below HO.out HWb.out)
  have y0 := block1 HK1.out
  have fz : W.frozen? ⟨k, 0, none⟩ = false := by simp [World.frozen?, HK1.out]
  have hsW : w.heap.size < W.heap.size := lt_of_block HWk.out
  obtain ⟨N, hN⟩ : ∃ N, l.length = N := ⟨_, rfl⟩
  have HN := Lib.hid hN
  rw [hN] at hl y0
  have HK1' := HK1
  have HO1' := HO1
  rw [hN] at HK1' HO1'
  clear hN
  have nek : k ≠ W.heap.size := by omega
  rcases Bool.eq_false_or_eq_true (m.parent == -1) with hp | hp
  · have HPE : Hid (m.parent = -1) := Lib.hid (by simpa using hp)
    go_enter Tryd.func34, Tryd.ntmps34
    go_upto_region 1 with fail
    rw [← hW]
    clear hW
    go_wp2_with (at_builtin; refine wpList_append_own_at _ rfl _ _ 32 rfl B 3 i0 (.int .i64 0) 1 8 Tryd.underlying32 hI.out hZ0.out hZ1.out hZ2.out rfl (by decide) _ _ _ rfl (HO1'.out.alloc _) ⟨W.heap.size, 0, none⟩ 1 1 [.int .i64 i] rfl rfl (cell_one_new _ _ _) (by simp [Value.oneCell']) (by unfold maxLen; omega) (by omega) (by simp; omega) ?_; intro v' w4 hown' hgrow _ hat; obtain ⟨q4, c4, rfl, _⟩ := own_form hown'
                 have HO' := Lib.hid hown'
                 have HGR := Lib.hid hgrow
                 go_loud (obtain ⟨HK4, y4, fz4⟩ := box_grown HK1'.out HO1'.out hgrow)
                 clear hown' hgrow hat y0 fz)
    go_ret
    refine ⟨rfl, ⟨q4, c4, ?_, ?_⟩, ?_⟩
    · have := HK4.out
      simp [World.setCell, Array.getElem?_modify, this, HN.out]
    · rw [List.length_append, HN.out, ivs, List.map_append]
      exact ownsRow_setCell_other HO'.out (a := ⟨k, 0, none⟩) (own_apart HO'.out HK4.out (by decide)) _
    · have b1 : Below k w W := HWb.out.mono (by omega)
      have b2 : Below k w (W.alloc (.cells #[.int .i64 (i : Int)] 3)) := b1.alloc (by omega) _
      have b3 : Below k w w4 := b2.grown HGR.out (by rw [World.size_alloc]; omega) (fun q e => by have := (HO1'.out.lt q e).1; omega)
      exact b3.setCell (Nat.le_refl _) _
  · have HPE : Hid (¬ m.parent = -1) := Lib.hid (by simpa using hp)
    go_enter Tryd.func34, Tryd.ntmps34
    go_upto_region 1 with fail
    rw [← hW]
    clear hW
    go_wp2
    go_ret
    exact ⟨rfl, ⟨p, cap, HK1.out, HO1.out⟩, HWb.out.mono (by omega)⟩

def topsOf (F : List Mn) (n : Nat) : List Int := ((List.range n).filter fun i => decide (par F i = -1)).map (fun i : Nat => (i : Int))
theorem topsOf_succ (F : List Mn) (n : Nat) : topsOf F (n + 1) = if par F n = -1 then topsOf F n ++ [(n : Int)] else topsOf F n := by
  unfold topsOf
  rw [List.range_succ, List.filter_append, List.map_append]
  by_cases h : par F n = -1
  · simp [h]
  · simp [h]
theorem topsOf_len (F : List Mn) (n : Nat) : (topsOf F n).length ≤ n := by
  unfold topsOf
  rw [List.length_map]
  exact Nat.le_trans (List.length_filter_le _ _) (by simp)
def tops1F (k : Nat) : Value := .func (.func 34) #[] #[.pointer (some ⟨k, 0, none⟩)]
set_option maxRecDepth 100000 in
set_option maxHeartbeats 2000000 in
theorem every3 (k B : Nat) (A : Option Addr) (F : List Mn) (c : Nat) (w0 w : World) (hF : FR w0 A F) (hl : F.length ≤ 1000) (hk0 : w0.heap.size ≤ k) (hkB : k < B) (hB : B ≤ w.heap.size) (hb : Below w0.heap.size w0 w) (hX : Box w k B []) :
    Calls Tryd.prog 19 #[.slice A F.length c, tops1F k] w fun e w' => e = .returned (.bool true) ∧ Box w' k B (topsOf F F.length) ∧ Below w0.heap.size w0 w' := by
  have HF := Lib.hid hF
  have HX0 := Lib.hid hX
  have HB0 := Lib.hid hb
  obtain ⟨n, hnn⟩ : ∃ n, F.length = n := ⟨_, rfl⟩
  have HNN := Lib.hid hnn
  rw [hnn] at hl ⊢
  clear hF hX hb hnn
  unfold tops1F
  go_enter Tryd.func19, Tryd.ntmps19
  go_wp2_with fail
  go_loopw [9] (fun q wr => ∃ j : Nat, j ≤ n ∧ q = .int .i64 j ∧ Hid (Box wr k B (topsOf F j)) ∧ Hid (B ≤ wr.heap.size) ∧ Hid (Below w0.heap.size w0 wr)) (fun q _ => n - (intOf q).toNat)
  case atStart => exact ⟨0, Nat.zero_le _, rfl, HX0, Lib.hid hB, HB0⟩
  case round =>
    obtain ⟨j, hj, rfl, HX, HBs, HB⟩ := hrel
    by_cases hlt : j < n
    · have k0 : (0 : Int) ≤ (j : Int) := by omega
      have k1 : (j : Int) < (n : Int) := by omega
      have hjF : j < F.length := by rw [HNN.out]; exact hlt
      obtain ⟨hfj, g, off, rfl, hg, hnd⟩ := (HF.out.below HB.out) j F[j] (List.getElem?_eq_getElem hjF)
      have HTs : Hid (topsOf F (j + 1) = if F[j].parent = -1 then topsOf F j ++ [(j : Int)] else topsOf F j) := Lib.hid (by rw [topsOf_succ, par_at hjF])
      have hlen : (topsOf F j).length ≤ 1000 := Nat.le_trans (topsOf_len F j) (by omega)
      have c0 := hnd.c0
      have c1 := hnd.c1
      have c2 := hnd.c2
      have c3 := hnd.c3
      have c4 := hnd.c4
      have c5 := hnd.c5
      clear hnd hfj
      generalize F[j] = m at *
      generalize topsOf F j = l at *
      go_upto_region 4 with fail
      obtain ⟨W, hW⟩ : ∃ W, W = wr.alloc (.cells #[.int .i64 m.kind, .string m.name, .string m.text, .slice m.aA m.attrs.length m.aC, .int .i64 m.parent, .slice m.kA m.kids.length m.kC] 34) := ⟨_, rfl⟩
      rw [← hW]
      have hbW : Below wr.heap.size wr W := by rw [hW]; exact (Below.refl _ _).alloc (Nat.le_refl _) _
      have HWb : Hid (Below w0.heap.size w0 W) := Lib.hid (HB.out.trans (hbW.mono HB.out.size))
      have HWk : Hid (W.heap[wr.heap.size]? = some (.cells #[.int .i64 m.kind, .string m.name, .string m.text, .slice m.aA m.attrs.length m.aC, .int .i64 m.parent, .slice m.kA m.kids.length m.kC] 34 (0, 0))) := Lib.hid (by rw [hW]; exact heap_alloc_new _ _)
      have HXW := Lib.hid (HX.out.below hbW)
      have HBW : Hid (B ≤ W.heap.size) := Lib.hid (Nat.le_trans HBs.out hbW.size)
      have HT := Lib.hid (tops1_any k B l j m W HXW.out HBW.out hkB hlen)
      rw [← HTs.out] at HT
      unfold nval at HT
      clear hW hbW c0 c1 c2 c3 c4 c5
      obtain ⟨x0, x1, x2, x3, x4, x5⟩ := block6 HWk.out
      go_wp2_with fail
      refine HT.out.mono ?_
      rintro e w1 ⟨rfl, hx, hb⟩
      have HX1 := Lib.hid hx
      have HB1 : Hid (Below w0.heap.size w0 w1) := Lib.hid (HWb.out.trans (hb.mono hk0))
      have HBs1 : Hid (B ≤ w1.heap.size) := Lib.hid (Nat.le_trans HBW.out hb.size)
      clear hx hb x0 x1 x2 x3 x4 x5
      go_wp2
      go_roundw
      case rel => exact ⟨j + 1, by omega, by go_num, HX1, HBs1, HB1⟩
      case measure => simp [intOf] <;> omega
    · obtain rfl : j = n := by omega
      go_wp2
      go_ret
      exact ⟨rfl, HX.out, HB.out⟩
/-- What Tops tells. -/
def topsB (F : List Mn) : List Int := if mayB F then topsOf F F.length else []
set_option maxRecDepth 100000 in
set_option maxHeartbeats 2000000 in
theorem tops_any (A : Option Addr) (F : List Mn) (c : Nat) (w : World) (hF : FR w A F) (hz : Sz F) :
    Calls Tryd.prog 12 #[.slice A F.length c] w fun e w' => ∃ v, e = .returned v ∧ w'.ownsRow w.heap.size 3 1 v (topsB F).length (ivs (topsB F)) ∧ Below w.heap.size w w' := by
  have HM := Lib.hid (may_any A F c w hF hz)
  have HF := Lib.hid hF
  have hl := hz.len
  have HE : Hid (topsB F = if mayB F then topsOf F F.length else []) := Lib.hid rfl
  have HEv := Lib.hid (fun (k B : Nat) (W : World) (hk0 : w.heap.size ≤ k) (hkB : k < B) (hB : B ≤ W.heap.size) (hb : Below w.heap.size w W) (hX : Box W k B []) => every3 k B A F c w W HF.out hl hk0 hkB hB hb hX)
  unfold tops1F at HEv
  clear hF hz
  generalize topsB F = T at *
  generalize mayB F = MB at *
  generalize topsOf F F.length = TO at *
  generalize F.length = n at *
  go_enter Tryd.func12, Tryd.ntmps12
  go_wp2_with fail
  refine HM.out.mono ?_
  rintro e w1 ⟨rfl, hb⟩
  have HB1 := Lib.hid hb
  clear hb
  cases MB with
  | false =>
    have HT : Hid (T = []) := Lib.hid (by rw [HE.out]; rfl)
    go_wp2
    go_ret
    refine ⟨_, rfl, ?_, HB1.out⟩
    rw [HT.out]
    exact World.ownsRow_nil _ _ _ _
  | true =>
    have HT : Hid (T = TO) := Lib.hid (by rw [HE.out]; rfl)
    go_upto_region 4 with fail
    obtain ⟨W, hW⟩ : ∃ W, W = w1.alloc (.cells #[.slice none 0 0] 32) := ⟨_, rfl⟩
    rw [← hW]
    have HWb : Hid (Below w.heap.size w W) := Lib.hid (by rw [hW]; exact HB1.out.alloc HB1.out.size _)
    have HWs : Hid (w1.heap.size + 1 ≤ W.heap.size) := Lib.hid (by rw [hW, World.size_alloc]; exact Nat.le_refl _)
    have HWX : Hid (Box W w1.heap.size (w1.heap.size + 1) []) := Lib.hid ⟨none, 0, by rw [hW]; exact heap_alloc_new _ _, World.ownsRow_nil _ _ _ _⟩
    have HEw := Lib.hid (HEv.out w1.heap.size (w1.heap.size + 1) W HB1.out.size (by omega) HWs.out HWb.out HWX.out)
    clear hW
    go_wp2_with fail
    refine HEw.out.mono ?_
    rintro e w2 ⟨rfl, hx, hb⟩
    obtain ⟨p, cap, hk, ho⟩ := hx.own
    have HO := Lib.hid ho
    have HB2 := Lib.hid hb
    have x0 := block1 hk
    clear hx hb hk ho
    go_wp2
    go_ret
    refine ⟨_, rfl, ?_, HB2.out⟩
    rw [HT.out]
    have h2 := HO.out
    refine ⟨h2.1, ?_⟩
    rcases h2.2 with h' | ⟨g, cap', cur, h1, hg, h3, h4⟩
    · exact .inl h'
    · exact .inr ⟨g, cap', cur, h1, Nat.le_trans (Nat.le_trans HB1.out.size (Nat.le_succ _)) hg, h3, h4⟩
end Go.Proofs.YtkcfpglmlhoiaaaDoor
