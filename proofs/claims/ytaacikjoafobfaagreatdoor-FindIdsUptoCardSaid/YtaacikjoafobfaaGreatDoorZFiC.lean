/-
  The five functions that tests ask by.
-/
import Derived.Test.YtaacikjoafobfaaGreatDoorZFiB
import Derived.Deep.RegionHeld3
namespace Go.Proofs.YtaacikjoafobfaaGreatDoor.Fi
open Go.ChangeShapes Go.WideShapes Go.ChangeAt Go.RowKit
open Sx (Tr Ms Mr TR MR XR tV r1)
set_option linter.unusedVariables false
set_option linter.unusedSimpArgs false

/-- A node, and a test, laid into variables. -/
def ncel (m : Mn) : Obj := .cells #[.int .i64 m.kind, .string m.name, .string m.text, .slice m.aA m.attrs.length m.aC, .int .i64 m.parent, .slice m.kA m.kids.length m.kC] 50
def tcel (t : Tr) : Obj := .cells #[.int .i64 t.1, .string t.2.1, .string t.2.2] 77
def lay2 (w : World) (m : Mn) (t : Tr) : World := (w.alloc (ncel m)).alloc (tcel t)
theorem lay2_below (w : World) (m : Mn) (t : Tr) : Below w.heap.size w (lay2 w m t) := ((Below.refl _ _).alloc (Nat.le_refl _) _).alloc (by simp) _
theorem lay2_n (w : World) (m : Mn) (t : Tr) : (lay2 w m t).heap[w.heap.size]? = some (.cells #[.int .i64 m.kind, .string m.name, .string m.text, .slice m.aA m.attrs.length m.aC, .int .i64 m.parent, .slice m.kA m.kids.length m.kC] 50 (0, 0)) :=
  (Below.heap_alloc _ _ _ (by simp)).trans (heap_alloc_new w _)
theorem lay2_t (w : World) (m : Mn) (t : Tr) : (lay2 w m t).heap[w.heap.size + 1]? = some (.cells #[.int .i64 t.1, .string t.2.1, .string t.2.2] 77 (0, 0)) := by
  have := heap_alloc_new (w.alloc (ncel m)) (tcel t)
  rwa [World.size_alloc] at this
theorem block3f {w : World} {g : Nat} {x y z : Value} {t : TypeId} (h : w.heap[g]? = some (.cells #[x, y, z] t (0, 0))) : w.cell? ⟨g, 0, none⟩ = some x ∧ w.cell? ⟨g, 1, none⟩ = some y ∧ w.cell? ⟨g, 2, none⟩ = some z := by
  refine ⟨?_, ?_, ?_⟩ <;> simp [World.cell?, h]
set_option maxRecDepth 100000 in
set_option maxHeartbeats 1000000 in
theorem ask1 (m : Mn) (t : Tr) (w : World) (hm : m.name.size ≤ 100000) (ht : t.2.1.size ≤ 100000) : Calls Tryz.prog 86 #[nval m, tV t] w (GivesV (.bool ((Wx.fd m.name).toList == (Wx.fd t.2.1).toList)) w) := by
  have HW := Lib.hid (lay2_below w m t)
  obtain ⟨W, hW⟩ : ∃ W, W = lay2 w m t := ⟨_, rfl⟩
  have HC : Hid (∀ V, Below W.heap.size W V → V.cell? ⟨w.heap.size, 1, none⟩ = some (.string m.name) ∧ V.cell? ⟨w.heap.size + 1, 1, none⟩ = some (.string t.2.1)) := Lib.hid (fun V hb => by
    have h1 := lay2_n w m t
    have h2 := lay2_t w m t
    rw [← hW] at h1 h2
    obtain ⟨-, a1, -⟩ := block6 ((hb.block _ (lt_of_block h1)).trans h1)
    obtain ⟨-, b1, -⟩ := block3f ((hb.block _ (lt_of_block h2)).trans h2)
    exact ⟨a1, b1⟩)
  have HF1 := Lib.hid (fun (V : World) => Wx.fold_any m.name V hm)
  have HF2 := Lib.hid (fun (V : World) => Wx.fold_any t.2.1 V ht)
  rw [← hW] at HW
  unfold lay2 ncel tcel at hW
  obtain ⟨kd, nm0, tx, al, pa, kl, aA, aC, kA, kC⟩ := m
  obtain ⟨tk, tn, tv⟩ := t
  unfold nval tV
  simp only [] at *
  generalize Wx.fd nm0 = fa at *
  generalize Wx.fd tn = fb at *
  clear hm ht
  go_enter Tryz.func86, Tryz.ntmps86
  go_wp2_with fail
  rw [← hW]
  clear hW
  go_region_held3 (fun V => V.cell? ⟨w.heap.size, 1, none⟩ = some (.string nm0) ∧ V.cell? ⟨w.heap.size + 1, 1, none⟩ = some (.string tn))
    (first | with_reducible exact HC.out _ (Below.refl _ _) | with_reducible exact HC.out _ (Below.refl _ _).drew | with_reducible exact HC.out _ HB1.out | with_reducible exact HC.out _ HB2.out)
    (first
      | (have hx := HB1.out; clear hx; go_at_call 87; refine (HF2.out _).mono ?_; rintro e w2 ⟨rfl, hb⟩; have HB2 := Lib.hid (HB1.out.trans (hb.mono HB1.out.size)); clear hb)
      | (go_at_call 87; refine (HF1.out _).mono ?_; rintro e w1 ⟨rfl, hb⟩; have HB1 := Lib.hid ((Below.refl W.heap.size W).drew.trans (hb.mono (by simp))); clear hb))
  all_goals
    go_wp2
    go_ret
    exact ⟨rfl, HW.out.trans (HB2.out.mono HW.out.size)⟩
set_option maxRecDepth 100000 in
set_option maxHeartbeats 1000000 in
theorem ask2 (m : Mn) (t : Tr) (w : World) (hA : AR w m.aA m.attrs) (hl : m.attrs.length ≤ 1000) : Calls Tryz.prog 88 #[nval m, tV t] w (GivesV (.bool (m.attrs.any (fun a => decide (a = (idS, t.2.1))))) w) := by
  have HW := Lib.hid (lay2_below w m t)
  have h1 := lay2_n w m t
  have h2 := lay2_t w m t
  obtain ⟨W, hW⟩ : ∃ W, W = lay2 w m t := ⟨_, rfl⟩
  rw [← hW] at HW h1 h2
  obtain ⟨a0, a1, a2, a3, a4, a5⟩ := block6 h1
  obtain ⟨b0, b1, b2⟩ := block3f h2
  have HX : Hid (Calls Tryz.prog 89 #[.slice m.aA m.attrs.length m.aC, .agg #[.string ⟨#[105, 100]⟩, .string t.2.1]] W (GivesV (.bool (m.attrs.any fun a => decide (a = (idS, t.2.1)))) W)) := Lib.hid (contains_at (idS, t.2.1) m.aA m.attrs m.aC W (hA.below HW.out) hl)
  unfold lay2 ncel tcel at hW
  obtain ⟨kd, nm0, tx, al, pa, kl, aA, aC, kA, kC⟩ := m
  obtain ⟨tk, tn, tv⟩ := t
  unfold nval tV
  simp only [] at *
  generalize al.any (fun a => decide (a = (idS, tn))) = R at *
  clear hA hl h1 h2
  go_enter Tryz.func88, Tryz.ntmps88
  go_upto_region 1 with fail
  rw [← hW]
  clear hW
  go_wp2_with fail
  refine HX.out.mono ?_
  rintro e w1 ⟨rfl, hb⟩
  have HB := Lib.hid (HW.out.trans (hb.mono HW.out.size))
  clear hb
  go_wp2
  go_ret
  exact ⟨rfl, HB.out⟩
set_option maxRecDepth 100000 in
set_option maxHeartbeats 1000000 in
theorem ask5 (m : Mn) (t : Tr) (w : World) (hA : AR w m.aA m.attrs) (hl : m.attrs.length ≤ 1000) : Calls Tryz.prog 96 #[nval m, tV t] w (GivesV (.bool (m.attrs.any (fun a => decide (a = (t.2.1, t.2.2))))) w) := by
  have HW := Lib.hid (lay2_below w m t)
  have h1 := lay2_n w m t
  have h2 := lay2_t w m t
  obtain ⟨W, hW⟩ : ∃ W, W = lay2 w m t := ⟨_, rfl⟩
  rw [← hW] at HW h1 h2
  obtain ⟨a0, a1, a2, a3, a4, a5⟩ := block6 h1
  obtain ⟨b0, b1, b2⟩ := block3f h2
  have HX : Hid (Calls Tryz.prog 89 #[.slice m.aA m.attrs.length m.aC, .agg #[.string t.2.1, .string t.2.2]] W (GivesV (.bool (m.attrs.any fun a => decide (a = (t.2.1, t.2.2)))) W)) := Lib.hid (contains_at (t.2.1, t.2.2) m.aA m.attrs m.aC W (hA.below HW.out) hl)
  unfold lay2 ncel tcel at hW
  obtain ⟨kd, nm0, tx, al, pa, kl, aA, aC, kA, kC⟩ := m
  obtain ⟨tk, tn, tv⟩ := t
  unfold nval tV
  simp only [] at *
  generalize al.any (fun a => decide (a = (tn, tv))) = R at *
  clear hA hl h1 h2
  go_enter Tryz.func96, Tryz.ntmps96
  go_upto_region 1 with fail
  rw [← hW]
  clear hW
  go_wp2_with fail
  refine HX.out.mono ?_
  rintro e w1 ⟨rfl, hb⟩
  have HB := Lib.hid (HW.out.trans (hb.mono HW.out.size))
  clear hb
  go_wp2
  go_ret
  exact ⟨rfl, HB.out⟩
/-- A test in the variable k. -/
def TAt (w : World) (k : Nat) (t : Tr) : Prop := w.heap[k]? = some (.cells #[.int .i64 t.1, .string t.2.1, .string t.2.2] 77 (0, 0))
theorem TAt.below {w w' : World} {k : Nat} {t : Tr} (h : TAt w k t) (hb : Below w.heap.size w w') : TAt w' k t := (hb.block k (lt_of_block h)).trans h
set_option maxRecDepth 100000 in
set_option maxHeartbeats 1000000 in
theorem nm1 (k : Nat) (a : At2) (t : Tr) (w : World) (h : TAt w k t) : Calls Tryz.prog 95 #[.agg #[.string a.1, .string a.2], .pointer (some ⟨k, 0, none⟩)] w (GivesV (.bool (nmB t.2.1 a)) w) := by
  obtain ⟨x, y⟩ := a
  obtain ⟨W, hW⟩ : ∃ W, W = w.alloc (.cells #[.string x, .string y] 99) := ⟨_, rfl⟩
  have HWb : Hid (Below w.heap.size w W) := Lib.hid (by rw [hW]; exact (Below.refl _ _).alloc (Nat.le_refl _) _)
  have HWk : Hid (W.heap[w.heap.size]? = some (.cells #[.string x, .string y] 99 (0, 0))) := Lib.hid (by rw [hW]; exact heap_alloc_new _ _)
  obtain ⟨y0, y1⟩ := block2 HWk.out
  obtain ⟨x0, x1, x2⟩ := block3f (TAt.below h HWb.out)
  clear h
  simp only []
  go_enter Tryz.func95, Tryz.ntmps95
  go_upto_region 1 with fail
  rw [← hW]
  clear hW
  go_wp2
  go_ret
  exact ⟨rfl, HWb.out⟩
set_option maxRecDepth 100000 in
set_option maxHeartbeats 1000000 in
theorem cl1 (k : Nat) (a : At2) (t : Tr) (w : World) (h : TAt w k t) (ha : a.2.size ≤ 100000) : Calls Tryz.prog 92 #[.agg #[.string a.1, .string a.2], .pointer (some ⟨k, 0, none⟩)] w (GivesV (.bool (clB t.2.1 a)) w) := by
  obtain ⟨x, y⟩ := a
  obtain ⟨W, hW⟩ : ∃ W, W = w.alloc (.cells #[.string x, .string y] 99) := ⟨_, rfl⟩
  have HWb : Hid (Below w.heap.size w W) := Lib.hid (by rw [hW]; exact (Below.refl _ _).alloc (Nat.le_refl _) _)
  have HWk : Hid (W.heap[w.heap.size]? = some (.cells #[.string x, .string y] 99 (0, 0))) := Lib.hid (by rw [hW]; exact heap_alloc_new _ _)
  obtain ⟨y0, y1⟩ := block2 HWk.out
  obtain ⟨x0, x1, x2⟩ := block3f (TAt.below h HWb.out)
  have HX := Lib.hid (fun (V : World) => Wx.has_any y t.2.1 V ha)
  have HE : Hid (clB t.2.1 (x, y) = ((x.toList == clS.toList) && decide (t.2.1.data.toList ∈ ws y))) := Lib.hid rfl
  generalize clB t.2.1 (x, y) = R at *
  generalize decide (t.2.1.data.toList ∈ ws y) = Q at *
  obtain ⟨tk, tn, tv⟩ := t
  clear h ha
  simp only [] at *
  by_cases hc : x = clS
  · have hq : (x.toList == [99, 108, 97, 115, 115]) = true := by rw [hc]; simp [clS]
    have HR : Hid (R = Q) := Lib.hid (by rw [HE.out, hc]; simp)
    clear hc
    go_enter Tryz.func92, Tryz.ntmps92
    go_upto_region 1 with fail
    rw [← hW]
    clear hW
    go_wp2_with fail
    refine (HX.out _).mono ?_
    rintro e w5 ⟨rfl, hb⟩
    have HB1 := Lib.hid hb
    clear hb
    go_wp2
    go_ret
    exact ⟨ret_bool (by rw [HR.out]), HWb.out.trans (HB1.out.mono HWb.out.size)⟩
  · have hL : clS.toList = [99, 108, 97, 115, 115] := by simp [clS]
    have hq : (x.toList == [99, 108, 97, 115, 115]) = false := by
      rw [← hL, Bool.eq_false_iff]
      intro e
      exact hc (toList_injA.1 (by simpa using e))
    have HR : Hid (R = false) := Lib.hid (by rw [HE.out, hL, hq]; rfl)
    clear hL
    clear hc
    go_enter Tryz.func92, Tryz.ntmps92
    go_upto_region 1 with fail
    rw [← hW]
    clear hW
    go_wp2
    go_ret
    exact ⟨ret_bool (by rw [HR.out]), HWb.out⟩
set_option maxRecDepth 100000 in
set_option maxHeartbeats 1000000 in
theorem ask3 (m : Mn) (t : Tr) (w : World) (hA : AR w m.aA m.attrs) (hm : NB m) : Calls Tryz.prog 90 #[nval m, tV t] w (GivesV (.bool (m.attrs.any (clB t.2.1))) w) := by
  have HW := Lib.hid (lay2_below w m t)
  have h1 := lay2_n w m t
  have h2 := lay2_t w m t
  obtain ⟨W, hW⟩ : ∃ W, W = lay2 w m t := ⟨_, rfl⟩
  rw [← hW] at HW h1 h2
  obtain ⟨a0, a1, a2, a3, a4, a5⟩ := block6 h1
  have HX := Lib.hid (has_cl (clB t.2.1) (w.heap.size + 1) m.aA m.attrs m.aC W (hA.below HW.out) hm.attrs (fun k hk V hb => cl1 (w.heap.size + 1) m.attrs[k] t V (TAt.below h2 hb) (hm.vals _ (List.getElem_mem hk))))
  unfold lay2 ncel tcel at hW
  obtain ⟨kd, nm0, tx, al, pa, kl, aA, aC, kA, kC⟩ := m
  obtain ⟨tk, tn, tv⟩ := t
  unfold nval tV
  simp only [] at *
  generalize al.any (clB tn) = R at *
  clear hA hm h1 h2
  go_enter Tryz.func90, Tryz.ntmps90
  go_upto_region 1 with fail
  rw [← hW]
  clear hW
  go_wp2_with fail
  refine HX.out.mono ?_
  rintro e w1 ⟨rfl, hb⟩
  have HB := Lib.hid (HW.out.trans (hb.mono HW.out.size))
  clear hb
  go_wp2
  go_ret
  exact ⟨rfl, HB.out⟩
set_option maxRecDepth 100000 in
set_option maxHeartbeats 1000000 in
theorem ask4 (m : Mn) (t : Tr) (w : World) (hA : AR w m.aA m.attrs) (hm : NB m) : Calls Tryz.prog 94 #[nval m, tV t] w (GivesV (.bool (m.attrs.any (nmB t.2.1))) w) := by
  have HW := Lib.hid (lay2_below w m t)
  have h1 := lay2_n w m t
  have h2 := lay2_t w m t
  obtain ⟨W, hW⟩ : ∃ W, W = lay2 w m t := ⟨_, rfl⟩
  rw [← hW] at HW h1 h2
  obtain ⟨a0, a1, a2, a3, a4, a5⟩ := block6 h1
  have HX := Lib.hid (has_nm (nmB t.2.1) (w.heap.size + 1) m.aA m.attrs m.aC W (hA.below HW.out) hm.attrs (fun k hk V hb => nm1 (w.heap.size + 1) m.attrs[k] t V (TAt.below h2 hb)))
  unfold lay2 ncel tcel at hW
  obtain ⟨kd, nm0, tx, al, pa, kl, aA, aC, kA, kC⟩ := m
  obtain ⟨tk, tn, tv⟩ := t
  unfold nval tV
  simp only [] at *
  generalize al.any (nmB tn) = R at *
  clear hA hm h1 h2
  go_enter Tryz.func94, Tryz.ntmps94
  go_upto_region 1 with fail
  rw [← hW]
  clear hW
  go_wp2_with fail
  refine HX.out.mono ?_
  rintro e w1 ⟨rfl, hb⟩
  have HB := Lib.hid (HW.out.trans (hb.mono HW.out.size))
  clear hb
  go_wp2
  go_ret
  exact ⟨rfl, HB.out⟩
end Go.Proofs.YtaacikjoafobfaaGreatDoor.Fi
