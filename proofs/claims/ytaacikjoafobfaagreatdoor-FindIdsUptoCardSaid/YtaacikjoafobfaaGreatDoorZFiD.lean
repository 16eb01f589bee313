/-
  Fits: whether a node is an element that each test is so of.
-/
import Derived.Test.YtaacikjoafobfaaGreatDoorZFiC
import Derived.StillTailTactics
namespace Go.Proofs.YtaacikjoafobfaaGreatDoor.Fi
open Go.ChangeShapes Go.WideShapes Go.ChangeAt Go.RowKit
open Sx (Tr Ms Mr TR MR XR tV r1)
set_option linter.unusedVariables false
set_option linter.unusedSimpArgs false

def fv (f : Nat) : Value := .func (.func f) #[] #[]
/-- The five functions, by their kinds. -/
def known : Array Value := #[.nilFunc, .func (.func 86) #[] #[], .func (.func 88) #[] #[], .func (.func 90) #[] #[], .func (.func 94) #[] #[], .func (.func 96) #[] #[]]
theorem known_cells {w : World} {g : Nat} {t : TypeId} (h : w.heap[g]? = some (.cells known t (0, 0))) : w.cell? ⟨g, 0, none⟩ = some .nilFunc ∧ w.cell? ⟨g, 1, none⟩ = some (.func (.func 86) #[] #[]) ∧ w.cell? ⟨g, 2, none⟩ = some (.func (.func 88) #[] #[]) ∧ w.cell? ⟨g, 3, none⟩ = some (.func (.func 90) #[] #[]) ∧ w.cell? ⟨g, 4, none⟩ = some (.func (.func 94) #[] #[]) ∧ w.cell? ⟨g, 5, none⟩ = some (.func (.func 96) #[] #[]) := by
  unfold known at h
  refine ⟨?_, ?_, ?_, ?_, ?_, ?_⟩ <;> simp [World.cell?, h]
set_option maxHeartbeats 1000000 in
theorem asks_any (w : World) : Calls Tryz.prog 55 #[] w (GivesV (.agg known) w) := by
  have h := heap_alloc_new w (.cells known 108)
  obtain ⟨W, hW⟩ : ∃ W, W = w.alloc (.cells known 108) := ⟨_, rfl⟩
  have HB : Hid (Below w.heap.size w W) := Lib.hid (by rw [hW]; exact (Below.refl _ _).alloc (Nat.le_refl _) _)
  rw [← hW] at h
  obtain ⟨a0, a1, a2, a3, a4, a5⟩ := known_cells h
  unfold known at hW ⊢
  clear h
  go_enter Tryz.func55, Tryz.ntmps55
  go_wp2_with fail
  rw [← hW]
  clear hW
  refine bodyPost_ret (v := .agg #[.nilFunc, .func (.func 86) #[] #[], .func (.func 88) #[] #[], .func (.func 90) #[] #[], .func (.func 94) #[] #[], .func (.func 96) #[] #[]]) (by simp [results, Tryz.results55, go_sem, a0, a1, a2, a3, a4, a5]) rfl ⟨rfl, HB.out⟩
/-- A node in the variable k. -/
def NAt (w : World) (k : Nat) (m : Mn) : Prop := w.heap[k]? = some (.cells #[.int .i64 m.kind, .string m.name, .string m.text, .slice m.aA m.attrs.length m.aC, .int .i64 m.parent, .slice m.kA m.kids.length m.kC] 50 (0, 0))
theorem NAt.below {w w' : World} {k : Nat} {m : Mn} (h : NAt w k m) (hb : Below w.heap.size w w') : NAt w' k m := (hb.block k (lt_of_block h)).trans h
def KAt (w : World) (k : Nat) : Prop := w.heap[k]? = some (.cells known 108 (0, 0))
theorem KAt.below {w w' : World} {k : Nat} (h : KAt w k) (hb : Below w.heap.size w w') : KAt w' k := (hb.block k (lt_of_block h)).trans h
set_option maxRecDepth 100000 in
set_option maxHeartbeats 2000000 in
theorem fit1 (k0 k1 : Nat) (m : Mn) (t : Tr) (w : World) (hk : KAt w k0) (hn : NAt w k1 m) (hA : AR w m.aA m.attrs) (hm : NB m) (ht : t.2.1.size ≤ 100000) :
    Calls Tryz.prog 57 #[tV t, .pointer (some ⟨k0, 0, none⟩), .pointer (some ⟨k1, 0, none⟩)] w (GivesV (.bool (!soB m t)) w) := by
  obtain ⟨W, hW⟩ : ∃ W, W = w.alloc (tcel t) := ⟨_, rfl⟩
  have HWb : Hid (Below w.heap.size w W) := Lib.hid (by rw [hW]; exact (Below.refl _ _).alloc (Nat.le_refl _) _)
  have hWk : W.heap[w.heap.size]? = some (.cells #[.int .i64 t.1, .string t.2.1, .string t.2.2] 77 (0, 0)) := by rw [hW]; exact heap_alloc_new _ _
  obtain ⟨b0, b1, b2⟩ := block3f hWk
  obtain ⟨a0, a1, a2, a3, a4, a5⟩ := block6 (NAt.below hn HWb.out)
  obtain ⟨c0, c1, c2, c3, c4, c5⟩ := known_cells (KAt.below hk HWb.out)
  have H1 := Lib.hid (fun (V : World) (hb : Below W.heap.size W V) => ask1 m t V hm.name ht)
  have H2 := Lib.hid (fun (V : World) (hb : Below W.heap.size W V) => ask2 m t V ((hA.below HWb.out).below hb) hm.attrs)
  have H3 := Lib.hid (fun (V : World) (hb : Below W.heap.size W V) => ask3 m t V ((hA.below HWb.out).below hb) hm)
  have H4 := Lib.hid (fun (V : World) (hb : Below W.heap.size W V) => ask4 m t V ((hA.below HWb.out).below hb) hm)
  have H5 := Lib.hid (fun (V : World) (hb : Below W.heap.size W V) => ask5 m t V ((hA.below HWb.out).below hb) hm.attrs)
  have HE : Hid (soB m t = if t.1 = 1 then (Wx.fd m.name).toList == (Wx.fd t.2.1).toList else if t.1 = 2 then m.attrs.any (fun a => decide (a = (idS, t.2.1))) else if t.1 = 3 then m.attrs.any (clB t.2.1) else if t.1 = 4 then m.attrs.any (nmB t.2.1) else if t.1 = 5 then m.attrs.any (fun a => decide (a = (t.2.1, t.2.2))) else false) := Lib.hid rfl
  unfold tcel at hW
  generalize soB m t = R at *
  obtain ⟨tk, tn, tv⟩ := t
  obtain ⟨kd, nm0, tx, al, pa, kl, aA, aC, kA, kC⟩ := m
  unfold nval tV at *
  simp only [] at *
  generalize ((Wx.fd nm0).toList == (Wx.fd tn).toList) = R1 at *
  generalize al.any (fun a => decide (a = (idS, tn))) = R2 at *
  generalize al.any (clB tn) = R3 at *
  generalize al.any (nmB tn) = R4 at *
  generalize al.any (fun a => decide (a = (tn, tv))) = R5 at *
  clear hk hn hA hm ht hWk
  by_cases h0 : tk < 1
  · have HR : Hid (R = false) := Lib.hid (by rw [HE.out, if_neg (by omega), if_neg (by omega), if_neg (by omega), if_neg (by omega), if_neg (by omega)])
    have q0 : decide (tk < 1) = true := by simpa using h0
    go_enter Tryz.func57, Tryz.ntmps57
    go_upto_region 1 with fail
    rw [← hW]
    clear hW HE h0
    go_quiet (fail)
    go_wp2
    go_ret
    exact ⟨ret_bool (by rw [HR.out]; rfl), below_drewF HWb.out _⟩
  by_cases h6 : 5 < tk
  · have HR : Hid (R = false) := Lib.hid (by rw [HE.out, if_neg (by omega), if_neg (by omega), if_neg (by omega), if_neg (by omega), if_neg (by omega)])
    have q0 : decide (tk < 1) = false := by simpa using h0
    have q1 : decide (5 < tk) = true := by simpa using h6
    go_enter Tryz.func57, Tryz.ntmps57
    go_upto_region 1 with fail
    rw [← hW]
    clear hW HE h0 h6
    go_quiet (fail)
    go_wp2
    go_ret
    exact ⟨ret_bool (by rw [HR.out]; rfl), below_drewF HWb.out _⟩
  have hcase : tk = 1 ∨ tk = 2 ∨ tk = 3 ∨ tk = 4 ∨ tk = 5 := by omega
  clear h0 h6
  rcases hcase with rfl | rfl | rfl | rfl | rfl
  · have HR : Hid (R = R1) := Lib.hid (by rw [HE.out]; rfl)
    go_enter Tryz.func57, Tryz.ntmps57
    go_upto_region 1 with fail
    rw [← hW]
    clear hW HE
    go_still_tail 15, (by kernel_rfl)
    change wpList _ _ _ _ _ W.drew
    go_wp2_with fail
    refine (H1.out _ (Below.refl _ _).drew).mono ?_
    rintro e w1 ⟨rfl, hb⟩
    have HB := Lib.hid (HWb.out.trans (((Below.refl W.heap.size W).drew.trans (hb.mono (by simp))).mono HWb.out.size))
    clear hb
    go_wp2
    go_ret
    exact ⟨ret_bool (by rw [HR.out]), HB.out⟩
  · have HR : Hid (R = R2) := Lib.hid (by rw [HE.out]; rfl)
    go_enter Tryz.func57, Tryz.ntmps57
    go_upto_region 1 with fail
    rw [← hW]
    clear hW HE
    go_still_tail 15, (by kernel_rfl)
    change wpList _ _ _ _ _ W.drew
    go_wp2_with fail
    refine (H2.out _ (Below.refl _ _).drew).mono ?_
    rintro e w1 ⟨rfl, hb⟩
    have HB := Lib.hid (HWb.out.trans (((Below.refl W.heap.size W).drew.trans (hb.mono (by simp))).mono HWb.out.size))
    clear hb
    go_wp2
    go_ret
    exact ⟨ret_bool (by rw [HR.out]), HB.out⟩
  · have HR : Hid (R = R3) := Lib.hid (by rw [HE.out]; rfl)
    go_enter Tryz.func57, Tryz.ntmps57
    go_upto_region 1 with fail
    rw [← hW]
    clear hW HE
    go_still_tail 15, (by kernel_rfl)
    change wpList _ _ _ _ _ W.drew
    go_wp2_with fail
    refine (H3.out _ (Below.refl _ _).drew).mono ?_
    rintro e w1 ⟨rfl, hb⟩
    have HB := Lib.hid (HWb.out.trans (((Below.refl W.heap.size W).drew.trans (hb.mono (by simp))).mono HWb.out.size))
    clear hb
    go_wp2
    go_ret
    exact ⟨ret_bool (by rw [HR.out]), HB.out⟩
  · have HR : Hid (R = R4) := Lib.hid (by rw [HE.out]; rfl)
    go_enter Tryz.func57, Tryz.ntmps57
    go_upto_region 1 with fail
    rw [← hW]
    clear hW HE
    go_still_tail 15, (by kernel_rfl)
    change wpList _ _ _ _ _ W.drew
    go_wp2_with fail
    refine (H4.out _ (Below.refl _ _).drew).mono ?_
    rintro e w1 ⟨rfl, hb⟩
    have HB := Lib.hid (HWb.out.trans (((Below.refl W.heap.size W).drew.trans (hb.mono (by simp))).mono HWb.out.size))
    clear hb
    go_wp2
    go_ret
    exact ⟨ret_bool (by rw [HR.out]), HB.out⟩
  · have HR : Hid (R = R5) := Lib.hid (by rw [HE.out]; rfl)
    go_enter Tryz.func57, Tryz.ntmps57
    go_upto_region 1 with fail
    rw [← hW]
    clear hW HE
    go_still_tail 15, (by kernel_rfl)
    change wpList _ _ _ _ _ W.drew
    go_wp2_with fail
    refine (H5.out _ (Below.refl _ _).drew).mono ?_
    rintro e w1 ⟨rfl, hb⟩
    have HB := Lib.hid (HWb.out.trans (((Below.refl W.heap.size W).drew.trans (hb.mono (by simp))).mono HWb.out.size))
    clear hb
    go_wp2
    go_ret
    exact ⟨ret_bool (by rw [HR.out]), HB.out⟩
set_option maxRecDepth 100000 in
set_option maxHeartbeats 2000000 in
theorem fits_any (m : Mn) (A : Option Addr) (T : List Tr) (c : Nat) (w : World) (hA : AR w m.aA m.attrs) (hm : NB m) (hT : TR w A T) (ht : ∀ t ∈ T, t.2.1.size ≤ 100000) (hl : T.length ≤ 9223372036854775807) :
    Calls Tryz.prog 24 #[nval m, .slice A T.length c] w (GivesV (.bool (fitsB m T)) w) := by
  obtain ⟨W, hW⟩ : ∃ W, W = w.alloc (ncel m) := ⟨_, rfl⟩
  have HWb : Hid (Below w.heap.size w W) := Lib.hid (by rw [hW]; exact (Below.refl _ _).alloc (Nat.le_refl _) _)
  have HWk : Hid (NAt W w.heap.size m) := Lib.hid (by rw [hW]; exact heap_alloc_new _ _)
  have HX := Lib.hid (fun (V : World) (k0 : Nat) (hb : Below W.heap.size W V) (hk : KAt V k0) => has_fit (fun t => !soB m t) k0 w.heap.size A T c V (hT.below (HWb.out.trans (hb.mono HWb.out.size))) hl (fun k hk' U hU => fit1 k0 w.heap.size m T[k] U (hk.below hU) ((HWk.out.below hb).below hU) ((hA.below (HWb.out.trans (hb.mono HWb.out.size))).below hU) hm (ht _ (List.getElem_mem hk'))))
  have HE : Hid (fitsB m T = ((m.kind == 1) && !T.any (fun t => !soB m t))) := Lib.hid (by
    unfold fitsB
    congr 1
    rw [List.any_eq_not_all_not, Bool.not_not]
    congr 1
    funext t
    simp)
  unfold ncel at hW
  generalize fitsB m T = R at *
  generalize T.any (fun t => !soB m t) = Q at *
  obtain ⟨nT, hnT⟩ : ∃ nT, T.length = nT := ⟨_, rfl⟩
  rw [hnT] at HX ⊢
  clear hA hm hT ht hl hnT
  obtain ⟨a0, a1, a2, a3, a4, a5⟩ := block6 HWk.out
  obtain ⟨kd, nm0, tx, al, pa, kl, aA, aC, kA, kC⟩ := m
  unfold nval
  simp only [] at *
  by_cases hk : kd = 1
  · have q0 : (kd != 1) = false := by simpa using hk
    have HR : Hid (R = !Q) := Lib.hid (by rw [HE.out, hk]; rfl)
    have HAs := Lib.hid (asks_any W)
    unfold known at HAs
    clear hk HE
    go_enter Tryz.func24, Tryz.ntmps24
    go_upto_region 1 with fail
    rw [← hW]
    clear hW
    go_wp2_with fail
    refine HAs.out.mono ?_
    rintro e w1 ⟨rfl, hb⟩
    have HB1 := Lib.hid hb
    have HB2 := Lib.hid (hb.alloc hb.size (.cells known 108))
    have HX2 := Lib.hid (HX.out _ _ HB2.out (heap_alloc_new w1 (.cells known 108)))
    unfold known at HX2 HB2
    clear hb
    go_wp2_with fail
    refine HX2.out.mono ?_
    rintro e w2 ⟨rfl, hb⟩
    have HB3 := Lib.hid (HWb.out.trans ((HB2.out.trans (hb.mono HB2.out.size)).mono HWb.out.size))
    clear hb
    go_wp2
    go_ret
    exact ⟨ret_bool (by rw [HR.out]), HB3.out⟩
  · have q0 : (kd != 1) = true := by simpa using hk
    have HR : Hid (R = false) := Lib.hid (by rw [HE.out, show (kd == 1) = false by simpa using hk]; rfl)
    clear hk HE
    go_enter Tryz.func24, Tryz.ntmps24
    go_upto_region 1 with fail
    rw [← hW]
    clear hW
    go_wp2
    go_ret
    exact ⟨ret_bool (by rw [HR.out]), HWb.out⟩
end Go.Proofs.YtaacikjoafobfaaGreatDoor.Fi
