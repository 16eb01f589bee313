/-
  The way up from a node: as plain mathematics, and the program's list of it.
-/
import Derived.Test.YtaacikjoafobfaaGreatDoorZFiA
import Derived.Test.YtaacikjoafobfaaGreatDoorG02
import Derived.Test.YtaacikjoafobfaaGreatDoorG04
import Derived.Test.YtaacikjoafobfaaGreatDoorG14
namespace Go.Proofs.YtaacikjoafobfaaGreatDoor.Fi
open Go.ChangeShapes Go.WideShapes Go.ChangeAt Go.RowKit
open Sx (Tr Ms Mr TR MR XR tV r1)
set_option linter.unusedVariables false
set_option linter.unusedSimpArgs false

/-- The nodes from x on upward, in so many steps. -/
def wayL (F : List Mn) : Nat → Int → List Mn
  | 0, _ => []
  | n + 1, x => if x = -1 then [] else (F[x.toNat]?).toList ++ wayL F n (par F x.toNat)
def wayU (F : List Mn) (i : Nat) : List Mn := wayL F F.length i
theorem wayL_none (F : List Mn) (g : Nat) : wayL F g (-1) = [] := by cases g <;> simp [wayL]
theorem wayL_len (F : List Mn) : ∀ (g : Nat) (x : Int), (wayL F g x).length ≤ g
  | 0, x => by simp [wayL]
  | g + 1, x => by
    have := wayL_len F g (par F x.toNat)
    unfold wayL
    split
    · simp
    · rw [List.length_append]
      have h : ((F[x.toNat]?).toList).length ≤ 1 := by cases F[x.toNat]? <;> simp
      omega
theorem wayL_at {F : List Mn} {g j : Nat} (hj : j < F.length) : wayL F (g + 1) (j : Int) = F[j] :: wayL F g F[j].parent := by
  rw [wayL, if_neg (by omega), Int.toNat_natCast, par_at hj, List.getElem?_eq_getElem hj]
  rfl
theorem info_fn : (Tryz.prog.info? 50).map (fun i => (i.zero, i.size, i.bytes)) = some (some (.agg #[.int .i64 0, .string ⟨#[]⟩, .string ⟨#[]⟩, .slice none 0 0, .int .i64 0, .slice none 0 0]), 6, 96) := by kernel_rfl
theorem own_caps {W : World} {base size n cap : Nat} {e : TypeId} {p : Option Addr} {xs : List Value} (h : W.ownsRow base e size (.slice p n cap) n xs) : n ≤ cap ∧ cap ≤ 9223372036854775807 := by
  rcases h.2 with ⟨hv, -⟩ | ⟨g, cap', cur, hv, hbg, hg, h1, h2, -⟩
  · cases hv
    exact ⟨Nat.le_refl _, by omega⟩
  · cases hv
    simp only [maxLen] at h2
    exact ⟨h1, by omega⟩
/-- Nodes in memory of the call's own, whose lists lie where others read them too. -/
theorem way_fr {W V : World} {A : Option Addr} {F : List Mn} {base n cap : Nat} {p : Option Addr} {L : List Mn} (hF : FR W A F) (hb : Below W.heap.size W V) (hm : ∀ m ∈ L, m ∈ F) (h : V.ownsRow base 50 6 (.slice p n cap) L.length (fcells L)) : FR V p L := by
  intro i m hi
  obtain ⟨hil, -⟩ := List.getElem?_eq_some_iff.1 hi
  have hmem := hm m (List.mem_of_getElem? hi)
  obtain ⟨j, hj, hjm⟩ := List.mem_iff_getElem.1 hmem
  obtain ⟨hfit, gF, oF, -, hgF, hnF⟩ := hF.below hb j m (by rw [List.getElem?_eq_getElem hj, hjm])
  rcases h.2 with ⟨-, h'⟩ | ⟨g, cap', cur, hv, hbg, hg, h1, h2, h3, h4⟩
  · omega
  · cases hv
    have hr : RowAt V g 0 L := cells_row (fun j u hu => by
      have := h.cells rfl j u hu
      rw [← this, show (⟨g, 0, none⟩ : Addr).add j = ⟨g, 0 + j, none⟩ by unfold Addr.add; split <;> simp_all])
    have hc := hr i m hi
    exact ⟨hfit, g, 0, rfl, (Array.getElem?_eq_some_iff.1 hg).1, ⟨hc.c0, hc.c1, hc.c2, hc.c3, hc.c4, hc.c5, hnF.ar, hnF.ir⟩⟩
set_option maxRecDepth 100000 in
set_option maxHeartbeats 4000000 in
theorem way_any (A : Option Addr) (F : List Mn) (c i : Nat) (w : World) (hF : FR w A F) (hm : mayB F = true) (hi : i < F.length) :
    Calls Tryz.prog 82 #[.slice A F.length c, .int .i64 i] w fun e w' => ∃ p cap, e = .returned (.slice p (wayU F i).length cap) ∧ (wayU F i).length ≤ cap ∧ cap ≤ 9223372036854775807 ∧ FR w' p (wayU F i) ∧ Below w.heap.size w w' := by
  obtain ⟨p1, p2, p3, p4, p5⟩ := mayB_parts hm
  have HF := Lib.hid hF
  have HU := Lib.hid (up_of p3)
  have HE := Lib.hid (p5 i hi)
  obtain ⟨WU, hWU⟩ : ∃ WU, wayU F i = WU := ⟨_, rfl⟩
  have HW := Lib.hid (show [] ++ wayL F F.length i = WU from hWU)
  have HX : Hid ((i : Int) = -1 ∨ isB F i = true) := Lib.hid (.inr (by rw [isB, decide_eq_true_eq]; omega))
  have HFR := Lib.hid (fun (V : World) (L : List Mn) (base n cap : Nat) (p : Option Addr) (hb : Below w.heap.size w V) (hm : ∀ m ∈ L, m ∈ F) (h : V.ownsRow base 50 6 (.slice p n cap) L.length (fcells L)) => way_fr hF hb hm h)
  obtain ⟨i0, hi0, hz0, hz1, hz2⟩ := info_parts info_fn
  have HJ := Lib.hid (And.intro hi0 (And.intro hz0 (And.intro hz1 hz2)))
  rw [hWU]
  obtain ⟨n, hnn⟩ : ∃ n, F.length = n := ⟨_, rfl⟩
  have HNN := Lib.hid hnn
  rw [hnn] at hi HE HW p2 ⊢
  clear hF hm p1 p3 p4 p5 hnn hWU hi0 hz0 hz1 hz2
  go_enter Tryz.func82, Tryz.ntmps82
  go_wp2_with fail
  go_loopg [5, 6] n (fun g q5 q6 wr => ∃ (V : World) (L : List Mn) (y : Int) (p : Option Addr) (cap : Nat), V = wr ∧ q5 = .slice p L.length cap ∧ q6 = .int .i64 y ∧ L.length + g ≤ n ∧ Hid (y = -1 ∨ isB F y = true) ∧ Hid (endsB F g y = true) ∧ Hid (L ++ wayL F g y = WU) ∧ Hid (V.ownsRow w.heap.size 50 6 (.slice p L.length cap) L.length (fcells L)) ∧ Hid (∀ m ∈ L, m ∈ F) ∧ Hid (Below w.heap.size w V))
  case atStart => exact ⟨_, [], i, none, 0, rfl, rfl, rfl, by simp, HX, HE, HW, Lib.hid (World.ownsRow_nil _ _ _ _), Lib.hid (by simp), Lib.hid (Below.refl _ _)⟩
  case round =>
    clear HX HE HW
    obtain ⟨V, L, y, p, cap, rfl, rfl, rfl, hLg, HY, HEy, HWy, HO, HM, HB⟩ := hrel
    by_cases hy : y = -1
    · have HWf : Hid (L = WU) := Lib.hid (by have := HWy.out; rw [hy, wayL_none, List.append_nil] at this; exact this)
      have q0 : (y != -1) = false := by simpa using hy
      have HCp := Lib.hid (own_caps HO.out)
      clear hy
      go_wp2
      go_ret
      exact ⟨p, cap, by rw [← HWf.out]; rfl, by rw [← HWf.out]; exact HCp.out.1, HCp.out.2, by rw [← HWf.out]; exact HFR.out _ L _ _ _ _ HB.out HM.out HO.out, HB.out⟩
    · have hyn : (y != -1) = true := by simpa using hy
      have hisB : isB F y = true := HY.out.resolve_left hy
      rw [isB, decide_eq_true_eq] at hisB
      cases gk with
      | zero => exact absurd (by simpa [endsB] using HEy.out) hy
      | succ gp =>
        obtain ⟨j, rfl⟩ := Int.eq_ofNat_of_zero_le hisB.1
        have hjF : j < F.length := by omega
        obtain ⟨hfk, g, off, rfl, hg, hnk⟩ := HF.out.below HB.out j F[j] (List.getElem?_eq_getElem hjF)
        have y0 : (0 : Int) ≤ (j : Int) := by omega
        have y1 : (j : Int) < (n : Int) := by rw [← HNN.out]; omega
        have HPu := Lib.hid (HU.out j hjF)
        rw [par_at hjF] at HPu
        have HE2 : Hid (endsB F gp F[j].parent = true) := Lib.hid (by
          have := HEy.out
          rw [endsB, Int.toNat_natCast, par_at hjF] at this
          simpa [hy] using this)
        have HW2 : Hid ((L ++ [F[j]]) ++ wayL F gp F[j].parent = WU) := Lib.hid (by
          have := HWy.out
          rw [wayL_at hjF] at this
          rw [← this]
          simp)
        have HM2 : Hid (∀ m ∈ L ++ [F[j]], m ∈ F) := Lib.hid (fun m hm => by
          rw [List.mem_append, List.mem_singleton] at hm
          rcases hm with hm | rfl
          · exact HM.out m hm
          · exact List.getElem_mem hjF)
        have c0 := hnk.c0
        have c1 := hnk.c1
        have c2 := hnk.c2
        have c3 := hnk.c3
        have c4 := hnk.c4
        have c5 := hnk.c5
        have HC4 : Hid (∀ W, Below w.heap.size w W → W.cell? ⟨g, off + j * 6 + 4, none⟩ = some (.int .i64 F[j].parent)) := Lib.hid (fun W hb => by
          obtain ⟨-, g', off', hA', hg', hn'⟩ := HF.out j F[j] (List.getElem?_eq_getElem hjF)
          cases hA'
          exact (hb.cell (p := ⟨g, off + j * 6 + 4, none⟩) hg').trans hn'.c4)
        clear hnk hfk hisB
        generalize F[j] = m at *
        obtain ⟨nL, hnL⟩ : ∃ nL, L.length = nL := ⟨_, rfl⟩
        have HNL := Lib.hid hnL
        rw [hnL] at HO hLg ⊢
        clear hnL
        obtain ⟨kd, nm0, tx, al, pa, kl, aA, aC, kA, kC⟩ := m
        obtain ⟨L2, hL2⟩ : ∃ L2, L2 = L ++ [(⟨kd, nm0, tx, al, pa, kl, aA, aC, kA, kC⟩ : Mn)] := ⟨_, rfl⟩
        simp only [] at c0 c1 c2 c3 c4 c5 HC4 HPu HE2 HW2
        have HXB : Hid (Below V.heap.size V (V.alloc (.cells #[.int .i64 kd, .string nm0, .string tx, .slice aA al.length aC, .int .i64 pa, .slice kA kl.length kC] 50))) := Lib.hid ((Below.refl _ _).alloc (Nat.le_refl _) _)
        have HXR := Lib.hid (own_below HO.out HXB.out)
        have HXC := Lib.hid (cells6 _ _ _ _ _ _ _ _ _ (heap_alloc_new V (.cells #[.int .i64 kd, .string nm0, .string tx, .slice aA al.length aC, .int .i64 pa, .slice kA kl.length kC] 50)))
        have HXS := Lib.hid (Nat.le_trans HB.out.size HXB.out.size)
        have HLn : Hid ((L ++ [(⟨kd, nm0, tx, al, pa, kl, aA, aC, kA, kC⟩ : Mn)]).length = nL + 1) := Lib.hid (by rw [List.length_append, HNL.out]; rfl)
        have HFc : Hid (fcells (L ++ [(⟨kd, nm0, tx, al, pa, kl, aA, aC, kA, kC⟩ : Mn)]) = fcells L ++ [.int .i64 kd, .string nm0, .string tx, .slice aA al.length aC, .int .i64 pa, .slice kA kl.length kC]) := Lib.hid (by rw [fcells, List.flatMap_append]; rfl)
        rw [← hL2] at HW2 HM2 HLn HFc
        clear hL2
        generalize al.length = aln at *
        generalize kl.length = kln at *
        go_wp2_with (at_builtin; refine wpList_append_own_at _ rfl _ _ 28 rfl w.heap.size 50 i0 (.agg #[.int .i64 0, .string ⟨#[]⟩, .string ⟨#[]⟩, .slice none 0 0, .int .i64 0, .slice none 0 0]) 6 96 Tryz.underlying28 HJ.out.1 HJ.out.2.1 HJ.out.2.2.1 HJ.out.2.2.2 rfl (by decide) _ _ _ rfl HXR.out ⟨V.heap.size, 0, none⟩ 1 1 [.int .i64 kd, .string nm0, .string tx, .slice aA aln aC, .int .i64 pa, .slice kA kln kC] rfl rfl HXC.out (fun u hu => by simp only [List.mem_cons, List.not_mem_nil, or_false] at hu; rcases hu with rfl | rfl | rfl | rfl | rfl | rfl <;> rfl) (by unfold maxLen; omega) (by omega) HXS.out ?_; intro v' V' hown' hgrow hnz hat; have HO' := Lib.hid hown'; have HGR := Lib.hid hgrow; clear hown' hgrow hnz hat; have HB9 : Hid (Below w.heap.size w V') := Lib.hid ((HB.out.trans (HXB.out.mono HB.out.size)).grown HGR.out HXS.out (fun q e => (HXR.out.lt q e).1)); clear c4; have c4 := HC4.out V' HB9.out)
        obtain ⟨p', cap', rfl, -⟩ := own_form2 HO'.out
        go_roundg gp
        case measure => omega
        case rel => exact ⟨V', L2, pa, p', cap', rfl, by rw [HLn.out], rfl, by rw [HLn.out]; omega, HPu, HE2, HW2, Lib.hid (by rw [HLn.out, HFc.out]; exact HO'.out), HM2, HB9⟩
end Go.Proofs.YtaacikjoafobfaaGreatDoor.Fi
