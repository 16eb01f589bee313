/-
  The way up from a node: as plain mathematics, and the program's list of it.
-/
import Derived.Test.YtcndplnnighjkaaGreatDoorPG40
import Derived.Test.YtcndplnnighjkaaGreatDoorPG02
import Derived.Test.YtcndplnnighjkaaGreatDoorPG04
import Derived.Test.YtcndplnnighjkaaGreatDoorPG14
import Derived.Test.YtcndplnnighjkaaGreatDoorPG42
import Derived.Test.YtcndplnnighjkaaGreatDoorPG26
import Derived.Test.YtcndplnnighjkaaGreatDoorPG16
import Derived.Test.YtcndplnnighjkaaGreatDoorPG13
import Derived.StillTailTactics
import Derived.Deep.LoopGhost
import Derived.WalkMore
namespace Go.Proofs.YtcndplnnighjkaaGreatDoor.Fi
open Go.ChangeShapes Go.WideShapes Go.ChangeAt Go.RowKit
open Sx (Tr Ms Mr TR MR XR tV r1)
set_option linter.unusedVariables false
set_option linter.unusedSimpArgs false
def wayL (F : List Mn) : Nat -> Int -> List Mn
 | 0, _ => []
 | n + 1, x => if x = -1 then [] else (F[x.toNat]?).toList ++ wayL F n (par F x.toNat)
def wayU (F : List Mn) (i : Nat) : List Mn := wayL F F.length i
theorem wayL_none (F : List Mn) (g : Nat) : wayL F g (-1) = [] := by cases g <;> simp [wayL]
theorem wayL_len (F : List Mn) : ∀ (g : Nat) (x : Int), (wayL F g x).length <= g
 | 0, x => by simp [wayL]
 | g + 1, x => by
   have := wayL_len F g (par F x.toNat)
   unfold wayL
   split
   · simp
   · rw [List.length_append]
     have h : ((F[x.toNat]?).toList).length <= 1 := by cases F[x.toNat]? <;> simp
     omega
theorem wayL_at {F : List Mn} {g j : Nat} (hj : j < F.length) : wayL F (g + 1) (j : Int) = F[j] :: wayL F g F[j].parent := by
 rw [wayL, if_neg (by omega), Int.toNat_natCast, par_at hj, List.getElem?_eq_getElem hj]
 rfl
theorem info_fn : (Tryz.prog.info? 55).map (fun i => (i.zero, i.size, i.bytes)) = some (some (.agg #[.int .i64 0, .string ⟨#[]⟩, .string ⟨#[]⟩, .slice none 0 0, .int .i64 0, .slice none 0 0]), 6, 96) := by kernel_rfl
theorem own_caps {W : World} {base size n cap : Nat} {e : TypeId} {p : Option Addr} {xs : List Value} (h : W.ownsRow base e size (.slice p n cap) n xs) : n <= cap /\ cap <= 9223372036854775807 := by
 rcases h.2 with ⟨hv, -⟩ | ⟨g, cap', cur, hv, hbg, hg, h1, h2, -⟩
 · cases hv
   exact ⟨Nat.le_refl _, by omega⟩
 · cases hv
   simp only [maxLen] at h2
   exact ⟨h1, by omega⟩
theorem way_fr {W V : World} {A : Option Addr} {F : List Mn} {base n cap : Nat} {p : Option Addr} {L : List Mn} (hF : FR W A F) (hb : Below W.heap.size W V) (hm : ∀ m ∈ L, m ∈ F) (h : V.ownsRow base 55 6 (.slice p n cap) L.length (fcells L)) : FR V p L := by
 intro i m hi
 obtain ⟨hil, -⟩ := List.getElem?_eq_some_iff.1 hi
 have hmem := hm m (List.mem_of_getElem? hi)
 obtain ⟨j, hj, hjm⟩ := List.mem_iff_getElem.1 hmem
 obtain ⟨hfit, gF, oF, -, hgF, hnF⟩ := hF.below hb j m (by rw [List.getElem?_eq_getElem hj, hjm])
 rcases h.2 with ⟨-, h'⟩ | ⟨g, cap', cur, hv, hbg, hg, h1, h2, h3, h4⟩
 · omega
 · cases hv
   have hr : RowAt V g 0 L := cells_row (fun j u hu => by
    have := h.cells rfl j u hu
    rw [<- this, show (⟨g, 0, none⟩ : Addr).add j = ⟨g, 0 + j, none⟩ by unfold Addr.add; split <;> simp_all])
   have hc := hr i m hi
   exact ⟨hfit, g, 0, rfl, (Array.getElem?_eq_some_iff.1 hg).1, ⟨hc.c0, hc.c1, hc.c2, hc.c3, hc.c4, hc.c5, hnF.ar, hnF.ir⟩⟩
set_option maxRecDepth 100000 in
set_option maxHeartbeats 4000000 in
theorem way_any (A : Option Addr) (F : List Mn) (c i : Nat) (w : World) (hF : FR w A F) (hm : mayB F = true) (hi : i < F.length) :
 Calls Tryz.prog 136 #[.slice A F.length c, .int .i64 i] w fun e w' => ∃ p cap, e = .returned (.slice p (wayU F i).length cap) /\ (wayU F i).length <= cap /\ cap <= 9223372036854775807 /\ FR w' p (wayU F i) /\ Below w.heap.size w w' := by
 obtain ⟨p1, p2, p3, p4, p5⟩ := mayB_parts hm
 have HF := Lib.hid hF
 have HU := Lib.hid (up_of p3)
 have HE := Lib.hid (p5 i hi)
 obtain ⟨WU, hWU⟩ : ∃ WU, wayU F i = WU := ⟨_, rfl⟩
 have HW := Lib.hid (show [] ++ wayL F F.length i = WU from hWU)
 have HX : Hid ((i : Int) = -1 \/ isB F i = true) := Lib.hid (.inr (by rw [isB, decide_eq_true_eq]; omega))
 have HFR := Lib.hid (fun (V : World) (L : List Mn) (base n cap : Nat) (p : Option Addr) (hb : Below w.heap.size w V) (hm : ∀ m ∈ L, m ∈ F) (h : V.ownsRow base 55 6 (.slice p n cap) L.length (fcells L)) => way_fr hF hb hm h)
 obtain ⟨i0, hi0, hz0, hz1, hz2⟩ := info_parts info_fn
 have HJ := Lib.hid (And.intro hi0 (And.intro hz0 (And.intro hz1 hz2)))
 rw [hWU]
 obtain ⟨n, hnn⟩ : ∃ n, F.length = n := ⟨_, rfl⟩
 have HNN := Lib.hid hnn
 rw [hnn] at hi HE HW p2 ⊢
 clear hF hm p1 p3 p4 p5 hnn hWU hi0 hz0 hz1 hz2
 go_enter Tryz.func136, Tryz.ntmps136
 go_wp2_with fail
 go_loopg [5, 6] n (fun g q5 q6 wr => ∃ (V : World) (L : List Mn) (y : Int) (p : Option Addr) (cap : Nat), V = wr /\ q5 = .slice p L.length cap /\ q6 = .int .i64 y /\ L.length + g <= n /\ Hid (y = -1 \/ isB F y = true) /\ Hid (endsB F g y = true) /\ Hid (L ++ wayL F g y = WU) /\ Hid (V.ownsRow w.heap.size 55 6 (.slice p L.length cap) L.length (fcells L)) /\ Hid (∀ m ∈ L, m ∈ F) /\ Hid (Below w.heap.size w V))
 case atStart => exact ⟨_, [], i, none, 0, rfl, rfl, rfl, by simp, HX, HE, HW, Lib.hid (World.ownsRow_nil _ _ _ _), Lib.hid (by simp), Lib.hid (Below.refl _ _)⟩
 case round =>
  clear HX HE HW
  obtain ⟨V, L, y, p, cap, rfl, rfl, rfl, hLg, HY, HEy, HWy, HO, HM, HB⟩ := hrel
  by_cases hy : y = -1
  · have HWf : Hid (L = WU) := Lib.hid (by have := HWy.out; rw [hy, wayL_none, List.append_nil] at this; exact this)
    have q0 : (y != -1) = false := by simpa using hy
    have HCp := Lib.hid (own_caps HO.out)
    clear hy
    go_wp2
    go_ret
    exact ⟨p, cap, by rw [<- HWf.out]; rfl, by rw [<- HWf.out]; exact HCp.out.1, HCp.out.2, by rw [<- HWf.out]; exact HFR.out _ L _ _ _ _ HB.out HM.out HO.out, HB.out⟩
  · have hyn : (y != -1) = true := by simpa using hy
    have hisB : isB F y = true := HY.out.resolve_left hy
    rw [isB, decide_eq_true_eq] at hisB
    cases gk with
    | zero => exact absurd (by simpa [endsB] using HEy.out) hy
    | succ gp =>
      obtain ⟨j, rfl⟩ := Int.eq_ofNat_of_zero_le hisB.1
      have hjF : j < F.length := by omega
      obtain ⟨hfk, g, off, rfl, hg, hnk⟩ := HF.out.below HB.out j F[j] (List.getElem?_eq_getElem hjF)
      have y0 : (0 : Int) <= (j : Int) := by omega
      have y1 : (j : Int) < (n : Int) := by rw [<- HNN.out]; omega
      have HPu := Lib.hid (HU.out j hjF)
      rw [par_at hjF] at HPu
      have HE2 : Hid (endsB F gp F[j].parent = true) := Lib.hid (by
       have := HEy.out
       rw [endsB, Int.toNat_natCast, par_at hjF] at this
       simpa [hy] using this)
      have HW2 : Hid ((L ++ [F[j]]) ++ wayL F gp F[j].parent = WU) := Lib.hid (by
       have := HWy.out
       rw [wayL_at hjF] at this
       rw [<- this]
       simp)
      have HM2 : Hid (∀ m ∈ L ++ [F[j]], m ∈ F) := Lib.hid (fun m hm => by
       rw [List.mem_append, List.mem_singleton] at hm
       rcases hm with hm | rfl
       · exact HM.out m hm
       · exact List.getElem_mem hjF)
      have c0 := hnk.c0
      have c1 := hnk.c1
      have c2 := hnk.c2
      have c3 := hnk.c3
      have c4 := hnk.c4
      have c5 := hnk.c5
      have HC4 : Hid (∀ W, Below w.heap.size w W -> W.cell? ⟨g, off + j * 6 + 4, none⟩ = some (.int .i64 F[j].parent)) := Lib.hid (fun W hb => by
       obtain ⟨-, g', off', hA', hg', hn'⟩ := HF.out j F[j] (List.getElem?_eq_getElem hjF)
       cases hA'
       exact (hb.cell (p := ⟨g, off + j * 6 + 4, none⟩) hg').trans hn'.c4)
      clear hnk hfk hisB
      generalize F[j] = m at *
      obtain ⟨nL, hnL⟩ : ∃ nL, L.length = nL := ⟨_, rfl⟩
      have HNL := Lib.hid hnL
      rw [hnL] at HO hLg ⊢
      clear hnL
      obtain ⟨kd, nm0, tx, al, pa, kl, aA, aC, kA, kC⟩ := m
      obtain ⟨L2, hL2⟩ : ∃ L2, L2 = L ++ [(⟨kd, nm0, tx, al, pa, kl, aA, aC, kA, kC⟩ : Mn)] := ⟨_, rfl⟩
      simp only [] at c0 c1 c2 c3 c4 c5 HC4 HPu HE2 HW2
      have HXB : Hid (Below V.heap.size V (V.alloc (.cells #[.int .i64 kd, .string nm0, .string tx, .slice aA al.length aC, .int .i64 pa, .slice kA kl.length kC] 55))) := Lib.hid ((Below.refl _ _).alloc (Nat.le_refl _) _)
      have HXR := Lib.hid (own_below HO.out HXB.out)
      have HXC := Lib.hid (cells6 _ _ _ _ _ _ _ _ _ (heap_alloc_new V (.cells #[.int .i64 kd, .string nm0, .string tx, .slice aA al.length aC, .int .i64 pa, .slice kA kl.length kC] 55)))
      have HXS := Lib.hid (Nat.le_trans HB.out.size HXB.out.size)
      have HLn : Hid ((L ++ [(⟨kd, nm0, tx, al, pa, kl, aA, aC, kA, kC⟩ : Mn)]).length = nL + 1) := Lib.hid (by rw [List.length_append, HNL.out]; rfl)
      have HFc : Hid (fcells (L ++ [(⟨kd, nm0, tx, al, pa, kl, aA, aC, kA, kC⟩ : Mn)]) = fcells L ++ [.int .i64 kd, .string nm0, .string tx, .slice aA al.length aC, .int .i64 pa, .slice kA kl.length kC]) := Lib.hid (by rw [fcells, List.flatMap_append]; rfl)
      rw [<- hL2] at HW2 HM2 HLn HFc
      clear hL2
      generalize al.length = aln at *
      generalize kl.length = kln at *
      go_wp2_with (at_builtin; refine wpList_append_own_at _ rfl _ _ 25 rfl w.heap.size 55 i0 (.agg #[.int .i64 0, .string ⟨#[]⟩, .string ⟨#[]⟩, .slice none 0 0, .int .i64 0, .slice none 0 0]) 6 96 Tryz.underlying25 HJ.out.1 HJ.out.2.1 HJ.out.2.2.1 HJ.out.2.2.2 rfl (by decide) _ _ _ rfl HXR.out ⟨V.heap.size, 0, none⟩ 1 1 [.int .i64 kd, .string nm0, .string tx, .slice aA aln aC, .int .i64 pa, .slice kA kln kC] rfl rfl HXC.out (fun u hu => by simp only [List.mem_cons, List.not_mem_nil, or_false] at hu; rcases hu with rfl | rfl | rfl | rfl | rfl | rfl <;> rfl) (by unfold maxLen; omega) (by omega) HXS.out ?_; intro v' V' hown' hgrow hnz hat; have HO' := Lib.hid hown'; have HGR := Lib.hid hgrow; clear hown' hgrow hnz hat; have HB9 : Hid (Below w.heap.size w V') := Lib.hid ((HB.out.trans (HXB.out.mono HB.out.size)).grown HGR.out HXS.out (fun q e => (HXR.out.lt q e).1)); clear c4; have c4 := HC4.out V' HB9.out)
      obtain ⟨p', cap', rfl, -⟩ := own_form2 HO'.out
      go_roundg gp
      case measure => omega
      case rel => exact ⟨V', L2, pa, p', cap', rfl, by rw [HLn.out], rfl, by rw [HLn.out]; omega, HPu, HE2, HW2, Lib.hid (by rw [HLn.out, HFc.out]; exact HO'.out), HM2, HB9⟩
end Go.Proofs.YtcndplnnighjkaaGreatDoor.Fi
namespace Go.Proofs.YtcndplnnighjkaaGreatDoor.Fi
open Go.ChangeShapes Go.WideShapes Go.ChangeAt Go.RowKit
open Sx (Tr Ms Mr TR MR XR tV r1)
set_option linter.unusedVariables false
set_option linter.unusedSimpArgs false
def rowB (l : List Ms) : List (List Tr × Bool) := l.map (·.2)
theorem rowB_len (l : List Ms) : (rowB l).length = l.length := by simp [rowB]
theorem rowB_child {l : List Ms} {k : Nat} (hk : k < l.length) : (((rowB l)[k]?).map Prod.snd).getD false = l[k].2.2 := by simp [rowB, List.getElem?_eq_getElem hk]
theorem rowB_drop (l : List Ms) (k : Nat) : rowB (l.drop k) = (rowB l).drop k := by simp [rowB, List.map_drop]
theorem rowB_take (l : List Ms) (k : Nat) : rowB (l.take k) = (rowB l).take k := by simp [rowB, List.map_take]
theorem MR.drop {w : World} {g off : Nat} {l : List Ms} (h : MR w (some ⟨g, off, none⟩) l) (k : Nat) : MR w (some ⟨g, off + k * 2, none⟩) (l.drop k) := fun i m hi => by
 rw [List.getElem?_drop] at hi
 obtain ⟨g', off', hA, hg, h1, h2, h3⟩ := h (k + i) m hi
 cases hA
 refine ⟨g, off + k * 2, rfl, hg, ?_, ?_, h3⟩
 · rw [show off + k * 2 + i * 2 = off + (k + i) * 2 by omega]; exact h1
 · rw [show off + k * 2 + i * 2 + 1 = off + (k + i) * 2 + 1 by omega]; exact h2
theorem MR.take {w : World} {A : Option Addr} {l : List Ms} (h : MR w A l) (k : Nat) : MR w A (l.take k) := fun i m hi => by
 rw [List.getElem?_take] at hi
 split at hi
 · exact h i m hi
 · cases hi
theorem FR.drop {w : World} {g off : Nat} {F : List Mn} (h : FR w (some ⟨g, off, none⟩) F) (k : Nat) : FR w (some ⟨g, off + k * 6, none⟩) (F.drop k) := fun i m hi => by
 rw [List.getElem?_drop] at hi
 obtain ⟨hf, g', off', hA, hg, hn⟩ := h (k + i) m hi
 cases hA
 refine ⟨hf, g, off + k * 6, rfl, hg, ?_⟩
 rw [show off + k * 6 + i * 6 = off + (k + i) * 6 by omega]
 exact hn
set_option maxRecDepth 100000 in
set_option maxHeartbeats 2000000 in
theorem split_any (A : Option Addr) (l : List Ms) (c : Nat) (w : World) (hM : MR w A l) (hne : l ≠ []) (hc : l.length <= c) (hcm : c <= 9223372036854775807) :
 Calls Tryz.prog 148 #[.slice A l.length c] w fun e w' => (∃ A2 c2, e = .returned (.tuple #[.slice A (cutAt (rowB l)) c, .slice A2 (l.length - cutAt (rowB l)) c2]) /\ MR w A2 (l.drop (cutAt (rowB l))) /\ l.length - cutAt (rowB l) <= c2 /\ c2 <= 9223372036854775807) /\ Below w.heap.size w w' := by
 have hpos : 0 < l.length := List.length_pos_iff.2 hne
 obtain ⟨g, off, rfl, hg, -, -, -⟩ := hM 0 l[0] (List.getElem?_eq_getElem hpos)
 have HM := Lib.hid hM
 have HD := Lib.hid (fun k => MR.drop hM k)
 have hcut : cutAt (rowB l) < l.length := by
  have := cut_lt (row := rowB l) (by intro e; exact hne (List.map_eq_nil_iff.1 e))
  rwa [rowB_len] at this
 have HE : Hid (bg (rowB l) (l.length - 1) = cutAt (rowB l)) := Lib.hid (by unfold cutAt; rw [rowB_len])
 have HBg : Hid (∀ k (hk : k + 1 < l.length), bg (rowB l) (k + 1) = if l[k + 1].2.2 = true then bg (rowB l) k else k + 1) := Lib.hid (fun k hk => by rw [bg, rowB_child hk])
 have HB0 : Hid (bg (rowB l) 0 = 0) := Lib.hid rfl
 generalize cutAt (rowB l) = R at *
 generalize rowB l = row at *
 obtain ⟨n, hnn⟩ : ∃ n, l.length = n := ⟨_, rfl⟩
 have HNN := Lib.hid hnn
 rw [hnn] at hc hpos HE hcut ⊢
 clear hM hne hnn
 have k0 : (0 : Int) < (n : Int) := by omega
 go_enter Tryz.func148, Tryz.ntmps148
 go_wp2_with fail
 go_loopw [4] (fun q wr => ∃ k : Nat, k < n /\ q = .int .i64 k /\ Hid (bg row k = R) /\ w = wr) (fun q _ => (intOf q).toNat)
 case atStart => exact ⟨n - 1, by omega, by go_num, HE, rfl⟩
 case round =>
  clear HE
  obtain ⟨k, hk, rfl, HK, rfl⟩ := hrel
  cases k with
  | zero =>
    have HR : Hid (R = 0) := Lib.hid (by rw [<- HK.out]; exact HB0.out)
    have hRl : R = 0 := HR.out
    subst hRl
    have hcn : ¬ (c = 0) := by omega
    go_wp2_with fail
    go_quiet (fail)
    go_wp2
    go_ret2
    exact ⟨⟨some ⟨g, off, none⟩, c, by simp, by have := HD.out 0; simpa using this, by omega, hcm⟩, below_drewF (Below.refl _ _) _⟩
  | succ k =>
    have hkl : k + 1 < l.length := by rw [HNN.out]; exact hk
    obtain ⟨g', off', hA', hg', d0, d1, -⟩ := HM.out (k + 1) l[k + 1] (List.getElem?_eq_getElem hkl)
    cases hA'
    have HBk := Lib.hid (HBg.out k hkl)
    generalize l[k + 1] = m at *
    obtain ⟨⟨mA, mc⟩, mT, mch⟩ := m
    simp only [] at d0 d1 HBk
    have i0 : (0 : Int) <= ((k + 1 : Nat) : Int) := by omega
    have i1 : ((k + 1 : Nat) : Int) < (n : Int) := by omega
    have i2 : (0 : Int) < ((k + 1 : Nat) : Int) := by omega
    cases mch with
    | true =>
      have HK2 : Hid (bg row k = R) := Lib.hid (by rw [<- HK.out, HBk.out]; rfl)
      go_wp2
      go_roundw
      case rel => exact ⟨k, by omega, by go_num, HK2, by first | trivial | rfl⟩
      case measure => simp [intOf] <;> omega
    | false =>
      have HR : Hid (R = k + 1) := Lib.hid (by rw [<- HK.out, HBk.out]; rfl)
      have hRl : R = k + 1 := HR.out
      have hcn : ¬ (c = k + 1) := by omega
      have hcn2 : k + 1 <= c := by omega
      have hcn3 : k + 1 <= n := by omega
      subst hRl
      go_wp2_with fail
      go_quiet (fail)
      go_wp2
      go_ret2
      exact ⟨⟨some ⟨g, off + (k + 1) * 2, none⟩, c - (k + 1), by simp, HD.out (k + 1), by omega, by omega⟩, below_drewF (Below.refl _ _) _⟩
set_option maxRecDepth 100000 in
set_option maxHeartbeats 4000000 in
theorem run_any (A : Option Addr) (L : List Mn) (c : Nat) (B : Option Addr) (l : List Ms) (d : Nat) (w : World) (hF : FR w A L) (hN : ∀ m ∈ L, NB m) (hM : MR w B l) (hT : ∀ s ∈ l, s.2.1.length <= 9223372036854775807 /\ ∀ t ∈ s.2.1, t.2.1.size <= 100000) (hL : L.length <= 1000) (hl : l.length <= 9223372036854775807) :
 Calls Tryz.prog 149 #[.slice A L.length c, .slice B l.length d] w (GivesV (.bool (runB fitsB L (rowB l))) w) := by
 have HF := Lib.hid hF
 have HM := Lib.hid hM
 obtain ⟨R, hR⟩ : ∃ R, runB fitsB L (rowB l) = R := ⟨_, rfl⟩
 rw [hR]
 by_cases hlt : L.length < l.length
 · have HR : Hid (R = false) := Lib.hid (by rw [<- hR]; simp [runB, rowB_len]; omega)
   have q0 : (L.length : Int) < (l.length : Int) := by omega
   generalize L.length = n at *
   generalize l.length = m at *
   clear hF hN hM hT hR hlt
   go_enter Tryz.func149, Tryz.ntmps149
   go_wp2
   go_ret
   exact ⟨ret_bool (by rw [HR.out]), Below.refl _ _⟩
 · have HNo : Hid (∀ k (hk : k < l.length), fitsB (L[l.length - 1 - k]'(by omega)) l[k].2.1 = false -> R = false) := Lib.hid (fun k hk h => by
    rw [<- hR, Bool.eq_false_iff]
    intro e
    have := (runB_iff.1 e).2 k (by rw [rowB_len]; exact hk)
    unfold fitAt at this
    rw [rowB_len, List.getElem?_eq_getElem (show l.length - 1 - k < L.length by omega)] at this
    simp only [rowB, List.getElem?_map, List.getElem?_eq_getElem hk, Option.map_some] at this
    rw [h] at this
    cases this)
   have HYes : Hid ((∀ k (hk : k < l.length), fitsB (L[l.length - 1 - k]'(by omega)) l[k].2.1 = true) -> R = true) := Lib.hid (fun h => by
    rw [<- hR, runB_iff, rowB_len]
    refine ⟨by omega, fun k hk => ?_⟩
    unfold fitAt
    rw [rowB_len, List.getElem?_eq_getElem (show l.length - 1 - k < L.length by omega)]
    simp only [rowB, List.getElem?_map, List.getElem?_eq_getElem hk, Option.map_some]
    exact h k hk)
   have HFi := Lib.hid (fun (k i : Nat) (hk : k < l.length) (hi : i < L.length) (V : World) (hb : Below w.heap.size w V) => fits_any L[i] l[k].1.1 l[k].2.1 l[k].1.2 V ((by
    obtain ⟨-, g, off, -, hg, hn⟩ := hF.below hb i L[i] (List.getElem?_eq_getElem hi)
    exact hn.ar)) (hN _ (List.getElem_mem hi)) ((by
    obtain ⟨g, off, -, hg, -, -, ht⟩ := hM.below hb k l[k] (List.getElem?_eq_getElem hk)
    exact ht)) (hT _ (List.getElem_mem hk)).2 (hT _ (List.getElem_mem hk)).1)
   have q0 : ¬ (L.length : Int) < (l.length : Int) := by omega
   obtain ⟨n, hn⟩ : ∃ n, L.length = n := ⟨_, rfl⟩
   obtain ⟨m, hm⟩ : ∃ m, l.length = m := ⟨_, rfl⟩
   have HN := Lib.hid hn
   have HMm := Lib.hid hm
   have hmn : m <= n := by omega
   rw [hn] at q0 hL ⊢
   rw [hm] at q0 hl ⊢
   clear hF hN hM hT hR hn hm
   go_enter Tryz.func149, Tryz.ntmps149
   go_wp2_with fail
   go_loopw [14] (fun q wr => ∃ k : Nat, k <= m /\ q = .int .i64 k /\ Hid (∀ j (hj : j < l.length), j < k -> fitsB (L[l.length - 1 - j]'(by have e1 := HN.out; have e2 := HMm.out; omega)) l[j].2.1 = true) /\ Hid (Below w.heap.size w wr)) (fun q _ => m - (intOf q).toNat)
   case atStart => exact ⟨0, Nat.zero_le _, rfl, Lib.hid (fun j _ h => by omega), Lib.hid (Below.refl _ _)⟩
   case round =>
    obtain ⟨k, hk, rfl, HT, HB⟩ := hrel
    by_cases hlt : k < m
    · have k0 : (0 : Int) <= (k : Int) := by omega
      have k1 : (k : Int) < (m : Int) := by omega
      have hkl : k < l.length := by rw [HMm.out]; exact hlt
      obtain ⟨i, hi⟩ : ∃ i, m - 1 - k = i := ⟨_, rfl⟩
      have hin : i < n := by omega
      have hiL : i < L.length := by rw [HN.out]; exact hin
      have e1 : IntKind.i64.wrap ((m : Int) - 1) = ((m - 1 : Nat) : Int) := by rw [IntKind.wrap_i64]; omega
      have e2 : IntKind.i64.wrap (((m - 1 : Nat) : Int) - (k : Int)) = (i : Int) := by rw [IntKind.wrap_i64]; omega
      generalize m - 1 = m1 at e1 e2
      have j0 : (0 : Int) <= (i : Int) := by omega
      have j1 : (i : Int) < (n : Int) := by omega
      obtain ⟨gB, oB, rfl, hgB, d0, d1, -⟩ := (HM.out.below HB.out) k l[k] (List.getElem?_eq_getElem hkl)
      obtain ⟨-, gA, oA, rfl, hgA, hnd⟩ := (HF.out.below HB.out) i L[i] (List.getElem?_eq_getElem hiL)
      have HFk := Lib.hid (fun (V : World) (hb : Below wr.heap.size wr V) => HFi.out k i hkl hiL V (HB.out.trans (hb.mono HB.out.size)))
      have HNk : Hid (fitsB L[i] l[k].2.1 = false -> R = false) := Lib.hid (fun h => HNo.out k hkl (by simp only [HMm.out, hi]; exact h))
      have HT2 : Hid (fitsB L[i] l[k].2.1 = true -> ∀ j (hj : j < l.length), j < k + 1 -> fitsB (L[l.length - 1 - j]'(by have e1 := HN.out; have e2 := HMm.out; omega)) l[j].2.1 = true) := Lib.hid (fun h j hj hjk => by
       by_cases e : j = k
       · subst e
         simp only [HMm.out, hi]
         exact h
       · exact HT.out j hj (by omega))
      have HN6 := Lib.hid (fun (V : World) (hb : Below wr.heap.size wr V) => hnd.below hgA hb)
      clear hnd
      generalize fitsB L[i] l[k].2.1 = Y at *
      generalize l[k] = s at *
      generalize L[i] = nd at *
      obtain ⟨⟨sA, sc⟩, sT, sch⟩ := s
      obtain ⟨sn, hsn⟩ : ∃ sn, sT.length = sn := ⟨_, rfl⟩
      simp only [] at d0 d1 HFk
      rw [hsn] at d0 HFk
      clear hsn
      obtain ⟨WA, hWA⟩ : ∃ WA, WA = wr.alloc (.cells #[.slice sA sn sc, .bool sch] 162) := ⟨_, rfl⟩
      have HWA : Hid (Below wr.heap.size wr WA) := Lib.hid (by rw [hWA]; exact (Below.refl _ _).alloc (Nat.le_refl _) _)
      have hX : WA.heap[wr.heap.size]? = some (.cells #[.slice sA sn sc, .bool sch] 162 (0, 0)) := by rw [hWA]; exact heap_alloc_new _ _
      go_wp2_with fail
      rw [<- hWA]
      clear hWA d0 d1
      obtain ⟨d0, d1⟩ := block2 hX
      obtain ⟨c0, c1, c2, c3, c4, c5, -, -⟩ := HN6.out WA HWA.out
      clear hX
      obtain ⟨kd, nm0, tx, al, pa, kl, aA, aC, kA, kC⟩ := nd
      unfold nval at HFk
      simp only [] at c0 c1 c2 c3 c4 c5 HFk
      go_still_tail 10, (by kernel_rfl)
      change wpList _ _ _ _ _ WA.drew
      go_wp2_with fail
      refine (HFk.out _ HWA.out.drew).mono ?_
      rintro e w1 ⟨rfl, hb⟩
      have HB1 := Lib.hid (HB.out.trans ((HWA.out.drew.trans (hb.mono HWA.out.drew.size)).mono HB.out.size))
      clear hb
      cases Y with
      | true =>
        have HT3 := Lib.hid (HT2.out rfl)
        go_wp2
        go_roundw
        case rel => exact ⟨k + 1, by omega, by go_num, HT3, HB1⟩
        case measure => simp [intOf] <;> omega
      | false =>
        have HR := Lib.hid (HNk.out rfl)
        go_wp2
        go_ret
        exact ⟨ret_bool (by rw [HR.out]), HB1.out⟩
    · obtain rfl : k = m := by omega
      have HR : Hid (R = true) := Lib.hid (HYes.out (fun j hj => HT.out j hj (by rw [<- HMm.out]; exact hj)))
      go_wp2
      go_ret
      exact ⟨ret_bool (by rw [HR.out]), HB.out⟩
end Go.Proofs.YtcndplnnighjkaaGreatDoor.Fi
namespace Go.Proofs.YtcndplnnighjkaaGreatDoor.Fi
open Go.ChangeShapes Go.WideShapes Go.ChangeAt Go.RowKit
open Sx (Tr Ms Mr TR MR XR tV r1)
set_option linter.unusedVariables false
set_option linter.unusedSimpArgs false
def TB (l : List Ms) : Prop := ∀ s ∈ l, s.2.1.length <= 9223372036854775807 /\ ∀ t ∈ s.2.1, t.2.1.size <= 100000
theorem TB.take {l : List Ms} (h : TB l) (k : Nat) : TB (l.take k) := fun s hs => h s (List.mem_of_mem_take hs)
theorem TB.drop {l : List Ms} (h : TB l) (k : Nat) : TB (l.drop k) := fun s hs => h s (List.mem_of_mem_drop hs)
structure Wy (w : World) (A : Option Addr) (L : List Mn) (c : Nat) : Prop where
 fr : FR w A L
 nb : ∀ m ∈ L, NB m
 cap : L.length <= c
 big : c <= 9223372036854775807
 len : L.length <= 1000
structure Rw (w : World) (B : Option Addr) (l : List Ms) (d : Nat) : Prop where
 mr : MR w B l
 tb : TB l
 cap : l.length <= d
 big : d <= 9223372036854775807
theorem Wy.none {w : World} {A : Option Addr} {c : Nat} (hc : c <= 9223372036854775807) : Wy w A [] c := ⟨fun i m hi => by simp at hi, by simp, by simp, hc, by simp⟩
theorem Wy.drop {w : World} {g off : Nat} {L : List Mn} {c : Nat} (h : Wy w (some ⟨g, off, Option.none⟩) L c) {k : Nat} (hk : k <= L.length) : Wy w (some ⟨g, off + k * 6, Option.none⟩) (L.drop k) (c - k) :=
 ⟨FR.drop h.fr k, fun m hm => h.nb m (List.mem_of_mem_drop hm), by have := h.cap; rw [List.length_drop]; omega, by have := h.big; omega, by have := h.len; rw [List.length_drop]; omega⟩
theorem Wy.addr {w : World} {A : Option Addr} {L : List Mn} {c : Nat} (h : Wy w A L c) (hp : 0 < L.length) : ∃ g off, A = some ⟨g, off, Option.none⟩ := by
 obtain ⟨-, g, off, e, -⟩ := h.fr 0 L[0] (List.getElem?_eq_getElem hp)
 exact ⟨g, off, e⟩
theorem Rw.take {w : World} {B : Option Addr} {l : List Ms} {d : Nat} (h : Rw w B l d) (k : Nat) : Rw w B (l.take k) d :=
 ⟨MR.take h.mr k, h.tb.take k, by have := h.cap; rw [List.length_take]; omega, h.big⟩
theorem Wy.below {w w' : World} {A : Option Addr} {L : List Mn} {c : Nat} (h : Wy w A L c) (hb : Below w.heap.size w w') : Wy w' A L c := ⟨h.fr.below hb, h.nb, h.cap, h.big, h.len⟩
theorem Rw.below {w w' : World} {B : Option Addr} {l : List Ms} {d : Nat} (h : Rw w B l d) (hb : Below w.heap.size w w') : Rw w' B l d := ⟨h.mr.below hb, h.tb, h.cap, h.big⟩
theorem split_rw {w : World} {B : Option Addr} {l : List Ms} {d : Nat} (h : Rw w B l d) (hne : l ≠ []) (V : World) (hb : Below w.heap.size w V) :
 Calls Tryz.prog 148 #[.slice B l.length d] V fun e w' => (∃ A2 c2, e = .returned (.tuple #[.slice B (cutAt (rowB l)) d, .slice A2 (l.length - cutAt (rowB l)) c2]) /\ Rw V A2 (l.drop (cutAt (rowB l))) c2) /\ Below V.heap.size V w' :=
 (split_any B l d V (h.mr.below hb) hne h.cap h.big).mono (fun e w' hc => by
   obtain ⟨⟨A2, c2, he, hm, h1, h2⟩, hb⟩ := hc
   exact ⟨⟨A2, c2, he, hm, h.tb.drop _, by rw [List.length_drop]; exact h1, h2⟩, hb⟩)
theorem run_wy {w : World} {A : Option Addr} {L : List Mn} {c : Nat} {B : Option Addr} {l : List Ms} {d : Nat} (h : Wy w A L c) (k : Rw w B l d) : Calls Tryz.prog 149 #[.slice A L.length c, .slice B l.length d] w (GivesV (.bool (runB fitsB L (rowB l))) w) :=
 run_any A L c B l d w h.fr h.nb k.mr k.tb h.len (Nat.le_trans k.cap k.big)
theorem rowB_ne {l : List Ms} (h : l ≠ []) : rowB l ≠ [] := fun e => h (List.map_eq_nil_iff.1 e)
set_option maxRecDepth 100000 in
set_option maxHeartbeats 4000000 in
theorem ends_any (A : Option Addr) (L : List Mn) (c : Nat) (B : Option Addr) (l : List Ms) (d : Nat) (w : World) (hW : Wy w A L c) (hR : Rw w B l d) :
 Calls Tryz.prog 139 #[.slice A L.length c, .slice B l.length d] w (GivesV (.bool (eD fitsB (rowB l).reverse L)) w) := by
 obtain ⟨R, hRe⟩ : ∃ R, eD fitsB (rowB l).reverse L = R := ⟨_, rfl⟩
 rw [hRe]
 by_cases hne : l = []
 · subst hne
   have HR : Hid (R = false) := Lib.hid (by rw [<- hRe]; cases L <;> rfl)
   clear hRe hW hR
   generalize L.length = n at *
   go_enter Tryz.func139, Tryz.ntmps139
   go_wp2_with fail
   go_step3
   go_wp2
   rw [Exit.noGoto_ret]
   go_ret
   exact ⟨ret_bool (by rw [HR.out]), Below.refl _ _⟩
 have hlp : 0 < l.length := List.length_pos_iff.2 hne
 have hcut : cutAt (rowB l) < l.length := by
  have := cut_lt (rowB_ne hne)
  rwa [rowB_len] at this
 have HSp := Lib.hid (split_rw hR hne)
 have HRu := Lib.hid (fun (A2 : Option Addr) (c2 : Nat) (V : World) (hb : Below w.heap.size w V) (h : Rw V A2 (l.drop (cutAt (rowB l))) c2) => show Calls Tryz.prog 149 #[.slice A L.length c, .slice A2 (l.length - cutAt (rowB l)) c2] V (GivesV (.bool (runB fitsB L ((rowB l).drop (cutAt (rowB l))))) V) from by
  have := run_wy (hW.below hb) h
  rwa [List.length_drop, rowB_drop] at this)
 have HE : Hid (R = (runB fitsB L ((rowB l).drop (cutAt (rowB l))) && ((rowB (l.take (cutAt (rowB l)))).isEmpty || aD fitsB (rowB (l.take (cutAt (rowB l)))).reverse (L.drop (l.length - cutAt (rowB l)))))) := Lib.hid (by
  rw [<- hRe, eD_cut (rowB_ne hne), <- rowB_take, List.length_drop, rowB_len])
 have HTk := Lib.hid (hR.take (cutAt (rowB l)))
 have htl : (l.take (cutAt (rowB l))).length = cutAt (rowB l) := by rw [List.length_take]; omega
 have HRl : Hid (runB fitsB L ((rowB l).drop (cutAt (rowB l))) = true -> l.length - cutAt (rowB l) <= L.length) := Lib.hid (fun h => by
  have := (runB_iff.1 h).1
  rwa [List.length_drop, rowB_len] at this)
 have HW := Lib.hid hW
 have hcL := hW.cap
 have hcb := hW.big
 have q0 : ((l.length : Int) == 0) = false := by simp; omega
 obtain ⟨ah, hah⟩ : ∃ ah, l.take (cutAt (rowB l)) = ah := ⟨_, rfl⟩
 rw [hah] at HE HTk htl
 generalize runB fitsB L ((rowB l).drop (cutAt (rowB l))) = Y at *
 generalize cutAt (rowB l) = ct at *
 generalize l.length = n at *
 clear hne hRe hah hW hR
 obtain ⟨pl, hpl⟩ : ∃ pl, n - ct = pl := ⟨_, rfl⟩
 rw [hpl] at HSp HRu HE HRl
 have hpp : 0 < pl := by omega
 clear hcut
 go_enter Tryz.func139, Tryz.ntmps139
 go_wp2_with fail
 go_step3
 go_wp2_with fail
 refine (HSp.out w (Below.refl _ _)).mono ?_
 rintro e w1 ⟨⟨A2, c2, rfl, hr⟩, hb⟩
 have HB1 := Lib.hid hb
 have HRu1 := Lib.hid (HRu.out A2 c2 w1 hb (hr.below hb))
 clear hr hb
 go_wp2_with fail
 refine HRu1.out.mono ?_
 rintro e w2 ⟨rfl, hb⟩
 have HB2 := Lib.hid (HB1.out.trans (hb.mono HB1.out.size))
 clear hb
 cases Y with
 | false =>
   have HR : Hid (R = false) := Lib.hid (by rw [HE.out]; rfl)
   go_wp2
   rw [Exit.noGoto_ret]
   go_ret
   exact ⟨ret_bool (by rw [HR.out]), HB2.out⟩
 | true =>
   have hple := HRl.out rfl
   obtain ⟨gA, oA, rfl⟩ := HW.out.addr (by omega)
   have HN1 := Lib.hid (HW.out.drop hple)
   have HL : Hid ((L.drop pl).length = L.length - pl) := Lib.hid (by rw [List.length_drop])
   have HE2 : Hid (R = ((rowB ah).isEmpty || aD fitsB (rowB ah).reverse (L.drop pl))) := Lib.hid (by rw [HE.out]; rfl)
   clear HE HRl HRu HSp HRu1
   go_wp2_with fail
   all_goals
    go_step3
    go_wp2_with fail
    go_loopg [0, 5] ct (fun g q0 q5 wr => ∃ (V : World) (A' : Option Addr) (c' : Nat) (way : List Mn) (B' : Option Addr) (d' : Nat) (ah : List Ms), V = wr /\ q0 = .slice A' way.length c' /\ q5 = .slice B' ah.length d' /\ ah.length <= g /\ Hid (Wy w A' way c') /\ Hid (Rw w B' ah d') /\ Hid (R = ((rowB ah).isEmpty || aD fitsB (rowB ah).reverse way)) /\ Hid (Below w.heap.size w V))
    case atStart => exact ⟨_, _, _, L.drop pl, B, d, ah, rfl, by rw [HL.out], by rw [htl], by omega, Lib.hid (by first | exact HN1.out | exact (by rw [List.drop_of_length_le (by omega)]; exact Wy.none (by omega))), HTk, HE2, HB2⟩
    case round =>
     clear HB2 HB1 HE2 HTk HN1 HL HW
     obtain ⟨V, A', c', way, B', d', ah', rfl, rfl, rfl, hag, HWy, HRw, HRe, HB⟩ := hrel
     by_cases hne : ah' = []
     · subst hne
       have HR : Hid (R = true) := Lib.hid (by rw [HRe.out]; rfl)
       clear HRe
       go_wp2
       rw [Exit.noGoto_ret]
       go_ret
       exact ⟨ret_bool (by rw [HR.out]), HB.out⟩
     · have hcut : cutAt (rowB ah') < ah'.length := by
        have := cut_lt (rowB_ne hne)
        rwa [rowB_len] at this
       have HSp := Lib.hid (split_rw HRw.out hne V HB.out)
       have HRu := Lib.hid (fun (A4 : Option Addr) (c4 : Nat) (wy : List Mn) (A3 : Option Addr) (c3 : Nat) (U : World) (hy : Wy U A4 wy c4) (h : Rw U A3 (ah'.drop (cutAt (rowB ah'))) c3) => show Calls Tryz.prog 149 #[.slice A4 wy.length c4, .slice A3 (ah'.length - cutAt (rowB ah')) c3] U (GivesV (.bool (runB fitsB wy ((rowB ah').drop (cutAt (rowB ah'))))) U) from by
        have := run_wy hy h
        rwa [List.length_drop, rowB_drop] at this)
       have HR2 : Hid (R = aD fitsB (rowB ah').reverse way) := Lib.hid (by
        have e : (rowB ah').isEmpty = false := by rw [List.isEmpty_eq_false_iff]; exact rowB_ne hne
        rw [HRe.out, e, Bool.false_or])
       have HHit := Lib.hid (fun (wy : List Mn) (hr : runB fitsB wy ((rowB ah').drop (cutAt (rowB ah'))) = true) => show aD fitsB (rowB ah').reverse wy = ((rowB (ah'.take (cutAt (rowB ah')))).isEmpty || aD fitsB (rowB (ah'.take (cutAt (rowB ah')))).reverse (wy.drop (ah'.length - cutAt (rowB ah')))) /\ ah'.length - cutAt (rowB ah') <= wy.length from by
        refine ⟨?_, ?_⟩
        · rw [aD_hit (rowB_ne hne) hr, <- rowB_take, List.length_drop, rowB_len]
        · have := (runB_iff.1 hr).1
          rwa [List.length_drop, rowB_len] at this)
       have HMiss := Lib.hid (fun (m : Mn) (wy : List Mn) (hr : runB fitsB (m :: wy) ((rowB ah').drop (cutAt (rowB ah'))) = false) => aD_miss (fit := fitsB) (rowB_ne hne) hr)
       have HTk2 := Lib.hid (HRw.out.take (cutAt (rowB ah')))
       have htl2 : (ah'.take (cutAt (rowB ah'))).length = cutAt (rowB ah') := by rw [List.length_take]; omega
       have hpos : 0 < ah'.length := by omega
       obtain ⟨ah2, hah2⟩ : ∃ ah2, ah'.take (cutAt (rowB ah')) = ah2 := ⟨_, rfl⟩
       rw [hah2] at HTk2 htl2 HHit
       obtain ⟨prow, hprow⟩ : ∃ prow, (rowB ah').drop (cutAt (rowB ah')) = prow := ⟨_, rfl⟩
       rw [hprow] at HHit HMiss HRu
       obtain ⟨part, hpart⟩ : ∃ part, ah'.drop (cutAt (rowB ah')) = part := ⟨_, rfl⟩
       rw [hpart] at HSp HRu
       generalize (rowB ah').reverse = rr at *
       generalize cutAt (rowB ah') = ct2 at *
       generalize ah'.length = n2 at *
       clear hne hah2 hprow hpart HRe HRw
       obtain ⟨pl2, hpl2⟩ : ∃ pl2, n2 - ct2 = pl2 := ⟨_, rfl⟩
       rw [hpl2] at HSp HRu HHit
       have hpp2 : 0 < pl2 := by omega
       cases gk with
       | zero => exact absurd hag (by omega)
       | succ gp =>
         have hgp : ct2 <= gp := by omega
         have n0 : (0 : Int) < (n2 : Int) := by omega
         clear hcut hpl2 hag
         go_wp2_with fail
         refine HSp.out.mono ?_
         rintro e w3 ⟨⟨A3, c3, rfl, hr⟩, hb⟩
         have HB3 := Lib.hid (HB.out.trans (hb.mono HB.out.size))
         have HR3 : Hid (∀ U, Below w3.heap.size w3 U -> Rw U A3 part c3) := Lib.hid (fun U hU => hr.below (hb.trans (hU.mono hb.size)))
         clear hr hb
         go_wp2_with fail
         go_loopg [0] way.length (fun g q0 wr => ∃ (U : World) (A4 : Option Addr) (c4 : Nat) (wy : List Mn), U = wr /\ q0 = .slice A4 wy.length c4 /\ wy.length <= g /\ Hid (Wy w A4 wy c4) /\ Hid (R = aD fitsB rr wy) /\ Hid (Below w3.heap.size w3 U))
         case atStart => exact ⟨_, A', c', way, rfl, rfl, Nat.le_refl _, HWy, HR2, Lib.hid (Below.refl _ _)⟩
         case round =>
          clear HR2 HWy
          obtain ⟨U, A4, c4, wy, rfl, rfl, hwg, HWy, HR2, HU⟩ := hrel
          have HBU := Lib.hid (HB3.out.trans (HU.out.mono HB3.out.size))
          by_cases h0 : wy.length = 0
          · obtain rfl : wy = [] := List.eq_nil_of_length_eq_zero h0
            have HR : Hid (R = false) := Lib.hid (by rw [HR2.out, aD_nil, eD_nil])
            clear h0
            go_wp2
            rw [Exit.noGoto_ret]
            go_ret
            exact ⟨ret_bool (by rw [HR.out]), HBU.out⟩
          · obtain ⟨g4, o4, rfl⟩ := HWy.out.addr (by omega)
            have HRun := Lib.hid (HRu.out _ c4 wy A3 c3 U (HWy.out.below HBU.out) (HR3.out U HU.out))
            have HHt := Lib.hid (HHit.out wy)
            have HMs : Hid (runB fitsB wy prow = false -> R = aD fitsB rr (wy.drop 1)) := Lib.hid (fun h => by
             cases wy with
             | nil => exact absurd rfl h0
             | cons m up => rw [HR2.out, HMiss.out m up h]; rfl)
            generalize runB fitsB wy prow = Y at *
            have hwc := HWy.out.cap
            have hwb := HWy.out.big
            have HL1 : Hid (∀ k, (wy.drop k).length = wy.length - k) := Lib.hid (fun k => by rw [List.length_drop])
            have HDr := Lib.hid (fun (k : Nat) (hk : k <= wy.length) => HWy.out.drop hk)
            have HD0 : Hid (∀ k, wy.length <= k -> Wy w (some ⟨g4, o4, none⟩) (wy.drop k) 0) := Lib.hid (fun k hk => by rw [List.drop_of_length_le hk]; exact Wy.none (by omega))
            obtain ⟨nw, hnw⟩ : ∃ nw, wy.length = nw := ⟨_, rfl⟩
            rw [hnw] at h0 hwc hwg HRun HL1 HDr HD0 HHt ⊢
            have w0 : (0 : Int) < (nw : Int) := by omega
            clear hnw
            cases gk with
            | zero => exact absurd hwg (by omega)
            | succ gq =>
              go_wp2_with fail
              refine HRun.out.mono ?_
              rintro e w5 ⟨rfl, hb⟩
              have HB5 := Lib.hid (HBU.out.trans (hb.mono HBU.out.size))
              have HU5 := Lib.hid (HU.out.trans (hb.mono HU.out.size))
              clear hb
              cases Y with
              | true =>
                obtain ⟨hh1, hh2⟩ := HHt.out rfl
                have HRn : Hid (R = ((rowB ah2).isEmpty || aD fitsB (rowB ah2).reverse (wy.drop pl2))) := Lib.hid (by rw [HR2.out, hh1])
                have HDp := Lib.hid (HDr.out pl2 hh2)
                have HLp := Lib.hid (HL1.out pl2)
                clear hh1
                go_wp2_with fail
                all_goals
                 go_roundg gp
                 case measure => omega
                 case rel => exact ⟨_, _, _, wy.drop pl2, B', d', ah2, rfl, by rw [HLp.out], by rw [htl2], by omega, Lib.hid (by first | exact HDp.out | exact HD0.out pl2 (by omega)), HTk2, HRn, HB5⟩
              | false =>
                have HRn := Lib.hid (HMs.out rfl)
                have HDp := Lib.hid (HDr.out 1 (by omega))
                have HLp := Lib.hid (HL1.out 1)
                go_wp2_with fail
                all_goals
                 go_roundg gq
                 case measure => omega
                 case rel => exact ⟨_, _, _, wy.drop 1, rfl, by rw [HLp.out], by rw [HLp.out]; omega, Lib.hid (by first | exact HDp.out | exact HD0.out 1 (by omega)), HRn, HU5⟩
end Go.Proofs.YtcndplnnighjkaaGreatDoor.Fi
namespace Go.Proofs.YtcndplnnighjkaaGreatDoor.Fi
open Go.ChangeShapes Go.WideShapes Go.ChangeAt Go.RowKit
open Sx (Tr Ms Mr TR MR XR tV r1)
set_option linter.unusedVariables false
set_option linter.unusedSimpArgs false
structure Xs (w : World) (B : Option Addr) (x : List Mr) : Prop where
 xr : XR w B x
 len : x.length <= 9223372036854775807
 row : ∀ m ∈ x, TB m.2 /\ m.2.length <= m.1.2 /\ m.1.2 <= 9223372036854775807
theorem Xs.below {w w' : World} {B : Option Addr} {x : List Mr} (h : Xs w B x) (hb : Below w.heap.size w w') : Xs w' B x := ⟨h.xr.below hb, h.len, h.row⟩
theorem Xs.rw {w : World} {B : Option Addr} {x : List Mr} (h : Xs w B x) {k : Nat} (hk : k < x.length) : Rw w x[k].1.1 x[k].2 x[k].1.2 := by
 obtain ⟨g, off, -, -, -, hm⟩ := h.xr k x[k] (List.getElem?_eq_getElem hk)
 obtain ⟨h1, h2, h3⟩ := h.row _ (List.getElem_mem hk)
 exact ⟨hm, h1, h2, h3⟩
def isP (F : List Mn) (x : List Mr) (i : Nat) : Bool := x.any (fun m => eD fitsB (rowB m.2).reverse (wayU F i))
theorem may_nb {F : List Mn} (h : mayB F = true) : ∀ m ∈ F, NB m := fun m hm => by
 obtain ⟨a, b, c⟩ := may_str h m hm
 have := (may_sz h).2 m hm
 exact ⟨by omega, by omega, fun x hx => by have := c x hx; omega⟩
theorem wayL_mem {F : List Mn} : ∀ {g : Nat} {x : Int} {m : Mn}, m ∈ wayL F g x -> m ∈ F
 | 0, x, m, h => by simp [wayL] at h
 | g + 1, x, m, h => by
   unfold wayL at h
   split at h
   · simp at h
   · rw [List.mem_append] at h
     rcases h with h | h
     · rw [Option.mem_toList] at h
       exact List.mem_of_getElem? h
     · exact wayL_mem h
set_option maxHeartbeats 1000000 in
theorem row1 (k0 : Nat) (A : Option Addr) (L : List Mn) (c : Nat) (m : Mr) (w : World) (hk : w.heap[k0]? = some (.cells #[.slice A L.length c] 25 (0, 0))) (hW : Wy w A L c) (hR : Rw w m.1.1 m.2 m.1.2) :
 Calls Tryz.prog 138 #[r1 m, .pointer (some ⟨k0, 0, none⟩)] w (GivesV (.bool (eD fitsB (rowB m.2).reverse L)) w) := by
 have HX := Lib.hid (ends_any A L c m.1.1 m.2 m.1.2 w hW hR)
 have x0 := block1 hk
 unfold r1
 generalize eD fitsB (rowB m.2).reverse L = R at *
 generalize L.length = n at *
 generalize m.2.length = k at *
 clear hk hW hR
 go_enter Tryz.func138, Tryz.ntmps138
 go_wp2_with fail
 refine HX.out.mono ?_
 rintro e w1 ⟨rfl, hb⟩
 have HB := Lib.hid hb
 clear hb
 go_wp2
 go_ret
 exact ⟨rfl, HB.out⟩
set_option maxRecDepth 100000 in
set_option maxHeartbeats 1000000 in
theorem some_any (A : Option Addr) (F : List Mn) (c i : Nat) (B : Option Addr) (x : List Mr) (d : Nat) (w : World) (hF : FR w A F) (hm : mayB F = true) (hi : i < F.length) (hX : Xs w B x) :
 Calls Tryz.prog 115 #[.slice A F.length c, .int .i64 i, .slice B x.length d] w (GivesV (.bool (isP F x i)) w) := by
 have HW := Lib.hid (way_any A F c i w hF hm hi)
 have hl : (wayU F i).length <= 1000 := by
  have := wayL_len F F.length i
  have := (may_sz hm).1
  unfold wayU
  omega
 have HH := Lib.hid (fun (V : World) (p : Option Addr) (cap k0 : Nat) (hb : Below w.heap.size w V) (hk : V.heap[k0]? = some (.cells #[.slice p (wayU F i).length cap] 25 (0, 0))) (hf : FR V p (wayU F i)) (h1 : (wayU F i).length <= cap) (h2 : cap <= 9223372036854775807) =>
  has_row (fun m => eD fitsB (rowB m.2).reverse (wayU F i)) k0 B x d V (hX.below hb).xr hX.len (fun k hk' U hU => row1 k0 p (wayU F i) cap x[k] U ((hU.block _ (lt_of_block hk)).trans hk) ⟨hf.below hU, fun m hm' => may_nb hm m (wayL_mem hm'), h1, h2, hl⟩ ((hX.below (hb.trans (hU.mono hb.size))).rw hk')))
 have HE : Hid (isP F x i = x.any (fun m => eD fitsB (rowB m.2).reverse (wayU F i))) := Lib.hid rfl
 rw [<- HE.out] at HH
 generalize isP F x i = R at *
 generalize wayU F i = W at *
 generalize F.length = n at *
 generalize x.length = nx at *
 clear hF hm hi hX hl HE
 go_enter Tryz.func115, Tryz.ntmps115
 go_wp2_with fail
 refine HW.out.mono ?_
 rintro e w1 ⟨p, cap, rfl, h1, h2, hf, hb⟩
 have HB1 := Lib.hid hb
 have hb2 : Below w1.heap.size w1 (w1.alloc (.cells #[.slice p W.length cap] 25)) := (Below.refl _ _).alloc (Nat.le_refl _) _
 have HB2 := Lib.hid (hb.trans (hb2.mono hb.size))
 have HH2 := Lib.hid (HH.out _ p cap w1.heap.size HB2.out (heap_alloc_new w1 (.cells #[.slice p W.length cap] 25)) (hf.below hb2) h1 h2)
 generalize W.length = nw at *
 clear h1 h2 hf hb hb2
 go_wp2_with fail
 refine HH2.out.mono ?_
 rintro e w2 ⟨rfl, hb⟩
 have HB3 := Lib.hid (HB2.out.trans (hb.mono HB2.out.size))
 clear hb
 go_wp2
 go_ret
 exact ⟨rfl, HB3.out⟩
structure Two (w : World) (k0 k1 : Nat) (A : Option Addr) (F : List Mn) (c : Nat) (B : Option Addr) (x : List Mr) (d : Nat) : Prop where
 f : w.heap[k0]? = some (.cells #[.slice A F.length c] 26 (0, 0))
 s : w.heap[k1]? = some (.cells #[.slice B x.length d] 102 (0, 0))
 fr : FR w A F
 xs : Xs w B x
theorem Two.below {w w' : World} {k0 k1 : Nat} {A : Option Addr} {F : List Mn} {c : Nat} {B : Option Addr} {x : List Mr} {d : Nat} (h : Two w k0 k1 A F c B x d) (hb : Below w.heap.size w w') : Two w' k0 k1 A F c B x d :=
 ⟨(hb.block _ (lt_of_block h.f)).trans h.f, (hb.block _ (lt_of_block h.s)).trans h.s, h.fr.below hb, h.xs.below hb⟩
set_option maxHeartbeats 1000000 in
theorem all1 (k0 k1 : Nat) (A : Option Addr) (F : List Mn) (c i : Nat) (B : Option Addr) (x : List Mr) (d : Nat) (w : World) (hT : Two w k0 k1 A F c B x d) (hm : mayB F = true) (hi : i < F.length) :
 Calls Tryz.prog 114 #[.int .i64 i, .pointer (some ⟨k0, 0, none⟩), .pointer (some ⟨k1, 0, none⟩)] w (GivesV (.bool (!isP F x i)) w) := by
 have HS := Lib.hid (some_any A F c i B x d w hT.fr hm hi hT.xs)
 have x0 := block1 hT.f
 have x1 := block1 hT.s
 generalize isP F x i = R at *
 generalize F.length = n at *
 generalize x.length = nx at *
 clear hT hm hi
 go_enter Tryz.func114, Tryz.ntmps114
 go_wp2_with fail
 refine HS.out.mono ?_
 rintro e w2 ⟨rfl, hb⟩
 have HB2 := Lib.hid hb
 clear hb
 go_wp2
 go_ret
 exact ⟨rfl, HB2.out⟩
def lay2b (w : World) (A : Option Addr) (n c : Nat) (B : Option Addr) (m d : Nat) : World := (w.alloc (.cells #[.slice A n c] 26)).alloc (.cells #[.slice B m d] 102)
theorem lay2b_below (w : World) (A : Option Addr) (n c : Nat) (B : Option Addr) (m d : Nat) : Below w.heap.size w (lay2b w A n c B m d) := ((Below.refl _ _).alloc (Nat.le_refl _) _).alloc (by simp) _
theorem lay2b_two {w : World} {A : Option Addr} {F : List Mn} {c : Nat} {B : Option Addr} {x : List Mr} {d : Nat} (hF : FR w A F) (hX : Xs w B x) : Two (lay2b w A F.length c B x.length d) w.heap.size (w.heap.size + 1) A F c B x d := by
 refine ⟨(Below.heap_alloc _ _ _ (by simp)).trans (heap_alloc_new w _), ?_, hF.below (lay2b_below ..), hX.below (lay2b_below ..)⟩
 have := heap_alloc_new (w.alloc (.cells #[.slice A F.length c] 26)) (.cells #[.slice B x.length d] 102)
 rwa [World.size_alloc] at this
end Go.Proofs.YtcndplnnighjkaaGreatDoor.Fi
namespace Go.Proofs.YtcndplnnighjkaaGreatDoor.Fi
open Go.ChangeShapes Go.WideShapes Go.ChangeAt Go.RowKit
open Sx (Tr Ms Mr TR MR XR tV r1)
set_option linter.unusedVariables false
set_option linter.unusedSimpArgs false
set_option maxHeartbeats 2000000 in
theorem idx_del (p : Int -> Bool) (k0 k1 : Nat) (Ak : Option Addr) (l : List (Int)) (ck : Nat) (w : World) (hI : IR w Ak l) (hl : l.length <= 1000)
 (hP : ∀ (k : Nat) (hk : k < l.length) (V : World), Below w.heap.size w V -> Calls Tryz.prog 114 #[.int .i64 l[k], .pointer (some ⟨k0, 0, none⟩), .pointer (some ⟨k1, 0, none⟩)] V (GivesV (.bool (p l[k])) V)) :
 Calls Tryz.prog 106 #[.slice Ak l.length ck, .func (.func 114) #[] #[.pointer (some ⟨k0, 0, none⟩), .pointer (some ⟨k1, 0, none⟩)]] w fun e w' => e = .returned (.int .i64 (fst1 p l)) /\ Below w.heap.size w w' := by
 have HP := Lib.hid hP
 have HI := Lib.hid hI
 clear hP hI
 obtain ⟨n, hnn⟩ : ∃ n, l.length = n := ⟨_, rfl⟩
 have HNN := Lib.hid hnn
 obtain ⟨R, hR⟩ : ∃ R, fst1 p l = R := ⟨_, rfl⟩
 have HR := Lib.hid hR
 rw [hR]
 rw [hnn] at hl ⊢
 clear hnn hR
 go_enter Tryz.func106, Tryz.ntmps106
 go_wp2
 go_loopw [8] (fun q wr => ∃ k : Nat, k <= n /\ q = .int .i64 k /\ Hid ((l.take k).any p = false) /\ Hid (Below w.heap.size w wr)) (fun q _ => n - (intOf q).toNat)
 case atStart => exact ⟨0, Nat.zero_le _, rfl, Lib.hid rfl, Lib.hid (Below.refl _ _)⟩
 case round =>
  obtain ⟨k, hk, rfl, HT, HB⟩ := hrel
  by_cases hlt : k < n
  · have k0 : (0 : Int) <= (k : Int) := by omega
    have k1 : (k : Int) < (n : Int) := by omega
    have hkl : k < l.length := by rw [HNN.out]; exact hlt
    obtain ⟨ga, oa, rfl, hga, hc⟩ := (HI.out.below HB.out) k hkl
    rw [getD_at 0 hkl] at hc
    have HK := Lib.hid (HP.out k hkl wr HB.out)
    have HT2 := Lib.hid (any_more hkl HT.out)
    have HH : Hid (p l[k] = true -> R = (k : Int)) := Lib.hid (fun h => by rw [<- HR.out]; exact fst1_hit hkl HT.out h)
    generalize l[k] = y at *
    go_wp2_with fail
    refine HK.out.mono ?_
    rintro e w1 ⟨rfl, hb⟩
    have HB1 := Lib.hid (HB.out.trans (hb.mono HB.out.size))
    clear hb
    generalize HY : p _ = Y at *
    clear HY
    cases Y with
    | true =>
      have HA := Lib.hid (HH.out rfl)
      go_wp2
      go_ret
      exact ⟨by rw [HA.out]; rfl, HB1.out⟩
    | false =>
      go_wp2
      go_roundw
      case rel => exact ⟨k + 1, by omega, by go_num, HT2, HB1⟩
      case measure => simp [intOf] <;> omega
  · obtain rfl : k = n := by omega
    have e : l.take k = l := List.take_of_length_le (by rw [HNN.out]; exact Nat.le_refl _)
    rw [e] at HT
    have HA : Hid (R = -1) := Lib.hid (by rw [<- HR.out]; exact fst1_miss HT.out)
    go_wp2
    go_ret
    exact ⟨by rw [HA.out]; rfl, HB.out⟩
set_option maxRecDepth 1000000 in
set_option maxHeartbeats 4000000 in
theorem delete_all (p : Int -> Bool) (k0 k1 : Nat) (B : Nat) (l : List Int) (v : Value) (w : World) (ho : w.ownsRow B 3 1 v l.length (ivs l)) (hl : l.length <= 1000) (hP : ∀ (y : Int), y ∈ l -> ∀ V, w.grownBy V v.ownBlock -> Calls Tryz.prog 114 #[.int .i64 y, .pointer (some ⟨k0, 0, none⟩), .pointer (some ⟨k1, 0, none⟩)] V (GivesV (.bool (p y)) V)) :
 Calls Tryz.prog 113 #[v, .func (.func 114) #[] #[.pointer (some ⟨k0, 0, none⟩), .pointer (some ⟨k1, 0, none⟩)]] w fun e w' => ∃ v', e = .returned v' /\ w'.ownsRow B 3 1 v' (l.filter fun x => !p x).length (ivs (l.filter fun x => !p x)) /\ w.grownBy w' v.ownBlock /\ v'.ownBlock = v.ownBlock := by
 obtain ⟨pl, cap, rfl, hnc, hcm, -⟩ := own_form ho
 unfold maxLen at hcm
 have HIX := Lib.hid (idx_del p k0 k1 pl l cap w (own_ir2 ho) hl (fun k hk V hb => hP l[k] (List.getElem_mem hk) V (grown_below (grown_refl w _) hb)))
 rcases Bool.eq_false_or_eq_true (l.any p) with hany | hany
 · obtain ⟨i0, hi0, hf, hp, h0⟩ := fst1_any hany
   obtain ⟨g, rfl⟩ : ∃ g, pl = some ⟨g, 0, none⟩ := by
    rcases ho.2 with ⟨-, h'⟩ | ⟨g, c, cur, hv, -⟩
    · omega
    · cases hv; exact ⟨g, rfl⟩
   have HPP : Hid (∀ (y : Int), y ∈ l -> ∀ V, w.grownBy V (some g) -> Calls Tryz.prog 114 #[.int .i64 y, .pointer (some ⟨k0, 0, none⟩), .pointer (some ⟨k1, 0, none⟩)] V (GivesV (.bool (p y)) V)) := Lib.hid hP
   rw [hf] at HIX
   have HS : Hid (l.take i0 = (l.take (i0 + 1)).filter (fun x => !p x)) := Lib.hid (filter_start hi0 h0 hp).symm
   obtain ⟨n, hn⟩ : ∃ n, l.length = n := ⟨_, rfl⟩
   have HN := Lib.hid hn
   have HW0 : Hid (w.ownsRow B 3 1 (.slice (some ⟨g, 0, none⟩) n cap) n (ivs l)) := Lib.hid (by rw [hn] at ho; exact ho)
   rw [hn] at hl hnc hi0 HIX ⊢
   obtain ⟨i0', hIi, hz0, hz1, hz2⟩ := info_parts info_int
   have hv3 : ∀ w, (zeroValue 3).run Tryz.prog w = .ok (.int .i64 0) w := fun w => by simp [zeroValue, typeInfo, hIi, hz0]
   have hcl : ∀ (i : Nat) (W1 : World) (L : List Int), i < n -> W1.ownsRow B 3 1 (.slice (some ⟨g, 0, none⟩) n cap) n (ivs L) -> ∀ ty, (Builtin.clear_ #[28] ty #[.slice (some ⟨g, i, none⟩) (n - i) (cap - i)]).run Tryz.prog W1 = .ok (.tuple #[]) (W1.setCells g i (List.replicate (n - i) (.int .i64 0))) :=
    fun i W1 L hi hO1 ty => Lib.run_clear_slice W1 _ 3 ty _ Tryz.underlying28 hv3 rfl rfl g i (n - i) (cap - i) (by omega) (fun t ht => by rw [own_at_int hO1 (by omega)]; rfl) (fun t ht => hO1.frozenAt _)
   have HCL := Lib.hid hcl
   clear ho hP hcl hIi hz0 hz1 hz2 hv3 hn hany hf hp h0
   go_enter Tryz.func113, Tryz.ntmps113
   go_wp2_with fail
   refine HIX.out.mono ?_
   rintro e w1 ⟨rfl, hb⟩
   have HG1 : Hid (w.grownBy w1 (some g)) := Lib.hid (grown_below (grown_refl w _) hb)
   have HW1 : Hid (w1.ownsRow B 3 1 (.slice (some ⟨g, 0, none⟩) n cap) n (ivs l)) := Lib.hid (own_below HW0.out hb)
   clear hb
   have q0 : ¬ ((i0 : Int) = -1) := by omega
   have q1 : ((i0 : Int) == -1) = false := by simp
   go_wp2
   go_loopw [5, 6] (fun qi qj wr => ∃ (i j : Nat) (L : List Int), qi = .int .i64 i /\ qj = .int .i64 j /\ i < j /\ j <= n /\ Hid (L.length = l.length) /\ Hid (L.take i = (l.take j).filter (fun x => !p x)) /\ Hid (L.drop j = l.drop j) /\ Hid (wr.ownsRow B 3 1 (.slice (some ⟨g, 0, none⟩) n cap) n (ivs L)) /\ Hid (w.grownBy wr (some g))) (fun _ qj _ => n - (intOf qj).toNat)
   case atStart => exact ⟨i0, i0 + 1, l, rfl, by go_num, by omega, by omega, Lib.hid rfl, HS, Lib.hid rfl, HW1, HG1⟩
   case round =>
    obtain ⟨i, j, L, rfl, rfl, hij, hjn, HL, HT, HD, HW, HG⟩ := hrel
    by_cases hlt : j < n
    · have j0 : (0 : Int) <= (j : Int) := by omega
      have j1 : (j : Int) < (n : Int) := by omega
      have i1 : (0 : Int) <= (i : Int) := by omega
      have i2 : (i : Int) < (n : Int) := by omega
      have hjl : j < l.length := by rw [HN.out]; exact hlt
      have hcj : wr.cell? ⟨g, j, none⟩ = some (.int .i64 l[j]) := by
       rw [own_at_int HW.out hlt]
       have := drop_at HD.out
       rw [List.getD_eq_getElem?_getD, this, List.getElem?_eq_getElem hjl]; rfl
      have hfz : wr.frozen? ⟨g, i, none⟩ = false := HW.out.frozenAt _
      have HR := Lib.hid (HPP.out l[j] (List.getElem_mem hjl) wr HG.out)
      have HK1 := Lib.hid (fun (hq : (!p l[j]) = true) => del_keep HL.out HT.out hij hjl HD.out hq)
      have HK2 := Lib.hid (fun (hq : (!p l[j]) = false) => del_skip HT.out hjl HD.out hq)
      generalize l[j] = y at *
      go_wp2_with fail
      refine HR.out.mono ?_
      rintro e w2 ⟨rfl, hb⟩
      have HW2 : Hid (w2.ownsRow B 3 1 (.slice (some ⟨g, 0, none⟩) n cap) n (ivs L)) := Lib.hid (own_below HW.out hb)
      have HG2 := Lib.hid (grown_below HG.out hb)
      clear hb hcj hfz
      rcases Bool.eq_false_or_eq_true (p y) with hy | hy
      · have HK := Lib.hid (HK2.out (by rw [hy]; rfl))
        rw [hy]
        go_wp2
        go_roundw
        case rel => exact ⟨i, j + 1, L, rfl, by go_num, by omega, by omega, HL, Lib.hid HK.out.1, Lib.hid HK.out.2, HW2, HG2⟩
        case measure => simp [intOf] <;> omega
      · have HK := Lib.hid (HK1.out (by rw [hy]; rfl))
        rw [hy]
        obtain ⟨old, hco⟩ : ∃ u, w2.cell? ⟨g, i, none⟩ = some u := ⟨_, own_at_int HW2.out (by omega)⟩
        have hfz : w2.frozen? ⟨g, i, none⟩ = false := HW2.out.frozenAt _
        have HW3 : Hid ((w2.setCell ⟨g, i, none⟩ (.int .i64 y)).ownsRow B 3 1 (.slice (some ⟨g, 0, none⟩) n cap) n (ivs (L.set i y))) := Lib.hid (by rw [set_map_ivs]; exact (HW2.out.stored i _).1)
        have HG3 := Lib.hid (HG2.out.trans (HW2.out.stored i (.int .i64 y)).2)
        go_wp2
        go_roundw
        case rel => exact ⟨i + 1, j + 1, L.set i y, by go_num, by go_num, by omega, by omega, Lib.hid (by rw [List.length_set]; exact HL.out), Lib.hid HK.out.1, Lib.hid HK.out.2, HW3, HG3⟩
        case measure => simp [intOf] <;> omega
    · obtain rfl : j = n := by omega
      have hin : i < j := hij
      have HC := Lib.hid (HCL.out i wr L hin HW.out)
      have hcl := HC.out
      have e1 : (i : Int) <= (j : Int) := by omega
      have e2 : (0 : Int) <= (i : Int) := by omega
      have e3 : ¬ (cap = i) := by omega
      have e4 : i <= cap := by omega
      have e5 : i <= j := by omega
      have e6 : (i : Int) <= (cap : Int) := by omega
      go_wp2
      go_ret
      have hz : (List.replicate (j - i) (Value.int .i64 0)) = ivs (List.replicate (j - i) 0) := by simp [ivs]
      have hT := HT.out
      have hle : (l.take j).filter (fun x => !p x) = l.filter (fun x => !p x) := by rw [<- HN.out, List.take_length]
      rw [hle] at hT
      have hLl : L.length = j := by rw [HL.out, HN.out]
      have hlen : (l.filter fun x => !p x).length = i := by rw [<- hT, List.length_take]; omega
      refine ⟨_, rfl, ?_, ?_, rfl⟩
      · rw [hlen, hz]
        have h3 := own_shrink (own_over (List.replicate (j - i) 0) i wr _ HW.out) (m := i) (by omega)
        rw [over_eq _ _ _ (by simp; omega), List.append_assoc, List.take_left' (by rw [List.length_take]; omega), hT] at h3
        exact h3
      · exact grown_setCells _ _ _ _ HG.out
 · rw [fst1_miss hany] at HIX
   rw [filter_all hany]
   have HO := Lib.hid ho
   obtain ⟨n, hn⟩ : ∃ n, l.length = n := ⟨_, rfl⟩
   rw [hn] at HO HIX hnc hl ⊢
   clear ho hP hn hany
   go_enter Tryz.func113, Tryz.ntmps113
   go_wp2_with fail
   refine HIX.out.mono ?_
   rintro e w1 ⟨rfl, hb⟩
   have HB := Lib.hid hb
   clear hb
   go_wp2
   go_ret
   exact ⟨_, rfl, own_below HO.out HB.out, grown_below (grown_refl w _) HB.out, rfl⟩
theorem ivN_filter (l : List Nat) (q : Nat -> Bool) : ivs ((l.map Int.ofNat).filter fun y => !(!q y.toNat)) = ivN (l.filter q) := by
 unfold ivN
 congr 1
 rw [List.filter_map]
 congr 1
 refine List.filter_congr (fun a _ => ?_)
 simp
theorem len_filter (l : List Nat) (q : Nat -> Bool) : ((l.map Int.ofNat).filter fun y => !(!q y.toNat)).length = (l.filter q).length := by
 rw [List.filter_map, List.length_map]
 congr 1
 refine List.filter_congr (fun a _ => ?_)
 simp
set_option maxRecDepth 100000 in
set_option maxHeartbeats 2000000 in
theorem all_any (A : Option Addr) (F : List Mn) (c i : Nat) (B : Option Addr) (x : List Mr) (d : Nat) (w : World) (hF : FR w A F) (hm : mayB F = true) (hi : i < F.length) (hX : Xs w B x) :
 Calls Tryz.prog 69 #[.slice A F.length c, .int .i64 i, .slice B x.length d] w fun e w' => ∃ v, e = .returned v /\ w'.ownsRow w.heap.size 3 1 v ((ord F i).filter (isP F x)).length (ivN ((ord F i).filter (isP F x))) /\ Below w.heap.size w w' := by
 have h2 := lay2b_two (c := c) (d := d) hF hX
 obtain ⟨W, hW⟩ : ∃ W, W = lay2b w A F.length c B x.length d := ⟨_, rfl⟩
 have HWb : Hid (Below w.heap.size w W) := Lib.hid (by rw [hW]; exact lay2b_below ..)
 rw [<- hW] at h2
 have HO := Lib.hid (worder_any A F c i W (hF.below HWb.out) hm hi)
 have hol := ord_len hm hi
 have hn60 := (may_sz hm).1
 have HD := Lib.hid (fun (V : World) (v : Value) (hb : Below W.heap.size W V) (ho : V.ownsRow W.heap.size 3 1 v (ord F i).length (ivN (ord F i))) =>
  delete_all (fun y => !isP F x y.toNat) w.heap.size (w.heap.size + 1) W.heap.size ((ord F i).map Int.ofNat) v V (by rw [List.length_map]; exact ho) (by rw [List.length_map]; omega) (fun y hy U hU => by
   obtain ⟨k, hk, rfl⟩ := List.mem_map.1 hy
   have hkF := ord_lt hm hi hk
   have hbU : Below W.heap.size W U := hb.grown hU hb.size (fun q e => (ho.lt q e).1)
   exact all1 _ _ A F c k B x d U (h2.below hbU) hm hkF))
 have HR1 := Lib.hid (ivN_filter (ord F i) (isP F x))
 have HR2 := Lib.hid (len_filter (ord F i) (isP F x))
 simp only [HR1.out, HR2.out] at HD
 unfold lay2b at hW
 generalize (ord F i).filter (isP F x) = R at *
 generalize ord F i = os at *
 generalize F.length = n at *
 generalize x.length = nx at *
 clear hF hm hi hX h2 HR1 HR2
 go_enter Tryz.func69, Tryz.ntmps69
 go_wp2_with fail
 rw [<- hW]
 clear hW
 refine HO.out.mono ?_
 rintro e w1 ⟨v, rfl, hv, hb⟩
 have HD1 := Lib.hid (HD.out w1 v hb hv)
 have HB1 := Lib.hid hb
 have HV1 := Lib.hid hv
 clear hb hv
 go_wp2_with fail
 refine HD1.out.mono ?_
 rintro e w2 ⟨v', rfl, ho, hg, hbk⟩
 have HO2 := Lib.hid (own_mono ho HWb.out.size)
 have HB2 := Lib.hid (HWb.out.trans ((HB1.out.grown hg HB1.out.size (fun q e => (HV1.out.lt q e).1)).mono HWb.out.size))
 clear ho hg hbk
 go_wp2
 go_ret
 exact ⟨_, rfl, HO2.out, HB2.out⟩
end Go.Proofs.YtcndplnnighjkaaGreatDoor.Fi
