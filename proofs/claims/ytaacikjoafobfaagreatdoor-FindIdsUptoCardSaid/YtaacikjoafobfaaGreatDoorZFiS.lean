/-
  What of a forest, and of a selector, a row's end asks; what Parse tells; law 10's small case.
-/
import Derived.Test.YtaacikjoafobfaaGreatDoorZFiI
import Derived.Test.YtaacikjoafobfaaGreatDoorZFiL
import Derived.Test.YtaacikjoafobfaaGreatDoorZFiN
import Derived.Test.YtaacikjoafobfaaGreatDoorG28
namespace Go.Proofs.YtaacikjoafobfaaGreatDoor.Fi
open Go.ChangeShapes Go.WideShapes Go.ChangeAt Go.RowKit
open Sx (Tr Ms Mr TR MR XR tV r1 ls te stp rws cx cl cx_iff)
set_option linter.unusedVariables false
set_option linter.unusedSimpArgs false

theorem tls_map {α β : Type} (f : α → β) : ∀ l : List α, tls (l.map f) = (tls l).map (List.map f)
  | [] => rfl
  | a :: l => by simp [tls, tls_map f l]
theorem fitsB_core (m : Mn) (T : List Tr) : fitsB (core m) T = fitsB m T := rfl
theorem eD_core : ∀ (rr : List (List Tr × Bool)) (w : List Mn), eD fitsB rr (w.map core) = eD fitsB rr w
  | [], w => by cases w <;> rfl
  | s :: rr, [] => rfl
  | s :: rr, m :: up => by
    have e : (tls (up.map core)).any (eD fitsB rr) = (tls up).any (eD fitsB rr) := by
      rw [tls_map, List.any_map]
      congr 1
      funext l
      exact eD_core rr l
    simp only [List.map_cons, eD, fitsB_core, eD_core rr up, e]
theorem wayL_core (F : List Mn) : ∀ (g : Nat) (x : Int), wayL (F.map core) g x = (wayL F g x).map core
  | 0, x => rfl
  | g + 1, x => by
    unfold wayL
    split
    · rfl
    · rw [core_par, wayL_core F g, List.map_append, List.getElem?_map]
      cases F[x.toNat]? <;> rfl
theorem isP_core (F : List Mn) (x : List Mr) (i : Nat) : isP (F.map core) x i = isP F x i := by
  unfold isP wayU
  congr 1
  funext m
  rw [List.length_map, wayL_core, eD_core]
theorem isP_like {F G : List Mn} (h : G.map core = F.map core) (x : List Mr) : isP G x = isP F x := funext fun i => by rw [← isP_core G, h, isP_core]
theorem isP_cx {F : List Mn} {x y : List Mr} (h : cx x = cx y) (i : Nat) : isP F x i = isP F y i := by
  have key : ∀ z : List Mr, isP F z i = (cx z).any (fun l => eD fitsB l.reverse (wayU F i)) := fun z => by
    unfold isP cx
    rw [List.any_map]
    rfl
  rw [key, key, h]
theorem firstP_like {F G : List Mn} (h : G.map core = F.map core) (x : List Mr) (i : Nat) : firstP G x i = firstP F x i := by unfold firstP; rw [isP_like h, ord_like h]
theorem firstP_cx {F : List Mn} {x y : List Mr} (h : cx x = cx y) (i : Nat) : firstP F x i = firstP F y i := by
  unfold firstP
  rw [show isP F x = isP F y from funext (isP_cx h)]
theorem fitsB_like {F G : List Mn} (h : G.map core = F.map core) {i : Nat} (hG : i < G.length) (hF : i < F.length) (T : List Tr) : fitsB G[i] T = fitsB F[i] T := by
  have e : core G[i] = core F[i] := by
    have := congrArg (fun l => l[i]?) h
    simpa [List.getElem?_map, List.getElem?_eq_getElem hG, List.getElem?_eq_getElem hF] using this
  rw [← fitsB_core, e, fitsB_core]
/-! ### what Parse tells -/
theorem wx_names {x : List Mr} {N : Nat} (h : Sl.wx (rws x) ≤ N) : ∀ m ∈ x, ∀ s ∈ m.2, ∀ t ∈ s.2.1, t.2.1.size ≤ N := fun m hm s hs t ht => by
  have h2 := Sl.wx_row (List.mem_map_of_mem (f := fun m : Mr => m.2.map stp) hm)
  have h4 := Sl.wr_step (List.mem_map_of_mem (f := stp) hs)
  have h5 := Sl.wc_test (List.mem_map_of_mem (f := te) ht)
  have e : Sl.ws (stp s) = 4 + Sl.wc (s.2.1.map te) := rfl
  have e2 : Sl.wt (te t) = t.2.1.size + t.2.2.size + 6 := by
    show (ls t.2.1).length + (ls t.2.2).length + 6 = _
    rw [Sx.ls_len, Sx.ls_len]
  unfold Sl.wr at h2
  rw [rws] at h
  omega
theorem xs_of {w : World} {base : Nat} {v : Value} {x : List Mr} (h : Sx.Sr w base v x) (hw : Sl.wx (rws x) ≤ 100000) : ∃ A c, v = .slice A x.length c ∧ Xs w A x := by
  obtain ⟨A, c, rfl, hX⟩ := Sx.xr_of h
  refine ⟨A, c, rfl, hX, ?_, fun m hm => ?_⟩
  · have := own_caps h.row
    omega
  · have hr := h.sub m hm
    have hc := own_caps hr.row
    refine ⟨fun s hs => ⟨?_, fun t ht => wx_names hw m hm s hs t ht⟩, hc.1, hc.2⟩
    have := own_caps (hr.sub s hs)
    omega
theorem parse_xs {t : ByteArray} (ht : t.size ≤ 1000) {X : List (List Sl.Stp)} (h : Sl.parse (ls t) = .ok X) (V : World) : Calls Tryz.prog 26 #[.string t] V fun e w' => (∃ (x : List Mr) (A : Option Addr) (c : Nat), e = .returned (.tuple #[.slice A x.length c, .int .i64 0, .int .i64 0]) ∧ Xs w' A x ∧ rws x = X) ∧ Below V.heap.size V w' :=
  (Sx.sel_parse t V (by omega)).mono (fun e w' hc => by
    obtain ⟨hc, hb⟩ := hc
    have hw := Sl.parse_wx h
    rw [Sx.ls_len] at hw
    rw [h] at hc
    rcases hc with ⟨x, v, he, hS, hx⟩ | ⟨k, -, hx⟩
    · simp only [Except.ok.injEq] at hx
      obtain ⟨A, c, rfl, hX⟩ := xs_of hS (by rw [← hx]; omega)
      exact ⟨⟨x, A, c, he, hX, hx.symm⟩, hb⟩
    · cases hx)
/-! ### the small case -/
def s10 : List Ops.Po := [⟨1, 0, 0, 0, ⟨#[65]⟩, ⟨#[]⟩⟩, ⟨4, 1, 0, 0, ⟨#[]⟩, ⟨#[]⟩⟩, ⟨1, 0, 0, 0, ⟨#[98]⟩, ⟨#[]⟩⟩, ⟨4, 2, 1, 0, ⟨#[]⟩, ⟨#[]⟩⟩, ⟨6, 2, 0, 0, ⟨#[99, 108, 97, 115, 115]⟩, ⟨#[120, 32, 121]⟩⟩]
def s10F : List Mn := [⟨0, ⟨#[]⟩, ⟨#[]⟩, [], -1, [1], none, 0, none, 0⟩, ⟨1, ⟨#[65]⟩, ⟨#[]⟩, [], 0, [2], none, 0, none, 0⟩, ⟨1, ⟨#[98]⟩, ⟨#[]⟩, [(⟨#[99, 108, 97, 115, 115]⟩, ⟨#[120, 32, 121]⟩)], 1, [], none, 0, none, 0⟩]
theorem s10_grown : (onesP [newM] s10).map core = s10F.map core := by kernel_rfl
def t10 : ByteArray := ⟨#[97, 32, 46, 121, 44, 32, 97, 32, 62, 32, 99]⟩
def y10 : List Mr := [((none, 0), [((none, 0), ([(1, ⟨#[97]⟩, ⟨#[]⟩)], false)), ((none, 0), ([(3, ⟨#[121]⟩, ⟨#[]⟩)], false))]), ((none, 0), [((none, 0), ([(1, ⟨#[97]⟩, ⟨#[]⟩)], false)), ((none, 0), ([(1, ⟨#[99]⟩, ⟨#[]⟩)], true))])]
theorem t10_parse : Sl.parse (ls t10) = .ok (rws y10) := by kernel_rfl
theorem s10_all : (ord s10F 0).filter (isP s10F y10) = [2] := by kernel_rfl
theorem s10_first : firstP s10F y10 2 = .tuple #[.int .i64 (2 : Nat), .bool true] := by kernel_rfl
theorem s10_is : isP s10F y10 2 = true := by kernel_rfl
theorem s10_fits : fitsB ⟨1, ⟨#[65]⟩, ⟨#[]⟩, [], 0, [2], none, 0, none, 0⟩ [] = true := by kernel_rfl
theorem s10_fit : ∀ o ∈ s10, Ops.Fit o := by
  intro o ho
  simp only [s10, List.mem_cons, List.not_mem_nil, or_false] at ho
  rcases ho with rfl | rfl | rfl | rfl | rfl <;> exact fit7 _ ⟨by kernel_rfl, by decide, by decide, by decide, by decide, by decide, by decide⟩
set_option maxRecDepth 100000 in
set_option maxHeartbeats 4000000 in
theorem shown10 (w : World) (hK : Ops.KT w) : Calls Tryz.prog 13 #[] w (GivesV (.bool true) w) := by
  have HK := Lib.hid hK
  obtain ⟨X, hX⟩ : ∃ X, X = w.alloc (.cells (ocells s10).toArray 92) := ⟨_, rfl⟩
  have HXb : Hid (Below w.heap.size w X) := Lib.hid (by rw [hX]; exact (Below.refl _ _).alloc (Nat.le_refl _) _)
  have HG := Lib.hid (grown10 (some ⟨w.heap.size, 0, none⟩) s10 5 X (by rw [hX]; exact ol_new w s10_fit) (by decide) (HK.out.below HXb.out))
  have e5 : s10.length = 5 := rfl
  rw [e5] at HG
  clear e5 hK
  have HP := Lib.hid (fun (V : World) => parse_xs (t := t10) (by decide) t10_parse V)
  unfold t10 at HP
  unfold ocells s10 opc at hX
  simp only [List.flatMap_cons, List.flatMap_nil, List.cons_append, List.nil_append, List.append_nil] at hX
  go_enter Tryz.func13, Tryz.ntmps13
  go_wp2_with fail
  rw [← hX]
  clear hX
  refine HG.out.mono ?_
  rintro e w1 ⟨A, G, c, rfl, hF, hm, hl, hb⟩
  have hl2 := hl.trans s10_grown
  have HB1 := Lib.hid (HXb.out.trans (hb.mono HXb.out.size))
  have h3 : G.length = 3 := len_like hl2
  have HF1 := Lib.hid hF
  have HM1 := Lib.hid hm
  have HL1 := Lib.hid hl2
  have H3 := Lib.hid h3
  rw [h3]
  clear hF hm hl hl2 hb
  go_wp2_with fail
  refine (HP.out w1).mono ?_
  rintro e w2 ⟨⟨x, B, d, rfl, hX, hx⟩, hb⟩
  have HB2 := Lib.hid (HB1.out.trans (hb.mono HB1.out.size))
  have hcx : cx x = cx y10 := cx_iff.2 hx
  have HFr := Lib.hid (HF1.out.below hb)
  have hA := fun (V : World) (hb2 : Below w2.heap.size w2 V) => all_any A G c 0 B x d V (HFr.out.below hb2) HM1.out (by omega) (hX.below hb2)
  have hI := fun (V : World) (hb2 : Below w2.heap.size w2 V) => is_any A G c 2 B x d V (HFr.out.below hb2) HM1.out (by omega) (hX.below hb2)
  have hFi := fun (V : World) (hb2 : Below w2.heap.size w2 V) => first_any A G c 2 B x d V (HFr.out.below hb2) HM1.out (by omega) (hX.below hb2)
  have e1 : (ord G 0).filter (isP G x) = [2] := by
    rw [ord_like HL1.out, isP_like HL1.out, show isP s10F x = isP s10F y10 from funext (isP_cx hcx)]
    exact s10_all
  have e2 : isP G x 2 = true := by rw [isP_like HL1.out, isP_cx hcx]; exact s10_is
  have e3 : firstP G x 2 = .tuple #[.int .i64 (2 : Nat), .bool true] := by rw [firstP_like HL1.out, firstP_cx hcx]; exact s10_first
  simp only [e1, H3.out] at hA
  simp only [e2, H3.out] at hI
  simp only [e3, H3.out] at hFi
  have HA := Lib.hid hA
  have HI := Lib.hid hI
  have HFi := Lib.hid hFi
  obtain ⟨nx, hnx⟩ : ∃ nx, x.length = nx := ⟨_, rfl⟩
  rw [hnx] at HA HI HFi ⊢
  clear hX hx hb hcx hA hI hFi e1 e2 e3 hnx
  go_wp2_with fail
  refine (HA.out w2 (Below.refl _ _)).mono ?_
  rintro e w3 ⟨v, rfl, hv, hb⟩
  have HB3 := Lib.hid hb
  obtain ⟨p, cap, rfl, hIR⟩ := own_irN hv
  have HIR := Lib.hid hIR
  clear hb hv hIR
  go_wp2_with fail
  refine (HFi.out w3 HB3.out).mono ?_
  rintro e w4 ⟨rfl, hb⟩
  have HB4 := Lib.hid (HB3.out.trans (hb.mono HB3.out.size))
  have HIR4 := Lib.hid (HIR.out.below hb)
  clear hb
  obtain ⟨g, off, rfl, hg, c0⟩ := HIR4.out 0 (by simp)
  have c0' : w4.cell? ⟨g, off, none⟩ = some (.int .i64 2) := c0
  clear c0
  have HI5 := Lib.hid (HI.out w4 HB4.out)
  have h1G : 1 < G.length := by rw [H3.out]; omega
  have HF4 := Lib.hid (HFr.out.below HB4.out)
  have HFt : Hid (∀ V, Below w4.heap.size w4 V → Calls Tryz.prog 24 #[nval G[1], .slice none 0 0] V (GivesV (.bool true) V)) := Lib.hid (fun V hb => by
    have := fits_any G[1] none [] 0 V ((by
      obtain ⟨-, g', off', -, hg', hn⟩ := HF4.out.below hb 1 G[1] (List.getElem?_eq_getElem h1G)
      exact hn.ar)) (may_nb HM1.out _ (List.getElem_mem h1G)) (fun i t hi => by simp at hi) (by simp) (by simp)
    rwa [fitsB_like HL1.out h1G (show 1 < s10F.length by decide), show fitsB s10F[1] [] = true from s10_fits] at this)
  have HN1 : Hid (∃ g1 o1, A = some ⟨g1, o1, none⟩ ∧ g1 < w4.heap.size ∧ NodeAt w4 g1 (o1 + 1 * 6) G[1]) := Lib.hid (by
    obtain ⟨-, g', off', hA', hg', hn⟩ := HF4.out 1 G[1] (List.getElem?_eq_getElem h1G)
    exact ⟨g', off', hA', hg', hn⟩)
  generalize G[1] = m1 at *
  obtain ⟨g1, o1, rfl, hg1, hn1⟩ := HN1.out
  have HN2 := Lib.hid hn1
  clear hn1 HN1 HF4 HFr HF1 h1G
  go_wp2_with fail
  refine HI5.out.mono ?_
  rintro e w5 ⟨rfl, hb⟩
  have HB5 := Lib.hid (HB4.out.trans (hb.mono HB4.out.size))
  have HF5 := Lib.hid (HFt.out w5 hb)
  obtain ⟨c0, c1, c2, c3, c4, c5, -, -⟩ := HN2.out.below hg1 hb
  obtain ⟨kd, nm0, tx, al, pa, kl, aA, aC, kA, kC⟩ := m1
  unfold nval at HF5
  simp only [] at c0 c1 c2 c3 c4 c5 HF5
  clear hb c0'
  go_wp2_with fail
  refine HF5.out.mono ?_
  rintro e w6 ⟨rfl, hb⟩
  have HB6 := Lib.hid (HB2.out.trans ((HB5.out.trans (hb.mono HB5.out.size)).mono HB2.out.size))
  clear hb
  go_wp2
  go_ret
  exact ⟨rfl, HB6.out⟩
end Go.Proofs.YtaacikjoafobfaaGreatDoor.Fi
