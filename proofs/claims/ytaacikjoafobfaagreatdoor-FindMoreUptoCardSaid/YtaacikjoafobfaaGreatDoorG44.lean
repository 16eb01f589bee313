/-
  What the laws of layer 10 share: their bound; the forest that operations made.
  What of a forest, and of a selector, a row's end asks; what Parse tells; law 10's small case.
  law10's few: a selector whose names and values are not too long; selectors that came in.
  law10's few, counted: how many rows, steps and tests a selector has.
  FindIds' mathematics: what begins with # has a test of an id first; an id is found by walk.ById where the selector finds it.
  Whom a test of an id finds alone, walk.ById finds.
-/
import Derived.Test.YtaacikjoafobfaaGreatDoorG16
import Derived.Test.YtaacikjoafobfaaGreatDoorG25
import Derived.Test.YtaacikjoafobfaaGreatDoorG28
import Derived.Test.YtaacikjoafobfaaGreatDoorG43
import Derived.Test.YtaacikjoafobfaaGreatDoorG40
import Derived.Test.YtaacikjoafobfaaGreatDoorG36
import Derived.Test.YtaacikjoafobfaaGreatDoorG27
namespace Go.Proofs.YtaacikjoafobfaaGreatDoor.Fi
open Go.ChangeShapes Go.WideShapes Go.ChangeAt Go.RowKit
set_option linter.unusedVariables false
set_option linter.unusedSimpArgs false

set_option maxRecDepth 100000 in
set_option maxHeartbeats 4000000 in
theorem bounded10 (A : Option Addr) (l : List Ops.Po) (c : Nat) (w : World) (hL : Ops.OL w A l) (hn : l.length ≤ 9223372036854775807) :
    Calls Tryz.prog 11 #[.slice A l.length c] w fun e w' => e = .returned (.bool (bdO l)) ∧ w' = w := by
  have HL := Lib.hid hL
  have HE : Hid (bdO l = (l.all opBd && decide (l.length ≤ 150))) := Lib.hid rfl
  generalize bdO l = R at *
  obtain ⟨n, hnn⟩ : ∃ n, l.length = n := ⟨_, rfl⟩
  have HNN := Lib.hid hnn
  rw [hnn] at hn HE ⊢
  clear hL hnn
  go_enter Tryz.func11, Tryz.ntmps11
  go_wp2
  go_loopw [3] (fun q wr => ∃ k : Nat, k ≤ n ∧ q = .int .i64 k ∧ Hid ((l.take k).all opBd = true) ∧ w = wr) (fun q _ => n - (intOf q).toNat)
  case atStart => exact ⟨0, Nat.zero_le _, rfl, Lib.hid rfl, rfl⟩
  case round =>
    obtain ⟨k, hk, rfl, HT, rfl⟩ := hrel
    by_cases hlt : k < n
    · have k0 : (0 : Int) ≤ (k : Int) := by omega
      have k1 : (k : Int) < (n : Int) := by omega
      have hkl : k < l.length := by rw [HNN.out]; exact hlt
      obtain ⟨-, gl, off, rfl, hgl, a0, a1, a2, a3, a4, a5⟩ := HL.out k l[k] (List.getElem?_eq_getElem hkl)
      have HT2 : Hid (opBd l[k] = true → (l.take (k + 1)).all opBd = true) := Lib.hid (fun h => by rw [all_more hkl HT.out, h])
      have HT3 : Hid (opBd l[k] = false → l.all opBd = false) := Lib.hid (fun h => all_no7 (List.getElem_mem hkl) h)
      generalize l[k] = o at *
      obtain ⟨kd, id, dst, ps, nm0, tx⟩ := o
      simp only [] at a4 a5
      clear a0 a1 a2 a3 hkl
      by_cases h1 : nm0.size ≤ 300
      · by_cases h2 : tx.size ≤ 300
        · have HT4 := Lib.hid (HT2.out (by simp [opBd, h1, h2]))
          have b1 : decide ((300 : Int) < (nm0.size : Int)) = false := by simp; omega
          have b2 : decide ((300 : Int) < (tx.size : Int)) = false := by simp; omega
          go_wp2
          go_roundw
          case rel => exact ⟨k + 1, by omega, by go_num, HT4, by first | trivial | rfl⟩
          case measure => simp [intOf] <;> omega
        · have HR : Hid (R = false) := Lib.hid (by rw [HE.out, HT3.out (by simp [opBd, h1, h2])]; rfl)
          have b1 : decide ((300 : Int) < (nm0.size : Int)) = false := by simp; omega
          have b2 : decide ((300 : Int) < (tx.size : Int)) = true := by simp; omega
          go_wp2
          go_ret
          exact ⟨by rw [HR.out]; rfl, rfl⟩
      · have HR : Hid (R = false) := Lib.hid (by rw [HE.out, HT3.out (by simp [opBd, h1])]; rfl)
        have b1 : decide ((300 : Int) < (nm0.size : Int)) = true := by simp; omega
        go_wp2
        go_ret
        exact ⟨by rw [HR.out]; rfl, rfl⟩
    · obtain rfl : k = n := by omega
      have e : l.take k = l := List.take_of_length_le (by rw [HNN.out]; exact Nat.le_refl _)
      rw [e] at HT
      clear e
      go_wp2
      go_ret
      refine ⟨?_, rfl⟩
      rw [HE.out, HT.out, Bool.true_and]
      exact ret_bool (by rw [decide_eq_decide]; omega)
set_option maxRecDepth 100000 in
set_option maxHeartbeats 4000000 in
theorem grown10 (A : Option Addr) (l : List Ops.Po) (c : Nat) (w : World) (hL : Ops.OL w A l) (hn : l.length ≤ 1000000) (hK : Ops.KT w) :
    Calls Tryz.prog 14 #[.slice A l.length c] w (GrownRes l w) := by
  have HL := Lib.hid hL
  have HK := Lib.hid hK
  have HON := Lib.hid (fun (V : World) (k : Nat) (A' : Option Addr) (G : List Mn) (c' : Nat) (o' : Ops.Po) (hb : Below w.heap.size w V) (h : OneAt V l k A' G) (hf : Ops.Fit o') => one_at h c' o' hf (hK.below hb))
  have HM := Lib.hid (fun (V : World) (A' : Option Addr) (G : List Mn) (c' : Nat) (h : OneAt V l l.length A' G) => may_any A' G c' V h.fr (may_sz1 h.may))
  obtain ⟨n, hnn⟩ : ∃ n, l.length = n := ⟨_, rfl⟩
  have HNN := Lib.hid hnn
  rw [hnn] at hn HM ⊢
  clear hL hK hnn
  go_enter Tryz.func14, Tryz.ntmps14
  go_wp2_with fail
  refine (new_any w).mono ?_
  rintro e w1 ⟨A0, rfl, hA, hb⟩
  have HST := Lib.hid (OneAt.start l hA)
  have HB1 := Lib.hid hb
  clear hA hb
  go_wp2_with fail
  go_loopw [3, 4] (fun q2 q3 wr => ∃ (k : Nat) (Af : Option Addr) (G : List Mn) (cf : Nat), q2 = .slice Af G.length cf ∧ q3 = .int .i64 k ∧ k ≤ n ∧ Hid (OneAt wr l k Af G) ∧ Hid (Below w.heap.size w wr)) (fun _ q3 _ => n - (intOf q3).toNat)
  case atStart => exact ⟨0, A0, [newM], 1, rfl, rfl, Nat.zero_le _, HST, HB1⟩
  case round =>
    obtain ⟨k, Af, G, cf, rfl, rfl, hk, HG, HBr⟩ := hrel
    by_cases hlt : k < n
    · have k0 : (0 : Int) ≤ (k : Int) := by omega
      have k1 : (k : Int) < (n : Int) := by omega
      have hkl : k < l.length := by rw [HNN.out]; exact hlt
      obtain ⟨hfk, gl, off, rfl, hgl, a0, a1, a2, a3, a4, a5⟩ := (HL.out.below HBr.out) k l[k] (List.getElem?_eq_getElem hkl)
      have HOK := Lib.hid (HON.out wr k Af G cf l[k] HBr.out HG.out hfk)
      have HNX := Lib.hid (fun (w' : World) (base g cap : Nat) (G' : List Mn) (h : OF w' base (.slice (some ⟨g, 0, none⟩) G'.length cap) G') (hc : G'.map core = (oneP G l[k]).1.map core) => HG.out.step hkl h hc)
      generalize l[k] = p at *
      go_wp2_with fail
      refine HOK.out.mono ?_
      rintro e w3 ⟨g, cap, G', rfl, hO, hc, hb⟩
      have HG2 := Lib.hid (HNX.out w3 _ g cap G' hO hc)
      have HB3 := Lib.hid (HBr.out.trans (hb.mono HBr.out.size))
      clear hO hc hb a0 a1 a2 a3 a4 a5 hfk hkl
      generalize errP G p = er at *
      go_wp2
      go_roundw
      case rel => exact ⟨k + 1, _, G', cap, rfl, by go_num, by omega, HG2, HB3⟩
      case measure => simp [intOf] <;> omega
    · obtain rfl : k = n := by omega
      have HM2 := Lib.hid (HM.out wr Af G cf HG.out)
      have HGm := Lib.hid HG.out.may
      have HGl : Hid (G.map core = (onesP [newM] l).map core) := Lib.hid (by have := HG.out.like; rwa [List.take_of_length_le (by rw [HNN.out]; exact Nat.le_refl _)] at this)
      rw [HGm.out] at HM2
      have HGf := Lib.hid HG.out.fr
      clear HG HNN HL HON HM
      go_wp2_with fail
      refine HM2.out.mono ?_
      rintro e w4 ⟨rfl, hb⟩
      have HB4 := Lib.hid (HBr.out.trans (hb.mono HBr.out.size))
      have HF4 := Lib.hid (HGf.out.below hb)
      clear hb
      go_wp2
      go_ret
      exact ⟨Af, G, cf, rfl, HF4.out, HGm.out, HGl.out, HB4.out⟩
end Go.Proofs.YtaacikjoafobfaaGreatDoor.Fi
namespace Go.Proofs.YtaacikjoafobfaaGreatDoor.Fi
open Go.ChangeShapes Go.WideShapes Go.ChangeAt Go.RowKit
open Sx (Tr Ms Mr TR MR XR tV r1 ls te stp rws cx cl cx_iff)
set_option linter.unusedVariables false
set_option linter.unusedSimpArgs false

theorem tls_map {α β : Type} (f : α → β) : ∀ l : List α, tls (l.map f) = (tls l).map (List.map f)
  | [] => rfl
  | a :: l => by simp [tls, tls_map f l]
theorem fitsB_core (m : Mn) (T : List Tr) : fitsB (core m) T = fitsB m T := rfl
theorem eD_core : ∀ (rr : List (List Tr × Bool)) (w : List Mn), eD fitsB rr (w.map core) = eD fitsB rr w
  | [], w => by cases w <;> rfl
  | s :: rr, [] => rfl
  | s :: rr, m :: up => by
    have e : (tls (up.map core)).any (eD fitsB rr) = (tls up).any (eD fitsB rr) := by
      rw [tls_map, List.any_map]
      congr 1
      funext l
      exact eD_core rr l
    simp only [List.map_cons, eD, fitsB_core, eD_core rr up, e]
theorem wayL_core (F : List Mn) : ∀ (g : Nat) (x : Int), wayL (F.map core) g x = (wayL F g x).map core
  | 0, x => rfl
  | g + 1, x => by
    unfold wayL
    split
    · rfl
    · rw [core_par, wayL_core F g, List.map_append, List.getElem?_map]
      cases F[x.toNat]? <;> rfl
theorem isP_core (F : List Mn) (x : List Mr) (i : Nat) : isP (F.map core) x i = isP F x i := by
  unfold isP wayU
  congr 1
  funext m
  rw [List.length_map, wayL_core, eD_core]
theorem isP_like {F G : List Mn} (h : G.map core = F.map core) (x : List Mr) : isP G x = isP F x := funext fun i => by rw [← isP_core G, h, isP_core]
theorem isP_cx {F : List Mn} {x y : List Mr} (h : cx x = cx y) (i : Nat) : isP F x i = isP F y i := by
  have key : ∀ z : List Mr, isP F z i = (cx z).any (fun l => eD fitsB l.reverse (wayU F i)) := fun z => by
    unfold isP cx
    rw [List.any_map]
    rfl
  rw [key, key, h]
theorem firstP_like {F G : List Mn} (h : G.map core = F.map core) (x : List Mr) (i : Nat) : firstP G x i = firstP F x i := by unfold firstP; rw [isP_like h, ord_like h]
theorem firstP_cx {F : List Mn} {x y : List Mr} (h : cx x = cx y) (i : Nat) : firstP F x i = firstP F y i := by
  unfold firstP
  rw [show isP F x = isP F y from funext (isP_cx h)]
theorem fitsB_like {F G : List Mn} (h : G.map core = F.map core) {i : Nat} (hG : i < G.length) (hF : i < F.length) (T : List Tr) : fitsB G[i] T = fitsB F[i] T := by
  have e : core G[i] = core F[i] := by
    have := congrArg (fun l => l[i]?) h
    simpa [List.getElem?_map, List.getElem?_eq_getElem hG, List.getElem?_eq_getElem hF] using this
  rw [← fitsB_core, e, fitsB_core]
/-! ### what Parse tells -/
theorem wx_names {x : List Mr} {N : Nat} (h : Sl.wx (rws x) ≤ N) : ∀ m ∈ x, ∀ s ∈ m.2, ∀ t ∈ s.2.1, t.2.1.size ≤ N := fun m hm s hs t ht => by
  have h2 := Sl.wx_row (List.mem_map_of_mem (f := fun m : Mr => m.2.map stp) hm)
  have h4 := Sl.wr_step (List.mem_map_of_mem (f := stp) hs)
  have h5 := Sl.wc_test (List.mem_map_of_mem (f := te) ht)
  have e : Sl.ws (stp s) = 4 + Sl.wc (s.2.1.map te) := rfl
  have e2 : Sl.wt (te t) = t.2.1.size + t.2.2.size + 6 := by
    show (ls t.2.1).length + (ls t.2.2).length + 6 = _
    rw [Sx.ls_len, Sx.ls_len]
  unfold Sl.wr at h2
  rw [rws] at h
  omega
theorem xs_of {w : World} {base : Nat} {v : Value} {x : List Mr} (h : Sx.Sr w base v x) (hw : Sl.wx (rws x) ≤ 100000) : ∃ A c, v = .slice A x.length c ∧ Xs w A x := by
  obtain ⟨A, c, rfl, hX⟩ := Sx.xr_of h
  refine ⟨A, c, rfl, hX, ?_, fun m hm => ?_⟩
  · have := own_caps h.row
    omega
  · have hr := h.sub m hm
    have hc := own_caps hr.row
    refine ⟨fun s hs => ⟨?_, fun t ht => wx_names hw m hm s hs t ht⟩, hc.1, hc.2⟩
    have := own_caps (hr.sub s hs)
    omega
theorem parse_xs {t : ByteArray} (ht : t.size ≤ 1000) {X : List (List Sl.Stp)} (h : Sl.parse (ls t) = .ok X) (V : World) : Calls Tryz.prog 26 #[.string t] V fun e w' => (∃ (x : List Mr) (A : Option Addr) (c : Nat), e = .returned (.tuple #[.slice A x.length c, .int .i64 0, .int .i64 0]) ∧ Xs w' A x ∧ rws x = X) ∧ Below V.heap.size V w' :=
  (Sx.sel_parse t V (by omega)).mono (fun e w' hc => by
    obtain ⟨hc, hb⟩ := hc
    have hw := Sl.parse_wx h
    rw [Sx.ls_len] at hw
    rw [h] at hc
    rcases hc with ⟨x, v, he, hS, hx⟩ | ⟨k, -, hx⟩
    · simp only [Except.ok.injEq] at hx
      obtain ⟨A, c, rfl, hX⟩ := xs_of hS (by rw [← hx]; omega)
      exact ⟨⟨x, A, c, he, hX, hx.symm⟩, hb⟩
    · cases hx)
/-! ### the small case -/
def s10 : List Ops.Po := [⟨1, 0, 0, 0, ⟨#[65]⟩, ⟨#[]⟩⟩, ⟨4, 1, 0, 0, ⟨#[]⟩, ⟨#[]⟩⟩, ⟨1, 0, 0, 0, ⟨#[98]⟩, ⟨#[]⟩⟩, ⟨4, 2, 1, 0, ⟨#[]⟩, ⟨#[]⟩⟩, ⟨6, 2, 0, 0, ⟨#[99, 108, 97, 115, 115]⟩, ⟨#[120, 32, 121]⟩⟩]
def s10F : List Mn := [⟨0, ⟨#[]⟩, ⟨#[]⟩, [], -1, [1], none, 0, none, 0⟩, ⟨1, ⟨#[65]⟩, ⟨#[]⟩, [], 0, [2], none, 0, none, 0⟩, ⟨1, ⟨#[98]⟩, ⟨#[]⟩, [(⟨#[99, 108, 97, 115, 115]⟩, ⟨#[120, 32, 121]⟩)], 1, [], none, 0, none, 0⟩]
theorem s10_grown : (onesP [newM] s10).map core = s10F.map core := by kernel_rfl
def t10 : ByteArray := ⟨#[97, 32, 46, 121, 44, 32, 97, 32, 62, 32, 99]⟩
def y10 : List Mr := [((none, 0), [((none, 0), ([(1, ⟨#[97]⟩, ⟨#[]⟩)], false)), ((none, 0), ([(3, ⟨#[121]⟩, ⟨#[]⟩)], false))]), ((none, 0), [((none, 0), ([(1, ⟨#[97]⟩, ⟨#[]⟩)], false)), ((none, 0), ([(1, ⟨#[99]⟩, ⟨#[]⟩)], true))])]
theorem t10_parse : Sl.parse (ls t10) = .ok (rws y10) := by kernel_rfl
theorem s10_all : (ord s10F 0).filter (isP s10F y10) = [2] := by kernel_rfl
theorem s10_first : firstP s10F y10 2 = .tuple #[.int .i64 (2 : Nat), .bool true] := by kernel_rfl
theorem s10_is : isP s10F y10 2 = true := by kernel_rfl
theorem s10_fits : fitsB ⟨1, ⟨#[65]⟩, ⟨#[]⟩, [], 0, [2], none, 0, none, 0⟩ [] = true := by kernel_rfl
theorem s10_fit : ∀ o ∈ s10, Ops.Fit o := by
  intro o ho
  simp only [s10, List.mem_cons, List.not_mem_nil, or_false] at ho
  rcases ho with rfl | rfl | rfl | rfl | rfl <;> exact fit7 _ ⟨by kernel_rfl, by decide, by decide, by decide, by decide, by decide, by decide⟩
set_option maxRecDepth 100000 in
set_option maxHeartbeats 4000000 in
theorem shown10 (w : World) (hK : Ops.KT w) : Calls Tryz.prog 13 #[] w (GivesV (.bool true) w) := by
  have HK := Lib.hid hK
  obtain ⟨X, hX⟩ : ∃ X, X = w.alloc (.cells (ocells s10).toArray 92) := ⟨_, rfl⟩
  have HXb : Hid (Below w.heap.size w X) := Lib.hid (by rw [hX]; exact (Below.refl _ _).alloc (Nat.le_refl _) _)
  have HG := Lib.hid (grown10 (some ⟨w.heap.size, 0, none⟩) s10 5 X (by rw [hX]; exact ol_new w s10_fit) (by decide) (HK.out.below HXb.out))
  have e5 : s10.length = 5 := rfl
  rw [e5] at HG
  clear e5 hK
  have HP := Lib.hid (fun (V : World) => parse_xs (t := t10) (by decide) t10_parse V)
  unfold t10 at HP
  unfold ocells s10 opc at hX
  simp only [List.flatMap_cons, List.flatMap_nil, List.cons_append, List.nil_append, List.append_nil] at hX
  go_enter Tryz.func13, Tryz.ntmps13
  go_wp2_with fail
  rw [← hX]
  clear hX
  refine HG.out.mono ?_
  rintro e w1 ⟨A, G, c, rfl, hF, hm, hl, hb⟩
  have hl2 := hl.trans s10_grown
  have HB1 := Lib.hid (HXb.out.trans (hb.mono HXb.out.size))
  have h3 : G.length = 3 := len_like hl2
  have HF1 := Lib.hid hF
  have HM1 := Lib.hid hm
  have HL1 := Lib.hid hl2
  have H3 := Lib.hid h3
  rw [h3]
  clear hF hm hl hl2 hb
  go_wp2_with fail
  refine (HP.out w1).mono ?_
  rintro e w2 ⟨⟨x, B, d, rfl, hX, hx⟩, hb⟩
  have HB2 := Lib.hid (HB1.out.trans (hb.mono HB1.out.size))
  have hcx : cx x = cx y10 := cx_iff.2 hx
  have HFr := Lib.hid (HF1.out.below hb)
  have hA := fun (V : World) (hb2 : Below w2.heap.size w2 V) => all_any A G c 0 B x d V (HFr.out.below hb2) HM1.out (by omega) (hX.below hb2)
  have hI := fun (V : World) (hb2 : Below w2.heap.size w2 V) => is_any A G c 2 B x d V (HFr.out.below hb2) HM1.out (by omega) (hX.below hb2)
  have hFi := fun (V : World) (hb2 : Below w2.heap.size w2 V) => first_any A G c 2 B x d V (HFr.out.below hb2) HM1.out (by omega) (hX.below hb2)
  have e1 : (ord G 0).filter (isP G x) = [2] := by
    rw [ord_like HL1.out, isP_like HL1.out, show isP s10F x = isP s10F y10 from funext (isP_cx hcx)]
    exact s10_all
  have e2 : isP G x 2 = true := by rw [isP_like HL1.out, isP_cx hcx]; exact s10_is
  have e3 : firstP G x 2 = .tuple #[.int .i64 (2 : Nat), .bool true] := by rw [firstP_like HL1.out, firstP_cx hcx]; exact s10_first
  simp only [e1, H3.out] at hA
  simp only [e2, H3.out] at hI
  simp only [e3, H3.out] at hFi
  have HA := Lib.hid hA
  have HI := Lib.hid hI
  have HFi := Lib.hid hFi
  obtain ⟨nx, hnx⟩ : ∃ nx, x.length = nx := ⟨_, rfl⟩
  rw [hnx] at HA HI HFi ⊢
  clear hX hx hb hcx hA hI hFi e1 e2 e3 hnx
  go_wp2_with fail
  refine (HA.out w2 (Below.refl _ _)).mono ?_
  rintro e w3 ⟨v, rfl, hv, hb⟩
  have HB3 := Lib.hid hb
  obtain ⟨p, cap, rfl, hIR⟩ := own_irN hv
  have HIR := Lib.hid hIR
  clear hb hv hIR
  go_wp2_with fail
  refine (HFi.out w3 HB3.out).mono ?_
  rintro e w4 ⟨rfl, hb⟩
  have HB4 := Lib.hid (HB3.out.trans (hb.mono HB3.out.size))
  have HIR4 := Lib.hid (HIR.out.below hb)
  clear hb
  obtain ⟨g, off, rfl, hg, c0⟩ := HIR4.out 0 (by simp)
  have c0' : w4.cell? ⟨g, off, none⟩ = some (.int .i64 2) := c0
  clear c0
  have HI5 := Lib.hid (HI.out w4 HB4.out)
  have h1G : 1 < G.length := by rw [H3.out]; omega
  have HF4 := Lib.hid (HFr.out.below HB4.out)
  have HFt : Hid (∀ V, Below w4.heap.size w4 V → Calls Tryz.prog 24 #[nval G[1], .slice none 0 0] V (GivesV (.bool true) V)) := Lib.hid (fun V hb => by
    have := fits_any G[1] none [] 0 V ((by
      obtain ⟨-, g', off', -, hg', hn⟩ := HF4.out.below hb 1 G[1] (List.getElem?_eq_getElem h1G)
      exact hn.ar)) (may_nb HM1.out _ (List.getElem_mem h1G)) (fun i t hi => by simp at hi) (by simp) (by simp)
    rwa [fitsB_like HL1.out h1G (show 1 < s10F.length by decide), show fitsB s10F[1] [] = true from s10_fits] at this)
  have HN1 : Hid (∃ g1 o1, A = some ⟨g1, o1, none⟩ ∧ g1 < w4.heap.size ∧ NodeAt w4 g1 (o1 + 1 * 6) G[1]) := Lib.hid (by
    obtain ⟨-, g', off', hA', hg', hn⟩ := HF4.out 1 G[1] (List.getElem?_eq_getElem h1G)
    exact ⟨g', off', hA', hg', hn⟩)
  generalize G[1] = m1 at *
  obtain ⟨g1, o1, rfl, hg1, hn1⟩ := HN1.out
  have HN2 := Lib.hid hn1
  clear hn1 HN1 HF4 HFr HF1 h1G
  go_wp2_with fail
  refine HI5.out.mono ?_
  rintro e w5 ⟨rfl, hb⟩
  have HB5 := Lib.hid (HB4.out.trans (hb.mono HB4.out.size))
  have HF5 := Lib.hid (HFt.out w5 hb)
  obtain ⟨c0, c1, c2, c3, c4, c5, -, -⟩ := HN2.out.below hg1 hb
  obtain ⟨kd, nm0, tx, al, pa, kl, aA, aC, kA, kC⟩ := m1
  unfold nval at HF5
  simp only [] at c0 c1 c2 c3 c4 c5 HF5
  clear hb c0'
  go_wp2_with fail
  refine HF5.out.mono ?_
  rintro e w6 ⟨rfl, hb⟩
  have HB6 := Lib.hid (HB2.out.trans ((HB5.out.trans (hb.mono HB5.out.size)).mono HB2.out.size))
  clear hb
  go_wp2
  go_ret
  exact ⟨rfl, HB6.out⟩
end Go.Proofs.YtaacikjoafobfaaGreatDoor.Fi
namespace Go.Proofs.YtaacikjoafobfaaGreatDoor.Fi
open Go.ChangeShapes Go.WideShapes Go.ChangeAt Go.RowKit
open Sx (Tr Ms Mr TR MR XR tV r1)
set_option linter.unusedVariables false
set_option linter.unusedSimpArgs false

/-- No name, and no value, has more than 100 bytes. -/
def small1 (t : Tr) : Prop := t.2.1.size ≤ 100 ∧ t.2.2.size ≤ 100
def smallS (x : List Mr) : Prop := ∀ m ∈ x, ∀ s ∈ m.2, ∀ t ∈ s.2.1, small1 t
theorem take_all {α : Type} {P : α → Prop} {l : List α} {k : Nat} (hk : k < l.length) (h : ∀ a ∈ l.take k, P a) (hx : P l[k]) : ∀ a ∈ l.take (k + 1), P a := fun a ha => by
  rw [List.take_succ_eq_append_getElem hk, List.mem_append, List.mem_singleton] at ha
  rcases ha with ha | rfl
  · exact h a ha
  · exact hx
set_option maxRecDepth 100000 in
set_option maxHeartbeats 4000000 in
theorem few_any (A : Option Addr) (x : List Mr) (c : Nat) (w : World) (hX : XR w A x) (hS : Sx.So.SelFit x) :
    Calls Tryz.prog 12 #[.slice A x.length c] w fun e w' => (∃ b, e = .returned (.bool b) ∧ (b = true → smallS x)) ∧ Below w.heap.size w w' := by
  have HX := Lib.hid hX
  have HS := Lib.hid hS.2
  have hxl := hS.1
  obtain ⟨n, hn⟩ : ∃ n, x.length = n := ⟨_, rfl⟩
  have HN := Lib.hid hn
  rw [hn] at hxl ⊢
  clear hX hS hn
  unfold Sx.So.M63 at hxl
  go_enter Tryz.func12, Tryz.ntmps12
  go_wp2_with fail
  go_loopw [3, 4] (fun q3 q4 wr => ∃ (V0 : World) (cn : Int) (i : Nat), V0 = wr ∧ i ≤ n ∧ q3 = .int .i64 cn ∧ q4 = .int .i64 i ∧ Hid (∀ m ∈ x.take i, ∀ s ∈ m.2, ∀ t ∈ s.2.1, small1 t) ∧ Hid (Below w.heap.size w V0)) (fun _ q4 _ => n - (intOf q4).toNat)
  case atStart => exact ⟨_, 0, 0, rfl, Nat.zero_le _, rfl, rfl, Lib.hid (by simp), Lib.hid (Below.refl _ _)⟩
  case round =>
    obtain ⟨V0, cn, i, rfl, hi, rfl, rfl, HT, HB⟩ := hrel
    by_cases hlt : i < n
    · have k0 : (0 : Int) ≤ (i : Int) := by omega
      have k1 : (i : Int) < (n : Int) := by omega
      have hix : i < x.length := by rw [HN.out]; exact hlt
      obtain ⟨g, off, rfl, hg, c0, hM⟩ := (HX.out.below HB.out) i x[i] (List.getElem?_eq_getElem hix)
      have HM := Lib.hid hM
      obtain ⟨⟨hl1, hl2⟩, -⟩ := HS.out x[i] (List.getElem_mem hix)
      have HL2 := Lib.hid hl2
      have HTn := Lib.hid (fun (h : ∀ s ∈ x[i].2, ∀ t ∈ s.2.1, small1 t) => take_all (P := fun m : Mr => ∀ s ∈ m.2, ∀ t ∈ s.2.1, small1 t) hix HT.out h)
      unfold r1 at c0
      have HC0 := Lib.hid (fun (V : World) (hV : Below V0.heap.size V0 V) => And.intro ((hV.cell (p := ⟨g, off + i, none⟩) hg).trans c0) (Nat.lt_of_lt_of_le hg hV.size))
      clear hM hl2 c0
      generalize x[i] = m at *
      obtain ⟨⟨mA, mc⟩, l⟩ := m
      simp only [] at HC0 HM hl1 HL2 HTn
      obtain ⟨nl, hnl⟩ : ∃ nl, l.length = nl := ⟨_, rfl⟩
      have HNL := Lib.hid hnl
      rw [hnl] at HC0 hl1
      clear hnl
      unfold Sx.So.M63 at hl1
      go_wp2_with fail
      go_loopw [3, 5] (fun q3 q5 wr => ∃ (ur : World) (cn : Int) (k : Nat), ur = wr ∧ k ≤ nl ∧ q3 = .int .i64 cn ∧ q5 = .int .i64 k ∧ Hid (∀ s ∈ l.take k, ∀ t ∈ s.2.1, small1 t) ∧ Hid (Below V0.heap.size V0 ur)) (fun _ q5 _ => nl - (intOf q5).toNat)
      case atStart => exact ⟨_, cn, 0, rfl, Nat.zero_le _, rfl, rfl, Lib.hid (by simp), Lib.hid (Below.refl _ _)⟩
      case round =>
        obtain ⟨ur, cn, k, rfl, hk, rfl, rfl, HT2, HU⟩ := hrel
        obtain ⟨c0, hgU⟩ := HC0.out ur HU.out
        by_cases hkl : k < nl
        · have j0 : (0 : Int) ≤ (k : Int) := by omega
          have j1 : (k : Int) < (nl : Int) := by omega
          have hkx : k < l.length := by rw [HNL.out]; exact hkl
          obtain ⟨gs, os, rfl, hgs, s0, s1, hT⟩ := (HM.out.below HU.out) k l[k] (List.getElem?_eq_getElem hkx)
          have HTR := Lib.hid hT
          obtain ⟨ht1, ht2, ht3⟩ := HL2.out l[k] (List.getElem_mem hkx)
          have HTk := Lib.hid (fun (h : ∀ t ∈ l[k].2.1, small1 t) => take_all (P := fun s : Ms => ∀ t ∈ s.2.1, small1 t) hkx HT2.out h)
          have HC1 := Lib.hid (fun (V : World) (hV : Below ur.heap.size ur V) => And.intro ((hV.cell (p := ⟨gs, os + k * 2, none⟩) hgs).trans s0) (And.intro (HC0.out V (HU.out.trans (hV.mono HU.out.size))).1 (Nat.lt_of_lt_of_le hgs hV.size)))
          clear hT ht2 ht3 s0 s1 c0
          generalize l[k] = q at *
          obtain ⟨⟨tA, tc⟩, T, ch⟩ := q
          simp only [] at HC1 HTR ht1 HTk
          obtain ⟨nt, hnt⟩ : ∃ nt, T.length = nt := ⟨_, rfl⟩
          have HNT := Lib.hid hnt
          rw [hnt] at HC1 ht1
          clear hnt
          unfold Sx.So.M63 at ht1
          obtain ⟨s0, c0, -⟩ := HC1.out ur (Below.refl _ _)
          go_wp2_with fail
          go_loopw [3, 6] (fun q3 q6 wr => ∃ (vr : World) (cn : Int) (t : Nat), vr = wr ∧ t ≤ nt ∧ q3 = .int .i64 cn ∧ q6 = .int .i64 t ∧ Hid (∀ a ∈ T.take t, small1 a) ∧ Hid (Below ur.heap.size ur vr)) (fun _ q6 _ => nt - (intOf q6).toNat)
          case atStart => exact ⟨_, cn, 0, rfl, Nat.zero_le _, rfl, rfl, Lib.hid (by simp), Lib.hid (Below.refl _ _)⟩
          case round =>
            clear s0 c0
            obtain ⟨vr, cn, t, rfl, ht, rfl, rfl, HT3, HV⟩ := hrel
            obtain ⟨s0, c0, hgV⟩ := HC1.out vr HV.out
            by_cases htl : t < nt
            · have i0 : (0 : Int) ≤ (t : Int) := by omega
              have i1 : (t : Int) < (nt : Int) := by omega
              have htx : t < T.length := by rw [HNT.out]; exact htl
              obtain ⟨gt, ot, rfl, hgt, d0, d1, d2⟩ := (HTR.out.below HV.out) t T[t] (List.getElem?_eq_getElem htx)
              have HTt := Lib.hid (fun (h : small1 T[t]) => take_all (P := small1) htx HT3.out h)
              clear d0
              generalize T[t] = a at *
              obtain ⟨ak, an, av⟩ := a
              simp only [small1] at d1 d2 HTt
              by_cases h1 : an.size ≤ 100
              · by_cases h2 : av.size ≤ 100
                · have HTu := Lib.hid (HTt.out ⟨h1, h2⟩)
                  have b1 : decide ((100 : Int) < (an.size : Int)) = false := by simp; omega
                  have b2 : decide ((100 : Int) < (av.size : Int)) = false := by simp; omega
                  go_wp2
                  go_roundw
                  case rel => exact ⟨_, _, t + 1, rfl, by omega, rfl, by go_num, HTu, HV⟩
                  case measure => simp [intOf] <;> omega
                · have b1 : decide ((100 : Int) < (an.size : Int)) = false := by simp; omega
                  have b2 : decide ((100 : Int) < (av.size : Int)) = true := by simp; omega
                  go_wp2
                  go_ret
                  exact ⟨⟨false, rfl, fun h => by cases h⟩, HB.out.trans ((HU.out.trans (HV.out.mono HU.out.size)).mono HB.out.size)⟩
              · have b1 : decide ((100 : Int) < (an.size : Int)) = true := by simp; omega
                go_wp2
                go_ret
                exact ⟨⟨false, rfl, fun h => by cases h⟩, HB.out.trans ((HU.out.trans (HV.out.mono HU.out.size)).mono HB.out.size)⟩
            · obtain rfl : t = nt := by omega
              have e : T.take t = T := List.take_of_length_le (by rw [HNT.out]; exact Nat.le_refl _)
              rw [e] at HT3
              have HTu := Lib.hid (HTk.out HT3.out)
              have HU2 := Lib.hid (HU.out.trans (HV.out.mono HU.out.size))
              clear e
              go_wp2
              go_roundw
              case rel => exact ⟨_, _, k + 1, rfl, by omega, rfl, by go_num, HTu, HU2⟩
              case measure => simp [intOf] <;> omega
        · obtain rfl : k = nl := by omega
          have e : l.take k = l := List.take_of_length_le (by rw [HNL.out]; exact Nat.le_refl _)
          rw [e] at HT2
          have HTu := Lib.hid (HTn.out HT2.out)
          have HB2 := Lib.hid (HB.out.trans (HU.out.mono HB.out.size))
          clear e
          go_wp2
          go_roundw
          case rel => exact ⟨_, _, i + 1, rfl, by omega, rfl, by go_num, HTu, HB2⟩
          case measure => simp [intOf] <;> omega
    · obtain rfl : i = n := by omega
      have e : x.take i = x := List.take_of_length_le (by rw [HN.out]; exact Nat.le_refl _)
      rw [e] at HT
      clear e
      go_wp2
      go_ret
      exact ⟨⟨_, rfl, fun _ => HT.out⟩, HB.out⟩
end Go.Proofs.YtaacikjoafobfaaGreatDoor.Fi
namespace Go.Proofs.YtaacikjoafobfaaGreatDoor.Fi
open Go.ChangeShapes Go.WideShapes Go.ChangeAt Go.RowKit
open Sx (Tr Ms Mr TR MR XR tV r1 ls te stp rws)
set_option linter.unusedVariables false
set_option linter.unusedSimpArgs false

def cS (s : Ms) : Nat := s.2.1.length + 1
def cL (l : List Ms) : Nat := (l.map cS).sum
def cM (m : Mr) : Nat := cL m.2 + 1
def cX (x : List Mr) : Nat := (x.map cM).sum
theorem sum_take {α : Type} (f : α → Nat) {l : List α} {k : Nat} (h : k < l.length) : ((l.take (k + 1)).map f).sum = ((l.take k).map f).sum + f l[k] := by
  rw [List.take_succ_eq_append_getElem h, List.map_append, List.sum_append]
  simp only [List.map_cons, List.map_nil, List.sum_cons, List.sum_nil, Nat.add_zero]
theorem ones_sum {α : Type} : ∀ l : List α, (l.map (fun _ => 1)).sum = l.length
  | [] => rfl
  | a :: l => by
    have := ones_sum l
    simp only [List.map_cons, List.sum_cons, List.length_cons]
    omega
theorem sum_le {α : Type} (f : α → Nat) (l : List α) (k : Nat) : ((l.take k).map f).sum ≤ (l.map f).sum := by
  have e : (l.map f).sum = ((l.take k).map f).sum + ((l.drop k).map f).sum := by
    rw [← List.sum_append, ← List.map_append, List.take_append_drop]
  omega
theorem cX_take {x : List Mr} {i : Nat} (h : i < x.length) : cX (x.take (i + 1)) = cX (x.take i) + cM x[i] := sum_take cM h
theorem cL_take {l : List Ms} {k : Nat} (h : k < l.length) : cL (l.take (k + 1)) = cL (l.take k) + cS l[k] := sum_take cS h
theorem cX_le (x : List Mr) (i : Nat) : cX (x.take i) ≤ cX x := sum_le cM x i
theorem cL_le (l : List Ms) (k : Nat) : cL (l.take k) ≤ cL l := sum_le cS l k
theorem len_sum {α : Type} (f : α → Nat) (h : ∀ a, 1 ≤ f a) : ∀ l : List α, l.length ≤ (l.map f).sum
  | [] => Nat.le_refl _
  | a :: l => by
    have := len_sum f h l
    have := h a
    simp only [List.length_cons, List.map_cons, List.sum_cons]
    omega
theorem mem_sum {α : Type} (f : α → Nat) : ∀ {l : List α} {a : α}, a ∈ l → f a ≤ (l.map f).sum
  | b :: l, a, h => by
    rw [List.map_cons, List.sum_cons]
    rcases List.mem_cons.1 h with rfl | h
    · omega
    · have := mem_sum f h
      omega
theorem cX_len (x : List Mr) : x.length ≤ cX x := len_sum cM (fun m => by unfold cM; omega) x
theorem cX_mem {x : List Mr} {m : Mr} (h : m ∈ x) : cM m ≤ cX x := mem_sum cM h
theorem cL_len (l : List Ms) : l.length ≤ cL l := len_sum cS (fun m => by unfold cS; omega) l
theorem cL_mem {l : List Ms} {s : Ms} (h : s ∈ l) : cS s ≤ cL l := mem_sum cS h
theorem sum_mul {α : Type} (f g : α → Nat) (c : Nat) : ∀ {l : List α}, (∀ a ∈ l, f a ≤ c * g a) → (l.map f).sum ≤ c * (l.map g).sum
  | [], _ => by simp
  | a :: l, h => by
    have h1 := h a (List.mem_cons_self ..)
    have h2 := sum_mul f g c (l := l) (fun b hb => h b (List.mem_cons_of_mem _ hb))
    simp only [List.map_cons, List.sum_cons, Nat.mul_add]
    omega
/-- How long a selector's text may be, if no name is too long. -/
theorem small_wx {x : List Mr} (h : smallS x) : Sl.wx (rws x) ≤ 210 * cX x := by
  unfold Sl.wx rws cX
  rw [List.map_map]
  refine sum_mul _ cM 210 (fun m hm => ?_)
  have h2 : Sl.wss (m.2.map stp) ≤ 210 * cL m.2 := by
    unfold Sl.wss cL
    rw [List.map_map]
    refine sum_mul _ cS 210 (fun s hs => ?_)
    have h3 : Sl.wc (s.2.1.map te) ≤ 206 * (s.2.1.map (fun _ => 1)).sum := by
      unfold Sl.wc
      rw [List.map_map]
      refine sum_mul _ (fun _ => 1) 206 (fun t ht => ?_)
      obtain ⟨h4, h5⟩ := h m hm s hs t ht
      show (ls t.2.1).length + (ls t.2.2).length + 6 ≤ _
      rw [Sx.ls_len, Sx.ls_len]
      omega
    have h6 : (s.2.1.map (fun _ => 1)).sum = s.2.1.length := ones_sum _
    rw [h6] at h3
    show 4 + Sl.wc (s.2.1.map te) ≤ 210 * (s.2.1.length + 1)
    omega
  show 2 + Sl.wss (m.2.map stp) ≤ 210 * (cL m.2 + 1)
  omega
set_option maxRecDepth 100000 in
set_option maxHeartbeats 4000000 in
theorem few_cnt (A : Option Addr) (x : List Mr) (c : Nat) (w : World) (hX : XR w A x) (hC : cX x ≤ 4000000) :
    Calls Tryz.prog 12 #[.slice A x.length c] w fun e w' => (∃ b, e = .returned (.bool b) ∧ (b = true → smallS x ∧ cX x ≤ 40)) ∧ Below w.heap.size w w' := by
  have HX := Lib.hid hX
  have HCX := Lib.hid hC
  have hxl := Nat.le_trans (cX_len x) hC
  obtain ⟨n, hn⟩ : ∃ n, x.length = n := ⟨_, rfl⟩
  have HN := Lib.hid hn
  rw [hn] at hxl ⊢
  clear hX hC hn
  go_enter Tryz.func12, Tryz.ntmps12
  go_wp2_with fail
  go_loopw [3, 4] (fun q3 q4 wr => ∃ (V0 : World) (cn i : Nat), V0 = wr ∧ i ≤ n ∧ q3 = .int .i64 cn ∧ q4 = .int .i64 i ∧ Hid (cn = cX (x.take i)) ∧ Hid (∀ m ∈ x.take i, ∀ s ∈ m.2, ∀ t ∈ s.2.1, small1 t) ∧ Hid (Below w.heap.size w V0)) (fun _ q4 _ => n - (intOf q4).toNat)
  case atStart => exact ⟨_, 0, 0, rfl, Nat.zero_le _, rfl, rfl, Lib.hid (by simp [cX]), Lib.hid (by simp), Lib.hid (Below.refl _ _)⟩
  case round =>
    obtain ⟨V0, cn, i, rfl, hi, rfl, rfl, HCn, HT, HB⟩ := hrel
    by_cases hlt : i < n
    · have k0 : (0 : Int) ≤ (i : Int) := by omega
      have k1 : (i : Int) < (n : Int) := by omega
      have hix : i < x.length := by rw [HN.out]; exact hlt
      obtain ⟨g, off, rfl, hg, c0, hM⟩ := (HX.out.below HB.out) i x[i] (List.getElem?_eq_getElem hix)
      have HM := Lib.hid hM
      have HC1 : Hid (cX (x.take (i + 1)) = cX (x.take i) + (cL x[i].2 + 1) ∧ cX (x.take (i + 1)) ≤ 4000000) := Lib.hid ⟨cX_take hix, Nat.le_trans (cX_le x (i + 1)) HCX.out⟩
      have HTn := Lib.hid (fun (h : ∀ s ∈ x[i].2, ∀ t ∈ s.2.1, small1 t) => take_all (P := fun m : Mr => ∀ s ∈ m.2, ∀ t ∈ s.2.1, small1 t) hix HT.out h)
      unfold r1 at c0
      have HC0 := Lib.hid (fun (V : World) (hV : Below V0.heap.size V0 V) => And.intro ((hV.cell (p := ⟨g, off + i, none⟩) hg).trans c0) (Nat.lt_of_lt_of_le hg hV.size))
      clear hM c0
      generalize x[i] = m at *
      obtain ⟨⟨mA, mc⟩, l⟩ := m
      simp only [] at HC0 HM HC1 HTn
      obtain ⟨nl, hnl⟩ : ∃ nl, l.length = nl := ⟨_, rfl⟩
      have HNL := Lib.hid hnl
      have hl1 : nl ≤ 4000000 := by
        have h1 := cL_len l
        have h2 := HC1.out
        omega
      rw [hnl] at HC0
      clear hnl
      go_wp2_with fail
      go_loopw [3, 5] (fun q3 q5 wr => ∃ (ur : World) (cm k : Nat), ur = wr ∧ k ≤ nl ∧ q3 = .int .i64 cm ∧ q5 = .int .i64 k ∧ Hid (cm = cn + cL (l.take k)) ∧ Hid (∀ s ∈ l.take k, ∀ t ∈ s.2.1, small1 t) ∧ Hid (Below V0.heap.size V0 ur)) (fun _ q5 _ => nl - (intOf q5).toNat)
      case atStart => exact ⟨_, cn, 0, rfl, Nat.zero_le _, rfl, rfl, Lib.hid (by simp [cL]), Lib.hid (by simp), Lib.hid (Below.refl _ _)⟩
      case round =>
        obtain ⟨ur, cm, k, rfl, hk, rfl, rfl, HCm, HT2, HU⟩ := hrel
        obtain ⟨c0, hgU⟩ := HC0.out ur HU.out
        by_cases hkl : k < nl
        · have j0 : (0 : Int) ≤ (k : Int) := by omega
          have j1 : (k : Int) < (nl : Int) := by omega
          have hkx : k < l.length := by rw [HNL.out]; exact hkl
          obtain ⟨gs, os, rfl, hgs, s0, s1, hT⟩ := (HM.out.below HU.out) k l[k] (List.getElem?_eq_getElem hkx)
          have HTR := Lib.hid hT
          have HC2 : Hid (cL (l.take (k + 1)) = cL (l.take k) + (l[k].2.1.length + 1) ∧ cn + cL (l.take (k + 1)) ≤ 4000000) := Lib.hid ⟨cL_take hkx, by
            have h1 := cL_le l (k + 1)
            have h2 := HC1.out
            have h3 := HCn.out
            omega⟩
          have HTk := Lib.hid (fun (h : ∀ t ∈ l[k].2.1, small1 t) => take_all (P := fun s : Ms => ∀ t ∈ s.2.1, small1 t) hkx HT2.out h)
          have HC3 := Lib.hid (fun (V : World) (hV : Below ur.heap.size ur V) => And.intro ((hV.cell (p := ⟨gs, os + k * 2, none⟩) hgs).trans s0) (And.intro (HC0.out V (HU.out.trans (hV.mono HU.out.size))).1 (Nat.lt_of_lt_of_le hgs hV.size)))
          clear hT s0 s1 c0
          generalize l[k] = q at *
          obtain ⟨⟨tA, tc⟩, T, ch⟩ := q
          simp only [] at HC3 HTR HC2 HTk
          obtain ⟨nt, hnt⟩ : ∃ nt, T.length = nt := ⟨_, rfl⟩
          have HNT := Lib.hid hnt
          rw [hnt] at HC3 HC2
          have ht1 : nt ≤ 4000000 := by
            have h2 := HC2.out
            omega
          have hcm0 : cm + nt + 1 ≤ 4000000 := by
            have h2 := HC2.out
            have h3 := HCm.out
            omega
          clear hnt
          obtain ⟨s0, c0, -⟩ := HC3.out ur (Below.refl _ _)
          go_wp2_with fail
          go_loopw [3, 6] (fun q3 q6 wr => ∃ (vr : World) (ct t : Nat), vr = wr ∧ t ≤ nt ∧ q3 = .int .i64 ct ∧ q6 = .int .i64 t ∧ Hid (ct = cm + t) ∧ Hid (∀ a ∈ T.take t, small1 a) ∧ Hid (Below ur.heap.size ur vr)) (fun _ q6 _ => nt - (intOf q6).toNat)
          case atStart => exact ⟨_, cm, 0, rfl, Nat.zero_le _, rfl, rfl, Lib.hid (by simp), Lib.hid (by simp), Lib.hid (Below.refl _ _)⟩
          case round =>
            clear s0 c0
            obtain ⟨vr, ct, t, rfl, ht, rfl, rfl, HCt, HT3, HV⟩ := hrel
            obtain ⟨s0, c0, hgV⟩ := HC3.out vr HV.out
            have hct : ct ≤ 4000000 := by have := HCt.out; omega
            by_cases htl : t < nt
            · have i0 : (0 : Int) ≤ (t : Int) := by omega
              have i1 : (t : Int) < (nt : Int) := by omega
              have htx : t < T.length := by rw [HNT.out]; exact htl
              obtain ⟨gt, ot, rfl, hgt, d0, d1, d2⟩ := (HTR.out.below HV.out) t T[t] (List.getElem?_eq_getElem htx)
              have HTt := Lib.hid (fun (h : small1 T[t]) => take_all (P := small1) htx HT3.out h)
              have HCu : Hid (ct + 1 = cm + (t + 1)) := Lib.hid (by have := HCt.out; omega)
              clear d0
              generalize T[t] = a at *
              obtain ⟨ak, an, av⟩ := a
              simp only [small1] at d1 d2 HTt
              by_cases h1 : an.size ≤ 100
              · by_cases h2 : av.size ≤ 100
                · have HTu := Lib.hid (HTt.out ⟨h1, h2⟩)
                  have b1 : decide ((100 : Int) < (an.size : Int)) = false := by simp; omega
                  have b2 : decide ((100 : Int) < (av.size : Int)) = false := by simp; omega
                  go_wp2
                  go_roundw
                  case rel => exact ⟨_, ct + 1, t + 1, rfl, by omega, by go_num, by go_num, HCu, HTu, HV⟩
                  case measure => simp [intOf] <;> omega
                · have b1 : decide ((100 : Int) < (an.size : Int)) = false := by simp; omega
                  have b2 : decide ((100 : Int) < (av.size : Int)) = true := by simp; omega
                  go_wp2
                  go_ret
                  exact ⟨⟨false, rfl, fun h => by cases h⟩, HB.out.trans ((HU.out.trans (HV.out.mono HU.out.size)).mono HB.out.size)⟩
              · have b1 : decide ((100 : Int) < (an.size : Int)) = true := by simp; omega
                go_wp2
                go_ret
                exact ⟨⟨false, rfl, fun h => by cases h⟩, HB.out.trans ((HU.out.trans (HV.out.mono HU.out.size)).mono HB.out.size)⟩
            · obtain rfl : t = nt := by omega
              have e : T.take t = T := List.take_of_length_le (by rw [HNT.out]; exact Nat.le_refl _)
              rw [e] at HT3
              have HTu := Lib.hid (HTk.out HT3.out)
              have HU2 := Lib.hid (HU.out.trans (HV.out.mono HU.out.size))
              have HCu : Hid (ct + 1 = cn + cL (l.take (k + 1))) := Lib.hid (by
                have h1 := HCt.out
                have h2 := HC2.out
                have h3 := HCm.out
                omega)
              clear e
              go_wp2
              go_roundw
              case rel => exact ⟨_, ct + 1, k + 1, rfl, by omega, by go_num, by go_num, HCu, HTu, HU2⟩
              case measure => simp [intOf] <;> omega
        · obtain rfl : k = nl := by omega
          have e : l.take k = l := List.take_of_length_le (by rw [HNL.out]; exact Nat.le_refl _)
          rw [e] at HT2 HCm
          have HTu := Lib.hid (HTn.out HT2.out)
          have HB2 := Lib.hid (HB.out.trans (HU.out.mono HB.out.size))
          have HCu : Hid (cm + 1 = cX (x.take (i + 1))) := Lib.hid (by
            have h1 := HC1.out
            have h2 := HCm.out
            have h3 := HCn.out
            omega)
          have hcm : cm + 1 ≤ 4000000 := by
            have h1 := HC1.out
            have h2 := HCu.out
            omega
          clear e
          go_wp2
          go_roundw
          case rel => exact ⟨_, cm + 1, i + 1, rfl, by omega, by go_num, by go_num, HCu, HTu, HB2⟩
          case measure => simp [intOf] <;> omega
    · obtain rfl : i = n := by omega
      have e : x.take i = x := List.take_of_length_le (by rw [HN.out]; exact Nat.le_refl _)
      rw [e] at HT HCn
      clear e
      go_wp2
      go_ret
      exact ⟨⟨_, rfl, fun h => ⟨HT.out, by have h1 := HCn.out; simp at h; omega⟩⟩, HB.out⟩
end Go.Proofs.YtaacikjoafobfaaGreatDoor.Fi
namespace Go.Proofs.YtaacikjoafobfaaGreatDoor.Sl
set_option linter.unusedVariables false
set_option linter.unusedSimpArgs false
def fr : List Stp → Option Int
  | S :: _ => (S.c.head?).map (·.k)
  | [] => none
/-- The kind of the first test, of those that are whole. -/
def fk0 (s : St) : Option Int := match s.rows with
  | R :: _ => fr R
  | [] => fr (s.row ++ [⟨s.ts, s.child⟩])
/-- .. or, if there is none, of the one that is being read. -/
def fk (s : St) : Option Int := match s.m with
  | .nm k b => if s.rows = [] ∧ s.row = [] ∧ s.ts = [] then some k else fk0 s
  | _ => fk0 s
theorem fk0_add {s : St} {t : Te} {k : Int} (h : fk0 s = some k) : fk0 (s.add t) = some k := by
  obtain ⟨rows, row, ts, ch, m⟩ := s
  cases rows with
  | cons R rs => exact h
  | nil => cases row with
    | cons S r => exact h
    | nil => cases ts with
      | nil => cases h
      | cons T l => exact h
theorem fk0_push {s : St} {ch : Bool} {k : Int} (h : fk0 s = some k) : fk0 (s.push ch) = some k := by
  obtain ⟨rows, row, ts, c', m⟩ := s
  cases rows with
  | cons R rs => exact h
  | nil => cases row with
    | cons S r => exact h
    | nil => exact h
theorem fk0_pushRow {s : St} {k : Int} (h : fk0 s = some k) : fk0 s.pushRow = some k := by
  obtain ⟨rows, row, ts, c', m⟩ := s
  cases rows with
  | cons R rs => exact h
  | nil => exact h
theorem fk_to {s : St} {m : Mo} {k : Int} (h : fk0 s = some k) : fk (s.to m) = some k := by
  obtain ⟨rows, row, ts, c', m'⟩ := s
  unfold fk
  split
  · split
    · rename_i _ _ _ _ hc
      obtain ⟨h1, h2, h3⟩ := hc
      simp only [St.to] at h1 h2 h3
      subst h1; subst h2; subst h3
      cases h
    · exact h
  · exact h
theorem fk_of {s : St} {k : Int} (h : fk0 s = some k) : fk s = some k := by
  have := fk_to (m := s.m) h
  exact this
theorem t_fk {s s' : St} {c : UInt8} {k : Int} (h : fk0 s = some k) (e : tstep s c = some s') : fk s' = some k := by
  unfold tstep at e
  repeat' split at e
  all_goals first
    | (cases e; exact fk_to h)
    | (cases e; exact fk_of (fk0_push h))
    | (cases e; exact fk_of (fk0_pushRow h))
    | cases e
theorem c_fk {s s' : St} {c : UInt8} {k : Int} (h : fk0 s = some k) (e : cstep s c = some s') : fk s' = some k := by
  unfold cstep at e
  repeat' split at e
  all_goals first
    | (cases e; exact fk_to h)
    | cases e
theorem step_fk {s s' : St} {c : UInt8} {k : Int} (h : fk s = some k) (e : step s c = some s') : fk s' = some k := by
  obtain ⟨rows, row, ts, ch, m⟩ := s
  cases m with
  | comp => exact c_fk (s := ⟨rows, row, ts, ch, .comp⟩) h e
  | tests => exact t_fk (s := ⟨rows, row, ts, ch, .tests⟩) h e
  | apart =>
    have h0 : fk0 ⟨rows, row, ts, ch, .apart⟩ = some k := h
    simp only [step] at e
    repeat' split at e
    all_goals first
      | (cases e; exact h)
      | (cases e; exact fk_of (fk0_push h0))
      | (cases e; exact fk_of (fk0_pushRow h0))
      | exact c_fk (fk0_push h0) e
      | cases e
  | nm k0 b =>
    simp only [step] at e
    have hadd : b ≠ [] → fk0 (St.add ⟨rows, row, ts, ch, .nm k0 b⟩ ⟨k0, b, []⟩) = some k := fun _ => by
      unfold fk at h
      simp only [] at h
      split at h
      · rename_i hc
        obtain ⟨rfl, rfl, rfl⟩ := hc
        exact h
      · exact fk0_add h
    have hto : ∀ b', fk (St.to ⟨rows, row, ts, ch, .nm k0 b⟩ (.nm k0 b')) = some k := fun b' => h
    by_cases hb : b = []
    · rw [if_pos hb] at e
      split at e
      · cases e; exact hto _
      · cases e
    · rw [if_neg hb] at e
      split at e
      · split at e
        · cases e; exact hto _
        · cases e
      · exact t_fk (hadd hb) e
  | brk =>
    have h0 : fk0 ⟨rows, row, ts, ch, .brk⟩ = some k := h
    simp only [step] at e
    repeat' split at e
    all_goals first
      | (cases e; exact h)
      | (cases e; exact fk_to h0)
      | cases e
  | bn b =>
    have h0 : fk0 ⟨rows, row, ts, ch, .bn b⟩ = some k := h
    simp only [step, baStep] at e
    repeat' split at e
    all_goals first
      | (cases e; exact fk_to h0)
      | (cases e; exact fk_of (fk0_add h0))
      | cases e
  | ba n =>
    have h0 : fk0 ⟨rows, row, ts, ch, .ba n⟩ = some k := h
    simp only [step, baStep] at e
    repeat' split at e
    all_goals first
      | (cases e; exact fk_to h0)
      | (cases e; exact fk_of (fk0_add h0))
      | cases e
  | be n =>
    have h0 : fk0 ⟨rows, row, ts, ch, .be n⟩ = some k := h
    simp only [step] at e
    repeat' split at e
    all_goals first
      | (cases e; exact h)
      | (cases e; exact fk_to h0)
      | cases e
  | bv n b =>
    have h0 : fk0 ⟨rows, row, ts, ch, .bv n b⟩ = some k := h
    simp only [step, bzStep] at e
    repeat' split at e
    all_goals first
      | (cases e; exact fk_to h0)
      | (cases e; exact fk_of (fk0_add h0))
      | cases e
  | bs n b =>
    have h0 : fk0 ⟨rows, row, ts, ch, .bs n b⟩ = some k := h
    simp only [step] at e
    repeat' split at e
    all_goals first
      | (cases e; exact fk_to h0)
      | cases e
  | bz n v =>
    have h0 : fk0 ⟨rows, row, ts, ch, .bz n v⟩ = some k := h
    simp only [step, bzStep] at e
    repeat' split at e
    all_goals first
      | (cases e; exact fk_to h0)
      | (cases e; exact fk_of (fk0_add h0))
      | cases e
theorem run_fk {l : List UInt8} : ∀ {s s' : St} {i : Nat} {k : Int}, fk s = some k → run s i l = .ok s' → fk s' = some k := by
  induction l with
  | nil => intro s s' i k h e; cases e; exact h
  | cons c l ih =>
    intro s s' i k h e
    rw [run] at e
    cases hs : step s c with
    | none => rw [hs] at e; cases e
    | some s2 =>
      rw [hs] at e
      exact ih (step_fk h hs) e
theorem fin_fk {s : St} {t : Te} {ch : Bool} {k : Int} (h : fk s = some k) (e : fin s = some [[⟨[t], ch⟩]]) : t.k = k := by
  obtain ⟨rows, row, ts, c', m⟩ := s
  have key : ∀ {x : List Te}, rows ++ [row ++ [(⟨x, c'⟩ : Stp)]] = [[⟨[t], ch⟩]] → rows = [] ∧ row = [] ∧ x = [t] := fun hx => by
    cases rows with
    | cons R rs => simp at hx
    | nil => cases row with
      | cons S r => simp at hx
      | nil => simp at hx; exact ⟨rfl, rfl, hx.1⟩
  cases m with
  | tests =>
    obtain ⟨rfl, rfl, rfl⟩ := key (Option.some.inj e)
    exact Option.some.inj h
  | apart =>
    obtain ⟨rfl, rfl, rfl⟩ := key (Option.some.inj e)
    exact Option.some.inj h
  | nm k0 b =>
    simp only [fin] at e
    split at e
    · cases e
    · obtain ⟨rfl, rfl, hx⟩ := key (Option.some.inj e)
      cases ts with
      | cons T l => simp at hx
      | nil =>
        simp only [List.nil_append, List.cons.injEq, and_true] at hx
        subst hx
        have h2 : fk ⟨[], [], [], c', .nm k0 b⟩ = some k0 := rfl
        rw [h2] at h
        exact Option.some.inj h
  | comp => cases e
  | brk => cases e
  | bn b => cases e
  | ba b => cases e
  | be b => cases e
  | bv n b => cases e
  | bs n b => cases e
  | bz n b => cases e
/-- What begins with # and is one test alone asks for an id, and for one that is no empty text. -/
theorem parse_hash {l : List UInt8} {t : Te} {ch : Bool} (h : parse (35 :: l) = .ok [[⟨[t], ch⟩]]) : t.k = 2 ∧ t.n ≠ [] := by
  have hk : t.k = 2 := by
    unfold parse at h
    cases hr : run start 0 (35 :: l) with
    | error i => rw [hr] at h; cases h
    | ok s =>
      rw [hr] at h
      simp only [Sl.ends] at h
      have h1 : fk s = some 2 := by
        rw [run] at hr
        exact run_fk (s := ⟨[], [], [], false, .nm 2 []⟩) (i := 0 + 1) rfl hr
      cases hf : fin s with
      | none => rw [hf] at h; cases h
      | some x =>
        rw [hf] at h
        cases h
        exact fin_fk h1 hf
  refine ⟨hk, ?_⟩
  obtain ⟨-, h2⟩ := parse_ok h
  have h3 := (h2 _ (List.mem_cons_self ..)).2.1.1
  rcases h3 with ⟨-, hn, -⟩ | ⟨h5, -, -⟩
  · exact nameOk_ne hn
  · omega
end Go.Proofs.YtaacikjoafobfaaGreatDoor.Sl
namespace Go.Proofs.YtaacikjoafobfaaGreatDoor.Fi
open Go.ChangeShapes Go.WideShapes Go.ChangeAt Go.RowKit
open Sx (Tr Ms Mr TR MR XR tV r1 ls te stp rws)
set_option linter.unusedVariables false
set_option linter.unusedSimpArgs false

theorem find_same {p q : Nat → Bool} : ∀ {l : List Nat}, (∀ x ∈ l, p x = q x) → l.find? p = l.find? q
  | [], _ => rfl
  | a :: l, h => by
    have ha := h a (List.mem_cons_self ..)
    have ih := find_same (l := l) (fun x hx => h x (List.mem_cons_of_mem _ hx))
    rw [List.find?_cons, List.find?_cons, ha, ih]
theorem attrs_one {l : List (ByteArray × ByteArray)} (h : attrsB l = true) {i j : Nat} (hj : j < l.length) (hi : i < j) : (l[i]'(by omega)).1 ≠ l[j].1 := by
  unfold attrsB at h
  rw [Bool.and_eq_true] at h
  have h1 := List.all_eq_true.1 h.2 j (List.mem_range.2 hj)
  simp only [Bool.and_eq_true, Bool.not_eq_true', List.any_eq_false] at h1
  have h2 := h1.2.2 (l[i]'(by omega)) (List.mem_take_iff_getElem.2 ⟨i, by omega, rfl⟩)
  rw [List.getD_eq_getElem?_getD, List.getElem?_eq_getElem hj] at h2
  intro e
  rw [Option.getD_some, ← e] at h2
  simp at h2
theorem val_iff {l : List (ByteArray × ByteArray)} (h : attrsB l = true) (n v : ByteArray) : decide (valP l n = some v) = l.any (fun a => decide (a = (n, v))) := by
  rw [Bool.eq_iff_iff, decide_eq_true_eq, List.any_eq_true]
  constructor
  · intro hv
    unfold valP at hv
    obtain ⟨a, ha, rfl⟩ := Option.map_eq_some_iff.1 hv
    have h1 := List.find?_some ha
    have h1 : a.1 = n := by simpa using h1
    exact ⟨a, List.mem_of_find?_eq_some ha, by rw [decide_eq_true_eq, ← h1]⟩
  · rintro ⟨a, ha, he⟩
    obtain rfl := of_decide_eq_true he
    obtain ⟨j, hj, e⟩ := List.mem_iff_getElem.1 ha
    have := find_hit hj (name := n) (fun b hb => by
      obtain ⟨i, hi, rfl⟩ := List.mem_take_iff_getElem.1 hb
      have := attrs_one h (i := i) hj (by omega)
      rw [e] at this
      exact this) (by rw [e])
    rw [this, e]
theorem id_fits {F : List Mn} (h : mayB F = true) {i : Nat} (hi : i < F.length) (n v : ByteArray) : fitsB F[i] [(2, n, v)] = hasId F n i := by
  obtain ⟨-, h2, -⟩ := may_iff.1 h
  have ho := (h2 i hi).2
  unfold hasId
  rw [List.getElem?_eq_getElem hi, Option.map_some, Option.getD_some]
  have e : fitsB F[i] [(2, n, v)] = ((F[i].kind == 1) && F[i].attrs.any (fun a => decide (a = (idS, n)))) := by simp [fitsB, soB]
  rw [e]
  have no : F[i].kind ≠ 1 → F[i].attrs.length = 0 → ((F[i].kind == 1) && F[i].attrs.any (fun a => decide (a = (idS, n)))) = decide (valP F[i].attrs idS = some n) := fun _ h0 => by
    rw [List.eq_nil_of_length_eq_zero h0]
    simp [valP]
  unfold ownB at ho
  split at ho
  · rename_i hk
    simp only [Bool.and_eq_true, decide_eq_true_eq] at ho
    exact no (by omega) ho.2.2.2
  split at ho
  · rename_i hk
    simp only [Bool.and_eq_true, decide_eq_true_eq] at ho
    exact no (by omega) ho.2.2
  split at ho
  · rename_i hk
    simp only [Bool.and_eq_true] at ho
    rw [val_iff ho.2.2, hk]
    rfl
  · cases ho
theorem wayU_here {F : List Mn} {i : Nat} (hi : i < F.length) : ∃ up, wayU F i = F[i] :: up := by
  unfold wayU
  obtain ⟨n, hn⟩ : ∃ n, F.length = n + 1 := ⟨F.length - 1, by omega⟩
  rw [hn, wayL_at hi]
  exact ⟨_, rfl⟩
theorem isP_id {F : List Mn} (h : mayB F = true) {i : Nat} (hi : i < F.length) (p q : Option Addr × Nat) (n v : ByteArray) (ch : Bool) : isP F [(p, [(q, ([(2, n, v)], ch))])] i = hasId F n i := by
  obtain ⟨up, e⟩ := wayU_here hi
  rw [← id_fits h hi n v]
  unfold isP
  rw [e]
  simp [rowB, eD]
theorem first_id {F : List Mn} (h : mayB F = true) (p q : Option Addr × Nat) (n v : ByteArray) (ch : Bool) (h0 : ¬ n.size = 0) : ∃ (k : Int) (b : Bool), firstP F [(p, [(q, ([(2, n, v)], ch))])] 0 = .tuple #[.int .i64 k, .bool b] ∧ byP F n = if b then (k, 0) else (0, 3) := by
  have e : (ord F 0).find? (isP F [(p, [(q, ([(2, n, v)], ch))])]) = (ord F 0).find? (hasId F n) := find_same (fun x hx => isP_id h (ord_lt h (mayB_parts h).1 hx) p q n v ch)
  unfold firstP byP
  rw [e, if_neg h0]
  cases (ord F 0).find? (hasId F n) with
  | none => exact ⟨0, false, rfl, rfl⟩
  | some k => exact ⟨k, true, rfl, rfl⟩
/-- What a selector of one test alone, read of # and more, is. -/
theorem hash_one {l : List UInt8} {x : List Mr} (h : Sl.parse (35 :: l) = .ok (rws x)) {m : Mr} {s : Ms} {t : Tr} (hx : x = [m]) (hm : m.2 = [s]) (hs : s.2.1 = [t]) : t.1 = 2 ∧ ¬ t.2.1.size = 0 := by
  subst hx
  obtain ⟨p, l'⟩ := m
  simp only [] at hm
  subst hm
  obtain ⟨q, T, ch⟩ := s
  simp only [] at hs
  subst hs
  have h' : Sl.parse (35 :: l) = .ok [[⟨[te t], ch⟩]] := h
  obtain ⟨h1, h2⟩ := Sl.parse_hash h'
  refine ⟨h1, fun h0 => h2 ?_⟩
  have : (ls t.2.1).length = 0 := by rw [Sx.ls_len]; exact h0
  exact List.eq_nil_of_length_eq_zero this
end Go.Proofs.YtaacikjoafobfaaGreatDoor.Fi
