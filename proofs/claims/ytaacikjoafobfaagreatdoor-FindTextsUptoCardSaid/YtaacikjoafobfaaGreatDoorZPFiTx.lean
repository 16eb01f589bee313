/-
  The law FindTexts: what any text, as a selector, finds in any forest, is the document's.
-/
import Derived.Test.YtaacikjoafobfaaGreatDoorP46
import Derived.Test.YtaacikjoafobfaaGreatDoorP18
namespace Go.Proofs.YtaacikjoafobfaaGreatDoor.Fi
open Go.ChangeShapes Go.WideShapes Go.ChangeAt Go.RowKit
open Sx (Tr Ms Mr TR MR XR tV r1 ls te stp rws cx cl cx_iff)
set_option linter.unusedVariables false
set_option linter.unusedSimpArgs false

theorem xs_ofR {w : World} {base : Nat} {v : Value} {y : List Mr} (h : Sx.SrR w base v y) (hw : Sl.wx (rws y) ≤ 100000) : ∃ p cap, v = .slice p y.length cap ∧ Xs w p y := by
  obtain ⟨p, cap, rfl, hX⟩ := Sx.xr_ofR h
  refine ⟨p, cap, rfl, hX, ?_, fun m hm => ?_⟩
  · have := own_caps h.row
    omega
  · have hr := h.sub m hm
    have hc := own_caps hr.row
    refine ⟨fun s hs' => ⟨?_, fun t ht => wx_names hw m hm s hs' t ht⟩, hc.1, hc.2⟩
    have := own_caps (hr.sub s hs')
    omega
/-- law10's rows, of a selector that came out of a text. -/
theorem rows11 (B : Option Addr) (x : List Mr) (d : Nat) (w : World) (hX : XR w B x) (hw : Sl.wx (rws x) ≤ 100000) :
    Calls Tryz.prog 19 #[.slice B x.length d] w fun e w' => ∃ (y : List Mr) (p : Option Addr) (cap : Nat), e = .returned (.slice p x.length cap) ∧ cx y = cx x ∧ Xs w' p y ∧ Below w.heap.size w w' :=
  (Sx.rows_any B x d w hX (by omega)).mono fun e w' ⟨y, v, he, hS, hcx, hb⟩ => by
    obtain ⟨p, cap, rfl, hXs⟩ := xs_ofR hS (by rw [cx_iff.1 hcx]; exact hw)
    exact ⟨y, p, cap, by rw [he, cx_len hcx], hcx, hXs, hb⟩
set_option maxRecDepth 100000 in
set_option maxHeartbeats 8000000 in
theorem texts_law (A : Option Addr) (l : List Ops.Po) (c : Nat) (t : ByteArray) (ht : t.size ≤ 1048576) (w : World) (hL : Ops.OL w A l) (hl : l.length ≤ 9223372036854775807) (hK : Ops.KT w) :
    Calls Tryz.prog 4 #[.slice A l.length c, .string t] w (GivesV (.bool true) w) := by
  have HB0 := Lib.hid (fun (V : World) (hb : Below w.heap.size w V) => bounded10 A l c V (hL.below hb) hl)
  have HS := Lib.hid (fun (V : World) (hb : Below w.heap.size w V) => shown10 V (hK.below hb))
  have HG := Lib.hid (fun (V : World) (hb : Below w.heap.size w V) (h : l.length ≤ 150) => grown10 A l c V (hL.below hb) (by omega) (hK.below hb))
  have HLE : Hid (bdO l = true → l.length ≤ 150) := Lib.hid (fun h => by
    unfold bdO at h
    rw [Bool.and_eq_true, decide_eq_true_eq] at h
    exact h.2)
  obtain ⟨nl, hnn⟩ : ∃ n, l.length = n := ⟨_, rfl⟩
  rw [hnn] at HB0 HG HLE hl ⊢
  clear hL hK hnn
  generalize bdO l = BL at *
  have HPa := Lib.hid (Sx.sel_parse t w (by omega))
  go_enter Tryz.func4, Tryz.ntmps4
  go_wp2_with fail
  refine HPa.out.mono ?_
  rintro e w1 ⟨hcs, hb⟩
  have HB1 := Lib.hid hb
  clear hb HPa
  rcases hcs with ⟨x, v, rfl, hS, hp⟩ | ⟨k, rfl, hp⟩
  · by_cases hsz : t.size ≤ 80
    · have q1 : decide ((80 : Int) < (t.size : Int)) = false := by simp; omega
      have hw := Sl.parse_wx hp
      rw [Sx.ls_len] at hw
      have hw2 : Sl.wx (rws x) ≤ 100000 := by omega
      obtain ⟨B, d, rfl, hX⟩ := xs_of hS hw2
      have HX := Lib.hid hX
      have HW := Lib.hid hw2
      obtain ⟨nx, hnx⟩ : ∃ nx, x.length = nx := ⟨_, rfl⟩
      have HNX := Lib.hid hnx
      rw [hnx]
      clear hw hS hp hX hnx hw2
      go_wp2_with fail
      refine (HB0.out w1 HB1.out).mono ?_
      rintro e w' ⟨rfl, hw⟩
      obtain rfl := hw.symm
      cases BL with
      | false =>
        go_wp2_with fail
        refine (HS.out w1 HB1.out).mono ?_
        rintro e w9 ⟨rfl, hb⟩
        have HB9 := Lib.hid (HB1.out.trans (hb.mono HB1.out.size))
        clear hb
        go_wp2
        go_ret
        exact ⟨rfl, HB9.out⟩
      | true =>
      have hln := HLE.out rfl
      go_wp2_with fail
      refine (HS.out w1 HB1.out).mono ?_
      rintro e w4 ⟨rfl, hb⟩
      have HC4 := Lib.hid hb
      have HB4 := Lib.hid (HB1.out.trans (hb.mono HB1.out.size))
      clear hb
      go_wp2_with fail
      refine (HG.out w4 HB4.out hln).mono ?_
      rintro e w5 ⟨Af, G, cf, rfl, hF, hm, hlk, hb⟩
      have HC5 := Lib.hid (HC4.out.trans (hb.mono HC4.out.size))
      have HF5 := Lib.hid hF
      have HM5 := Lib.hid hm
      have HIt := Lib.hid (fun (V : World) (hV : Below w5.heap.size w5 V) => its_any Af G cf V (hF.below hV) (may_sz2 hm))
      have HRw := Lib.hid (fun (V : World) (hV : Below w5.heap.size w5 V) => rows11 B x d V (HX.out.xr.below (HC5.out.trans (hV.mono HC5.out.size))) HW.out)
      have HAl : Hid (∃ L : List Int, L.length ≤ 1000 ∧ (∀ V, Below w5.heap.size w5 V → Calls Tryz.prog 16 #[.slice Af G.length cf, .int .i64 0, .slice B x.length d] V (GivesL L V)) ∧
          ∀ V A' (G' : List Mn) c' p y cap, G'.map core = G.map core → FR V A' G' → Xs V p y → cx y = cx x → Calls Tryz.prog 21 #[.slice A' G.length c', .int .i64 0, .slice p x.length cap] V (GivesL L V)) := Lib.hid (by
        have h0 := (mayB_parts hm).1
        refine ⟨((ord G 0).filter (isP G x)).map Int.ofNat, ?_, ?_, ?_⟩
        · rw [List.length_map]
          have h1 := List.length_filter_le (isP G x) (ord G 0)
          have h2 := ord_len hm h0
          have h3 := (may_sz hm).1
          omega
        · exact fun V hV => (all_any Af G cf 0 B x d V (hF.below hV) hm h0 (HX.out.below (HC5.out.trans (hV.mono HC5.out.size)))).mono fun e w' h => givesL_own h
        · intro V A' G' c' p y cap hlk hF' hY hy
          have hn : G'.length = G.length := len_like hlk
          have := rall_node A' G' c' 0 p y cap V hF' (like_may hlk hm) (by omega) hY
          rw [isP_like hlk, show isP G y = isP G x from funext (isP_cx hy), ord_like hlk, cx_len hy, hn] at this
          exact this.mono fun e w' h => givesL_own h)
      obtain ⟨n, hn⟩ : ∃ n, G.length = n := ⟨_, rfl⟩
      rw [hn] at HIt HAl ⊢
      rw [HNX.out] at HRw HAl
      obtain ⟨L, hLn, hAl, hRl⟩ := HAl.out
      have HA1 := Lib.hid hAl
      have HR1 := Lib.hid hRl
      clear hb hlk HS HG HLE HB0 HAl hF hm hn hAl hRl
      go_wp2_with fail
      refine (HA1.out w5 (Below.refl _ _)).mono ?_
      rintro e w6 ⟨p6, c6, rfl, hI6, hb⟩
      have HB6 := Lib.hid hb
      have HI6 := Lib.hid hI6
      clear hb hI6
      go_wp2_with fail
      refine (HIt.out w6 HB6.out).mono ?_
      rintro e w7 ⟨A', c', G', rfl, hlk, hF', hb⟩
      have HB7 := Lib.hid (HB6.out.trans (hb.mono HB6.out.size))
      have HI7 := Lib.hid (HI6.out.below hb)
      have HF7 := Lib.hid hF'
      have HL7 := Lib.hid hlk
      clear hb hlk hF'
      go_wp2_with fail
      refine (HRw.out w7 HB7.out).mono ?_
      rintro e w8 ⟨y, q8, d8, rfl, hcx, hY, hb⟩
      have HB8 := Lib.hid (HB7.out.trans (hb.mono HB7.out.size))
      have HI8 := Lib.hid (HI7.out.below hb)
      have HC8 := Lib.hid (HR1.out w8 A' G' c' q8 y d8 HL7.out (HF7.out.below hb) hY hcx)
      clear hb hcx hY
      go_wp2_with fail
      refine HC8.out.mono ?_
      rintro e w9 ⟨p9, c9, rfl, hI9, hb⟩
      have HB9 := Lib.hid (HB8.out.trans (hb.mono HB8.out.size))
      have HIn := Lib.hid (rints_any p6 p9 L L c6 c9 w9 (HI8.out.below hb) hI9 hLn hLn)
      have e9 : eqI L L = true := by simp [eqI]
      rw [e9] at HIn
      generalize L.length = nL at *
      clear hb hI9 e9
      go_wp2_with fail
      refine HIn.out.mono ?_
      rintro e w10 ⟨rfl, hb⟩
      have HB10 := Lib.hid (HB1.out.trans ((HC5.out.trans ((HB9.out.trans (hb.mono HB9.out.size)).mono HC5.out.size)).mono HB1.out.size))
      clear hb
      go_wp2
      go_ret
      exact ⟨rfl, HB10.out⟩
    · have q1 : decide ((80 : Int) < (t.size : Int)) = true := by simp; omega
      obtain ⟨B, d, rfl, -⟩ := Sx.xr_of hS
      generalize x.length = nx at *
      clear hS hp
      go_wp2_with fail
      refine (HB0.out w1 HB1.out).mono ?_
      rintro e w' ⟨rfl, hw⟩
      obtain rfl := hw.symm
      cases BL with
      | false =>
        go_wp2_with fail
        refine (HS.out w1 HB1.out).mono ?_
        rintro e w9 ⟨rfl, hb⟩
        have HB9 := Lib.hid (HB1.out.trans (hb.mono HB1.out.size))
        clear hb
        go_wp2
        go_ret
        exact ⟨rfl, HB9.out⟩
      | true =>
        go_wp2_with fail
        refine (HS.out w1 HB1.out).mono ?_
        rintro e w9 ⟨rfl, hb⟩
        have HB9 := Lib.hid (HB1.out.trans (hb.mono HB1.out.size))
        clear hb
        go_wp2
        go_ret
        exact ⟨rfl, HB9.out⟩
  · clear hp
    go_wp2_with fail
    refine (HB0.out w1 HB1.out).mono ?_
    rintro e w' ⟨rfl, hw⟩
    obtain rfl := hw.symm
    cases BL with
    | false =>
      go_wp2_with fail
      refine (HS.out w1 HB1.out).mono ?_
      rintro e w9 ⟨rfl, hb⟩
      have HB9 := Lib.hid (HB1.out.trans (hb.mono HB1.out.size))
      clear hb
      go_wp2
      go_ret
      exact ⟨rfl, HB9.out⟩
    | true =>
      by_cases hsz : t.size ≤ 80
      · have q1 : decide ((80 : Int) < (t.size : Int)) = false := by simp; omega
        go_wp2_with fail
        refine (HS.out w1 HB1.out).mono ?_
        rintro e w9 ⟨rfl, hb⟩
        have HB9 := Lib.hid (HB1.out.trans (hb.mono HB1.out.size))
        clear hb
        go_wp2
        go_ret
        exact ⟨rfl, HB9.out⟩
      · have q1 : decide ((80 : Int) < (t.size : Int)) = true := by simp; omega
        go_wp2_with fail
        refine (HS.out w1 HB1.out).mono ?_
        rintro e w9 ⟨rfl, hb⟩
        have HB9 := Lib.hid (HB1.out.trans (hb.mono HB1.out.size))
        clear hb
        go_wp2
        go_ret
        exact ⟨rfl, HB9.out⟩
/-! the law, of what came in -/
set_option maxRecDepth 100000 in
theorem texts_true {H : Type} {enc : TypeId × Value → H} {W : World} {base : Nat} {v0 : Value} {d0 : DataW H} {p0 : List MemPlace} {v1 : Value} {d1 : DataW H} {p1 : List MemPlace} (hk : Rows.uptoSmall H [d0, d1] = true) (hK : Ops.KT W) (o0 : Value.okWide Tryz.prog W .any base 22 v0) (o1 : Value.okWide Tryz.prog W .any base 9 v1)
    (h0 : DataW.Trod enc Tryz.prog W 0 (fun _ => true) true 22 v0 d0 p0) (h1 : DataW.Trod enc Tryz.prog W 0 (fun _ => true) true 9 v1 d1 p1) (l0 : ∀ x ∈ p0, x.block < W.heap.size) (l1 : ∀ x ∈ p1, x.block < W.heap.size) :
    Calls Tryz.prog 4 #[v0, v1] W fun e W' => e = .returned (.bool true) ∧ Below W.heap.size W W' := by
  obtain ⟨A, cap, l, rfl, e1, e2, hL, -⟩ := Ops.ol_open o0 h0 l0
  obtain ⟨t, rfl, rfl, rfl, w0⟩ := Go.ChangeMaps.open_string Tryz.underlying9 o1 h1
  have hs : Rows.uptoBulkAll [d0, .lit (.string t.data.toList)] ≤ 1048576 := by simpa [Rows.uptoSmall] using hk
  simp only [Rows.uptoBulkAll, Rows.uptoBulk] at hs
  have hz : t.data.toList.length = t.size := rfl
  exact texts_law A l cap t (by omega) W hL (Nat.le_trans e1 e2) hK
end Go.Proofs.YtaacikjoafobfaaGreatDoor.Fi
