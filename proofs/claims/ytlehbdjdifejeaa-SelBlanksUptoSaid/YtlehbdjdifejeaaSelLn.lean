/-
  The law SelNames: a name alone is one row of one step with one test of its type; with a mark ahead it is an id, or a class.
-/
import Derived.Test.YtlehbdjdifejeaaSelY
import Derived.ChangeMaps5
namespace Go.Proofs.Ytlehbdjdifejeaa
open Go.ChangeShapes Go.WideShapes Go.ChangeAt Go.RowKit
open Go.PlainAid (bt)
set_option linter.unusedVariables false
set_option linter.unusedSimpArgs false

theorem map_one {α β : Type} {f : α → β} {l : List α} {y : β} (h : l.map f = [y]) : ∃ a, l = [a] ∧ f a = y := by
  match l, h with
  | [a], h => exact ⟨a, rfl, by simpa using h⟩
/-- A selector of one test. -/
theorem one_test {x : List Mr} {k : Int} {s : ByteArray} (h : rws x = [[⟨[⟨k, ls s, []⟩], false⟩]]) : ∃ A1 c1 A2 c2, x = [((A1, c1), [((A2, c2), ([(k, s, (⟨#[]⟩ : ByteArray))], false))])] := by
  obtain ⟨⟨⟨A1, c1⟩, l⟩, rfl, h1⟩ := map_one h
  obtain ⟨⟨⟨A2, c2⟩, T, ch⟩, rfl, h2⟩ := map_one h1
  simp only [stp, Sl.Stp.mk.injEq] at h2
  obtain ⟨h2, rfl⟩ := h2
  obtain ⟨⟨k', n, v⟩, rfl, h3⟩ := map_one h2
  simp only [te, Sl.Te.mk.injEq] at h3
  obtain ⟨rfl, h4, h5⟩ := h3
  obtain rfl := ls_inj h4
  obtain rfl : v = ⟨#[]⟩ := ls_inj h5
  exact ⟨_, _, _, _, rfl⟩
/-- Its cells. -/
theorem one_cells {w : World} {A : Option Addr} {x : List Mr} {k : Int} {s : ByteArray} (hX : XR w A x) (h : rws x = [[⟨[⟨k, ls s, []⟩], false⟩]]) : ∃ g o g1 o1 g2 o2 c1 c2, A = some ⟨g, o, none⟩ ∧ x.length = 1 ∧ g < w.heap.size ∧ g1 < w.heap.size ∧ g2 < w.heap.size ∧ w.cell? ⟨g, o, none⟩ = some (.slice (some ⟨g1, o1, none⟩) 1 c1) ∧ w.cell? ⟨g1, o1, none⟩ = some (.slice (some ⟨g2, o2, none⟩) 1 c2) ∧ w.cell? ⟨g2, o2, none⟩ = some (.int .i64 k) ∧ w.cell? ⟨g2, o2 + 1, none⟩ = some (.string s) ∧ w.cell? ⟨g2, o2 + 2, none⟩ = some (.string ⟨#[]⟩) := by
  obtain ⟨A1, c1, A2, c2, rfl⟩ := one_test h
  obtain ⟨g, o, rfl, hg, h0, hM⟩ := hX 0 _ rfl
  obtain ⟨g1, o1, e1, hg1, h1, -, hT⟩ := hM 0 _ rfl
  obtain ⟨g2, o2, e2, hg2, h2, h3, h4⟩ := hT 0 _ rfl
  simp only [] at e1 e2
  subst e1 e2
  exact ⟨g, o, g1, o1, g2, o2, c1, c2, rfl, rfl, hg, hg1, hg2, h0, h1, h2, h3, h4⟩
set_option maxRecDepth 100000 in
set_option maxHeartbeats 8000000 in
theorem names_law (s : ByteArray) (w : World) (hs : s.size ≤ 2000000) : Calls Try.prog 8 #[.string s] w (GivesV (.bool true) w) := by
  have HP := Lib.hid (fun (t : ByteArray) (ht : t.size ≤ 4000000) (V : World) => sel_parse t V ht)
  have HS := Lib.hid (fun (V : World) => shown_any V)
  have HN := Lib.hid (fun (V : World) => rname_any s V (by omega))
  have h1 : ls (⟨#[35]⟩ ++ s) = 35 :: ls s := by simp [ls, ByteArray.data_append]
  have h2 : ls (⟨#[46]⟩ ++ s) = 46 :: ls s := by simp [ls, ByteArray.data_append]
  have z1 : (⟨#[35]⟩ ++ s : ByteArray).size = 1 + s.size := by rw [ByteArray.size_append]; rfl
  have z2 : (⟨#[46]⟩ ++ s : ByteArray).size = 1 + s.size := by rw [ByteArray.size_append]; rfl
  have HP0 := Lib.hid (fun (V : World) => HP.out s (by omega) V)
  have HP1 := Lib.hid (fun (V : World) => HP.out (⟨#[35]⟩ ++ s) (by omega) V)
  have HP2 := Lib.hid (fun (V : World) => HP.out (⟨#[46]⟩ ++ s) (by omega) V)
  have H1 := Lib.hid h1
  have H2 := Lib.hid h2
  clear h1 h2 z1 z2
  by_cases hnm : nm s = true
  case pos =>
    have hok := hnm
    rw [nm_ok] at hok
    obtain ⟨p0, p1, p2⟩ := Sl.parse_name hok
    have hsz : s.size ≤ 20 := by
      have := (Sl.nameOk_all hok).1
      rwa [ls_len] at this
    have HQ0 : Hid (∀ V : World, Calls Try.prog 11 #[.string s] V fun e w' => (∃ (x : List Mr) (A : Option Addr) (c : Nat), e = .returned (.tuple #[.slice A x.length c, .int .i64 0, .int .i64 0]) ∧ XR w' A x ∧ rws x = [[⟨[⟨1, ls s, []⟩], false⟩]]) ∧ Below V.heap.size V w') := Lib.hid (fun V => (HP0.out V).mono (fun e w' h => by
      obtain ⟨hc, hb⟩ := h
      rw [p0] at hc
      rcases hc with ⟨x, v, he, hS, h⟩ | ⟨k, -, h⟩
      · obtain ⟨A, c, rfl, hX⟩ := xr_of hS
        simp only [Except.ok.injEq] at h
        exact ⟨⟨x, A, c, he, hX, h.symm⟩, hb⟩
      · cases h))
    have HQ1 : Hid (∀ V : World, Calls Try.prog 11 #[.string (⟨#[35]⟩ ++ s)] V fun e w' => (∃ (x : List Mr) (A : Option Addr) (c : Nat), e = .returned (.tuple #[.slice A x.length c, .int .i64 0, .int .i64 0]) ∧ XR w' A x ∧ rws x = [[⟨[⟨2, ls s, []⟩], false⟩]]) ∧ Below V.heap.size V w') := Lib.hid (fun V => (HP1.out V).mono (fun e w' h => by
      obtain ⟨hc, hb⟩ := h
      rw [H1.out, p1] at hc
      rcases hc with ⟨x, v, he, hS, h⟩ | ⟨k, -, h⟩
      · obtain ⟨A, c, rfl, hX⟩ := xr_of hS
        simp only [Except.ok.injEq] at h
        exact ⟨⟨x, A, c, he, hX, h.symm⟩, hb⟩
      · cases h))
    have HQ2 : Hid (∀ V : World, Calls Try.prog 11 #[.string (⟨#[46]⟩ ++ s)] V fun e w' => (∃ (x : List Mr) (A : Option Addr) (c : Nat), e = .returned (.tuple #[.slice A x.length c, .int .i64 0, .int .i64 0]) ∧ XR w' A x ∧ rws x = [[⟨[⟨3, ls s, []⟩], false⟩]]) ∧ Below V.heap.size V w') := Lib.hid (fun V => (HP2.out V).mono (fun e w' h => by
      obtain ⟨hc, hb⟩ := h
      rw [H2.out, p2] at hc
      rcases hc with ⟨x, v, he, hS, h⟩ | ⟨k, -, h⟩
      · obtain ⟨A, c, rfl, hX⟩ := xr_of hS
        simp only [Except.ok.injEq] at h
        exact ⟨⟨x, A, c, he, hX, h.symm⟩, hb⟩
      · cases h))
    rw [hnm] at HN
    have q0 : decide ((100 : Int) < (s.size : Int)) = false := by simp; omega
    have hq1 := fun W => eq_te 1 1 s ⟨#[]⟩ s ⟨#[]⟩ W
    have hq2 := fun W => eq_te 2 2 s ⟨#[]⟩ s ⟨#[]⟩ W
    have hq3 := fun W => eq_te 3 3 s ⟨#[]⟩ s ⟨#[]⟩ W
    simp only [decide_true] at hq1 hq2 hq3
    clear hnm hok p0 p1 p2 HP0 HP1 HP2 HP
    go_enter Try.func8, Try.ntmps8
    go_wp2_with fail
    refine (HQ0.out w).mono ?_
    rintro e w1 ⟨⟨x0, A0, c0, rfl, hX, hx⟩, hb⟩
    obtain ⟨b00, p00, b01, p01, b02, p02, m01, m02, rfl, hl, k0, k1, k2, f0, f1, f2, f3, f4⟩ := one_cells hX hx
    have HC0 : Hid (∀ V, Below w1.heap.size w1 V → V.cell? ⟨b00, p00, none⟩ = some (.slice (some ⟨b01, p01, none⟩) 1 m01) ∧ V.cell? ⟨b01, p01, none⟩ = some (.slice (some ⟨b02, p02, none⟩) 1 m02) ∧ V.cell? ⟨b02, p02, none⟩ = some (.int .i64 1) ∧ V.cell? ⟨b02, p02 + 1, none⟩ = some (.string s) ∧ V.cell? ⟨b02, p02 + 2, none⟩ = some (.string ⟨#[]⟩)) := Lib.hid (fun V hV => ⟨(hV.cell k0).trans f0, (hV.cell k1).trans f1, (hV.cell k2).trans f2, (hV.cell k2).trans f3, (hV.cell k2).trans f4⟩)
    have HB0 := Lib.hid hb
    rw [hl]
    clear hb hX hx hl k0 k1 k2 f0 f1 f2 f3 f4
    go_wp2_with fail
    refine (HQ1.out w1).mono ?_
    rintro e w2 ⟨⟨x1, A1, c1, rfl, hX, hx⟩, hb⟩
    obtain ⟨b10, p10, b11, p11, b12, p12, m11, m12, rfl, hl, k0, k1, k2, f0, f1, f2, f3, f4⟩ := one_cells hX hx
    have HC1 : Hid (∀ V, Below w2.heap.size w2 V → V.cell? ⟨b10, p10, none⟩ = some (.slice (some ⟨b11, p11, none⟩) 1 m11) ∧ V.cell? ⟨b11, p11, none⟩ = some (.slice (some ⟨b12, p12, none⟩) 1 m12) ∧ V.cell? ⟨b12, p12, none⟩ = some (.int .i64 2) ∧ V.cell? ⟨b12, p12 + 1, none⟩ = some (.string s) ∧ V.cell? ⟨b12, p12 + 2, none⟩ = some (.string ⟨#[]⟩)) := Lib.hid (fun V hV => ⟨(hV.cell k0).trans f0, (hV.cell k1).trans f1, (hV.cell k2).trans f2, (hV.cell k2).trans f3, (hV.cell k2).trans f4⟩)
    have HB1 := Lib.hid hb
    rw [hl]
    clear hb hX hx hl k0 k1 k2 f0 f1 f2 f3 f4
    go_wp2_with fail
    refine (HQ2.out w2).mono ?_
    rintro e w3 ⟨⟨x2, A2, c2, rfl, hX, hx⟩, hb⟩
    obtain ⟨b20, p20, b21, p21, b22, p22, m21, m22, rfl, hl, k0, k1, k2, f0, f1, f2, f3, f4⟩ := one_cells hX hx
    have HC2 : Hid (∀ V, Below w3.heap.size w3 V → V.cell? ⟨b20, p20, none⟩ = some (.slice (some ⟨b21, p21, none⟩) 1 m21) ∧ V.cell? ⟨b21, p21, none⟩ = some (.slice (some ⟨b22, p22, none⟩) 1 m22) ∧ V.cell? ⟨b22, p22, none⟩ = some (.int .i64 3) ∧ V.cell? ⟨b22, p22 + 1, none⟩ = some (.string s) ∧ V.cell? ⟨b22, p22 + 2, none⟩ = some (.string ⟨#[]⟩)) := Lib.hid (fun V hV => ⟨(hV.cell k0).trans f0, (hV.cell k1).trans f1, (hV.cell k2).trans f2, (hV.cell k2).trans f3, (hV.cell k2).trans f4⟩)
    have HB2 := Lib.hid hb
    rw [hl]
    clear hb hX hx hl k0 k1 k2 f0 f1 f2 f3 f4
    go_wp2_with fail
    refine (HN.out w3).mono ?_
    rintro e w4 ⟨rfl, rfl⟩
    have HW := Lib.hid ((HB0.out.trans (HB1.out.mono HB0.out.size)).trans (HB2.out.mono (HB0.out.trans (HB1.out.mono HB0.out.size)).size))
    obtain ⟨u0, u1, u2, u3, u4⟩ := HC0.out w3 (HB1.out.trans (HB2.out.mono HB1.out.size))
    obtain ⟨v0, v1, v2, v3, v4⟩ := HC1.out w3 HB2.out
    obtain ⟨y0, y1, y2, y3, y4⟩ := HC2.out w3 (Below.refl _ _)
    go_wp2_with fail
    refine (HS.out w3).mono ?_
    rintro e w4 ⟨rfl, hb⟩
    have HB4 := Lib.hid (HW.out.trans (hb.mono HW.out.size))
    clear hb
    go_wp2
    go_ret
    exact ⟨rfl, HB4.out⟩
  case neg =>
    have hnf : nm s = false := Bool.eq_false_iff.2 hnm
    rw [hnf] at HN
    have HA : Hid (∀ (t : ByteArray) (V : World), Calls Try.prog 11 #[.string t] V (PRes t V) → Calls Try.prog 11 #[.string t] V fun e w' => (∃ (A : Option Addr) (n c : Nat) (a b : Int), e = .returned (.tuple #[.slice A n c, .int .i64 a, .int .i64 b])) ∧ Below V.heap.size V w') := Lib.hid (fun t V h => h.mono (fun e w' hc => by
      obtain ⟨hc, hb⟩ := hc
      rcases hc with ⟨x, v, he, hS, -⟩ | ⟨k, he, -⟩
      · obtain ⟨p, cap, rfl, -⟩ := own_form2 hS.row
        exact ⟨⟨_, _, _, _, _, he⟩, hb⟩
      · exact ⟨⟨_, _, _, _, _, he⟩, hb⟩))
    have HR0 := Lib.hid (fun V => HA.out _ V (HP0.out V))
    have HR1 := Lib.hid (fun V => HA.out _ V (HP1.out V))
    have HR2 := Lib.hid (fun V => HA.out _ V (HP2.out V))
    clear hnm hnf HP0 HP1 HP2 HP HA
    go_enter Try.func8, Try.ntmps8
    go_wp2_with fail
    refine (HR0.out w).mono ?_
    rintro e w1 ⟨⟨A0, n0, d0, a0, b0, rfl⟩, hb⟩
    have HB1 := Lib.hid hb
    clear hb
    go_wp2_with fail
    refine (HR1.out w1).mono ?_
    rintro e w2 ⟨⟨A1, n1, d1, a1, b1, rfl⟩, hb⟩
    have HB2 := Lib.hid (HB1.out.trans (hb.mono HB1.out.size))
    clear hb
    go_wp2_with fail
    refine (HR2.out w2).mono ?_
    rintro e w3 ⟨⟨A2, n2, d2, a2, b2, rfl⟩, hb⟩
    have HB3 := Lib.hid (HB2.out.trans (hb.mono HB2.out.size))
    clear hb
    by_cases h100 : 100 < s.size
    · have q0 : decide ((100 : Int) < (s.size : Int)) = true := by simp; omega
      clear h100
      go_wp2_with fail
      refine (HS.out w3).mono ?_
      rintro e w4 ⟨rfl, hb⟩
      have HB4 := Lib.hid (HB3.out.trans (hb.mono HB3.out.size))
      clear hb
      go_wp2
      go_ret
      exact ⟨rfl, HB4.out⟩
    · have q0 : decide ((100 : Int) < (s.size : Int)) = false := by simp; omega
      clear h100
      go_wp2_with fail
      refine (HN.out w3).mono ?_
      rintro e w4 ⟨rfl, rfl⟩
      go_wp2_with fail
      refine (HS.out w3).mono ?_
      rintro e w4 ⟨rfl, hb⟩
      have HB4 := Lib.hid (HB3.out.trans (hb.mono HB3.out.size))
      clear hb
      go_wp2
      go_ret
      exact ⟨rfl, HB4.out⟩
/-- A text's length, of the bound. -/
theorem bulk_str {H : Type} {s : ByteArray} {l : List (DataW H)} (hk : Rows.uptoSmall H l = true) (h : DataW.lit (.string s.data.toList) ∈ l) : s.size ≤ 1048576 := by
  have key : ∀ (l : List (DataW H)), DataW.lit (.string s.data.toList) ∈ l → s.data.toList.length ≤ Rows.uptoBulkAll l := by
    intro l
    induction l with
    | nil => intro h; cases h
    | cons a l ih =>
      intro h
      rw [List.mem_cons] at h
      rcases h with rfl | h
      · simp only [Rows.uptoBulkAll, Rows.uptoBulk]
        omega
      · have := ih h
        simp only [Rows.uptoBulkAll]
        omega
  have h1 : Rows.uptoBulkAll l ≤ 1048576 := of_decide_eq_true hk
  have h2 := key l h
  have h3 := ls_len s
  unfold ls at h3
  omega
/-- The law, of what came in. -/
theorem names_true {H : Type} {enc : TypeId × Value → H} {W : World} {base : Nat} {v0 : Value} {d0 : DataW H} {p0 : List MemPlace} (hk : Rows.uptoSmall H [d0] = true) (o0 : Value.okWide Try.prog W .any base 9 v0)
    (h0 : DataW.Trod enc Try.prog W 0 (fun _ => true) true 9 v0 d0 p0) (l0 : ∀ x ∈ p0, x.block < W.heap.size) :
    Calls Try.prog 8 #[v0] W fun e W' => e = .returned (.bool true) ∧ Below W.heap.size W W' := by
  obtain ⟨t, rfl, rfl, rfl, w0⟩ := Go.ChangeMaps.open_string Try.underlying9 o0 h0
  have := bulk_str (s := t) hk (by simp)
  exact names_law t W (by omega)
end Go.Proofs.Ytlehbdjdifejeaa
