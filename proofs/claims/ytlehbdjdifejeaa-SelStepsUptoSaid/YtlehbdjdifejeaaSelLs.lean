/-
  The law SelSteps: two selectors of one row, with a blank, or a >, between are one row of both.
-/
import Derived.Test.YtlehbdjdifejeaaSelLr
import Derived.Test.YtlehbdjdifejeaaSelLn
namespace Go.Proofs.Ytlehbdjdifejeaa
open Go.ChangeShapes Go.WideShapes Go.ChangeAt Go.RowKit
open Go.PlainAid (bt)
set_option linter.unusedVariables false
set_option linter.unusedSimpArgs false

theorem map_single {α β : Type} {f : α → β} {l : List α} {y : β} (h : l.map f = [y]) : ∃ a, l = [a] ∧ f a = y := by
  match l, h with
  | [a], h => exact ⟨a, rfl, by simpa using h⟩
/-- A row of two parts. -/
theorem rows_apart {K : List Ms} {ra rb : List Sl.Stp} {ch : Bool} (h : K.map stp = ra ++ Sl.setF ch rb) (hok : Sl.rowOk rb) : ∃ K1 m K2, K = K1 ++ m :: K2 ∧ K1.map stp = ra ∧ m.2.2 = ch ∧ (((m.1, m.2.1, false) :: K2 : List Ms)).map stp = rb := by
  obtain ⟨K1, L2, rfl, h1, h2⟩ := List.map_eq_append_iff.1 h
  match rb, hok with
  | x :: l, hok =>
    simp only [Sl.setF] at h2
    obtain ⟨m, K2, rfl, h3, h4⟩ := List.map_eq_cons_iff.1 h2
    refine ⟨K1, m, K2, rfl, h1, ?_, ?_⟩
    · simp only [stp, Sl.Stp.mk.injEq] at h3
      exact h3.2
    · simp only [stp, Sl.Stp.mk.injEq] at h3
      obtain ⟨xc, xf⟩ := x
      obtain rfl : xf = false := hok.1
      simp only [List.map_cons, h4, stp, h3.1]
theorem MR.take {w : World} {A : Option Addr} {K1 K2 : List Ms} (h : MR w A (K1 ++ K2)) : MR w A K1 := fun i m hi => h i m (by rw [List.getElem?_append_left (List.getElem?_eq_some_iff.1 hi).1]; exact hi)
/-- A row that is owned, cut where a flag is written. -/
theorem cut_mem {w : World} {base c : Nat} {A : Option Addr} {K1 K2 : List Ms} {m : Ms} (h : Rw w base (.slice A (K1 ++ m :: K2).length c) (K1 ++ m :: K2)) :
    ∃ g, A = some ⟨g, 0, none⟩ ∧ base ≤ g ∧ g < w.heap.size ∧ (K1 ++ m :: K2).length ≤ c ∧ w.frozen? ⟨g, K1.length * 2 + 1, none⟩ = false ∧ w.cell? ⟨g, K1.length * 2 + 1, none⟩ = some (.bool m.2.2)
      ∧ MR (w.setCell ⟨g, K1.length * 2 + 1, none⟩ (.bool false)) (some ⟨g, 0, none⟩) K1 ∧ MR (w.setCell ⟨g, K1.length * 2 + 1, none⟩ (.bool false)) (some ⟨g, K1.length * 2, none⟩) ((m.1, m.2.1, false) :: K2) := by
  have hM := mr_of h
  have hl : 0 < (K1 ++ m :: K2).length := by simp; omega
  rcases h.row.2 with ⟨-, h'⟩ | ⟨g, cap, cur, hv, hb, hg, h1, h2, h4⟩
  · omega
  · cases hv
    have hat : (K1 ++ m :: K2)[K1.length]? = some m := by simp
    have hcell : ∀ i x, (K1 ++ m :: K2)[i]? = some x → g < w.heap.size ∧ w.cell? ⟨g, i * 2, none⟩ = some (.slice x.1.1 x.2.1.length x.1.2) ∧ w.cell? ⟨g, i * 2 + 1, none⟩ = some (.bool x.2.2) ∧ TR w x.1.1 x.2.1 := fun i x hi => by
      obtain ⟨g', o', e, a, b, c', d⟩ := hM i x hi
      cases e
      rw [Nat.zero_add] at b c'
      exact ⟨a, b, c', d⟩
    have hsub : ∀ x ∈ K1 ++ m :: K2, TR (w.setCell ⟨g, K1.length * 2 + 1, none⟩ (.bool false)) x.1.1 x.2.1 := fun x hx => by
      have ho := h.sub x hx
      intro i t hi
      obtain ⟨g', o', e, a, b, c', d⟩ := tr_of ho i t hi
      have hne : g ≠ g' := by
        have := own_apart ho hg (by decide)
        rw [e] at this
        simp only [Value.ownBlock] at this
        exact fun e => this (by rw [e])
      refine ⟨g', o', e, by simpa using a, ?_, ?_, ?_⟩
      · rw [World.cell?_setCell_far _ _ _ _ hne]; exact b
      · rw [World.cell?_setCell_far _ _ _ _ hne]; exact c'
      · rw [World.cell?_setCell_far _ _ _ _ hne]; exact d
    obtain ⟨z1, z2, z3, z4⟩ := hcell _ _ hat
    have hother : ∀ j, j ≠ K1.length * 2 + 1 → (w.setCell ⟨g, K1.length * 2 + 1, none⟩ (.bool false)).cell? ⟨g, j, none⟩ = w.cell? ⟨g, j, none⟩ := fun j hj => by
      refine World.cell?_setCell_other _ _ _ _ (fun e => hj ?_)
      cases e
      rfl
    refine ⟨g, rfl, hb, z1, by omega, by simp [World.frozen?, hg], z3, fun i x hi => ?_, fun i x hi => ?_⟩
    · have hlt := (List.getElem?_eq_some_iff.1 hi).1
      have hi2 : (K1 ++ m :: K2)[i]? = some x := by rw [List.getElem?_append_left hlt]; exact hi
      obtain ⟨a, b, c', d⟩ := hcell i x hi2
      refine ⟨g, 0, rfl, by simpa using a, ?_, ?_, hsub x (List.mem_of_getElem? hi2)⟩
      · rw [Nat.zero_add, hother _ (by omega)]; exact b
      · rw [Nat.zero_add, hother _ (by omega)]; exact c'
    · match i, hi with
      | 0, hi =>
        cases hi
        refine ⟨g, K1.length * 2, rfl, by simpa using z1, ?_, ?_, hsub m (by simp)⟩
        · rw [Nat.zero_mul, Nat.add_zero, hother _ (by omega)]; exact z2
        · rw [Nat.zero_mul, Nat.add_zero]; exact World.cell?_setCell_same' _ _ _ (by rw [z3]; rfl)
      | i + 1, hi =>
        have hi2 : (K1 ++ m :: K2)[K1.length + (i + 1)]? = some x := by rw [List.getElem?_append_right (by omega), Nat.add_sub_cancel_left]; exact hi
        obtain ⟨a, b, c', d⟩ := hcell _ x hi2
        refine ⟨g, K1.length * 2, rfl, by simpa using a, ?_, ?_, hsub x (List.mem_of_getElem? hi2)⟩
        · rw [← Nat.add_mul, hother _ (by omega)]; exact b
        · rw [← Nat.add_mul, hother _ (by omega)]; exact c'
/-- .. and the selector that holds it. -/
theorem steps_mem {w : World} {base : Nat} {v : Value} {z : List Mr} {ra rb : List Sl.Stp} {ch : Bool} (h : Sr w base v z) (hz : rws z = [ra ++ Sl.setF ch rb]) (hok : Sl.rowOk rb) :
    ∃ g0 c0 g c, ∃ K1 K2 : List Ms, v = .slice (some ⟨g0, 0, none⟩) 1 c0 ∧ g0 ≠ g ∧ base ≤ g ∧ g < w.heap.size ∧ g0 < w.heap.size ∧ K1.length + K2.length ≤ c ∧ 0 < K2.length ∧ K1.map stp = ra ∧ K2.map stp = rb
      ∧ w.cell? ⟨g0, 0, none⟩ = some (.slice (some ⟨g, 0, none⟩) (K1.length + K2.length) c) ∧ w.frozen? ⟨g, K1.length * 2 + 1, none⟩ = false ∧ w.cell? ⟨g, K1.length * 2 + 1, none⟩ = some (.bool ch)
      ∧ MR (w.setCell ⟨g, K1.length * 2 + 1, none⟩ (.bool false)) (some ⟨g, 0, none⟩) K1 ∧ MR (w.setCell ⟨g, K1.length * 2 + 1, none⟩ (.bool false)) (some ⟨g, K1.length * 2, none⟩) K2 := by
  obtain ⟨⟨⟨C, f⟩, K⟩, rfl, hK⟩ := map_single hz
  obtain ⟨K1, m, K2, rfl, h1, h2, h3⟩ := rows_apart hK hok
  have hS := h.sub _ (List.mem_singleton.2 rfl)
  obtain ⟨g, hA, hb, hg, hc, hf, hc1, hM1, hM2⟩ := cut_mem hS
  simp only [] at hA
  subst hA
  rcases h.row.2 with ⟨-, h'⟩ | ⟨g0, cap, cur, hv, hb0, hg0, e1, e2, e4⟩
  · simp at h'
  · subst hv
    have hne := own_apart hS.row hg0 (by decide)
    simp only [Value.ownBlock] at hne
    have hcl := h.row.cells rfl 0 (r1 ((some ⟨g, 0, none⟩, f), K1 ++ m :: K2)) rfl
    refine ⟨g0, cap, g, f, K1, (m.1, m.2.1, false) :: K2, rfl, fun e => hne (by rw [e]), hb, hg, lt_block hg0, ?_, by simp, h1, h3, ?_, hf, by rw [hc1, h2], hM1, hM2⟩
    · simpa using hc
    · rw [add_plain] at hcl
      simpa [r1] using hcl
theorem xr_new {V : World} {A : Option Addr} {c : Nat} {l : List Ms} {t : TypeId} (h : MR V A l) : XR (V.alloc (.cells #[.slice A l.length c] t)) (some ⟨V.heap.size, 0, none⟩) [((A, c), l)] := by
  intro i m hi
  match i, hi with
  | 0, hi =>
    cases hi
    refine ⟨V.heap.size, 0, rfl, by simp, ?_, h.below ((Below.refl _ _).alloc (Nat.le_refl _) _)⟩
    have := cell_one_new V (.slice A l.length c) t 0 _ rfl
    rwa [add_plain] at this
  | i + 1, hi => simp at hi
theorem row_mem {w : World} {A : Option Addr} {x : List Mr} {ra : List Sl.Stp} (hX : XR w A x) (h : rws x = [ra]) : ∃ g o c1 A1, A = some ⟨g, o, none⟩ ∧ x.length = 1 ∧ g < w.heap.size ∧ w.cell? ⟨g, o, none⟩ = some (.slice A1 ra.length c1) := by
  obtain ⟨⟨⟨A1, c1⟩, K⟩, rfl, hK⟩ := map_single h
  obtain ⟨g, o, rfl, hg, h0, hM⟩ := hX 0 _ rfl
  exact ⟨g, o, c1, A1, rfl, rfl, hg, by rw [← hK, List.length_map]; exact h0⟩
set_option maxRecDepth 100000 in
set_option maxHeartbeats 8000000 in
theorem steps_law (s t : ByteArray) (ch : Bool) (w : World) (hs : s.size ≤ 2000000) (ht : t.size ≤ 2000000) : Calls Try.prog 9 #[.string s, .string t, .bool ch] w (GivesV (.bool true) w) := by
  have HS := Lib.hid (fun (V : World) => shown_any V)
  have HPs := Lib.hid (fun (V : World) => parse_any (t := s) (by omega) V)
  have HPt := Lib.hid (fun (V : World) => parse_any (t := t) (by omega) V)
  by_cases hbd : s.size ≤ 100 ∧ t.size ≤ 100
  case neg =>
    have hcase : decide ((100 : Int) < (s.size : Int)) = true ∨ (decide ((100 : Int) < (s.size : Int)) = false ∧ decide ((100 : Int) < (t.size : Int)) = true) := by
      by_cases h : s.size ≤ 100
      · exact .inr ⟨by simp; omega, by simp; omega⟩
      · exact .inl (by simp; omega)
    clear hbd
    rcases hcase with q0 | ⟨q0, q1⟩
    all_goals
      go_enter Try.func9, Try.ntmps9
      go_wp2_with fail
      refine (HPs.out w).mono ?_
      rintro e w1 ⟨⟨A1, n1, c1, a1, b1, rfl⟩, hb⟩
      have HB1 := Lib.hid hb
      clear hb
      go_wp2_with fail
      refine (HPt.out w1).mono ?_
      rintro e w2 ⟨⟨A2, n2, c2, a2, b2, rfl⟩, hb⟩
      have HB2 := Lib.hid (HB1.out.trans (hb.mono HB1.out.size))
      clear hb
      go_wp2_with fail
      refine (HS.out w2).mono ?_
      rintro e w3 ⟨rfl, hb⟩
      have HB3 := Lib.hid (HB2.out.trans (hb.mono HB2.out.size))
      clear hb
      go_wp2
      go_ret
      exact ⟨rfl, HB3.out⟩
  obtain ⟨hs1, ht1⟩ := hbd
  have q0 : decide ((100 : Int) < (s.size : Int)) = false := by simp; omega
  have q1 : decide ((100 : Int) < (t.size : Int)) = false := by simp; omega
  cases hp : Sl.parse (ls s) with
  | error i =>
    have HP := Lib.hid (fun (V : World) => parse_bad (by omega) hp V)
    clear hp
    go_enter Try.func9, Try.ntmps9
    go_wp2_with fail
    refine (HP.out w).mono ?_
    rintro e w1 ⟨rfl, hb⟩
    have HB1 := Lib.hid hb
    clear hb
    go_wp2_with fail
    refine (HPt.out w1).mono ?_
    rintro e w2 ⟨⟨A2, n2, c2, a2, b2, rfl⟩, hb⟩
    have HB2 := Lib.hid (HB1.out.trans (hb.mono HB1.out.size))
    clear hb
    go_wp2_with fail
    refine (HS.out w2).mono ?_
    rintro e w3 ⟨rfl, hb⟩
    have HB3 := Lib.hid (HB2.out.trans (hb.mono HB2.out.size))
    clear hb
    go_wp2
    go_ret
    exact ⟨rfl, HB3.out⟩
  | ok X =>
    have HP := Lib.hid (fun (V : World) => parse_good (by omega) hp V)
    cases hpt : Sl.parse (ls t) with
    | error i =>
      have HT := Lib.hid (fun (V : World) => parse_bad (by omega) hpt V)
      clear hp hpt
      go_enter Try.func9, Try.ntmps9
      go_wp2_with fail
      refine (HP.out w).mono ?_
      rintro e w1 ⟨⟨x, A, c, rfl, -, -⟩, hb⟩
      have HB1 := Lib.hid hb
      clear hb
      generalize x.length = nx
      go_wp2_with fail
      refine (HT.out w1).mono ?_
      rintro e w2 ⟨rfl, hb⟩
      have HB2 := Lib.hid (HB1.out.trans (hb.mono HB1.out.size))
      clear hb
      go_wp2_with fail
      refine (HS.out w2).mono ?_
      rintro e w3 ⟨rfl, hb⟩
      have HB3 := Lib.hid (HB2.out.trans (hb.mono HB2.out.size))
      clear hb
      go_wp2
      go_ret
      exact ⟨rfl, HB3.out⟩
    | ok Y =>
      have HT := Lib.hid (fun (V : World) => parse_good (by omega) hpt V)
      by_cases hX1 : X.length = 1
      case neg =>
        clear hp hpt
        go_enter Try.func9, Try.ntmps9
        go_wp2_with fail
        refine (HP.out w).mono ?_
        rintro e w1 ⟨⟨x, A, c, rfl, -, hx⟩, hb⟩
        have HB1 := Lib.hid hb
        clear hb
        have q2 : decide ((x.length : Int) = 1) = false := by rw [len_rws hx]; simp; omega
        have q2n : ¬ x.length = 1 := by rw [len_rws hx]; exact hX1
        have q2d : decide (x.length = 1) = false := by rw [len_rws hx]; simp; omega
        clear hx
        generalize x.length = nx at q2 q2n q2d ⊢
        go_wp2_with fail
        refine (HT.out w1).mono ?_
        rintro e w2 ⟨⟨y, B, d, rfl, -, -⟩, hb⟩
        have HB2 := Lib.hid (HB1.out.trans (hb.mono HB1.out.size))
        clear hb
        generalize y.length = ny
        go_wp2_with fail
        refine (HS.out w2).mono ?_
        rintro e w3 ⟨rfl, hb⟩
        have HB3 := Lib.hid (HB2.out.trans (hb.mono HB2.out.size))
        clear hb
        go_wp2
        go_ret
        exact ⟨rfl, HB3.out⟩
      by_cases hY1 : Y.length = 1
      case neg =>
        clear hp hpt
        go_enter Try.func9, Try.ntmps9
        go_wp2_with fail
        refine (HP.out w).mono ?_
        rintro e w1 ⟨⟨x, A, c, rfl, -, hx⟩, hb⟩
        have HB1 := Lib.hid hb
        clear hb
        have q2 : decide ((x.length : Int) = 1) = true := by rw [len_rws hx]; simp; omega
        have q2n : x.length = 1 := by rw [len_rws hx]; exact hX1
        have q2d : decide (x.length = 1) = true := by rw [len_rws hx]; simp; omega
        clear hx
        generalize x.length = nx at q2 q2n q2d ⊢
        go_wp2_with fail
        refine (HT.out w1).mono ?_
        rintro e w2 ⟨⟨y, B, d, rfl, -, hy⟩, hb⟩
        have HB2 := Lib.hid (HB1.out.trans (hb.mono HB1.out.size))
        clear hb
        have q3 : decide ((y.length : Int) = 1) = false := by rw [len_rws hy]; simp; omega
        have q3d : decide (y.length = 1) = false := by rw [len_rws hy]; simp; omega
        have q3n : ¬ y.length = 1 := by rw [len_rws hy]; exact hY1
        clear hy
        generalize y.length = ny at q3 q3n q3d ⊢
        go_wp2_with fail
        refine (HS.out w2).mono ?_
        rintro e w3 ⟨rfl, hb⟩
        have HB3 := Lib.hid (HB2.out.trans (hb.mono HB2.out.size))
        clear hb
        go_wp2
        go_ret
        exact ⟨rfl, HB3.out⟩
      obtain ⟨ra, rfl⟩ := List.length_eq_one_iff.1 hX1
      obtain ⟨rb, rfl⟩ := List.length_eq_one_iff.1 hY1
      have hok : Sl.rowOk rb := (Sl.parse_ok hpt).2 rb (by simp)
      obtain ⟨hpc, hbne⟩ := Sl.parse_behind hp hpt ch
      have wa := Sl.parse_wx hp
      have wb := Sl.parse_wx hpt
      rw [ls_len] at wa wb
      have HWa : Hid (Sl.wx [ra] ≤ 1000000) := Lib.hid (by omega)
      have HWb : Hid (Sl.wx [rb] ≤ 1000000) := Lib.hid (by omega)
      obtain ⟨u, hu⟩ : ∃ u : ByteArray, u = s ++ (if ch then ⟨#[62]⟩ else ⟨#[32]⟩) ++ t := ⟨_, rfl⟩
      have hul : ls u = ls s ++ (if ch then 62 else 32) :: ls t := by rw [hu]; cases ch <;> simp [ls, ByteArray.data_append]
      have huz : u.size ≤ 201 := by
        rw [hu, ByteArray.size_append, ByteArray.size_append]
        have : (if ch then (⟨#[62]⟩ : ByteArray) else ⟨#[32]⟩).size = 1 := by cases ch <;> rfl
        omega
      rw [← hul] at hpc
      have HPc : Hid (∀ V : World, Calls Try.prog 11 #[.string u] V fun e w' => (∃ (z : List Mr) (v : Value), e = .returned (.tuple #[v, .int .i64 0, .int .i64 0]) ∧ Sr w' V.heap.size v z ∧ rws z = [ra ++ Sl.setF ch rb]) ∧ Below V.heap.size V w') := Lib.hid (fun V => (sel_parse u V (by omega)).mono (fun e w' h => by
        obtain ⟨hc, hb⟩ := h
        rw [hpc] at hc
        rcases hc with ⟨z, v, he, hS, h⟩ | ⟨k, -, h⟩
        · simp only [Except.ok.injEq] at h
          exact ⟨⟨z, v, he, hS, h.symm⟩, hb⟩
        · cases h))
      rw [hu] at HPc
      have HI := Lib.hid (fun (A : Option Addr) (x : List Mr) (c : Nat) (V : World) (hX : XR V A x) (hx : Sl.wx (rws x) ≤ 1000000) => its_good (c := c) hX hx)
      have HSa := Lib.hid (fun (A B : Option Addr) (x y : List Mr) (c d : Nat) (V : World) (hX : XR V A x) (hY : XR V B y) (r : List Sl.Stp) (hx : rws x = [r]) (hy : rws y = [r]) (hr : Sl.wx [r] ≤ 1000000) => same_good (c := c) (d := d) hX hY (by rw [hx, hy]) (by rw [hy]; omega))
      have HRM := Lib.hid (fun (V : World) (base : Nat) (v : Value) (z : List Mr) (h : Sr V base v z) (hz : rws z = [ra ++ Sl.setF ch rb]) => steps_mem h hz hok)
      have HRX := Lib.hid (fun (V : World) (A : Option Addr) (x : List Mr) (r : List Sl.Stp) (hX : XR V A x) (h : rws x = [r]) => row_mem hX h)
      have hla : ra.length ≤ 1000000 := by
        have h1 := Sl.wx_row (r := ra) (x := [ra]) (by simp)
        have h2 := Sl.wss_len ra
        have h3 := HWa.out
        simp only [Sl.wr] at h1
        omega
      have hl0 : 0 < rb.length := List.length_pos_iff.2 hbne
      have hlb : rb.length ≤ 1000000 := by
        have h1 := Sl.wx_row (r := rb) (x := [rb]) (by simp)
        have h2 := Sl.wss_len rb
        have h3 := HWb.out
        simp only [Sl.wr] at h1
        omega
      clear hp hpt hpc hok hu hul huz wa wb hbne hX1 hY1 HPs HPt
      generalize hna : ra.length = na at hla
      generalize hnb : rb.length = nb at hlb hl0
      have HNA := Lib.hid hna
      have HNB := Lib.hid hnb
      obtain ⟨nt, hnt⟩ : ∃ nt, nt = na + nb := ⟨_, rfl⟩
      have HNT := Lib.hid hnt
      have hwr : IntKind.i64.wrap ((na : Int) + (nb : Int)) = (nt : Int) := by rw [hnt, IntKind.wrap_i64]; omega
      have hbn : na < nt := by omega
      clear hna hnb hnt
      cases ch
      all_goals
        simp only [Bool.false_eq_true, if_true, if_false] at HPc
        go_enter Try.func9, Try.ntmps9
        go_wp2_with fail
        refine (HP.out w).mono ?_
        rintro e w1 ⟨⟨x, A, c, rfl, hX, hx⟩, hb⟩
        have HB1 := Lib.hid hb
        have HXa1 := Lib.hid hX
        have HXa := Lib.hid hx
        obtain ⟨g1, o1, c1, A1, rfl, hl, k1, k2⟩ := HRX.out w1 _ _ _ hX hx
        rw [HNA.out] at k2
        have HK1 := Lib.hid (And.intro k1 k2)
        have HLx := Lib.hid hl
        rw [hl]
        clear hb hX hx k1 k2 hl
        go_wp2_with fail
        refine (HT.out w1).mono ?_
        rintro e w2 ⟨⟨y, B, d, rfl, hX, hx⟩, hb⟩
        have HB2 := Lib.hid (HB1.out.trans (hb.mono HB1.out.size))
        have HXa2 := Lib.hid (HXa1.out.below hb)
        have HK12 : Hid (g1 < w2.heap.size ∧ w2.cell? ⟨g1, o1, none⟩ = some (.slice A1 na c1)) := Lib.hid ⟨Nat.lt_of_lt_of_le HK1.out.1 hb.size, (hb.cell HK1.out.1).trans HK1.out.2⟩
        have HXb2 := Lib.hid hX
        have HXb := Lib.hid hx
        obtain ⟨g2, o2, c2, A2, rfl, hl, k1, k2⟩ := HRX.out w2 _ _ _ hX hx
        rw [HNB.out] at k2
        have HK2 := Lib.hid (And.intro k1 k2)
        have HLy := Lib.hid hl
        rw [hl]
        clear hb hX hx k1 k2 hl
        go_wp2_with fail
        refine (HS.out w2).mono ?_
        rintro e w3 ⟨rfl, hb⟩
        have HB3 := Lib.hid (HB2.out.trans (hb.mono HB2.out.size))
        have HXa3 := Lib.hid (HXa2.out.below hb)
        have HXb3 := Lib.hid (HXb2.out.below hb)
        have HK13 : Hid (g1 < w3.heap.size ∧ w3.cell? ⟨g1, o1, none⟩ = some (.slice A1 na c1)) := Lib.hid ⟨Nat.lt_of_lt_of_le HK12.out.1 hb.size, (hb.cell HK12.out.1).trans HK12.out.2⟩
        have HK23 : Hid (g2 < w3.heap.size ∧ w3.cell? ⟨g2, o2, none⟩ = some (.slice A2 nb c2)) := Lib.hid ⟨Nat.lt_of_lt_of_le HK2.out.1 hb.size, (hb.cell HK2.out.1).trans HK2.out.2⟩
        clear hb HK1 HK12 HK2 HXa1 HXa2 HXb2
        go_wp2_with fail
        refine (HPc.out w3).mono ?_
        rintro e w4 ⟨⟨z, v, rfl, hS, hz⟩, hb⟩
        have HB4 := Lib.hid hb
        obtain ⟨g0, c0, g, c3, K1, K2, rfl, hne, hbg, hg, hg0, hcc, hk0, hm1, hm2, hc0, hfz, hcf, hM1, hM2⟩ := HRM.out _ _ _ _ hS hz
        have e1 : K1.length = na := by rw [← HNA.out, ← hm1, List.length_map]
        have e2 : K2.length = nb := by rw [← HNB.out, ← hm2, List.length_map]
        rw [e1] at hfz hcf hM1 hM2
        rw [e1, e2, ← HNT.out] at hc0 hcc
        have k1 := (hb.cell HK13.out.1).trans HK13.out.2
        have k2 := (hb.cell HK23.out.1).trans HK23.out.2
        have HM1 := Lib.hid hM1
        have HM2 := Lib.hid hM2
        have HE1 := Lib.hid e1
        have HE2 := Lib.hid e2
        have Hm1 := Lib.hid hm1
        have Hm2 := Lib.hid hm2
        have HG := Lib.hid (And.intro hg (And.intro hg0 hbg))
        have HNE := Lib.hid hne
        clear hb hS hz hM1 hM2 e1 e2 hm1 hm2 hk0 hg hg0 hbg
        go_wp2_with fail
        go_quiet (fail)
        go_wp2_with fail
        have hz5 : ((w4.drewN nq).setCell ⟨g, na * 2 + 1, none⟩ (.bool false)).heap.size = w4.heap.size := by simp
        have hB5 : Below w3.heap.size w3 ((w4.drewN nq).setCell ⟨g, na * 2 + 1, none⟩ (.bool false)) := (below_drewN HB4.out nq).setCell (by exact HG.out.2.2) _
        have hM15 : MR ((w4.drewN nq).setCell ⟨g, na * 2 + 1, none⟩ (.bool false)) (some ⟨g, 0, none⟩) K1 := HM1.out
        have hM25 : MR ((w4.drewN nq).setCell ⟨g, na * 2 + 1, none⟩ (.bool false)) (some ⟨g, na * 2, none⟩) K2 := HM2.out
        have hC5 : ((w4.drewN nq).setCell ⟨g, na * 2 + 1, none⟩ (.bool false)).cell? ⟨g0, 0, none⟩ = some (.slice (some ⟨g, 0, none⟩) nt c3) := by
          rw [World.cell?_setCell_far _ _ _ _ (fun e => HNE.out e.symm)]
          exact hc0
        rw [← hz5]
        generalize (w4.drewN nq).setCell ⟨g, na * 2 + 1, none⟩ (.bool false) = X5 at hz5 hB5 hM15 hM25 hC5 ⊢
        have HB5 := Lib.hid hB5
        have HM15 := Lib.hid hM15
        have HM25 := Lib.hid hM25
        have HC5 : Hid (g0 < X5.heap.size ∧ X5.cell? ⟨g0, 0, none⟩ = some (.slice (some ⟨g, 0, none⟩) nt c3)) := Lib.hid ⟨by rw [hz5]; exact HG.out.2.1, hC5⟩
        have HXa5 := Lib.hid (HXa3.out.below hB5)
        have HXb5 := Lib.hid (HXb3.out.below hB5)
        clear hz5 hB5 hM15 hM25 hC5 hc0 hcf hfz k1 k2 HG HNE HM1 HM2 HXa3 HXb3
        have h1 := xr_new (t := 42) (c := c3) HM15.out
        rw [HE1.out] at h1
        refine (show Calls _ _ _ _ _ from (by have := HI.out _ [((some ⟨g, 0, none⟩, c3), K1)] 1 _ h1 (by show Sl.wx [K1.map stp] ≤ _; rw [Hm1.out]; exact HWa.out); exact this)).mono ?_
        rintro e w6 ⟨⟨y1, B1, d1, rfl, -, hY, hy⟩, hb⟩
        have hb6 : Below X5.heap.size X5 w6 := ((Below.refl X5.heap.size X5).alloc (Nat.le_refl _) _).trans (hb.mono (by simp))
        have HB6 := Lib.hid (HB5.out.trans (hb6.mono HB5.out.size))
        have HXa6 := Lib.hid (HXa5.out.below hb6)
        have HXb6 := Lib.hid (HXb5.out.below hb6)
        have HM26 := Lib.hid (HM25.out.below hb6)
        have HC6 : Hid (g0 < w6.heap.size ∧ w6.cell? ⟨g0, 0, none⟩ = some (.slice (some ⟨g, 0, none⟩) nt c3)) := Lib.hid ⟨Nat.lt_of_lt_of_le HC5.out.1 hb6.size, (hb6.cell HC5.out.1).trans HC5.out.2⟩
        have HY6 := Lib.hid hY
        have Hy1 : Hid (rws y1 = [ra]) := Lib.hid (hy.trans (by show [K1.map stp] = _; rw [Hm1.out]))
        clear hb hY hy h1 hb6 HM15 HM25 HC5 HXa5 HXb5
        go_wp2_with fail
        have hI := HI.out _ x c w6 HXa6.out (by rw [HXa.out]; exact HWa.out)
        rw [HLx.out] at hI
        refine hI.mono ?_
        clear hI
        rintro e w7 ⟨⟨y2, B2, d2, rfl, -, hY, hy⟩, hb⟩
        have HB7 := Lib.hid (HB6.out.trans (hb.mono HB6.out.size))
        have HXb7 := Lib.hid (HXb6.out.below hb)
        have HM27 := Lib.hid (HM26.out.below hb)
        have HC7 : Hid (g0 < w7.heap.size ∧ w7.cell? ⟨g0, 0, none⟩ = some (.slice (some ⟨g, 0, none⟩) nt c3)) := Lib.hid ⟨Nat.lt_of_lt_of_le HC6.out.1 hb.size, (hb.cell HC6.out.1).trans HC6.out.2⟩
        have HY17 := Lib.hid (HY6.out.below hb)
        have HY27 := Lib.hid hY
        have Hy2 := Lib.hid (hy.trans HXa.out)
        clear hb hY hy HXb6 HM26 HC6 HY6
        go_wp2_with fail
        refine (HSa.out B1 B2 y1 y2 d1 d2 w7 HY17.out HY27.out ra Hy1.out Hy2.out HWa.out).mono ?_
        rintro e w8 ⟨rfl, hb⟩
        have HB8 := Lib.hid (HB7.out.trans (hb.mono HB7.out.size))
        have HXb8 := Lib.hid (HXb7.out.below hb)
        have HM28 := Lib.hid (HM27.out.below hb)
        have hc8 := (hb.cell HC7.out.1).trans HC7.out.2
        clear hb HXb7 HM27 HC7 HY17 HY27 Hy1 Hy2
        go_wp2_with fail
        have hnt2 : nt - na = K2.length := by rw [HE2.out, HNT.out]; omega
        rw [hnt2]
        have h2 := xr_new (t := 42) (c := c3 - na) HM28.out
        have := HI.out _ [((some ⟨g, na * 2, none⟩, c3 - na), K2)] 1 _ h2 (by show Sl.wx [K2.map stp] ≤ _; rw [Hm2.out]; exact HWb.out)
        refine (show Calls _ _ _ _ _ from this).mono ?_
        clear this
        rintro e w9 ⟨⟨y3, B3, d3, rfl, -, hY, hy⟩, hb⟩
        have hb9 : Below w8.heap.size w8 w9 := ((Below.refl w8.heap.size w8).alloc (Nat.le_refl _) _).trans (hb.mono (by simp))
        have HB9 := Lib.hid (HB8.out.trans (hb9.mono HB8.out.size))
        have HXb9 := Lib.hid (HXb8.out.below hb9)
        have HY9 := Lib.hid hY
        have Hy3 : Hid (rws y3 = [rb]) := Lib.hid (hy.trans (by show [K2.map stp] = _; rw [Hm2.out]))
        clear hb hY hy h2 hb9 HM28 HXb8 hc8 hnt2
        go_wp2_with fail
        have hI := HI.out _ y d w9 HXb9.out (by rw [HXb.out]; exact HWb.out)
        rw [HLy.out] at hI
        refine hI.mono ?_
        clear hI
        rintro e w10 ⟨⟨y4, B4, d4, rfl, -, hY, hy⟩, hb⟩
        have HB10 := Lib.hid (HB9.out.trans (hb.mono HB9.out.size))
        have HY310 := Lib.hid (HY9.out.below hb)
        have HY410 := Lib.hid hY
        have Hy4 := Lib.hid (hy.trans HXb.out)
        clear hb hY hy HXb9 HY9
        go_wp2_with fail
        refine (HSa.out B3 B4 y3 y4 d3 d4 w10 HY310.out HY410.out rb Hy3.out Hy4.out HWb.out).mono ?_
        rintro e w11 ⟨rfl, hb⟩
        have HB11 := Lib.hid (HB10.out.trans (hb.mono HB10.out.size))
        clear hb
        go_wp2
        go_ret
        exact ⟨rfl, HB3.out.trans (HB11.out.mono HB3.out.size)⟩
/-- The law, of what came in. -/
theorem steps_true {H : Type} {enc : TypeId × Value → H} {W : World} {base : Nat} {v0 v1 v2 : Value} {d0 d1 d2 : DataW H} {p0 p1 p2 : List MemPlace} (hk : Rows.uptoSmall H [d0, d1, d2] = true) (o0 : Value.okWide Try.prog W .any base 9 v0) (o1 : Value.okWide Try.prog W .any base 9 v1) (o2 : Value.okWide Try.prog W .any base 4 v2)
    (h0 : DataW.Trod enc Try.prog W 0 (fun _ => true) true 9 v0 d0 p0) (h1 : DataW.Trod enc Try.prog W 0 (fun _ => true) true 9 v1 d1 p1) (h2 : DataW.Trod enc Try.prog W 0 (fun _ => true) true 4 v2 d2 p2) (l0 : ∀ x ∈ p0, x.block < W.heap.size) (l1 : ∀ x ∈ p1, x.block < W.heap.size) (l2 : ∀ x ∈ p2, x.block < W.heap.size) :
    Calls Try.prog 9 #[v0, v1, v2] W fun e W' => e = .returned (.bool true) ∧ Below W.heap.size W W' := by
  obtain ⟨s, rfl, rfl, rfl, w0⟩ := Go.ChangeMaps.open_string Try.underlying9 o0 h0
  obtain ⟨t, rfl, rfl, rfl, w1⟩ := Go.ChangeMaps.open_string Try.underlying9 o1 h1
  obtain ⟨b, rfl, rfl, rfl⟩ := Go.RowKit.open_bool Try.underlying4 o2 h2
  have z0 := bulk_str (s := s) hk (by simp)
  have z1 := bulk_str (s := t) hk (by simp)
  exact steps_law s t b W (by omega) (by omega)
end Go.Proofs.Ytlehbdjdifejeaa
