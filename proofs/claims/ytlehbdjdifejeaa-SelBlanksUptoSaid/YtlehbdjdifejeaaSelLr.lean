/-
  The law SelRows: two selectors with a comma between are the rows of both.
-/
import Derived.Test.YtlehbdjdifejeaaSelLa
namespace Go.Proofs.Ytlehbdjdifejeaa
open Go.ChangeShapes Go.WideShapes Go.ChangeAt Go.RowKit
open Go.PlainAid (bt)
set_option linter.unusedVariables false
set_option linter.unusedSimpArgs false

theorem parse_any {t : ByteArray} (ht : t.size ≤ 4000000) (V : World) : Calls Try.prog 11 #[.string t] V fun e w' => (∃ (A : Option Addr) (n c : Nat) (a b : Int), e = .returned (.tuple #[.slice A n c, .int .i64 a, .int .i64 b])) ∧ Below V.heap.size V w' :=
  (sel_parse t V ht).mono (fun e w' hc => by
    obtain ⟨hc, hb⟩ := hc
    rcases hc with ⟨x, v, he, hS, -⟩ | ⟨k, he, -⟩
    · obtain ⟨p, cap, rfl, -⟩ := own_form2 hS.row
      exact ⟨⟨_, _, _, _, _, he⟩, hb⟩
    · exact ⟨⟨_, _, _, _, _, he⟩, hb⟩)
theorem SrR.both {w w' : World} {base : Nat} {v v' : Value} {x y : List Mr} (h : SrR w base v x) (hy : ∀ m ∈ y, RwR w base (.slice m.1.1 m.2.length m.1.2) m.2) (hr : w'.ownsRow base 54 1 v' (x.length + y.length) (rcells x ++ rcells y)) (hg : w.grownBy w' v.ownBlock) : SrR w' base v' (x ++ y) := by
  refine ⟨by rw [List.length_append, rcells, List.map_append]; exact hr, fun m hm => ?_⟩
  rw [List.mem_append] at hm
  rcases hm with hm | hm
  · exact (h.sub m hm).kept h.row hg
  · exact (hy m hm).kept h.row hg
theorem rcells_one (x : List Mr) : ∀ u ∈ rcells x, u.oneCell' = true := by
  intro u hu
  obtain ⟨m, -, rfl⟩ := List.mem_map.1 hu
  rfl
set_option maxRecDepth 100000 in
set_option maxHeartbeats 8000000 in
/-- An append of own rows, at an operation that is guarded and whose guard says yes. -/
theorem wpList_append_own_gd {P : Program} {ops : Array Oper} {rest : List Oper} {o : Oper} {a : Act} (w : World) {Q : Exit → Act → World → Prop} (hgd : Region.wanted o (yielded ops a.tmps) = true) (s x : Operand) (t : TypeId)
    (ho : o.op = .call { callee := .builtin .append, args := #[s, x], argTypes := #[t, t] })
    (base : Nat) (e : TypeId) (i : TypeInfo) (z : Value) (size bytes : Nat) (ht : P.underlying t = some (.slice e)) (hi : P.info? e = some i) (hz : i.zero = some z)
    (hsize : i.size = size) (hby : i.bytes = bytes) (hzs : z.cells.size = size) (hsz : 0 < size)
    (v : Value) (n : Nat) (xs : List Value) (hs : a.eval s = v) (hown : w.ownsRow base e size v n xs)
    (ad : Addr) (m c : Nat) (news : List Value) (hx : a.eval x = .slice (some ad) m c) (hl : news.length = m * size) (hnews : ∀ j u, news[j]? = some u → w.cell? (ad.add j) = some u) (h1 : ∀ u ∈ news, u.oneCell' = true)
    (h63 : n + m ≤ maxLen) (hbytes : (n + m) * bytes ≤ 140737488355328) (hbase : base ≤ w.heap.size)
    (h : ∀ v' w', w'.ownsRow base e size v' (n + m) (xs ++ news) → w.grownBy w' v.ownBlock → (v'.ownBlock = v.ownBlock ∨ v'.ownBlock = some w.heap.size) → wpList P ops Q rest (a.put o.dst v') w') :
    wpList P ops Q (o :: rest) a w :=
  wpList_step fun K hK => by
    simp only [hgd, if_true]
    obtain ⟨v', w', hr, h2, h3, _, h5⟩ := run_append_own_at (P := P) w base t o.type e i z size bytes ht hi hz hsize hby hzs hsz v n xs hown ad m c news hl hnews h1 h63 hbytes hbase
    unfold Oper.wp execOp
    simp only [ho, resolve, invoke, builtin, Sem.run_bind, Sem.run_pure, Result.andThen_ok, List.map_toArray, List.map_cons, List.map_nil, hs, hx, hr]
    exact hK _ _ (h v' w' h2 h3 h5)
theorem rows_law (s t : ByteArray) (w : World) (hs : s.size ≤ 9223372036854775807) (ht : t.size ≤ 9223372036854775807) : Calls Try.prog 6 #[.string s, .string t] w (GivesV (.bool true) w) := by
  have HS := Lib.hid (fun (V : World) => shown_any V)
  by_cases hbd : s.size ≤ 150 ∧ t.size ≤ 150
  case neg =>
    have hcase : decide ((150 : Int) < (s.size : Int)) = true ∨ (decide ((150 : Int) < (s.size : Int)) = false ∧ decide ((150 : Int) < (t.size : Int)) = true) := by
      by_cases h : s.size ≤ 150
      · exact .inr ⟨by simp; omega, by simp; omega⟩
      · exact .inl (by simp; omega)
    clear hbd
    rcases hcase with q0 | ⟨q0, q1⟩
    all_goals
      go_enter Try.func6, Try.ntmps6
      go_wp2_with fail
      refine (HS.out w).mono ?_
      rintro e w1 ⟨rfl, hb⟩
      have HB := Lib.hid hb
      clear hb
      go_wp2
      go_ret
      exact ⟨rfl, HB.out⟩
  obtain ⟨hs1, ht1⟩ := hbd
  have q0 : decide ((150 : Int) < (s.size : Int)) = false := by simp; omega
  have q1 : decide ((150 : Int) < (t.size : Int)) = false := by simp; omega
  obtain ⟨u, hu⟩ : ∃ u : ByteArray, u = s ++ ⟨#[44]⟩ ++ t := ⟨_, rfl⟩
  have hul : ls u = ls s ++ 44 :: ls t := by rw [hu]; simp [ls, ByteArray.data_append]
  have huz : u.size ≤ 301 := by
    have := congrArg List.length hul
    rw [ls_len, List.length_append, List.length_cons, ls_len, ls_len] at this
    omega
  obtain ⟨hc1, hc2⟩ := Sl.parse_comma (ls s) (ls t)
  rw [← hul] at hc1 hc2
  have HU := Lib.hid hu
  cases hp : Sl.parse (ls s) with
  | error i =>
    have HP := Lib.hid (fun (V : World) => parse_bad (by omega) hp V)
    have HT := Lib.hid (fun (V : World) => parse_any (t := t) (by omega) V)
    have hc1 := hc1 i hp
    cases hpu : Sl.parse (ls u) with
    | error k =>
      have hik := hc1 k hpu
      have HPu := Lib.hid (fun (V : World) => parse_bad (by omega) hpu V)
      have q2 : decide (i ≤ k) = true := decide_eq_true hik
      rw [HU.out] at HPu
      clear hp hpu hc1 hc2 hul huz hu HU hik
      go_enter Try.func6, Try.ntmps6
      go_wp2_with fail
      refine (HS.out w).mono ?_
      rintro e w1 ⟨rfl, hb⟩
      have HB1 := Lib.hid hb
      clear hb
      go_wp2_with fail
      refine (HP.out w1).mono ?_
      rintro e w2 ⟨rfl, hb⟩
      have HB2 := Lib.hid (HB1.out.trans (hb.mono HB1.out.size))
      clear hb
      go_wp2_with fail
      refine (HT.out w2).mono ?_
      rintro e w3 ⟨⟨A3, n3, c3, a3, b3, rfl⟩, hb⟩
      have HB3 := Lib.hid (HB2.out.trans (hb.mono HB2.out.size))
      clear hb
      go_wp2_with fail
      refine (HPu.out w3).mono ?_
      rintro e w4 ⟨rfl, hb⟩
      have HB4 := Lib.hid (HB3.out.trans (hb.mono HB3.out.size))
      clear hb
      go_wp2
      go_ret
      exact ⟨rfl, HB4.out⟩
    | ok X =>
      have HPu := Lib.hid (fun (V : World) => parse_good (by omega) hpu V)
      rw [HU.out] at HPu
      clear hp hpu hc1 hc2 hul huz hu HU
      go_enter Try.func6, Try.ntmps6
      go_wp2_with fail
      refine (HS.out w).mono ?_
      rintro e w1 ⟨rfl, hb⟩
      have HB1 := Lib.hid hb
      clear hb
      go_wp2_with fail
      refine (HP.out w1).mono ?_
      rintro e w2 ⟨rfl, hb⟩
      have HB2 := Lib.hid (HB1.out.trans (hb.mono HB1.out.size))
      clear hb
      go_wp2_with fail
      refine (HT.out w2).mono ?_
      rintro e w3 ⟨⟨A3, n3, c3, a3, b3, rfl⟩, hb⟩
      have HB3 := Lib.hid (HB2.out.trans (hb.mono HB2.out.size))
      clear hb
      go_wp2_with fail
      refine (HPu.out w3).mono ?_
      rintro e w4 ⟨⟨x, A, c, rfl, -, -⟩, hb⟩
      have HB4 := Lib.hid (HB3.out.trans (hb.mono HB3.out.size))
      clear hb
      generalize x.length = nx
      go_wp2
      go_ret
      exact ⟨rfl, HB4.out⟩
  | ok Xa =>
    have HP := Lib.hid (fun (V : World) => parse_good (by omega) hp V)
    have hc2 := hc2 Xa hp
    cases hpt : Sl.parse (ls t) with
    | error k =>
      have HT := Lib.hid (fun (V : World) => parse_bad (by omega) hpt V)
      rw [hpt] at hc2
      simp only [ls_len] at hc2
      have HPu := Lib.hid (fun (V : World) => parse_bad (by omega) hc2 V)
      have HK : Hid ((((s.size + 1 + k : Nat) : Int)) = (s.size : Int) + 1 + (k : Int)) := Lib.hid (by omega)
      have hk : k ≤ 1000 := by
        have : k ≤ (ls t).length := by
          have h := hpt
          unfold Sl.parse at h
          cases hr : Sl.run Sl.start 0 (ls t) with
          | error j => rw [hr] at h; cases h; have := (Sl.run_le hr).2; omega
          | ok st =>
            rw [hr] at h
            simp only [Sl.ends] at h
            cases hf : Sl.fin st with
            | none => rw [hf] at h; cases h; exact Nat.le_refl _
            | some y => rw [hf] at h; cases h
        rw [ls_len] at this
        omega
      rw [HU.out] at HPu
      rw [HK.out] at HPu
      clear hp hpt hc1 hc2 hul huz hu HU
      go_enter Try.func6, Try.ntmps6
      go_wp2_with fail
      refine (HS.out w).mono ?_
      rintro e w1 ⟨rfl, hb⟩
      have HB1 := Lib.hid hb
      clear hb
      go_wp2_with fail
      refine (HP.out w1).mono ?_
      rintro e w2 ⟨⟨x, A, c, rfl, -, -⟩, hb⟩
      have HB2 := Lib.hid (HB1.out.trans (hb.mono HB1.out.size))
      clear hb
      generalize x.length = nx
      go_wp2_with fail
      refine (HT.out w2).mono ?_
      rintro e w3 ⟨rfl, hb⟩
      have HB3 := Lib.hid (HB2.out.trans (hb.mono HB2.out.size))
      clear hb
      go_wp2_with fail
      refine (HPu.out w3).mono ?_
      rintro e w4 ⟨rfl, hb⟩
      have HB4 := Lib.hid (HB3.out.trans (hb.mono HB3.out.size))
      clear hb
      go_wp2
      go_ret
      exact ⟨rfl, HB4.out⟩
    | ok Xb =>
      have hbn := (Sl.parse_ok hpt).1
      have wa := Sl.parse_wx hp
      have wb := Sl.parse_wx hpt
      rw [ls_len] at wa wb
      have HT := Lib.hid (fun (V : World) => parse_good (by omega) hpt V)
      rw [hpt] at hc2
      simp only [] at hc2
      have wc := Sl.parse_wx hc2
      rw [ls_len] at wc
      have HPu := Lib.hid (fun (V : World) => parse_good (by omega) hc2 V)
      rw [HU.out] at HPu
      have HI := Lib.hid (fun (A : Option Addr) (x : List Mr) (c : Nat) (V : World) (hX : XR V A x) (hx : Sl.wx (rws x) ≤ 1000000) => its_good (c := c) hX hx)
      have HSa := Lib.hid (fun (A B : Option Addr) (x y : List Mr) (c d : Nat) (V : World) (hX : XR V A x) (hY : XR V B y) (hx : rws x = Xa ++ Xb) (hy : rws y = Xa ++ Xb) => same_good (c := c) (d := d) hX hY (by rw [hx, hy]) (by rw [hy]; omega))
      have HWa : Hid (Sl.wx Xa ≤ 1000000) := Lib.hid (by omega)
      have HWb : Hid (Sl.wx Xb ≤ 1000000) := Lib.hid (by omega)
      have HWc : Hid (Sl.wx (Xa ++ Xb) ≤ 1000000) := Lib.hid (by omega)
      have HBN := Lib.hid hbn
      obtain ⟨i2, hK1, hK2, hK3, hK4⟩ := info_parts info_rrow
      have HK := Lib.hid (And.intro hK1 (And.intro hK2 (And.intro hK3 hK4)))
      clear hp hpt hc1 hc2 hul huz hu HU wa wb wc hbn hK1 hK2 hK3 hK4
      go_enter Try.func6, Try.ntmps6
      go_wp2_with fail
      refine (HS.out w).mono ?_
      rintro e w1 ⟨rfl, hb⟩
      have HB1 := Lib.hid hb
      clear hb
      go_wp2_with fail
      refine (HP.out w1).mono ?_
      rintro e w2 ⟨⟨xa, A, c, rfl, hX, hx⟩, hb⟩
      have HB2 := Lib.hid (HB1.out.trans (hb.mono HB1.out.size))
      have HXa2 := Lib.hid hX
      have HXa := Lib.hid hx
      have HIa := Lib.hid (fun (V : World) (hV : XR V A xa) => HI.out A xa c V hV (by rw [HXa.out]; exact HWa.out))
      clear hb hX hx
      obtain ⟨na, hna⟩ : ∃ nx, xa.length = nx := ⟨_, rfl⟩
      rw [hna] at HIa ⊢
      clear hna
      go_wp2_with fail
      refine (HT.out w2).mono ?_
      rintro e w3 ⟨⟨xb, B, d, rfl, hX, hx⟩, hb⟩
      have HB3 := Lib.hid (HB2.out.trans (hb.mono HB2.out.size))
      have HXa3 := Lib.hid (HXa2.out.below hb)
      have HXb3 := Lib.hid hX
      have HXb := Lib.hid hx
      have HIb := Lib.hid (fun (V : World) (hV : XR V B xb) => HI.out B xb d V hV (by rw [HXb.out]; exact HWb.out))
      clear hb hX hx
      obtain ⟨nb, hnb⟩ : ∃ nx, xb.length = nx := ⟨_, rfl⟩
      rw [hnb] at HIb ⊢
      clear hnb
      go_wp2_with fail
      refine (HPu.out w3).mono ?_
      rintro e w4 ⟨⟨xc, C, f, rfl, hX, hx⟩, hb⟩
      have HB4 := Lib.hid (HB3.out.trans (hb.mono HB3.out.size))
      have HXa4 := Lib.hid (HXa3.out.below hb)
      have HXb4 := Lib.hid (HXb3.out.below hb)
      have HXc := Lib.hid hx
      have HIc := Lib.hid (HI.out C xc f w4 hX (by rw [hx]; exact HWc.out))
      clear hb hX hx
      obtain ⟨nc, hnc⟩ : ∃ nx, xc.length = nx := ⟨_, rfl⟩
      rw [hnc] at HIc ⊢
      clear hnc
      go_wp2_with fail
      refine HIc.out.mono ?_
      rintro e w5 ⟨⟨yc, C', f', rfl, -, hY, hy⟩, hb⟩
      have HB5 := Lib.hid (HB4.out.trans (hb.mono HB4.out.size))
      have HXa5 := Lib.hid (HXa4.out.below hb)
      have HXb5 := Lib.hid (HXb4.out.below hb)
      have HYc5 := Lib.hid hY
      have HYc := Lib.hid (hy.trans HXc.out)
      clear hb hY hy
      obtain ⟨mc, hmc⟩ : ∃ nx, yc.length = nx := ⟨_, rfl⟩
      have HMC := Lib.hid hmc
      rw [hmc]
      clear hmc
      go_wp2_with fail
      refine (HIa.out w5 HXa5.out).mono ?_
      rintro e w6 ⟨⟨ya, A', c', rfl, hS, -, hy⟩, hb⟩
      have HB6 := Lib.hid hb
      have HXb6 := Lib.hid (HXb5.out.below hb)
      have HSa6 := Lib.hid hS
      have HYa := Lib.hid (hy.trans HXa.out)
      clear hb hS hy
      obtain ⟨ma, hma⟩ : ∃ nx, ya.length = nx := ⟨_, rfl⟩
      have HMA := Lib.hid hma
      rw [hma] at HSa6 ⊢
      have hma2 : ma ≤ 1000000 := by
        rw [← hma]
        have h1 := len_rws HYa.out
        have h2 := Sl.wx_len Xa
        have h3 := HWa.out
        omega
      clear hma
      go_wp2_with fail
      refine (HIb.out w6 HXb6.out).mono ?_
      rintro e w7 ⟨⟨yb, B', d', rfl, hS, hY, hy⟩, hb⟩
      have HB7 := Lib.hid (HB6.out.trans (hb.mono HB6.out.size))
      have HSa7 := Lib.hid (HSa6.out.below hb)
      have HSb7 := Lib.hid (hS.mono HB6.out.size)
      have HYb := Lib.hid (hy.trans HXb.out)
      have hyn : 0 < yb.length := by
        rw [len_rws HYb.out]
        exact List.length_pos_iff.2 HBN.out
      obtain ⟨g, off, rfl, hg, -, -⟩ := hY 0 yb[0] (List.getElem?_eq_getElem hyn)
      have HNW : Hid (∀ j u, (rcells yb)[j]? = some u → w7.cell? ((⟨g, off, none⟩ : Addr).add j) = some u) := Lib.hid (fun j u hu => by
        simp only [rcells, List.getElem?_map, Option.map_eq_some_iff] at hu
        obtain ⟨m, hm, rfl⟩ := hu
        obtain ⟨g', o', hA, -, hc, -⟩ := hY j m hm
        cases hA
        rw [add_plain]
        exact hc)
      have hyb2 : yb.length ≤ 1000000 := by
        have h1 := len_rws HYb.out
        have h2 := Sl.wx_len Xb
        have h3 := HWb.out
        omega
      clear hb hS hy hY
      obtain ⟨mb, hmb⟩ : ∃ nx, yb.length = nx := ⟨_, rfl⟩
      have HMB := Lib.hid hmb
      rw [hmb] at hyb2 hyn ⊢
      clear hmb
      have HRl : Hid ((rcells yb).length = mb * 1) := Lib.hid (by simp [rcells, HMB.out])
      go_wp2_with (at_builtin; refine wpList_append_own_gd _ (by rfl) _ _ 29 rfl w5.heap.size 54 i2 (.slice none 0 0) 1 24 Try.underlying29 HK.out.1 HK.out.2.1 HK.out.2.2.1 HK.out.2.2.2 rfl (by decide) _ _ _ rfl (by have := HSa7.out.row; rw [HMA.out] at this; exact this) ⟨g, off, none⟩ mb d' (rcells yb) rfl HRl.out HNW.out (rcells_one yb) (by unfold maxLen; omega) (by omega) HB7.out.size ?_; intro v' V' hown' hgrow hat; have HO' := Lib.hid hown'; have HGR := Lib.hid hgrow; clear hown' hgrow hat)
      have HBV : Hid (Below w5.heap.size w5 V') := Lib.hid (HB7.out.grown HGR.out HB7.out.size (fun q e => (HSa7.out.row.lt q e).1))
      have HSV : Hid (SrR V' w5.heap.size v' (ya ++ yb)) := Lib.hid (SrR.both HSa7.out HSb7.out.sub (by rw [HMA.out, HMB.out]; exact HO'.out) HGR.out)
      have HBW : Hid (Below w.heap.size w V') := Lib.hid (HB5.out.trans (HBV.out.mono HB5.out.size))
      obtain ⟨p', cap', rfl, hXV⟩ := xr_ofR HSV.out
      have HYcV := Lib.hid (HYc5.out.below HBV.out)
      have HSM := Lib.hid (HSa.out C' p' yc (ya ++ yb) f' cap' V' HYcV.out hXV HYc.out (by rw [show rws (ya ++ yb) = rws ya ++ rws yb from List.map_append .., HYa.out, HYb.out]))
      rw [HMC.out] at HSM
      clear hXV
      refine HSM.out.mono ?_
      rintro e w8 ⟨rfl, hb⟩
      have HB8 := Lib.hid (HBW.out.trans (hb.mono HBW.out.size))
      clear hb
      go_wp2
      go_ret
      exact ⟨rfl, HB8.out⟩
/-- The law, of what came in. -/
theorem rows_true {H : Type} {enc : TypeId × Value → H} {W : World} {base : Nat} {v0 v1 : Value} {d0 d1 : DataW H} {p0 p1 : List MemPlace} (o0 : Value.okWide Try.prog W .any base 9 v0) (o1 : Value.okWide Try.prog W .any base 9 v1)
    (h0 : DataW.Trod enc Try.prog W 0 (fun _ => true) true 9 v0 d0 p0) (h1 : DataW.Trod enc Try.prog W 0 (fun _ => true) true 9 v1 d1 p1) (l0 : ∀ x ∈ p0, x.block < W.heap.size) (l1 : ∀ x ∈ p1, x.block < W.heap.size) :
    Calls Try.prog 6 #[v0, v1] W fun e W' => e = .returned (.bool true) ∧ Below W.heap.size W W' := by
  obtain ⟨s, rfl, rfl, rfl, w0⟩ := Go.ChangeMaps.open_string Try.underlying9 o0 h0
  obtain ⟨t, rfl, rfl, rfl, w1⟩ := Go.ChangeMaps.open_string Try.underlying9 o1 h1
  exact rows_law s t W (by have := w0; simp only [maxLen] at this; omega) (by have := w1; simp only [maxLen] at this; omega)
end Go.Proofs.Ytlehbdjdifejeaa
