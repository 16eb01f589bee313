/-
  The reader's compound: a row of tests of its own.
-/
import Derived.Test.YtcfkcifbojckcaaSelH
import Derived.Deep.OwnRows
import Derived.Maps.OwnOps
import Derived.Maps.AppendAt
namespace Go.Proofs.Ytcfkcifbojckcaa
open Go.ChangeShapes Go.WideShapes Go.ChangeAt Go.RowKit
open Go.PlainAid (bt)
open Sl (St Te Stp Mo tstep cstep fin isB isL isN)
set_option linter.unusedVariables false
set_option linter.unusedSimpArgs false

theorem lt_block {w : World} {k : Nat} {o : Obj} (h : w.heap[k]? = some o) : k < w.heap.size := (Array.getElem?_eq_some_iff.1 h).1
theorem add_plain (g i j : Nat) : (⟨g, i, none⟩ : Addr).add j = ⟨g, i + j, none⟩ := by unfold Addr.add; split <;> simp_all
theorem own_below {w w' : World} {base : Nat} {e : TypeId} {size n : Nat} {v : Value} {xs : List Value} (h : w.ownsRow base e size v n xs) (hb : Below w.heap.size w w') : w'.ownsRow base e size v n xs := by
  refine ⟨h.1, ?_⟩
  rcases h.2 with h' | ⟨g, cap, cur, h1, h2, h3, h4⟩
  · exact .inl h'
  · exact .inr ⟨g, cap, cur, h1, h2, (hb.block g (Array.getElem?_eq_some_iff.1 h3).1).trans h3, h4⟩
theorem own_apart {w : World} {base k size : Nat} {e t : TypeId} {v : Value} {n : Nat} {xs : List Value} {cs : Array Value} (h : w.ownsRow base e size v n xs) (hk : w.heap[k]? = some (.cells cs t (0, 0))) (hne : e ≠ t) : v.ownBlock ≠ some k := by
  rcases h.2 with ⟨rfl, _⟩ | ⟨g, cap, cur, rfl, _, hg, _⟩
  · simp [Value.ownBlock]
  · intro he
    obtain rfl : g = k := by simpa [Value.ownBlock] using he
    rw [hg] at hk
    cases hk
    exact hne rfl
theorem own_apart2 {w : World} {base base' s s' : Nat} {e t : TypeId} {v v' : Value} {n n' : Nat} {xs xs' : List Value} (h : w.ownsRow base e s v n xs) (h' : w.ownsRow base' t s' v' n' xs') (hne : e ≠ t) : v.ownBlock = none ∨ v.ownBlock ≠ v'.ownBlock := by
  rcases h'.2 with ⟨rfl, -⟩ | ⟨g, cap, cur, rfl, -, hg, -⟩
  · rcases hv : v.ownBlock with _ | k
    · exact .inl rfl
    · exact .inr (by simp [Value.ownBlock])
  · exact .inr (by simpa [Value.ownBlock] using own_apart h hg hne)
theorem own_form2 {w : World} {base size : Nat} {e : TypeId} {v : Value} {n : Nat} {xs : List Value} (h : w.ownsRow base e size v n xs) : ∃ p cap, v = .slice p n cap ∧ n ≤ cap ∧ cap ≤ maxLen := by
  rcases h.2 with ⟨rfl, rfl⟩ | ⟨g, cap, cur, rfl, _, _, hnc, hcm, _⟩
  · exact ⟨none, 0, rfl, Nat.le_refl _, by simp [maxLen]⟩
  · exact ⟨_, cap, rfl, hnc, hcm⟩
theorem own_mono {w : World} {base base' : Nat} {e : TypeId} {size n : Nat} {v : Value} {xs : List Value} (h : w.ownsRow base e size v n xs) (hb : base' ≤ base) : w.ownsRow base' e size v n xs := by
  refine ⟨h.1, ?_⟩
  rcases h.2 with h' | ⟨g, cap, cur, h1, h2, h3, h4⟩
  · exact .inl h'
  · exact .inr ⟨g, cap, cur, h1, Nat.le_trans hb h2, h3, h4⟩
/-- A row of the call's own stays while the reader goes on. -/
theorem own_gr {w w' : World} {base b : Nat} {e : TypeId} {size n : Nat} {v : Value} {xs : List Value} (h : w.ownsRow base e size v n xs) (hb : b < base) (hg : Gr b w w') : w'.ownsRow base e size v n xs := by
  refine ⟨h.1, ?_⟩
  rcases h.2 with h' | ⟨g, cap, cur, h1, h2, h3, h4⟩
  · exact .inl h'
  · exact .inr ⟨g, cap, cur, h1, h2, (hg.block g (Array.getElem?_eq_some_iff.1 h3).1 (by simp; omega)).trans h3, h4⟩
abbrev Tr := Int × ByteArray × ByteArray
def t3 (t : Tr) : List Value := [.int .i64 t.1, .string t.2.1, .string t.2.2]
def tcells (T : List Tr) : List Value := T.flatMap t3
theorem tcells_snoc (T : List Tr) (t : Tr) : tcells (T ++ [t]) = tcells T ++ t3 t := by simp [tcells]
theorem info_test : (Try.prog.info? 39).map (fun i => (i.zero, i.size, i.bytes)) = some (some (.agg #[.int .i64 0, .string ⟨#[]⟩, .string ⟨#[]⟩]), 3, 40) := by kernel_rfl
theorem cells3 (w : World) (g : Nat) (x y z : Value) (t : TypeId) (h : w.heap[g]? = some (.cells #[x, y, z] t (0, 0))) : ∀ j u, [x, y, z][j]? = some u → w.cell? ((⟨g, 0, none⟩ : Addr).add j) = some u := by
  intro j u hu
  rw [add_plain, Nat.zero_add]
  match j, hu with
  | 0, hu => cases hu; simp [World.cell?, h]
  | 1, hu => cases hu; simp [World.cell?, h]
  | 2, hu => cases hu; simp [World.cell?, h]
  | j + 3, hu => simp at hu
theorem Gr.grown {b : Nat} {w v u : World} {row : Option Nat} (h : Gr b w v) (hg : v.grownBy u row) (hr : ∀ q, row = some q → w.heap.size ≤ q) : Gr b w u :=
  ⟨hg.os.trans h.os, hg.tape.trans h.tape, hg.output.trans h.output, Nat.le_trans h.size hg.size, fun q hq hn => (hg.block q (Nat.lt_of_lt_of_le hq h.size) (fun e => by have := hr q e.symm; omega)).trans (h.block q hq hn)⟩
theorem Rr.grown {w w' : World} {b : Nat} {s : ByteArray} {i : Nat} {row : Option Nat} (h : Rr w b s i) (hg : w.grownBy w' row) (hr : row ≠ some b) : Rr w' b s i := (hg.block b h.lt (fun e => hr e.symm)).trans h
theorem t3_one (t : Tr) : ∀ u ∈ t3 t, u.oneCell' = true := by
  intro u hu
  simp only [t3, List.mem_cons, List.not_mem_nil, or_false] at hu
  rcases hu with rfl | rfl | rfl <;> rfl
/-- From a place where a compound must begin. -/
theorem cmp_star {s : ByteArray} {i : Nat} {R : List (List Stp)} {r : List Stp} {ch : Bool} (h : Cmp s i R r ch) (hc : lk s i = 42) : Rdy s (i + 1) R r [] ch := by
  obtain ⟨st, h1, h2, -⟩ := h
  have := h1.step (lk_byte (c := 42) hc) (show Sl.step st 42 = some ⟨R, r, [], ch, .tests⟩ by rw [h2 42 (lk_byte (c := 42) hc)]; simp [cstep, isB, St.to])
  exact ⟨_, this, rfl, fun c _ => rfl⟩
theorem cmp_test {s : ByteArray} {i : Nat} {R : List (List Stp)} {r : List Stp} {ch : Bool} (h : Cmp s i R r ch) (hb : bB (lk s i) = false) (hc : lk s i ≠ 42) :
    match tP s i with
    | .ok (t, j) => Rdy s j R r [te t] ch
    | .error k => Sl.parse (ls s) = .error k := by
  obtain ⟨st, h1, h2, h3⟩ := h
  refine t_ok (T := []) (fst := true) h1 h3 (fun e => by cases e) (fun c hc' => ?_)
  have e1 : isB c = false := by rw [isB_bB, ← (lk_some hc').1]; exact hb
  have e2 : c ≠ 42 := by rintro rfl; exact hc (lk_some hc').1
  rw [h2 c hc']
  have e3 : isL 35 = false := by decide
  have e4 : isL 46 = false := by decide
  have e5 : isL 91 = false := by decide
  by_cases c35 : c = 35
  · subst c35; simp [cstep, e1, e2, e3, St.to]
  by_cases c46 : c = 46
  · subst c46; simp [cstep, e1, e2, e4, St.to]
  by_cases c91 : c = 91
  · subst c91; simp [cstep, e1, e2, e5, St.to]
  simp [cstep, e1, e2, c35, c46, c91, St.to]
theorem rdy_test {s : ByteArray} {i : Nat} {R : List (List Stp)} {r : List Stp} {T : List Te} {ch : Bool} (h : Rdy s i R r T ch) (hm : mkB (lk s i) = true) :
    match tP s i with
    | .ok (t, j) => Rdy s j R r (T ++ [te t]) ch
    | .error k => Sl.parse (ls s) = .error k := by
  obtain ⟨st, h1, h2, h3⟩ := h
  have hm' := hm
  simp only [mkB, decide_eq_true_eq] at hm'
  have hi : i < s.size := lk_lt (by omega)
  refine t_ok (fst := false) h1 (fun e => absurd e (by omega)) (fun _ => hm) (fun c hc => ?_)
  rw [(lk_some hc).1] at hm'
  have : c = 35 ∨ c = 46 ∨ c = 91 := by
    rcases hm' with h | h | h
    · exact .inl (UInt8.toNat_inj.1 (by simp; omega))
    · exact .inr (.inl (UInt8.toNat_inj.1 (by simp; omega)))
    · exact .inr (.inr (UInt8.toNat_inj.1 (by simp; omega)))
  rw [h3 c hc]
  rcases this with rfl | rfl | rfl <;> simp [tstep, St.to]
set_option maxRecDepth 100000 in
set_option maxHeartbeats 4000000 in
theorem sel_compound (b : Nat) (s : ByteArray) (i : Nat) (w : World) (R : List (List Stp)) (r : List Stp) (ch : Bool) (h : Rr w b s i) (hi : i ≤ s.size) (hs : s.size ≤ 4000000) (hc : Cmp s i R r ch) (hnb : bB (lk s i) = false) :
    Calls Try.prog 38 #[.pointer (some ⟨b, 0, none⟩)] w fun e w' => ((∃ (T : List Tr) (j : Nat) (v : Value), e = .returned v ∧ w'.ownsRow w.heap.size 39 3 v T.length (tcells T) ∧ Rr w' b s j ∧ Rdy s j R r (T.map te) ch ∧ i < j ∧ j ≤ s.size ∧ mkB (lk s j) = false) ∨ (∃ k, Mis e k ∧ Sl.parse (ls s) = .error k)) ∧ Gr b w w' := by
  have HL := Lib.hid (fun (k : Nat) (hk : k ≤ s.size) (V : World) (hV : Rr V b s k) => sel_look b s k V hV hk hs)
  have HT := Lib.hid (fun (k : Nat) (hk : k ≤ s.size) (V : World) (hV : Rr V b s k) => sel_test b s k V hV hk hs)
  have HM := Lib.hid (fun (c : Int) (V : World) => sel_isMark c V)
  have HC := Lib.hid hc
  have HNB := Lib.hid hnb
  have HR0 := Lib.hid h
  have hbw := h.lt
  obtain ⟨i0, hi0, hz0, hz1, hz2⟩ := info_parts info_test
  have HJ := Lib.hid (And.intro hi0 (And.intro hz0 (And.intro hz1 hz2)))
  have HL0 := Lib.hid (HL.out i hi w h)
  clear h hc hnb hi0 hz0 hz1 hz2
  go_enter Try.func38, Try.ntmps38
  go_wp2_with fail
  refine HL0.out.mono ?_
  rintro e w1 ⟨rfl, hb⟩
  have HR1 := Lib.hid (HR0.out.below hb)
  have HG1 : Hid (Gr b w w1) := Lib.hid (Gr.of hb)
  clear hb
  by_cases h42 : lk s i = 42
  · have hlt : i < s.size := lk_lt (by rw [h42]; decide)
    have HRD := Lib.hid (cmp_star HC.out h42)
    have q1 : (lk s i == 42) = true := by simpa using h42
    generalize lk s i = c at *
    obtain ⟨c0, c1, f0, f1⟩ := HR1.out.cells
    have hR2 : Rr (w1.setCell ⟨b, 1, none⟩ (.int .i64 ((i : Int) + 1))) b s (i + 1) := by have := HR1.out.set (i + 1); simpa using this
    have HR2 := Lib.hid hR2
    have HG2 := Lib.hid (HG1.out.trans (Gr.set b 1 w1 (.int .i64 ((i : Int) + 1))))
    clear h42 hR2
    go_wp2_with fail
    clear c0 c1 f0 f1
    go_loopw [3] (fun q wr => ∃ (V : World) (T : List Tr) (j : Nat) (p : Option Addr) (cap : Nat), V = wr ∧ q = .slice p T.length cap ∧ i < j ∧ j ≤ s.size ∧ T.length ≤ j ∧ Hid (V.ownsRow w.heap.size 39 3 (.slice p T.length cap) T.length (tcells T)) ∧ Hid (Rr V b s j) ∧ Hid (Rdy s j R r (T.map te) ch) ∧ Hid (Gr b w V)) (fun _ wr => s.size - atOf b wr)
    case atStart => exact ⟨_, [], i + 1, none, 0, rfl, rfl, by omega, hlt, Nat.zero_le _, Lib.hid (World.ownsRow_nil _ _ _ _), HR2, HRD, HG2⟩
    case round =>
      obtain ⟨V, T, j, p, cap, rfl, rfl, hij, hjs, hTj, HO, HR, HD, HG⟩ := hrel
      have HL1 := Lib.hid (HL.out j hjs V HR.out)
      have HA := Lib.hid HR.out.atOf
      go_wp2_with fail
      refine HL1.out.mono ?_
      rintro e w3 ⟨rfl, hb⟩
      have HR3 := Lib.hid (HR.out.below hb)
      have HO3 := Lib.hid (own_below HO.out hb)
      have HG3 := Lib.hid (HG.out.trans (Gr.of hb))
      clear hb
      go_wp2_with fail
      refine (HM.out _ w3).mono ?_
      rintro e w4 ⟨rfl, rfl⟩
      rcases Bool.eq_false_or_eq_true (mkB (lk s j)) with hmk | hmk
      · have HDT := Lib.hid (rdy_test HD.out hmk)
        have HT3 := Lib.hid (HT.out j hjs w3 HR3.out)
        rw [hmk]
        generalize lk s j = c2 at *
        clear hmk
        go_wp2_with fail
        refine HT3.out.mono ?_
        rintro e w5 ⟨hr, hg⟩
        have HG4 := Lib.hid (HG3.out.trans hg)
        have HO4 := Lib.hid (own_gr HO3.out hbw hg)
        clear hg
        cases htp : tP s j with
        | error k =>
          rw [htp] at hr HDT
          unfold Rs Mis at hr
          subst hr
          clear htp
          go_wp2
          exact ⟨rfl, .inr ⟨k, rfl, HDT.out⟩, HG4.out⟩
        | ok pr =>
          obtain ⟨t, j'⟩ := pr
          rw [htp] at hr HDT
          unfold Rs tV at hr
          obtain ⟨rfl, hr⟩ := hr
          have hj' := tP_le hjs htp
          have HR4 := Lib.hid hr
          clear htp hr
          obtain ⟨nT, hnT⟩ : ∃ nT, T.length = nT := ⟨_, rfl⟩
          have HNT := Lib.hid hnT
          rw [hnT] at HO4 hTj ⊢
          clear hnT
          have HXB : Hid (Below w5.heap.size w5 (w5.alloc (.cells #[.int .i64 t.1, .string t.2.1, .string t.2.2] 39))) := Lib.hid ((Below.refl _ _).alloc (Nat.le_refl _) _)
          have HX := Lib.hid (own_below HO4.out HXB.out)
          have HXC := Lib.hid (cells3 _ _ _ _ _ _ (heap_alloc_new w5 (.cells #[.int .i64 t.1, .string t.2.1, .string t.2.2] 39)))
          have HXS := Lib.hid (Nat.le_trans HG4.out.size HXB.out.size)
          go_wp2_with (at_builtin; refine wpList_append_own_at _ rfl _ _ 35 rfl w.heap.size 39 i0 (.agg #[.int .i64 0, .string ⟨#[]⟩, .string ⟨#[]⟩]) 3 40 Try.underlying35 HJ.out.1 HJ.out.2.1 HJ.out.2.2.1 HJ.out.2.2.2 rfl (by decide) _ _ _ rfl HX.out ⟨w5.heap.size, 0, none⟩ 1 1 (t3 t) rfl rfl HXC.out (t3_one t) (by unfold maxLen; omega) (by omega) HXS.out ?_; intro v' V' hown' hgrow _ hat; have HO' := Lib.hid hown'; have HGR := Lib.hid hgrow; clear hown' hgrow hat)
          obtain ⟨p', cap', rfl, -⟩ := own_form2 HO'.out
          have HR5 : Hid (Rr V' b s j') := Lib.hid ((HR4.out.below HXB.out).grown HGR.out (own_apart HX.out (HR4.out.below HXB.out) (by decide)))
          have HG5 : Hid (Gr b w V') := Lib.hid ((HG4.out.trans (Gr.of HXB.out)).grown HGR.out (fun q e => (HX.out.lt q e).1))
          have hlen : (T ++ [t]).length = nT + 1 := by rw [List.length_append, HNT.out]; rfl
          go_roundw
          case rel => exact ⟨V', T ++ [t], j', p', cap', rfl, by rw [hlen], by omega, hj'.2, by omega, Lib.hid (by rw [hlen, tcells_snoc]; exact HO'.out), HR5, Lib.hid (by rw [List.map_append]; exact HDT.out), HG5⟩
          case measure =>
            rw [HA.out, HR5.out.atOf]
            omega
      · have HMK := Lib.hid hmk
        rw [hmk]
        obtain ⟨c2, hc2⟩ : ∃ c2, lk s j = c2 := ⟨_, rfl⟩
        rw [hc2]
        clear hmk hc2
        go_wp2
        go_ret
        exact ⟨.inl ⟨T, j, _, rfl, HO3.out, HR3.out, HD.out, hij, hjs, HMK.out⟩, HG3.out⟩
  · have HCT := Lib.hid (cmp_test HC.out HNB.out h42)
    have q1 : (lk s i == 42) = false := by simpa using h42
    have HT1 := Lib.hid (HT.out i hi w1 HR1.out)
    generalize lk s i = c at *
    clear h42
    go_wp2_with fail
    refine HT1.out.mono ?_
    rintro e w2 ⟨hr, hg⟩
    have HG2 := Lib.hid (HG1.out.trans hg)
    clear hg
    cases htp : tP s i with
    | error k =>
      rw [htp] at hr HCT
      unfold Rs Mis at hr
      subst hr
      clear htp
      go_wp2
      exact ⟨rfl, .inr ⟨k, rfl, HCT.out⟩, HG2.out⟩
    | ok p =>
    obtain ⟨t, j⟩ := p
    rw [htp] at hr HCT
    unfold Rs tV at hr
    obtain ⟨rfl, hr⟩ := hr
    have hj := tP_le hi htp
    have HR2 := Lib.hid hr
    clear htp hr
    obtain ⟨n0, hn0⟩ : ∃ n0 : Nat, n0 = 0 := ⟨_, rfl⟩
    have HXB : Hid (Below w2.heap.size w2 (w2.alloc (.cells #[.int .i64 t.1, .string t.2.1, .string t.2.2] 39))) := Lib.hid ((Below.refl _ _).alloc (Nat.le_refl _) _)
    have HX := Lib.hid (own_below (World.ownsRow_nil w2 w.heap.size 39 3) HXB.out)
    have HXC := Lib.hid (cells3 _ _ _ _ _ _ (heap_alloc_new w2 (.cells #[.int .i64 t.1, .string t.2.1, .string t.2.2] 39)))
    have HXS := Lib.hid (Nat.le_trans HG2.out.size HXB.out.size)
    go_wp2_with (at_builtin; refine wpList_append_own_at _ rfl _ _ 35 rfl w.heap.size 39 i0 (.agg #[.int .i64 0, .string ⟨#[]⟩, .string ⟨#[]⟩]) 3 40 Try.underlying35 HJ.out.1 HJ.out.2.1 HJ.out.2.2.1 HJ.out.2.2.2 rfl (by decide) _ _ _ rfl HX.out ⟨w2.heap.size, 0, none⟩ 1 1 (t3 t) rfl rfl HXC.out (t3_one t) (by unfold maxLen; omega) (by omega) HXS.out ?_; intro v' V' hown' hgrow _ hat; have HO' := Lib.hid hown'; have HGR := Lib.hid hgrow; clear hown' hgrow hat)
    obtain ⟨p', cap', rfl, -⟩ := own_form2 HO'.out
    have HR5 : Hid (Rr V' b s j) := Lib.hid ((HR2.out.below HXB.out).grown HGR.out (own_apart HX.out (HR2.out.below HXB.out) (by decide)))
    have HG5 : Hid (Gr b w V') := Lib.hid ((HG2.out.trans (Gr.of HXB.out)).grown HGR.out (fun q e => (HX.out.lt q e).1))
    simp only [Nat.zero_add]
    go_loopw [3] (fun q wr => ∃ (V : World) (T : List Tr) (j : Nat) (p : Option Addr) (cap : Nat), V = wr ∧ q = .slice p T.length cap ∧ i < j ∧ j ≤ s.size ∧ T.length ≤ j ∧ Hid (V.ownsRow w.heap.size 39 3 (.slice p T.length cap) T.length (tcells T)) ∧ Hid (Rr V b s j) ∧ Hid (Rdy s j R r (T.map te) ch) ∧ Hid (Gr b w V)) (fun _ wr => s.size - atOf b wr)
    case atStart => exact ⟨V', [t], j, p', cap', rfl, rfl, hj.1, hj.2, by simp; omega, Lib.hid (by have := HO'.out; simpa [tcells] using this), HR5, HCT, HG5⟩
    case round =>
      obtain ⟨V, T, j, p, cap, rfl, rfl, hij, hjs, hTj, HO, HR, HD, HG⟩ := hrel
      have HL1 := Lib.hid (HL.out j hjs V HR.out)
      have HA := Lib.hid HR.out.atOf
      go_wp2_with fail
      refine HL1.out.mono ?_
      rintro e w3 ⟨rfl, hb⟩
      have HR3 := Lib.hid (HR.out.below hb)
      have HO3 := Lib.hid (own_below HO.out hb)
      have HG3 := Lib.hid (HG.out.trans (Gr.of hb))
      clear hb
      go_wp2_with fail
      refine (HM.out _ w3).mono ?_
      rintro e w4 ⟨rfl, rfl⟩
      rcases Bool.eq_false_or_eq_true (mkB (lk s j)) with hmk | hmk
      · have HDT := Lib.hid (rdy_test HD.out hmk)
        have HT3 := Lib.hid (HT.out j hjs w3 HR3.out)
        rw [hmk]
        generalize lk s j = c2 at *
        clear hmk
        go_wp2_with fail
        refine HT3.out.mono ?_
        rintro e w5 ⟨hr, hg⟩
        have HG4 := Lib.hid (HG3.out.trans hg)
        have HO4 := Lib.hid (own_gr HO3.out hbw hg)
        clear hg
        cases htp : tP s j with
        | error k =>
          rw [htp] at hr HDT
          unfold Rs Mis at hr
          subst hr
          clear htp
          go_wp2
          exact ⟨rfl, .inr ⟨k, rfl, HDT.out⟩, HG4.out⟩
        | ok pr =>
          obtain ⟨t, j'⟩ := pr
          rw [htp] at hr HDT
          unfold Rs tV at hr
          obtain ⟨rfl, hr⟩ := hr
          have hj' := tP_le hjs htp
          have HR4 := Lib.hid hr
          clear htp hr
          obtain ⟨nT, hnT⟩ : ∃ nT, T.length = nT := ⟨_, rfl⟩
          have HNT := Lib.hid hnT
          rw [hnT] at HO4 hTj ⊢
          clear hnT
          have HXB : Hid (Below w5.heap.size w5 (w5.alloc (.cells #[.int .i64 t.1, .string t.2.1, .string t.2.2] 39))) := Lib.hid ((Below.refl _ _).alloc (Nat.le_refl _) _)
          have HX := Lib.hid (own_below HO4.out HXB.out)
          have HXC := Lib.hid (cells3 _ _ _ _ _ _ (heap_alloc_new w5 (.cells #[.int .i64 t.1, .string t.2.1, .string t.2.2] 39)))
          have HXS := Lib.hid (Nat.le_trans HG4.out.size HXB.out.size)
          go_wp2_with (at_builtin; refine wpList_append_own_at _ rfl _ _ 35 rfl w.heap.size 39 i0 (.agg #[.int .i64 0, .string ⟨#[]⟩, .string ⟨#[]⟩]) 3 40 Try.underlying35 HJ.out.1 HJ.out.2.1 HJ.out.2.2.1 HJ.out.2.2.2 rfl (by decide) _ _ _ rfl HX.out ⟨w5.heap.size, 0, none⟩ 1 1 (t3 t) rfl rfl HXC.out (t3_one t) (by unfold maxLen; omega) (by omega) HXS.out ?_; intro v' V' hown' hgrow _ hat; have HO' := Lib.hid hown'; have HGR := Lib.hid hgrow; clear hown' hgrow hat)
          obtain ⟨p', cap', rfl, -⟩ := own_form2 HO'.out
          have HR5 : Hid (Rr V' b s j') := Lib.hid ((HR4.out.below HXB.out).grown HGR.out (own_apart HX.out (HR4.out.below HXB.out) (by decide)))
          have HG5 : Hid (Gr b w V') := Lib.hid ((HG4.out.trans (Gr.of HXB.out)).grown HGR.out (fun q e => (HX.out.lt q e).1))
          have hlen : (T ++ [t]).length = nT + 1 := by rw [List.length_append, HNT.out]; rfl
          go_roundw
          case rel => exact ⟨V', T ++ [t], j', p', cap', rfl, by rw [hlen], by omega, hj'.2, by omega, Lib.hid (by rw [hlen, tcells_snoc]; exact HO'.out), HR5, Lib.hid (by rw [List.map_append]; exact HDT.out), HG5⟩
          case measure =>
            rw [HA.out, HR5.out.atOf]
            omega
      · have HMK := Lib.hid hmk
        rw [hmk]
        obtain ⟨c2, hc2⟩ : ∃ c2, lk s j = c2 := ⟨_, rfl⟩
        rw [hc2]
        clear hmk hc2
        go_wp2
        go_ret
        exact ⟨.inl ⟨T, j, _, rfl, HO3.out, HR3.out, HD.out, hij, hjs, HMK.out⟩, HG3.out⟩
end Go.Proofs.Ytcfkcifbojckcaa
