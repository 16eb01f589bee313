/-
  The reader's attribute and test.
-/
import Derived.Test.YtcfkcifbojckcaaSelD
namespace Go.Proofs.Ytcfkcifbojckcaa
open Go.ChangeShapes Go.WideShapes Go.ChangeAt Go.RowKit
open Go.PlainAid (bt)
set_option linter.unusedVariables false
set_option linter.unusedSimpArgs false

/-- A test's value. -/
def tV (t : Int × ByteArray × ByteArray) : Value := .agg #[.int .i64 t.1, .string t.2.1, .string t.2.2]
def aQ (s : ByteArray) (n : ByteArray) (j1 : Nat) : Except Nat ((Int × ByteArray × ByteArray) × Nat) :=
  if lk s j1 = 61 then match vP s (sp s (j1 + 1)) with
    | .error k => .error k
    | .ok (v, k) => if lk s (sp s k) = 93 then .ok ((5, n, v), sp s k + 1) else .error (sp s k)
  else if lk s j1 = 93 then .ok ((4, n, ⟨#[]⟩), j1 + 1) else .error j1
def aP (s : ByteArray) (i : Nat) : Except Nat ((Int × ByteArray × ByteArray) × Nat) := match nP s (sp s (i + 1)) with
  | .error k => .error k
  | .ok (n, j) => aQ s n (sp s j)
theorem aP_le {s : ByteArray} {i : Nat} (hi : i < s.size) {t : Int × ByteArray × ByteArray} {j : Nat} (h : aP s i = .ok (t, j)) : i < j ∧ j ≤ s.size := by
  unfold aP at h
  have h0 := sp_le s (i + 1) hi
  cases hn : nP s (sp s (i + 1)) with
  | error k => rw [hn] at h; cases h
  | ok p =>
    obtain ⟨n, j0⟩ := p
    rw [hn] at h
    simp only [] at h
    have h1 := nP_le h0.2 hn
    have h2 := sp_le s j0 h1.2.1
    unfold aQ at h
    split at h
    · rename_i hq
      have hlt : sp s j0 < s.size := lk_lt (by rw [hq]; decide)
      have h3 := sp_le s (sp s j0 + 1) hlt
      cases hv : vP s (sp s (sp s j0 + 1)) with
      | error k => rw [hv] at h; cases h
      | ok p =>
        obtain ⟨v, k⟩ := p
        rw [hv] at h
        simp only [] at h
        have h4 := vP_le h3.2 hv
        have h5 := sp_le s k h4.2
        split at h
        · rename_i hr
          have hlt2 : sp s k < s.size := lk_lt (by rw [hr]; decide)
          cases h
          omega
        · cases h
    · split at h
      · rename_i hr
        have hlt2 : sp s j0 < s.size := lk_lt (by rw [hr]; decide)
        cases h
        omega
      · cases h
/-- A test lies at a block. -/
def Tb (w : World) (tb : Nat) (k : Int) (n v : ByteArray) : Prop := w.heap[tb]? = some (.cells #[.int .i64 k, .string n, .string v] 39 (0, 0))
theorem Tb.cells {w : World} {tb : Nat} {k : Int} {n v : ByteArray} (h : Tb w tb k n v) : (w.cell? ⟨tb, 0, none⟩ = some (.int .i64 k) ∧ w.cell? ⟨tb, 1, none⟩ = some (.string n) ∧ w.cell? ⟨tb, 2, none⟩ = some (.string v)) ∧ w.frozen? ⟨tb, 0, none⟩ = false ∧ w.frozen? ⟨tb, 1, none⟩ = false ∧ w.frozen? ⟨tb, 2, none⟩ = false := by
  unfold Tb at h
  refine ⟨⟨?_, ?_, ?_⟩, ?_, ?_, ?_⟩ <;> simp [World.cell?, World.frozen?, h]
theorem Tb.keep {w w' : World} {tb b : Nat} {k : Int} {n v : ByteArray} (h : Tb w tb k n v) (hb : b < tb) (hg : Gr b w w') : Tb w' tb k n v := (hg.block tb (Array.getElem?_eq_some_iff.1 h).1 (by simp; omega)).trans h
theorem Tb.set3 {w : World} {tb : Nat} {k : Int} {n v : ByteArray} (h : Tb w tb k n v) (k' : Int) (n' v' : ByteArray) : Tb (((w.setCell ⟨tb, 0, none⟩ (.int .i64 k')).setCell ⟨tb, 1, none⟩ (.string n')).setCell ⟨tb, 2, none⟩ (.string v')) tb k' n' v' := by
  unfold Tb at h ⊢
  simp [World.setCell, Array.getElem?_modify, h]
theorem Tb.set2 {w : World} {tb : Nat} {k : Int} {n v : ByteArray} (h : Tb w tb k n v) (k' : Int) (v' : ByteArray) : Tb ((w.setCell ⟨tb, 0, none⟩ (.int .i64 k')).setCell ⟨tb, 2, none⟩ (.string v')) tb k' n v' := by
  unfold Tb at h ⊢
  simp [World.setCell, Array.getElem?_modify, h]
theorem Gr.put {b tb : Nat} {w w' : World} (h : Gr b w w') (ht : w.heap.size ≤ tb) (k : Nat) (v : Value) : Gr b w (w'.setCell ⟨tb, k, none⟩ v) :=
  ⟨h.os, h.tape, h.output, by simpa [World.setCell] using h.size, fun q hq hn => (Below.heap_setCell _ _ _ _ (by simp; omega)).trans (h.block q hq hn)⟩
theorem Rr.other {w : World} {b tb : Nat} {s : ByteArray} {i : Nat} (h : Rr w b s i) (hb : b < tb) (k : Nat) (v : Value) : Rr (w.setCell ⟨tb, k, none⟩ v) b s i := (Below.heap_setCell _ _ _ _ (by simp; omega)).trans h
set_option maxRecDepth 100000 in
set_option maxHeartbeats 4000000 in
theorem sel_attr (b : Nat) (s : ByteArray) (i : Nat) (w : World) (h : Rr w b s i) (hi : i < s.size) (hc : lk s i = 91) (hs : s.size ≤ 4000000) : Calls Try.prog 53 #[.pointer (some ⟨b, 0, none⟩)] w fun e w' => Rs (aP s i) tV b s e w' ∧ Gr b w w' := by
  have HL := Lib.hid (fun (k : Nat) (hk : k ≤ s.size) (V : World) (hV : Rr V b s k) => sel_look b s k V hV hk hs)
  have HS := Lib.hid (fun (k : Nat) (hk : k ≤ s.size) (V : World) (hV : Rr V b s k) => sel_blanks b s k V hV hk hs)
  have HN := Lib.hid (fun (k : Nat) (hk : k ≤ s.size) (V : World) (hV : Rr V b s k) => sel_name b s k V hV hk hs)
  have HU := Lib.hid (fun (k : Nat) (hk : k ≤ s.size) (V : World) (hV : Rr V b s k) => sel_value b s k V hV hk hs)
  have HT := Lib.hid (fun (c : Int) (hc : c ≠ -1) (k : Nat) (hk : k ≤ s.size) (V : World) (hV : Rr V b s k) => sel_take b s k c V hV hk hs hc)
  obtain ⟨W0, hW0⟩ : ∃ W0, W0 = w.alloc (.cells #[.int .i64 0, .string ⟨#[]⟩, .string ⟨#[]⟩] 39) := ⟨_, rfl⟩
  have HB0 : Hid (Below w.heap.size w W0) := Lib.hid (by rw [hW0]; exact (Below.refl _ _).alloc (Nat.le_refl _) _)
  have HK0 : Hid (Tb W0 w.heap.size 0 ⟨#[]⟩ ⟨#[]⟩) := Lib.hid (by unfold Tb; rw [hW0]; exact heap_alloc_new _ _)
  obtain ⟨tb, htb⟩ : ∃ tb, tb = w.heap.size := ⟨_, rfl⟩
  have htb1 : b < tb := by rw [htb]; exact h.lt
  have htb2 : w.heap.size ≤ tb := Nat.le_of_eq htb.symm
  have HT1 := Lib.hid (by have := HT.out 91 (by decide) i (Nat.le_of_lt hi) W0 (h.below HB0.out); simp only [if_pos hc] at this; exact this)
  have h0 := sp_le s (i + 1) hi
  have HA : Hid (∀ k, nP s (sp s (i + 1)) = .error k → aP s i = .error k) := Lib.hid (fun k hk => by unfold aP; rw [hk])
  have HA2 : Hid (∀ n j, nP s (sp s (i + 1)) = .ok (n, j) → aP s i = aQ s n (sp s j)) := Lib.hid (fun n j hk => by unfold aP; rw [hk])
  clear h hc
  go_enter Try.func53, Try.ntmps53
  go_wp2_with fail
  rw [← hW0]
  rw [← htb] at HK0 ⊢
  clear hW0 htb
  refine HT1.out.mono ?_
  rintro e w1 ⟨⟨rfl, hr⟩, hg⟩
  have HK1 := Lib.hid (HK0.out.keep htb1 hg)
  have HG1 := Lib.hid ((Gr.of HB0.out).trans hg)
  have HS1 := Lib.hid (HS.out (i + 1) hi w1 hr)
  clear hr hg
  generalize sp s (i + 1) = i1 at *
  go_wp2_with fail
  refine HS1.out.mono ?_
  rintro e w2 ⟨rfl, hr, hg⟩
  have HK2 := Lib.hid (HK1.out.keep htb1 hg)
  have HG2 := Lib.hid (HG1.out.trans hg)
  have HN1 := Lib.hid (HN.out i1 h0.2 w2 hr)
  clear hr hg
  generalize decide (i + 1 < i1) = q0
  go_wp2_with fail
  refine HN1.out.mono ?_
  rintro e w3 ⟨hr, hg⟩
  have HK3 := Lib.hid (HK2.out.keep htb1 hg)
  have HG3 := Lib.hid (HG2.out.trans hg)
  clear hg
  cases hnp : nP s i1 with
  | error k =>
    rw [hnp] at hr
    have HE := Lib.hid (HA.out k hnp)
    unfold Rs Mis at hr
    subst hr
    clear hnp
    go_wp2
    exact ⟨rfl, by rw [HE.out]; rfl, HG3.out⟩
  | ok p =>
    obtain ⟨n, j⟩ := p
    rw [hnp] at hr
    have HE := Lib.hid (HA2.out n j hnp)
    have hj := nP_le h0.2 hnp
    unfold Rs at hr
    obtain ⟨rfl, hr⟩ := hr
    have HR3 := Lib.hid hr
    have h1 := sp_le s j hj.2.1
    clear hnp hr
    obtain ⟨V3, hV3⟩ : ∃ V3, V3 = w3.alloc (.cells #[.int .i64 4, .string n, .string ⟨#[]⟩] 39) := ⟨_, rfl⟩
    have hbV3 : Below w3.heap.size w3 V3 := by rw [hV3]; exact (Below.refl _ _).alloc (Nat.le_refl _) _
    have HT3 : Hid (Tb V3 w3.heap.size 4 n ⟨#[]⟩) := Lib.hid (by unfold Tb; rw [hV3]; exact heap_alloc_new _ _)
    have HKa := Lib.hid (HK3.out.keep htb1 (Gr.of hbV3))
    have HGa := Lib.hid (HG3.out.trans (Gr.of hbV3))
    have HS2 := Lib.hid (HS.out j hj.2.1 V3 (HR3.out.below hbV3))
    obtain ⟨t2, ht2⟩ : ∃ t2, t2 = w3.heap.size := ⟨_, rfl⟩
    have hbt2 : b < t2 := by rw [ht2]; exact HR3.out.lt
    have htt : tb ≠ t2 := by
      rw [ht2]
      have := (Array.getElem?_eq_some_iff.1 HK3.out).1
      omega
    have hwt : w.heap.size ≤ t2 := by rw [ht2]; exact HG3.out.size
    clear hbV3
    generalize sp s j = j1 at *
    go_wp2_with fail
    rw [← hV3]
    rw [← ht2] at HT3 ⊢
    clear hV3 ht2
    refine HS2.out.mono ?_
    rintro e w4 ⟨rfl, hr, hg⟩
    have HR4 := Lib.hid hr
    have HK4 := Lib.hid (HKa.out.keep htb1 hg)
    have HT4 := Lib.hid (HT3.out.keep hbt2 hg)
    have HG4 := Lib.hid (HGa.out.trans hg)
    have HL1 := Lib.hid (HL.out j1 h1.2 w4 hr)
    clear hr hg
    generalize decide (j < j1) = q1
    go_wp2_with fail
    refine HL1.out.mono ?_
    rintro e w5 ⟨rfl, hb⟩
    have HR5 := Lib.hid (HR4.out.below hb)
    have HK5 := Lib.hid (HK4.out.keep htb1 (Gr.of hb))
    have HT5 := Lib.hid (HT4.out.keep hbt2 (Gr.of hb))
    have HG5 := Lib.hid (HG4.out.trans (Gr.of hb))
    clear hb
    by_cases hq : lk s j1 = 61
    · have hlt : j1 < s.size := lk_lt (by rw [hq]; decide)
      have h2 := sp_le s (j1 + 1) hlt
      have HE2 : Hid (aP s i = match vP s (sp s (j1 + 1)) with
        | .error k => .error k
        | .ok (v, k) => if lk s (sp s k) = 93 then .ok ((5, n, v), sp s k + 1) else .error (sp s k)) := Lib.hid (by rw [HE.out]; unfold aQ; rw [if_pos hq])
      have q2 : (lk s j1 == 61) = true := by simpa using hq
      generalize lk s j1 = c at *
      clear hq
      obtain ⟨c0, c1, f0, f1⟩ := HR5.out.cells
      have hR6 : Rr (w5.setCell ⟨b, 1, none⟩ (.int .i64 ((j1 : Int) + 1))) b s (j1 + 1) := by have := HR5.out.set (j1 + 1); simpa using this
      have hg6 : Gr b w5 (w5.setCell ⟨b, 1, none⟩ (.int .i64 ((j1 : Int) + 1))) := Gr.set b 1 w5 _
      have HG6 := Lib.hid (HG5.out.trans hg6)
      have HK6 := Lib.hid (HK5.out.keep htb1 hg6)
      have HT6 := Lib.hid (HT5.out.keep hbt2 hg6)
      have HS3 := Lib.hid (HS.out (j1 + 1) hlt _ hR6)
      clear hR6 hg6
      generalize sp s (j1 + 1) = j2 at *
      go_wp2_with fail
      refine HS3.out.mono ?_
      rintro e w6 ⟨rfl, hr, hg⟩
      have HK7 := Lib.hid (HK6.out.keep htb1 hg)
      have HT7 := Lib.hid (HT6.out.keep hbt2 hg)
      have HG7 := Lib.hid (HG6.out.trans hg)
      have HU1 := Lib.hid (HU.out j2 h2.2 w6 hr)
      clear hr hg c0 c1 f0 f1
      generalize decide (j1 + 1 < j2) = q3
      go_wp2_with fail
      refine HU1.out.mono ?_
      rintro e w7 ⟨hr, hg⟩
      have HK8 := Lib.hid (HK7.out.keep htb1 hg)
      have HT8 := Lib.hid (HT7.out.keep hbt2 hg)
      have HG8 := Lib.hid (HG7.out.trans hg)
      clear hg
      cases hvp : vP s j2 with
      | error k =>
        rw [hvp] at hr HE2
        unfold Rs Mis at hr
        subst hr
        clear hvp
        go_wp2
        exact ⟨rfl, by rw [HE2.out]; rfl, HG8.out⟩
      | ok p =>
        obtain ⟨v, k⟩ := p
        rw [hvp] at hr HE2
        have hv := vP_le h2.2 hvp
        unfold Rs at hr
        obtain ⟨rfl, hr⟩ := hr
        have HR8 := Lib.hid hr
        have h3 := sp_le s k hv.2
        clear hvp hr
        simp only [] at HE2
        obtain ⟨⟨c0, c1, c2⟩, f0, f1, f2⟩ := HT8.out.cells
        have HT9 := Lib.hid (HT8.out.set2 5 v)
        have HR9 := Lib.hid ((HR8.out.other hbt2 0 (.int .i64 5)).other hbt2 2 (.string v))
        have HG9 := Lib.hid ((HG8.out.put hwt 0 (.int .i64 5)).put hwt 2 (.string v))
        have HK9 : Hid (Tb ((w7.setCell ⟨t2, 0, none⟩ (.int .i64 5)).setCell ⟨t2, 2, none⟩ (.string v)) tb 0 ⟨#[]⟩ ⟨#[]⟩) := Lib.hid (((Below.heap_setCell _ _ _ _ (by simpa using htt)).trans ((Below.heap_setCell _ _ _ _ (by simpa using htt)).trans HK8.out)))
        have HS4 := Lib.hid (HS.out k hv.2 _ HR9.out)
        generalize sp s k = k1 at *
        go_wp2_with fail
        refine HS4.out.mono ?_
        rintro e w8 ⟨rfl, hr, hg⟩
        have HR10 := Lib.hid hr
        have HK10 := Lib.hid (HK9.out.keep htb1 hg)
        have HT10 := Lib.hid (HT9.out.keep hbt2 hg)
        have HG10 := Lib.hid (HG9.out.trans hg)
        clear hr hg c0 c1 c2 f0 f1 f2
        generalize decide (k < k1) = q4
        by_cases hq3 : lk s k1 = 93
        · have HTK := Lib.hid (by have := HT.out 93 (by decide) k1 h3.2 w8 HR10.out; simp only [if_pos hq3] at this; exact this)
          rw [if_pos hq3] at HE2
          clear hq3
          go_wp2_with fail
          refine HTK.out.mono ?_
          rintro e w9 ⟨⟨rfl, hr⟩, hg⟩
          have HR11 := Lib.hid hr
          have HK11 := Lib.hid (HK10.out.keep htb1 hg)
          have HT11 := Lib.hid (HT10.out.keep hbt2 hg)
          have HG11 := Lib.hid (HG10.out.trans hg)
          clear hr hg
          obtain ⟨⟨c0, c1, c2⟩, f0, f1, f2⟩ := HT11.out.cells
          obtain ⟨⟨d0, d1, d2⟩, e0, e1, e2⟩ := HK11.out.cells
          go_wp2_with fail
          have hT9 := HK11.out.set3 5 n v
          obtain ⟨⟨z0, z1, z2⟩, -⟩ := hT9.cells
          refine ⟨rfl, tV (5, n, v), ?_, by rw [HE2.out]; exact ⟨rfl, ((HR11.out.other htb1 0 _).other htb1 1 _).other htb1 2 _⟩, ((HG11.out.put htb2 0 _).put htb2 1 _).put htb2 2 _⟩
          simp [results, Try.f53, go_sem, z0, z1, z2, tV]
        · have HTK := Lib.hid (by have := HT.out 93 (by decide) k1 h3.2 w8 HR10.out; simp only [if_neg hq3] at this; exact this)
          rw [if_neg hq3] at HE2
          clear hq3
          go_wp2_with fail
          refine HTK.out.mono ?_
          rintro e w9 ⟨he, hg⟩
          unfold Mis at he
          subst he
          have HG11 := Lib.hid (HG10.out.trans hg)
          clear hg
          go_wp2
          exact ⟨rfl, by rw [HE2.out]; rfl, HG11.out⟩
    · have HE2 : Hid (aP s i = if lk s j1 = 93 then .ok ((4, n, ⟨#[]⟩), j1 + 1) else .error j1) := Lib.hid (by rw [HE.out]; unfold aQ; rw [if_neg hq])
      have q2 : (lk s j1 == 61) = false := by simpa using hq
      by_cases hq3 : lk s j1 = 93
      · have HTK := Lib.hid (by have := HT.out 93 (by decide) j1 h1.2 w5 HR5.out; simp only [if_pos hq3] at this; exact this)
        rw [if_pos hq3] at HE2
        generalize lk s j1 = c at *
        clear hq hq3
        go_wp2_with fail
        refine HTK.out.mono ?_
        rintro e w6 ⟨⟨rfl, hr⟩, hg⟩
        have HR6 := Lib.hid hr
        have HK6 := Lib.hid (HK5.out.keep htb1 hg)
        have HT6 := Lib.hid (HT5.out.keep hbt2 hg)
        have HG6 := Lib.hid (HG5.out.trans hg)
        clear hr hg
        obtain ⟨⟨c0, c1, c2⟩, f0, f1, f2⟩ := HT6.out.cells
        obtain ⟨⟨d0, d1, d2⟩, e0, e1, e2⟩ := HK6.out.cells
        go_wp2_with fail
        have hT9 := HK6.out.set3 4 n ⟨#[]⟩
        obtain ⟨⟨z0, z1, z2⟩, -⟩ := hT9.cells
        refine ⟨rfl, tV (4, n, ⟨#[]⟩), ?_, by rw [HE2.out]; exact ⟨rfl, ((HR6.out.other htb1 0 _).other htb1 1 _).other htb1 2 _⟩, ((HG6.out.put htb2 0 _).put htb2 1 _).put htb2 2 _⟩
        simp [results, Try.f53, go_sem, z0, z1, z2, tV]
      · have HTK := Lib.hid (by have := HT.out 93 (by decide) j1 h1.2 w5 HR5.out; simp only [if_neg hq3] at this; exact this)
        rw [if_neg hq3] at HE2
        generalize lk s j1 = c at *
        clear hq hq3
        go_wp2_with fail
        refine HTK.out.mono ?_
        rintro e w6 ⟨he, hg⟩
        unfold Mis at he
        subst he
        have HG6 := Lib.hid (HG5.out.trans hg)
        clear hg
        go_wp2
        exact ⟨rfl, by rw [HE2.out]; rfl, HG6.out⟩
end Go.Proofs.Ytcfkcifbojckcaa
