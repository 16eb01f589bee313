/-
  The reader's test.
-/
import Derived.Test.YtcfkcifbojckcaaSelE
namespace Go.Proofs.Ytcfkcifbojckcaa
open Go.ChangeShapes Go.WideShapes Go.ChangeAt Go.RowKit
open Go.PlainAid (bt)
set_option linter.unusedVariables false
set_option linter.unusedSimpArgs false

def nT (k : Int) : Except Nat (ByteArray × Nat) → Except Nat ((Int × ByteArray × ByteArray) × Nat)
  | .error e => .error e
  | .ok (n, j) => .ok ((k, n, ⟨#[]⟩), j)
def tP (s : ByteArray) (i : Nat) : Except Nat ((Int × ByteArray × ByteArray) × Nat) :=
  if kd (lk s i) = 4 then aP s i else nT (kd (lk s i)) (nP s (if kd (lk s i) = 2 ∨ kd (lk s i) = 3 then i + 1 else i))
theorem kd_4 {c : Int} (h : kd c = 4) : c = 91 := by
  unfold kd at h
  repeat' split at h
  all_goals first | assumption | (exact absurd h (by decide))
theorem kd_in {s : ByteArray} {i : Nat} (h : kd (lk s i) ≠ 0) : i < s.size := lk_lt (fun e => by rw [e] at h; exact h (by decide))
theorem tP_le {s : ByteArray} {i : Nat} (hi : i ≤ s.size) {t : Int × ByteArray × ByteArray} {j : Nat} (h : tP s i = .ok (t, j)) : i < j ∧ j ≤ s.size := by
  unfold tP at h
  split at h
  · rename_i h4
    exact aP_le (kd_in (by rw [h4]; decide)) h
  · by_cases h2 : kd (lk s i) = 2 ∨ kd (lk s i) = 3
    · rw [if_pos h2] at h
      have hlt : i < s.size := kd_in (by omega)
      cases hn : nP s (i + 1) with
      | error k => rw [hn] at h; cases h
      | ok p =>
        obtain ⟨n, j'⟩ := p
        rw [hn] at h
        cases h
        have := nP_le hlt hn
        omega
    · rw [if_neg h2] at h
      cases hn : nP s i with
      | error k => rw [hn] at h; cases h
      | ok p =>
        obtain ⟨n, j'⟩ := p
        rw [hn] at h
        cases h
        have := nP_le hi hn
        omega
set_option maxRecDepth 100000 in
set_option maxHeartbeats 4000000 in
theorem sel_test (b : Nat) (s : ByteArray) (i : Nat) (w : World) (h : Rr w b s i) (hi : i ≤ s.size) (hs : s.size ≤ 4000000) : Calls Try.prog 48 #[.pointer (some ⟨b, 0, none⟩)] w fun e w' => Rs (tP s i) tV b s e w' ∧ Gr b w w' := by
  have HL := Lib.hid (fun (V : World) (hV : Rr V b s i) => sel_look b s i V hV hi hs)
  have HK := Lib.hid (fun (c : Int) (V : World) => sel_kindOf c V)
  have HN := Lib.hid (fun (k : Nat) (hk : k ≤ s.size) (V : World) (hV : Rr V b s k) => sel_name b s k V hV hk hs)
  have HA := Lib.hid (fun (hc : lk s i = 91) (V : World) (hV : Rr V b s i) => sel_attr b s i V hV (lk_lt (by rw [hc]; decide)) hc hs)
  obtain ⟨W0, hW0⟩ : ∃ W0, W0 = w.alloc (.cells #[.int .i64 0, .string ⟨#[]⟩, .string ⟨#[]⟩] 39) := ⟨_, rfl⟩
  have HB0 : Hid (Below w.heap.size w W0) := Lib.hid (by rw [hW0]; exact (Below.refl _ _).alloc (Nat.le_refl _) _)
  have HK0 : Hid (Tb W0 w.heap.size 0 ⟨#[]⟩ ⟨#[]⟩) := Lib.hid (by unfold Tb; rw [hW0]; exact heap_alloc_new _ _)
  obtain ⟨tb, htb⟩ : ∃ tb, tb = w.heap.size := ⟨_, rfl⟩
  have htb1 : b < tb := by rw [htb]; exact h.lt
  have htb2 : w.heap.size ≤ tb := Nat.le_of_eq htb.symm
  have HR0 := Lib.hid (h.below HB0.out)
  clear h
  have HE : Hid (tP s i = if kd (lk s i) = 4 then aP s i else nT (kd (lk s i)) (nP s (if kd (lk s i) = 2 ∨ kd (lk s i) = 3 then i + 1 else i))) := Lib.hid rfl
  have H91 : Hid (kd (lk s i) = 4 → lk s i = 91) := Lib.hid kd_4
  have HIN : Hid (kd (lk s i) ≠ 0 → i < s.size) := Lib.hid kd_in
  generalize tP s i = TP at *
  have HL0 := Lib.hid (HL.out W0 HR0.out)
  go_enter Try.func48, Try.ntmps48
  go_wp2_with fail
  rw [← hW0]
  rw [← htb] at HK0 ⊢
  clear hW0 htb
  refine HL0.out.mono ?_
  rintro e w1 ⟨rfl, hb⟩
  have HR1 := Lib.hid (HR0.out.below hb)
  have HK1 := Lib.hid (HK0.out.keep htb1 (Gr.of hb))
  have HG1 : Hid (Gr b w w1) := Lib.hid ((Gr.of HB0.out).trans (Gr.of hb))
  clear hb
  go_wp2_with fail
  refine (HK.out _ w1).mono ?_
  rintro e w2 ⟨rfl, rfl⟩
  obtain ⟨kk, hkk⟩ : ∃ kk, kd (lk s i) = kk := ⟨_, rfl⟩
  obtain ⟨V3, hV3⟩ : ∃ V3, V3 = w1.alloc (.cells #[.int .i64 kk, .string ⟨#[]⟩, .string ⟨#[]⟩] 39) := ⟨_, rfl⟩
  have hbV3 : Below w1.heap.size w1 V3 := by rw [hV3]; exact (Below.refl _ _).alloc (Nat.le_refl _) _
  have HT3 : Hid (Tb V3 w1.heap.size kk ⟨#[]⟩ ⟨#[]⟩) := Lib.hid (by unfold Tb; rw [hV3]; exact heap_alloc_new _ _)
  have HK3 := Lib.hid (HK1.out.keep htb1 (Gr.of hbV3))
  have HG3 := Lib.hid (HG1.out.trans (Gr.of hbV3))
  have HR3 := Lib.hid (HR1.out.below hbV3)
  obtain ⟨t2, ht2⟩ : ∃ t2, t2 = w1.heap.size := ⟨_, rfl⟩
  have hbt2 : b < t2 := by rw [ht2]; exact HR1.out.lt
  have htt : tb ≠ t2 := by
    rw [ht2]
    have := (Array.getElem?_eq_some_iff.1 HK1.out).1
    omega
  have hwt : w.heap.size ≤ t2 := by rw [ht2]; exact HG1.out.size
  rw [hkk] at HE H91 HIN ⊢
  clear hbV3 hkk
  rw [← ht2] at HT3
  by_cases h4 : kk = 4
  · subst h4
    have HA1 := Lib.hid (HA.out (H91.out rfl) V3 HR3.out)
    have HE2 : Hid (TP = aP s i) := Lib.hid (by rw [HE.out, if_pos rfl])
    obtain ⟨⟨c0, c1, c2⟩, f0, f1, f2⟩ := HT3.out.cells
    go_wp2_with fail
    rw [← ht2, ← hV3]
    clear hV3 ht2
    refine HA1.out.mono ?_
    rintro e w7 ⟨hr, hg⟩
    have HK7 := Lib.hid (HK3.out.keep htb1 hg)
    have HT7 := Lib.hid (HT3.out.keep hbt2 hg)
    have HG7 := Lib.hid (HG3.out.trans hg)
    clear hg
    cases hap : aP s i with
    | error k =>
      rw [hap] at hr HE2
      unfold Rs Mis at hr
      subst hr
      clear hap
      go_wp2
      exact ⟨rfl, by rw [HE2.out]; rfl, HG7.out⟩
    | ok p =>
      obtain ⟨⟨k', n, v⟩, j⟩ := p
      rw [hap] at hr HE2
      unfold Rs at hr
      obtain ⟨rfl, hr⟩ := hr
      have HR7 := Lib.hid hr
      clear hap hr
      unfold tV
      clear c0 c1 c2 f0 f1 f2
      obtain ⟨⟨c0, c1, c2⟩, f0, f1, f2⟩ := HT7.out.cells
      have HT8 := Lib.hid (HT7.out.set3 k' n v)
      have HR8 := Lib.hid (((HR7.out.other hbt2 0 (.int .i64 k')).other hbt2 1 (.string n)).other hbt2 2 (.string v))
      have HG8 := Lib.hid (((HG7.out.put hwt 0 (.int .i64 k')).put hwt 1 (.string n)).put hwt 2 (.string v))
      have HK8 : Hid (Tb (((w7.setCell ⟨t2, 0, none⟩ (.int .i64 k')).setCell ⟨t2, 1, none⟩ (.string n)).setCell ⟨t2, 2, none⟩ (.string v)) tb 0 ⟨#[]⟩ ⟨#[]⟩) := Lib.hid ((Below.heap_setCell _ _ _ _ (by simpa using htt)).trans ((Below.heap_setCell _ _ _ _ (by simpa using htt)).trans ((Below.heap_setCell _ _ _ _ (by simpa using htt)).trans HK7.out)))
      obtain ⟨⟨z0, z1, z2⟩, y0, y1, y2⟩ := HT8.out.cells
      obtain ⟨⟨d0, d1, d2⟩, e0, e1, e2⟩ := HK8.out.cells
      go_wp2_with fail
      have hT9 := HK8.out.set3 k' n v
      obtain ⟨⟨x0, x1, x2⟩, -⟩ := hT9.cells
      refine ⟨rfl, tV (k', n, v), ?_, by rw [HE2.out]; exact ⟨rfl, ((HR8.out.other htb1 0 _).other htb1 1 _).other htb1 2 _⟩, ((HG8.out.put htb2 0 _).put htb2 1 _).put htb2 2 _⟩
      simp [results, Try.f48, go_sem, x0, x1, x2, tV]
  · have q4 : (kk == 4) = false := by simpa using h4
    by_cases h23 : kk = 2 ∨ kk = 3
    · have HE2 : Hid (TP = nT kk (nP s (i + 1))) := Lib.hid (by rw [HE.out, if_neg h4, if_pos h23])
      have hlt : i < s.size := HIN.out (by omega)
      have HN0 := Lib.hid (fun V => HN.out (i + 1) hlt V)
      obtain ⟨⟨c0, c1, c2⟩, f0, f1, f2⟩ := HT3.out.cells
      obtain ⟨x0, x1, g0, g1⟩ := HR3.out.cells
      have hR4 : Rr (V3.setCell ⟨b, 1, none⟩ (.int .i64 ((i : Int) + 1))) b s (i + 1) := by have := HR3.out.set (i + 1); simpa using this
      have hg4 : Gr b V3 (V3.setCell ⟨b, 1, none⟩ (.int .i64 ((i : Int) + 1))) := Gr.set b 1 V3 _
      have HG4 := Lib.hid (HG3.out.trans hg4)
      have HK4 := Lib.hid (HK3.out.keep htb1 hg4)
      have HT4 := Lib.hid (HT3.out.keep hbt2 hg4)
      have HN1 := Lib.hid (HN0.out _ hR4)
      clear hR4 hg4
      rw [hV3] at x0 x1 g0 g1
      have q2 : (kk == 2) = true ∨ (kk == 2) = false ∧ (kk == 3) = true := by
        rcases h23 with rfl | rfl
        · exact .inl rfl
        · exact .inr ⟨rfl, rfl⟩
      clear h23 h4
      rcases q2 with q2 | ⟨q2, q3⟩
      all_goals
        go_wp2_with fail
        rw [← ht2, ← hV3]
        clear hV3 ht2 c0 c1 c2 f0 f1 f2 x0 x1 g0 g1
        refine HN1.out.mono ?_
        rintro e w7 ⟨hr, hg⟩
        have HK7 := Lib.hid (HK4.out.keep htb1 hg)
        have HT7 := Lib.hid (HT4.out.keep hbt2 hg)
        have HG7 := Lib.hid (HG4.out.trans hg)
        clear hg
        cases hnp : nP s (i + 1) with
        | error k =>
          rw [hnp] at hr HE2
          unfold Rs Mis at hr
          subst hr
          clear hnp
          go_wp2
          exact ⟨rfl, by rw [HE2.out]; rfl, HG7.out⟩
        | ok p =>
          obtain ⟨n, j⟩ := p
          rw [hnp] at hr HE2
          unfold Rs at hr
          obtain ⟨rfl, hr⟩ := hr
          have HR7 := Lib.hid hr
          clear hnp hr
          obtain ⟨⟨c0, c1, c2⟩, f0, f1, f2⟩ := HT7.out.cells
          have HT8 : Hid (Tb (w7.setCell ⟨t2, 1, none⟩ (.string n)) t2 kk n ⟨#[]⟩) := Lib.hid (by have := HT7.out; unfold Tb at this ⊢; simp [World.setCell, Array.getElem?_modify, this])
          have HR8 := Lib.hid (HR7.out.other hbt2 1 (.string n))
          have HG8 := Lib.hid (HG7.out.put hwt 1 (.string n))
          have HK8 : Hid (Tb (w7.setCell ⟨t2, 1, none⟩ (.string n)) tb 0 ⟨#[]⟩ ⟨#[]⟩) := Lib.hid ((Below.heap_setCell _ _ _ _ (by simpa using htt)).trans HK7.out)
          obtain ⟨⟨z0, z1, z2⟩, y0, y1, y2⟩ := HT8.out.cells
          obtain ⟨⟨d0, d1, d2⟩, e0, e1, e2⟩ := HK8.out.cells
          go_wp2_with fail
          have hT9 := HK8.out.set3 kk n ⟨#[]⟩
          obtain ⟨⟨z0, z1, z2⟩, -⟩ := hT9.cells
          refine ⟨rfl, tV (kk, n, ⟨#[]⟩), ?_, by rw [HE2.out]; exact ⟨rfl, ((HR8.out.other htb1 0 _).other htb1 1 _).other htb1 2 _⟩, ((HG8.out.put htb2 0 _).put htb2 1 _).put htb2 2 _⟩
          simp [results, Try.f48, go_sem, z0, z1, z2, tV]
    · have HE2 : Hid (TP = nT kk (nP s i)) := Lib.hid (by rw [HE.out, if_neg h4, if_neg h23])
      have q2 : (kk == 2) = false := by simp; omega
      have q3 : (kk == 3) = false := by simp; omega
      have HN1 := Lib.hid (HN.out i hi V3 HR3.out)
      obtain ⟨⟨c0, c1, c2⟩, f0, f1, f2⟩ := HT3.out.cells
      clear h23 h4
      go_wp2_with fail
      rw [← ht2, ← hV3]
      clear hV3 ht2 c0 c1 c2 f0 f1 f2
      refine HN1.out.mono ?_
      rintro e w7 ⟨hr, hg⟩
      have HK7 := Lib.hid (HK3.out.keep htb1 hg)
      have HT7 := Lib.hid (HT3.out.keep hbt2 hg)
      have HG7 := Lib.hid (HG3.out.trans hg)
      clear hg
      cases hnp : nP s i with
      | error k =>
        rw [hnp] at hr HE2
        unfold Rs Mis at hr
        subst hr
        clear hnp
        go_wp2
        exact ⟨rfl, by rw [HE2.out]; rfl, HG7.out⟩
      | ok p =>
        obtain ⟨n, j⟩ := p
        rw [hnp] at hr HE2
        unfold Rs at hr
        obtain ⟨rfl, hr⟩ := hr
        have HR7 := Lib.hid hr
        clear hnp hr
        obtain ⟨⟨c0, c1, c2⟩, f0, f1, f2⟩ := HT7.out.cells
        have HT8 : Hid (Tb (w7.setCell ⟨t2, 1, none⟩ (.string n)) t2 kk n ⟨#[]⟩) := Lib.hid (by have := HT7.out; unfold Tb at this ⊢; simp [World.setCell, Array.getElem?_modify, this])
        have HR8 := Lib.hid (HR7.out.other hbt2 1 (.string n))
        have HG8 := Lib.hid (HG7.out.put hwt 1 (.string n))
        have HK8 : Hid (Tb (w7.setCell ⟨t2, 1, none⟩ (.string n)) tb 0 ⟨#[]⟩ ⟨#[]⟩) := Lib.hid ((Below.heap_setCell _ _ _ _ (by simpa using htt)).trans HK7.out)
        obtain ⟨⟨z0, z1, z2⟩, y0, y1, y2⟩ := HT8.out.cells
        obtain ⟨⟨d0, d1, d2⟩, e0, e1, e2⟩ := HK8.out.cells
        go_wp2_with fail
        have hT9 := HK8.out.set3 kk n ⟨#[]⟩
        obtain ⟨⟨z0, z1, z2⟩, -⟩ := hT9.cells
        refine ⟨rfl, tV (kk, n, ⟨#[]⟩), ?_, by rw [HE2.out]; exact ⟨rfl, ((HR8.out.other htb1 0 _).other htb1 1 _).other htb1 2 _⟩, ((HG8.out.put htb2 0 _).put htb2 1 _).put htb2 2 _⟩
        simp [results, Try.f48, go_sem, z0, z1, z2, tV]
end Go.Proofs.Ytcfkcifbojckcaa
