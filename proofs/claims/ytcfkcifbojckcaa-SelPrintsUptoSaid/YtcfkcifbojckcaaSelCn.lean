/-
  law09's bounded, counted: how many rows, steps and tests a selector has.
-/
import Derived.Test.YtcfkcifbojckcaaSelX
import Derived.Test.YtcfkcifbojckcaaSelW
import Derived.Test.YtcfkcifbojckcaaSelU
namespace Go.Proofs.Ytcfkcifbojckcaa
open Go.ChangeShapes Go.WideShapes Go.ChangeAt Go.RowKit
set_option linter.unusedVariables false
set_option linter.unusedSimpArgs false

/-- No name, and no value, has more than 100 bytes. -/
def small1 (t : Tr) : Prop := t.2.1.size ≤ 100 ∧ t.2.2.size ≤ 100
def smallS (x : List Mr) : Prop := ∀ m ∈ x, ∀ s ∈ m.2, ∀ t ∈ s.2.1, small1 t
theorem take_all {α : Type} {P : α → Prop} {l : List α} {k : Nat} (hk : k < l.length) (h : ∀ a ∈ l.take k, P a) (hx : P l[k]) : ∀ a ∈ l.take (k + 1), P a := fun a ha => by
  rw [List.take_succ_eq_append_getElem hk, List.mem_append, List.mem_singleton] at ha
  rcases ha with ha | rfl
  · exact h a ha
  · exact hx
def cS (s : Ms) : Nat := s.2.1.length + 1
def cL (l : List Ms) : Nat := (l.map cS).sum
def cM (m : Mr) : Nat := cL m.2 + 1
def cX (x : List Mr) : Nat := (x.map cM).sum
theorem sum_take {α : Type} (f : α → Nat) {l : List α} {k : Nat} (h : k < l.length) : ((l.take (k + 1)).map f).sum = ((l.take k).map f).sum + f l[k] := by
  rw [List.take_succ_eq_append_getElem h, List.map_append, List.sum_append]
  simp only [List.map_cons, List.map_nil, List.sum_cons, List.sum_nil, Nat.add_zero]
theorem ones_sum {α : Type} : ∀ l : List α, (l.map (fun _ => 1)).sum = l.length
  | [] => rfl
  | a :: l => by
    have := ones_sum l
    simp only [List.map_cons, List.sum_cons, List.length_cons]
    omega
theorem sum_le {α : Type} (f : α → Nat) (l : List α) (k : Nat) : ((l.take k).map f).sum ≤ (l.map f).sum := by
  have e : (l.map f).sum = ((l.take k).map f).sum + ((l.drop k).map f).sum := by
    rw [← List.sum_append, ← List.map_append, List.take_append_drop]
  omega
theorem cX_take {x : List Mr} {i : Nat} (h : i < x.length) : cX (x.take (i + 1)) = cX (x.take i) + cM x[i] := sum_take cM h
theorem cL_take {l : List Ms} {k : Nat} (h : k < l.length) : cL (l.take (k + 1)) = cL (l.take k) + cS l[k] := sum_take cS h
theorem cX_le (x : List Mr) (i : Nat) : cX (x.take i) ≤ cX x := sum_le cM x i
theorem cL_le (l : List Ms) (k : Nat) : cL (l.take k) ≤ cL l := sum_le cS l k
theorem len_sum {α : Type} (f : α → Nat) (h : ∀ a, 1 ≤ f a) : ∀ l : List α, l.length ≤ (l.map f).sum
  | [] => Nat.le_refl _
  | a :: l => by
    have := len_sum f h l
    have := h a
    simp only [List.length_cons, List.map_cons, List.sum_cons]
    omega
theorem mem_sum {α : Type} (f : α → Nat) : ∀ {l : List α} {a : α}, a ∈ l → f a ≤ (l.map f).sum
  | b :: l, a, h => by
    rw [List.map_cons, List.sum_cons]
    rcases List.mem_cons.1 h with rfl | h
    · omega
    · have := mem_sum f h
      omega
theorem cX_len (x : List Mr) : x.length ≤ cX x := len_sum cM (fun m => by unfold cM; omega) x
theorem cX_mem {x : List Mr} {m : Mr} (h : m ∈ x) : cM m ≤ cX x := mem_sum cM h
theorem cL_len (l : List Ms) : l.length ≤ cL l := len_sum cS (fun m => by unfold cS; omega) l
theorem cL_mem {l : List Ms} {s : Ms} (h : s ∈ l) : cS s ≤ cL l := mem_sum cS h
theorem sum_mul {α : Type} (f g : α → Nat) (c : Nat) : ∀ {l : List α}, (∀ a ∈ l, f a ≤ c * g a) → (l.map f).sum ≤ c * (l.map g).sum
  | [], _ => by simp
  | a :: l, h => by
    have h1 := h a (List.mem_cons_self ..)
    have h2 := sum_mul f g c (l := l) (fun b hb => h b (List.mem_cons_of_mem _ hb))
    simp only [List.map_cons, List.sum_cons, Nat.mul_add]
    omega
/-- How long a selector's text may be, if no name is too long. -/
theorem small_wx9 {x : List Mr} (h : smallS x) : Sl.wx (rws x) ≤ 210 * cX x := by
  unfold Sl.wx rws cX
  rw [List.map_map]
  refine sum_mul _ cM 210 (fun m hm => ?_)
  have h2 : Sl.wss (m.2.map stp) ≤ 210 * cL m.2 := by
    unfold Sl.wss cL
    rw [List.map_map]
    refine sum_mul _ cS 210 (fun s hs => ?_)
    have h3 : Sl.wc (s.2.1.map te) ≤ 206 * (s.2.1.map (fun _ => 1)).sum := by
      unfold Sl.wc
      rw [List.map_map]
      refine sum_mul _ (fun _ => 1) 206 (fun t ht => ?_)
      obtain ⟨h4, h5⟩ := h m hm s hs t ht
      show (ls t.2.1).length + (ls t.2.2).length + 6 ≤ _
      rw [ls_len, ls_len]
      omega
    have h6 : (s.2.1.map (fun _ => 1)).sum = s.2.1.length := ones_sum _
    rw [h6] at h3
    show 4 + Sl.wc (s.2.1.map te) ≤ 210 * (s.2.1.length + 1)
    omega
  show 2 + Sl.wss (m.2.map stp) ≤ 210 * (cL m.2 + 1)
  omega
set_option maxRecDepth 100000 in
set_option maxHeartbeats 4000000 in
theorem bounded_cnt (A : Option Addr) (x : List Mr) (c : Nat) (w : World) (hX : XR w A x) (hC : cX x ≤ 4000000) :
    Calls Try.prog 4 #[.slice A x.length c] w fun e w' => (∃ b, e = .returned (.bool b) ∧ (b = true → smallS x ∧ cX x ≤ 60)) ∧ Below w.heap.size w w' := by
  have HX := Lib.hid hX
  have HCX := Lib.hid hC
  have hxl := Nat.le_trans (cX_len x) hC
  obtain ⟨n, hn⟩ : ∃ n, x.length = n := ⟨_, rfl⟩
  have HN := Lib.hid hn
  rw [hn] at hxl ⊢
  clear hX hC hn
  go_enter Try.func4, Try.ntmps4
  go_wp2_with fail
  go_loopw [3, 4] (fun q3 q4 wr => ∃ (V0 : World) (cn i : Nat), V0 = wr ∧ i ≤ n ∧ q3 = .int .i64 cn ∧ q4 = .int .i64 i ∧ Hid (cn = cX (x.take i)) ∧ Hid (∀ m ∈ x.take i, ∀ s ∈ m.2, ∀ t ∈ s.2.1, small1 t) ∧ Hid (Below w.heap.size w V0)) (fun _ q4 _ => n - (intOf q4).toNat)
  case atStart => exact ⟨_, 0, 0, rfl, Nat.zero_le _, rfl, rfl, Lib.hid (by simp [cX]), Lib.hid (by simp), Lib.hid (Below.refl _ _)⟩
  case round =>
    obtain ⟨V0, cn, i, rfl, hi, rfl, rfl, HCn, HT, HB⟩ := hrel
    by_cases hlt : i < n
    · have k0 : (0 : Int) ≤ (i : Int) := by omega
      have k1 : (i : Int) < (n : Int) := by omega
      have hix : i < x.length := by rw [HN.out]; exact hlt
      obtain ⟨g, off, rfl, hg, c0, hM⟩ := (HX.out.below HB.out) i x[i] (List.getElem?_eq_getElem hix)
      have HM := Lib.hid hM
      have HC1 : Hid (cX (x.take (i + 1)) = cX (x.take i) + (cL x[i].2 + 1) ∧ cX (x.take (i + 1)) ≤ 4000000) := Lib.hid ⟨cX_take hix, Nat.le_trans (cX_le x (i + 1)) HCX.out⟩
      have HTn := Lib.hid (fun (h : ∀ s ∈ x[i].2, ∀ t ∈ s.2.1, small1 t) => take_all (P := fun m : Mr => ∀ s ∈ m.2, ∀ t ∈ s.2.1, small1 t) hix HT.out h)
      unfold r1 at c0
      have HC0 := Lib.hid (fun (V : World) (hV : Below V0.heap.size V0 V) => And.intro ((hV.cell (p := ⟨g, off + i, none⟩) hg).trans c0) (Nat.lt_of_lt_of_le hg hV.size))
      clear hM c0
      generalize x[i] = m at *
      obtain ⟨⟨mA, mc⟩, l⟩ := m
      simp only [] at HC0 HM HC1 HTn
      obtain ⟨nl, hnl⟩ : ∃ nl, l.length = nl := ⟨_, rfl⟩
      have HNL := Lib.hid hnl
      have hl1 : nl ≤ 4000000 := by
        have h1 := cL_len l
        have h2 := HC1.out
        omega
      rw [hnl] at HC0
      clear hnl
      go_wp2_with fail
      go_loopw [3, 5] (fun q3 q5 wr => ∃ (ur : World) (cm k : Nat), ur = wr ∧ k ≤ nl ∧ q3 = .int .i64 cm ∧ q5 = .int .i64 k ∧ Hid (cm = cn + cL (l.take k)) ∧ Hid (∀ s ∈ l.take k, ∀ t ∈ s.2.1, small1 t) ∧ Hid (Below V0.heap.size V0 ur)) (fun _ q5 _ => nl - (intOf q5).toNat)
      case atStart => exact ⟨_, cn, 0, rfl, Nat.zero_le _, rfl, rfl, Lib.hid (by simp [cL]), Lib.hid (by simp), Lib.hid (Below.refl _ _)⟩
      case round =>
        obtain ⟨ur, cm, k, rfl, hk, rfl, rfl, HCm, HT2, HU⟩ := hrel
        obtain ⟨c0, hgU⟩ := HC0.out ur HU.out
        by_cases hkl : k < nl
        · have j0 : (0 : Int) ≤ (k : Int) := by omega
          have j1 : (k : Int) < (nl : Int) := by omega
          have hkx : k < l.length := by rw [HNL.out]; exact hkl
          obtain ⟨gs, os, rfl, hgs, s0, s1, hT⟩ := (HM.out.below HU.out) k l[k] (List.getElem?_eq_getElem hkx)
          have HTR := Lib.hid hT
          have HC2 : Hid (cL (l.take (k + 1)) = cL (l.take k) + (l[k].2.1.length + 1) ∧ cn + cL (l.take (k + 1)) ≤ 4000000) := Lib.hid ⟨cL_take hkx, by
            have h1 := cL_le l (k + 1)
            have h2 := HC1.out
            have h3 := HCn.out
            omega⟩
          have HTk := Lib.hid (fun (h : ∀ t ∈ l[k].2.1, small1 t) => take_all (P := fun s : Ms => ∀ t ∈ s.2.1, small1 t) hkx HT2.out h)
          have HC3 := Lib.hid (fun (V : World) (hV : Below ur.heap.size ur V) => And.intro ((hV.cell (p := ⟨gs, os + k * 2, none⟩) hgs).trans s0) (And.intro (HC0.out V (HU.out.trans (hV.mono HU.out.size))).1 (Nat.lt_of_lt_of_le hgs hV.size)))
          clear hT s0 s1 c0
          generalize l[k] = q at *
          obtain ⟨⟨tA, tc⟩, T, ch⟩ := q
          simp only [] at HC3 HTR HC2 HTk
          obtain ⟨nt, hnt⟩ : ∃ nt, T.length = nt := ⟨_, rfl⟩
          have HNT := Lib.hid hnt
          rw [hnt] at HC3 HC2
          have ht1 : nt ≤ 4000000 := by
            have h2 := HC2.out
            omega
          have hcm0 : cm + nt + 1 ≤ 4000000 := by
            have h2 := HC2.out
            have h3 := HCm.out
            omega
          clear hnt
          obtain ⟨s0, c0, -⟩ := HC3.out ur (Below.refl _ _)
          go_wp2_with fail
          go_loopw [3, 6] (fun q3 q6 wr => ∃ (vr : World) (ct t : Nat), vr = wr ∧ t ≤ nt ∧ q3 = .int .i64 ct ∧ q6 = .int .i64 t ∧ Hid (ct = cm + t) ∧ Hid (∀ a ∈ T.take t, small1 a) ∧ Hid (Below ur.heap.size ur vr)) (fun _ q6 _ => nt - (intOf q6).toNat)
          case atStart => exact ⟨_, cm, 0, rfl, Nat.zero_le _, rfl, rfl, Lib.hid (by simp), Lib.hid (by simp), Lib.hid (Below.refl _ _)⟩
          case round =>
            clear s0 c0
            obtain ⟨vr, ct, t, rfl, ht, rfl, rfl, HCt, HT3, HV⟩ := hrel
            obtain ⟨s0, c0, hgV⟩ := HC3.out vr HV.out
            have hct : ct ≤ 4000000 := by have := HCt.out; omega
            by_cases htl : t < nt
            · have i0 : (0 : Int) ≤ (t : Int) := by omega
              have i1 : (t : Int) < (nt : Int) := by omega
              have htx : t < T.length := by rw [HNT.out]; exact htl
              obtain ⟨gt, ot, rfl, hgt, d0, d1, d2⟩ := (HTR.out.below HV.out) t T[t] (List.getElem?_eq_getElem htx)
              have HTt := Lib.hid (fun (h : small1 T[t]) => take_all (P := small1) htx HT3.out h)
              have HCu : Hid (ct + 1 = cm + (t + 1)) := Lib.hid (by have := HCt.out; omega)
              clear d0
              generalize T[t] = a at *
              obtain ⟨ak, an, av⟩ := a
              simp only [small1] at d1 d2 HTt
              by_cases h1 : an.size ≤ 100
              · by_cases h2 : av.size ≤ 100
                · have HTu := Lib.hid (HTt.out ⟨h1, h2⟩)
                  have b1 : decide ((100 : Int) < (an.size : Int)) = false := by simp; omega
                  have b2 : decide ((100 : Int) < (av.size : Int)) = false := by simp; omega
                  go_wp2
                  go_roundw
                  case rel => exact ⟨_, ct + 1, t + 1, rfl, by omega, by go_num, by go_num, HCu, HTu, HV⟩
                  case measure => simp [intOf] <;> omega
                · have b1 : decide ((100 : Int) < (an.size : Int)) = false := by simp; omega
                  have b2 : decide ((100 : Int) < (av.size : Int)) = true := by simp; omega
                  go_wp2
                  go_ret
                  exact ⟨⟨false, rfl, fun h => by cases h⟩, HB.out.trans ((HU.out.trans (HV.out.mono HU.out.size)).mono HB.out.size)⟩
              · have b1 : decide ((100 : Int) < (an.size : Int)) = true := by simp; omega
                go_wp2
                go_ret
                exact ⟨⟨false, rfl, fun h => by cases h⟩, HB.out.trans ((HU.out.trans (HV.out.mono HU.out.size)).mono HB.out.size)⟩
            · obtain rfl : t = nt := by omega
              have e : T.take t = T := List.take_of_length_le (by rw [HNT.out]; exact Nat.le_refl _)
              rw [e] at HT3
              have HTu := Lib.hid (HTk.out HT3.out)
              have HU2 := Lib.hid (HU.out.trans (HV.out.mono HU.out.size))
              have HCu : Hid (ct + 1 = cn + cL (l.take (k + 1))) := Lib.hid (by
                have h1 := HCt.out
                have h2 := HC2.out
                have h3 := HCm.out
                omega)
              clear e
              go_wp2
              go_roundw
              case rel => exact ⟨_, ct + 1, k + 1, rfl, by omega, by go_num, by go_num, HCu, HTu, HU2⟩
              case measure => simp [intOf] <;> omega
        · obtain rfl : k = nl := by omega
          have e : l.take k = l := List.take_of_length_le (by rw [HNL.out]; exact Nat.le_refl _)
          rw [e] at HT2 HCm
          have HTu := Lib.hid (HTn.out HT2.out)
          have HB2 := Lib.hid (HB.out.trans (HU.out.mono HB.out.size))
          have HCu : Hid (cm + 1 = cX (x.take (i + 1))) := Lib.hid (by
            have h1 := HC1.out
            have h2 := HCm.out
            have h3 := HCn.out
            omega)
          have hcm : cm + 1 ≤ 4000000 := by
            have h1 := HC1.out
            have h2 := HCu.out
            omega
          clear e
          go_wp2
          go_roundw
          case rel => exact ⟨_, cm + 1, i + 1, rfl, by omega, by go_num, by go_num, HCu, HTu, HB2⟩
          case measure => simp [intOf] <;> omega
    · obtain rfl : i = n := by omega
      have e : x.take i = x := List.take_of_length_le (by rw [HN.out]; exact Nat.le_refl _)
      rw [e] at HT HCn
      clear e
      go_wp2
      go_ret
      exact ⟨⟨_, rfl, fun h => ⟨HT.out, by have h1 := HCn.out; simp at h; omega⟩⟩, HB.out⟩
end Go.Proofs.Ytcfkcifbojckcaa
