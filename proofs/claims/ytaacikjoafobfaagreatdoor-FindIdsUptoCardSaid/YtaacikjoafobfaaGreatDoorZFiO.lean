/-
  law10's few: a selector whose names and values are not too long; selectors that came in.
-/
import Derived.Test.YtaacikjoafobfaaGreatDoorZFiH
import Derived.Test.YtaacikjoafobfaaGreatDoorG36
namespace Go.Proofs.YtaacikjoafobfaaGreatDoor.Fi
open Go.ChangeShapes Go.WideShapes Go.ChangeAt Go.RowKit
open Sx (Tr Ms Mr TR MR XR tV r1)
set_option linter.unusedVariables false
set_option linter.unusedSimpArgs false

/-- No name, and no value, has more than 100 bytes. -/
def small1 (t : Tr) : Prop := t.2.1.size ≤ 100 ∧ t.2.2.size ≤ 100
def smallS (x : List Mr) : Prop := ∀ m ∈ x, ∀ s ∈ m.2, ∀ t ∈ s.2.1, small1 t
theorem take_all {α : Type} {P : α → Prop} {l : List α} {k : Nat} (hk : k < l.length) (h : ∀ a ∈ l.take k, P a) (hx : P l[k]) : ∀ a ∈ l.take (k + 1), P a := fun a ha => by
  rw [List.take_succ_eq_append_getElem hk, List.mem_append, List.mem_singleton] at ha
  rcases ha with ha | rfl
  · exact h a ha
  · exact hx
set_option maxRecDepth 100000 in
set_option maxHeartbeats 4000000 in
theorem few_any (A : Option Addr) (x : List Mr) (c : Nat) (w : World) (hX : XR w A x) (hS : Sx.So.SelFit x) :
    Calls Tryz.prog 12 #[.slice A x.length c] w fun e w' => (∃ b, e = .returned (.bool b) ∧ (b = true → smallS x)) ∧ Below w.heap.size w w' := by
  have HX := Lib.hid hX
  have HS := Lib.hid hS.2
  have hxl := hS.1
  obtain ⟨n, hn⟩ : ∃ n, x.length = n := ⟨_, rfl⟩
  have HN := Lib.hid hn
  rw [hn] at hxl ⊢
  clear hX hS hn
  unfold Sx.So.M63 at hxl
  go_enter Tryz.func12, Tryz.ntmps12
  go_wp2_with fail
  go_loopw [3, 4] (fun q3 q4 wr => ∃ (V0 : World) (cn : Int) (i : Nat), V0 = wr ∧ i ≤ n ∧ q3 = .int .i64 cn ∧ q4 = .int .i64 i ∧ Hid (∀ m ∈ x.take i, ∀ s ∈ m.2, ∀ t ∈ s.2.1, small1 t) ∧ Hid (Below w.heap.size w V0)) (fun _ q4 _ => n - (intOf q4).toNat)
  case atStart => exact ⟨_, 0, 0, rfl, Nat.zero_le _, rfl, rfl, Lib.hid (by simp), Lib.hid (Below.refl _ _)⟩
  case round =>
    obtain ⟨V0, cn, i, rfl, hi, rfl, rfl, HT, HB⟩ := hrel
    by_cases hlt : i < n
    · have k0 : (0 : Int) ≤ (i : Int) := by omega
      have k1 : (i : Int) < (n : Int) := by omega
      have hix : i < x.length := by rw [HN.out]; exact hlt
      obtain ⟨g, off, rfl, hg, c0, hM⟩ := (HX.out.below HB.out) i x[i] (List.getElem?_eq_getElem hix)
      have HM := Lib.hid hM
      obtain ⟨⟨hl1, hl2⟩, -⟩ := HS.out x[i] (List.getElem_mem hix)
      have HL2 := Lib.hid hl2
      have HTn := Lib.hid (fun (h : ∀ s ∈ x[i].2, ∀ t ∈ s.2.1, small1 t) => take_all (P := fun m : Mr => ∀ s ∈ m.2, ∀ t ∈ s.2.1, small1 t) hix HT.out h)
      unfold r1 at c0
      have HC0 := Lib.hid (fun (V : World) (hV : Below V0.heap.size V0 V) => And.intro ((hV.cell (p := ⟨g, off + i, none⟩) hg).trans c0) (Nat.lt_of_lt_of_le hg hV.size))
      clear hM hl2 c0
      generalize x[i] = m at *
      obtain ⟨⟨mA, mc⟩, l⟩ := m
      simp only [] at HC0 HM hl1 HL2 HTn
      obtain ⟨nl, hnl⟩ : ∃ nl, l.length = nl := ⟨_, rfl⟩
      have HNL := Lib.hid hnl
      rw [hnl] at HC0 hl1
      clear hnl
      unfold Sx.So.M63 at hl1
      go_wp2_with fail
      go_loopw [3, 5] (fun q3 q5 wr => ∃ (ur : World) (cn : Int) (k : Nat), ur = wr ∧ k ≤ nl ∧ q3 = .int .i64 cn ∧ q5 = .int .i64 k ∧ Hid (∀ s ∈ l.take k, ∀ t ∈ s.2.1, small1 t) ∧ Hid (Below V0.heap.size V0 ur)) (fun _ q5 _ => nl - (intOf q5).toNat)
      case atStart => exact ⟨_, cn, 0, rfl, Nat.zero_le _, rfl, rfl, Lib.hid (by simp), Lib.hid (Below.refl _ _)⟩
      case round =>
        obtain ⟨ur, cn, k, rfl, hk, rfl, rfl, HT2, HU⟩ := hrel
        obtain ⟨c0, hgU⟩ := HC0.out ur HU.out
        by_cases hkl : k < nl
        · have j0 : (0 : Int) ≤ (k : Int) := by omega
          have j1 : (k : Int) < (nl : Int) := by omega
          have hkx : k < l.length := by rw [HNL.out]; exact hkl
          obtain ⟨gs, os, rfl, hgs, s0, s1, hT⟩ := (HM.out.below HU.out) k l[k] (List.getElem?_eq_getElem hkx)
          have HTR := Lib.hid hT
          obtain ⟨ht1, ht2, ht3⟩ := HL2.out l[k] (List.getElem_mem hkx)
          have HTk := Lib.hid (fun (h : ∀ t ∈ l[k].2.1, small1 t) => take_all (P := fun s : Ms => ∀ t ∈ s.2.1, small1 t) hkx HT2.out h)
          have HC1 := Lib.hid (fun (V : World) (hV : Below ur.heap.size ur V) => And.intro ((hV.cell (p := ⟨gs, os + k * 2, none⟩) hgs).trans s0) (And.intro (HC0.out V (HU.out.trans (hV.mono HU.out.size))).1 (Nat.lt_of_lt_of_le hgs hV.size)))
          clear hT ht2 ht3 s0 s1 c0
          generalize l[k] = q at *
          obtain ⟨⟨tA, tc⟩, T, ch⟩ := q
          simp only [] at HC1 HTR ht1 HTk
          obtain ⟨nt, hnt⟩ : ∃ nt, T.length = nt := ⟨_, rfl⟩
          have HNT := Lib.hid hnt
          rw [hnt] at HC1 ht1
          clear hnt
          unfold Sx.So.M63 at ht1
          obtain ⟨s0, c0, -⟩ := HC1.out ur (Below.refl _ _)
          go_wp2_with fail
          go_loopw [3, 6] (fun q3 q6 wr => ∃ (vr : World) (cn : Int) (t : Nat), vr = wr ∧ t ≤ nt ∧ q3 = .int .i64 cn ∧ q6 = .int .i64 t ∧ Hid (∀ a ∈ T.take t, small1 a) ∧ Hid (Below ur.heap.size ur vr)) (fun _ q6 _ => nt - (intOf q6).toNat)
          case atStart => exact ⟨_, cn, 0, rfl, Nat.zero_le _, rfl, rfl, Lib.hid (by simp), Lib.hid (Below.refl _ _)⟩
          case round =>
            clear s0 c0
            obtain ⟨vr, cn, t, rfl, ht, rfl, rfl, HT3, HV⟩ := hrel
            obtain ⟨s0, c0, hgV⟩ := HC1.out vr HV.out
            by_cases htl : t < nt
            · have i0 : (0 : Int) ≤ (t : Int) := by omega
              have i1 : (t : Int) < (nt : Int) := by omega
              have htx : t < T.length := by rw [HNT.out]; exact htl
              obtain ⟨gt, ot, rfl, hgt, d0, d1, d2⟩ := (HTR.out.below HV.out) t T[t] (List.getElem?_eq_getElem htx)
              have HTt := Lib.hid (fun (h : small1 T[t]) => take_all (P := small1) htx HT3.out h)
              clear d0
              generalize T[t] = a at *
              obtain ⟨ak, an, av⟩ := a
              simp only [small1] at d1 d2 HTt
              by_cases h1 : an.size ≤ 100
              · by_cases h2 : av.size ≤ 100
                · have HTu := Lib.hid (HTt.out ⟨h1, h2⟩)
                  have b1 : decide ((100 : Int) < (an.size : Int)) = false := by simp; omega
                  have b2 : decide ((100 : Int) < (av.size : Int)) = false := by simp; omega
                  go_wp2
                  go_roundw
                  case rel => exact ⟨_, _, t + 1, rfl, by omega, rfl, by go_num, HTu, HV⟩
                  case measure => simp [intOf] <;> omega
                · have b1 : decide ((100 : Int) < (an.size : Int)) = false := by simp; omega
                  have b2 : decide ((100 : Int) < (av.size : Int)) = true := by simp; omega
                  go_wp2
                  go_ret
                  exact ⟨⟨false, rfl, fun h => by cases h⟩, HB.out.trans ((HU.out.trans (HV.out.mono HU.out.size)).mono HB.out.size)⟩
              · have b1 : decide ((100 : Int) < (an.size : Int)) = true := by simp; omega
                go_wp2
                go_ret
                exact ⟨⟨false, rfl, fun h => by cases h⟩, HB.out.trans ((HU.out.trans (HV.out.mono HU.out.size)).mono HB.out.size)⟩
            · obtain rfl : t = nt := by omega
              have e : T.take t = T := List.take_of_length_le (by rw [HNT.out]; exact Nat.le_refl _)
              rw [e] at HT3
              have HTu := Lib.hid (HTk.out HT3.out)
              have HU2 := Lib.hid (HU.out.trans (HV.out.mono HU.out.size))
              clear e
              go_wp2
              go_roundw
              case rel => exact ⟨_, _, k + 1, rfl, by omega, rfl, by go_num, HTu, HU2⟩
              case measure => simp [intOf] <;> omega
        · obtain rfl : k = nl := by omega
          have e : l.take k = l := List.take_of_length_le (by rw [HNL.out]; exact Nat.le_refl _)
          rw [e] at HT2
          have HTu := Lib.hid (HTn.out HT2.out)
          have HB2 := Lib.hid (HB.out.trans (HU.out.mono HB.out.size))
          clear e
          go_wp2
          go_roundw
          case rel => exact ⟨_, _, i + 1, rfl, by omega, rfl, by go_num, HTu, HB2⟩
          case measure => simp [intOf] <;> omega
    · obtain rfl : i = n := by omega
      have e : x.take i = x := List.take_of_length_le (by rw [HN.out]; exact Nat.le_refl _)
      rw [e] at HT
      clear e
      go_wp2
      go_ret
      exact ⟨⟨_, rfl, fun _ => HT.out⟩, HB.out⟩
end Go.Proofs.YtaacikjoafobfaaGreatDoor.Fi
