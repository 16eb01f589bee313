/-
  The reference's operations out of ours, and whether they are the same.
-/
import Derived.Test.YtdjhnjokmmbafaaDoorOpX
namespace Go.Proofs.YtdjhnjokmmbafaaDoor
open Go.ChangeShapes Go.WideShapes Go.ChangeAt Go.RowKit
set_option linter.unusedVariables false
set_option linter.unusedSimpArgs false

theorem info_ro : (Tryd.prog.info? 29).map (fun i => (i.zero, i.size, i.bytes)) = some (some (.agg #[.int .i64 0, .int .i64 0, .int .i64 0, .int .i64 0, .string ⟨#[]⟩, .string ⟨#[]⟩]), 6, 64) := by kernel_rfl
theorem lcells_take {l : List Po} {j : Nat} (h : j < l.length) : lcells (l.take j) ++ ocells l[j] = lcells (l.take (j + 1)) := by
  rw [List.take_add_one, List.getElem?_eq_getElem h, lcells, lcells, List.flatMap_append]
  simp
set_option maxRecDepth 100000 in
set_option maxHeartbeats 4000000 in
theorem its_any (A : Option Addr) (l : List Po) (c : Nat) (w : World) (hA : OL w A l) (hn : l.length ≤ 1000) :
    Calls Tryd.prog 17 #[.slice A l.length c] w fun e w' => ∃ v, e = .returned v ∧ w'.ownsRow w.heap.size 29 6 v l.length (lcells l) ∧ Below w.heap.size w w' := by
  have HA := Lib.hid hA
  obtain ⟨i0, hI1, hI2, hI3, hI4⟩ := info_parts info_ro
  have HI1 := Lib.hid hI1
  have HI2 := Lib.hid hI2
  have HI3 := Lib.hid hI3
  have HI4 := Lib.hid hI4
  have HLc := Lib.hid (fun (j : Nat) (h : j < l.length) => lcells_take h)
  obtain ⟨n, hnn⟩ : ∃ n, l.length = n := ⟨_, rfl⟩
  have HNN := Lib.hid hnn
  rw [hnn] at hn ⊢
  clear hA hnn hI1 hI2 hI3 hI4
  have hO : (w.alloc (.cells #[] 29)).ownsRow w.heap.size 29 6 (.slice (some ⟨w.heap.size, 0, none⟩) 0 0) 0 [] := World.ownsRow_made w #[] 0 (Nat.le_refl _) (by simp [maxLen]) rfl
  have HO := Lib.hid hO
  have HB0 : Hid (Below w.heap.size w (w.alloc (.cells #[] 29))) := Lib.hid ((Below.refl _ _).alloc (Nat.le_refl _) _)
  clear hO
  go_enter Tryd.func17, Tryd.ntmps17
  go_wp2_with fail
  go_loopw [3, 4] (fun q2 q3 wv => ∃ (V : World) (j : Nat), V = wv ∧ j ≤ n ∧ q3 = .int .i64 j ∧ (∃ p cap, q2 = .slice p j cap ∧ Hid (V.ownsRow w.heap.size 29 6 (.slice p j cap) j (lcells (l.take j)))) ∧ Hid (Below w.heap.size w V)) (fun _ q3 _ => n - (intOf q3).toNat)
  case atStart => exact ⟨_, 0, rfl, Nat.zero_le _, rfl, ⟨_, _, rfl, HO⟩, HB0⟩
  case round =>
    obtain ⟨V, j, rfl, hj, rfl, ⟨p, cap, rfl, HOw⟩, HB⟩ := hrel
    by_cases hlt : j < n
    · have k0 : (0 : Int) ≤ (j : Int) := by omega
      have k1 : (j : Int) < (n : Int) := by omega
      have hjl : j < l.length := by rw [HNN.out]; exact hlt
      obtain ⟨hfo, g, off, rfl, hg, c0, c1, c2, c3, c4, c5⟩ := HA.out.below HB.out j l[j] (List.getElem?_eq_getElem hjl)
      have HL := Lib.hid (HLc.out j hjl)
      clear hfo
      generalize l[j] = o at *
      go_wp2_with (at_builtin; refine wpList_append_own_at _ rfl _ _ 36 rfl w.heap.size 29 i0 _ 6 64 Tryd.underlying36 HI1.out HI2.out HI3.out HI4.out rfl (by decide) _ _ _ rfl (HOw.out.alloc _) ⟨V.heap.size, 0, none⟩ 1 1 (ocells o) rfl rfl (six_new _ _ _) (fun u hu => lcells_one [o] u (by simpa [lcells] using hu)) (by unfold maxLen; omega) (by omega) (by have := HB.out.size; simp; omega) ?_; intro v' w4 hown' hgrow _ hat; have HOx := Lib.hid hown'; have HGr := Lib.hid hgrow; clear hown' hgrow hat)
      have hOx := HOx.out
      rw [HL.out] at hOx
      obtain ⟨p', cap', rfl⟩ : ∃ p' cap', v' = .slice p' (j + 1) cap' := by
        rcases hOx.2 with ⟨-, h⟩ | ⟨g, cap', cur, h, -⟩
        · omega
        · exact ⟨_, _, h⟩
      refine ⟨⟨w4, j + 1, rfl, by omega, by go_num, ⟨p', cap', rfl, Lib.hid hOx⟩, Lib.hid ?_⟩, ?_⟩
      · exact (HB.out.alloc HB.out.size _).grown HGr.out (by have := HB.out.size; simp; omega) (own_base HOw.out)
      · simp [intOf] <;> omega
    · obtain rfl : j = n := by omega
      have e : l.take j = l := List.take_of_length_le (by rw [HNN.out]; exact Nat.le_refl _)
      rw [e] at HOw
      go_wp2
      go_ret
      exact ⟨_, rfl, HOw.out, HB.out⟩
def eqO (a b : Po) : Bool := (a.kind == b.kind) && ((a.id == b.id) && ((a.dst == b.dst) && ((a.pos == b.pos) && ((a.name.toList == b.name.toList) && (a.text.toList == b.text.toList)))))
theorem toList_eq {a b : ByteArray} : (a.toList == b.toList) = true ↔ a = b := by
  constructor
  · intro h
    apply Decidable.byContradiction
    intro hne
    rw [str_other hne] at h
    cases h
  · rintro rfl; exact str_same rfl
theorem eqO_iff {a b : Po} : eqO a b = true ↔ a = b := by
  obtain ⟨a0, a1, a2, a3, a4, a5⟩ := a
  obtain ⟨b0, b1, b2, b3, b4, b5⟩ := b
  simp only [eqO, Bool.and_eq_true, beq_iff_eq, Po.mk.injEq]
  constructor
  · rintro ⟨h0, h1, h2, h3, h4, h5⟩
    exact ⟨h0, h1, h2, h3, toList_eq.1 (by rw [h4]; simp), toList_eq.1 (by rw [h5]; simp)⟩
  · rintro ⟨h0, h1, h2, h3, h4, h5⟩
    exact ⟨h0, h1, h2, h3, by rw [h4], by rw [h5]⟩
def sameO : List Po → List Po → Bool
  | [], [] => true
  | a :: l, b :: m => eqO a b && sameO l m
  | _, _ => false
theorem sameO_iff : ∀ {a b : List Po}, sameO a b = true ↔ a = b
  | [], [] => by simp [sameO]
  | [], _ :: _ => by simp [sameO]
  | _ :: _, [] => by simp [sameO]
  | a :: l, b :: m => by rw [sameO, Bool.and_eq_true, eqO_iff, sameO_iff]; simp
theorem sameO_at {a b : List Po} {j : Nat} (h1 : j < a.length) (h2 : j < b.length) (h : eqO a[j] b[j] = false) : sameO a b = false := by
  refine Bool.eq_false_iff.2 (fun e => ?_)
  have := sameO_iff.1 e
  subst this
  rw [eqO_iff.2 rfl] at h
  cases h
theorem sameO_len {a b : List Po} (h : a.length ≠ b.length) : sameO a b = false := Bool.eq_false_iff.2 (fun e => h (by rw [sameO_iff.1 e]))
set_option maxRecDepth 100000 in
set_option maxHeartbeats 4000000 in
theorem same_any (A B : Option Addr) (a b : List Po) (c d : Nat) (w : World) (hA : OL w A a) (hB : OL w B b) (hna : a.length ≤ 1000) (hnb : b.length ≤ 1000) :
    Calls Tryd.prog 20 #[.slice A a.length c, .slice B b.length d] w (GivesV (.bool (sameO a b)) w) := by
  have HA := Lib.hid hA
  have HB := Lib.hid hB
  have HNo := Lib.hid (fun (j : Nat) (h1 : j < a.length) (h2 : j < b.length) (h : eqO a[j] b[j] = false) => sameO_at h1 h2 h)
  have HLn := Lib.hid (fun (h : a.length ≠ b.length) => sameO_len h)
  have HSame : Hid (a.length = b.length → (∀ (j : Nat) (h1 : j < a.length) (h2 : j < b.length), a[j] = b[j]) → sameO a b = true) := Lib.hid (fun h1 h2 => sameO_iff.2 (List.ext_getElem h1 (fun i a1 a2 => h2 i a1 a2)))
  generalize sameO a b = R at *
  obtain ⟨n, hnn⟩ : ∃ n, a.length = n := ⟨_, rfl⟩
  obtain ⟨m, hmm⟩ : ∃ m, b.length = m := ⟨_, rfl⟩
  have HN := Lib.hid hnn
  have HM := Lib.hid hmm
  rw [hnn] at hna ⊢
  rw [hmm] at hnb ⊢
  clear hA hB hnn hmm
  go_enter Tryd.func20, Tryd.ntmps20
  by_cases hnm : n = m
  · subst hnm
    have hq : ((n : Int) != (n : Int)) = false := by simp
    go_wp2_with fail
    go_loopw [5] (fun q wv => ∃ (V : World) (j : Nat), V = wv ∧ j ≤ n ∧ q = .int .i64 j ∧ Hid (∀ (i : Nat) (h1 : i < a.length) (h2 : i < b.length), i < j → a[i] = b[i]) ∧ Hid (Below w.heap.size w V)) (fun q _ => n - (intOf q).toNat)
    case atStart => exact ⟨_, 0, rfl, Nat.zero_le _, rfl, Lib.hid (fun i _ _ h => absurd h (by omega)), Lib.hid (Below.refl _ _)⟩
    case round =>
      obtain ⟨V, j, rfl, hj, rfl, HE, HBe⟩ := hrel
      by_cases hlt : j < n
      · have k0 : (0 : Int) ≤ (j : Int) := by omega
        have k1 : (j : Int) < (n : Int) := by omega
        have hja : j < a.length := by rw [HN.out]; exact hlt
        have hjb : j < b.length := by rw [HM.out]; exact hlt
        obtain ⟨-, g, off, rfl, hg, c0, c1, c2, c3, c4, c5⟩ := HA.out.below HBe.out j a[j] (List.getElem?_eq_getElem hja)
        obtain ⟨-, g', off', rfl, hg', e0, e1, e2, e3, e4, e5⟩ := HB.out.below HBe.out j b[j] (List.getElem?_eq_getElem hjb)
        have HNj := Lib.hid (HNo.out j hja hjb)
        have hEq := eq_ro a[j].kind a[j].id a[j].dst a[j].pos b[j].kind b[j].id b[j].dst b[j].pos a[j].name a[j].text b[j].name b[j].text
        have HEj : Hid (eqO a[j] b[j] = true → a[j] = b[j]) := Lib.hid (fun h => eqO_iff.1 h)
        have HEx : Hid (eqO a[j] b[j] = ((a[j].kind == b[j].kind) && ((a[j].id == b[j].id) && ((a[j].dst == b[j].dst) && ((a[j].pos == b[j].pos) && ((a[j].name.toList == b[j].name.toList) && (a[j].text.toList == b[j].text.toList))))))) := Lib.hid rfl
        rw [← HEx.out] at hEq
        clear HEx
        cases hz : eqO a[j] b[j] with
        | false =>
          have HR := Lib.hid (HNj.out hz)
          rw [hz] at hEq
          clear hz HEj HNj
          generalize a[j] = x at *
          generalize b[j] = y at *
          go_wp2_with fail
          go_quiet (fail)
          go_wp2
          go_ret
          exact ⟨ret_bool HR.out.symm, below_drewN HBe.out _⟩
        | true =>
          have HR := Lib.hid (HEj.out hz)
          rw [hz] at hEq
          clear hz HEj HNj
          have HE2 : Hid (∀ (i : Nat) (h1 : i < a.length) (h2 : i < b.length), i < j + 1 → a[i] = b[i]) := Lib.hid (fun i h1 h2 h => by
            rcases Nat.lt_or_ge i j with h' | h'
            · exact HE.out i h1 h2 h'
            · obtain rfl : i = j := by omega
              exact HR.out)
          generalize a[j] = x at *
          generalize b[j] = y at *
          go_wp2_with fail
          go_quiet (fail)
          go_wp2
          go_roundw
          case rel => exact ⟨_, j + 1, rfl, by omega, by go_num, HE2, Lib.hid (below_drewN HBe.out _)⟩
          case measure => simp [intOf] <;> omega
      · obtain rfl : j = n := by omega
        have HR := Lib.hid (HSame.out (by rw [HN.out, HM.out]) (fun i h1 h2 => HE.out i h1 h2 (by rw [HN.out] at h1; exact h1)))
        go_wp2
        go_ret
        exact ⟨ret_bool HR.out.symm, HBe.out⟩
  · have hq : ((n : Int) != (m : Int)) = true := by simp; omega
    have HR := Lib.hid (HLn.out (by rw [HN.out, HM.out]; exact hnm))
    go_wp2
    go_ret
    exact ⟨ret_bool HR.out.symm, Below.refl _ _⟩
end Go.Proofs.YtdjhnjokmmbafaaDoor
