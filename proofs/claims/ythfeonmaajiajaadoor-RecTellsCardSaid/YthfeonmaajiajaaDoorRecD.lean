/-
  Whether a node may be: May.
-/
import Derived.Test.YthfeonmaajiajaaDoorRecC
namespace Go.Proofs.YthfeonmaajiajaaDoor
open Go.ChangeShapes Go.WideShapes Go.ChangeAt Go.RowKit
open Rm
set_option linter.unusedVariables false
set_option linter.unusedSimpArgs false

theorem within_any (n l g : Int) (w : World) : Calls Tryd.prog 26 #[.int .i64 n, .int .i64 l, .int .i64 g] w fun e w' => e = .returned (.bool (decide (l ≤ n ∧ n ≤ g))) ∧ w = w' := by
  by_cases h1 : l ≤ n
  · by_cases h2 : n ≤ g
    · go_enter Tryd.func26, Tryd.ntmps26
      go_wp2
      go_ret
      exact ⟨ret_bool (by simp; omega), rfl⟩
    · go_enter Tryd.func26, Tryd.ntmps26
      go_wp2
      go_ret
      exact ⟨ret_bool (by simp; omega), rfl⟩
  · go_enter Tryd.func26, Tryd.ntmps26
    go_wp2
    go_ret
    exact ⟨ret_bool (by simp; omega), rfl⟩

theorem long1 (s : ByteArray) (w : World) (hs : s.size ≤ 9223372036854775807) : Calls Tryd.prog 37 #[.string s] w fun e w' => e = .returned (.bool (decide (60 < s.size))) ∧ w = w' := by
  go_enter Tryd.func37, Tryd.ntmps37
  go_wp2
  go_ret
  exact ⟨ret_bool (by simp; try omega), rfl⟩

/-- An index, or less than 0 where no text is too long. -/
def GivesIx (l : List Wd) (w : World) (e : Ending) (w' : World) : Prop := ∃ z : Int, e = .returned (.int .i64 z) ∧ (z < 0 ↔ ∀ a ∈ l, a.length ≤ 60) ∧ w = w'
set_option maxHeartbeats 1000000 in
theorem index_any (A : Option Addr) (n c : Nat) (l : List Wd) (w : World) (hl : l.length = n) (hn : n ≤ 9223372036854775807) (hA : LV w A (svs l)) (hs : ∀ a ∈ l, a.length ≤ 9223372036854775807) :
    Calls Tryd.prog 42 #[.slice A n c, .func (.func 37) #[] #[]] w (GivesIx l w) := by
  have HL := Lib.hid hl
  have HA := Lib.hid hA
  have HS := Lib.hid hs
  clear hl hA hs
  go_enter Tryd.func42, Tryd.ntmps42
  go_wp2
  go_loop [8] (fun i => ∃ k : Nat, k ≤ n ∧ i = .int .i64 k ∧ Hid (∀ a ∈ l.take k, a.length ≤ 60)) (fun i => n - (intOf i).toNat)
  case atStart => exact ⟨0, Nat.zero_le _, rfl, Lib.hid (by simp)⟩
  case round =>
    obtain ⟨k, hk, rfl, HT⟩ := hrel
    by_cases hlt : k < n
    · have hkl : k < l.length := by rw [HL.out]; exact hlt
      obtain ⟨g, off, rfl, hg, hc⟩ := HA.out.at_ (j := k) (by rw [svs_length]; exact hkl)
      rw [svs_at hkl] at hc
      have hsz : (str l[k]).size ≤ 9223372036854775807 := by rw [str_size]; exact HS.out _ (List.getElem_mem hkl)
      have HK := Lib.hid (fun W => long1 (str l[k]) W hsz)
      have HZ : Hid ((str l[k]).size = l[k].length) := Lib.hid (str_size _)
      have HM : Hid (l[k] ∈ l) := Lib.hid (List.getElem_mem hkl)
      have HT1 : Hid (l[k].length ≤ 60 → ∀ a ∈ l.take (k + 1), a.length ≤ 60) := Lib.hid (fun h a ha => by
        rw [List.take_succ_eq_append_getElem hkl] at ha
        rcases List.mem_append.1 ha with h' | h'
        · exact HT.out a h'
        · rw [List.mem_singleton] at h'; rw [h']; exact h)
      generalize l[k] = x at *
      rcases Bool.eq_false_or_eq_true (decide (60 < (str x).size)) with hb | hb
      · have h60 : 60 < x.length := by rw [← HZ.out]; simpa using hb
        go_wp2_with fail
        refine (HK.out _).mono ?_
        rw [hb]
        rintro e w' ⟨rfl, rfl⟩
        go_wp2
        go_ret
        exact ⟨_, rfl, ⟨fun h => by omega, fun h => by have := h x HM.out; omega⟩, rfl⟩
      · have h60 : x.length ≤ 60 := by rw [← HZ.out]; simpa using hb
        go_wp2_with fail
        refine (HK.out _).mono ?_
        rw [hb]
        rintro e w' ⟨rfl, rfl⟩
        go_wp2
        go_round
        case rel => exact ⟨k + 1, by omega, by go_num, Lib.hid (HT1.out h60)⟩
        case measure => simp [intOf]; omega
    · go_wp2
      go_ret
      refine ⟨_, rfl, ⟨fun _ => ?_, fun _ => by omega⟩, rfl⟩
      have := HT.out
      rwa [List.take_of_length_le (by rw [HL.out]; omega)] at this

/-- What is asked of Attrs. -/
def aMay (l : List Wd) : Bool := decide (l.length % 2 = 0 ∧ l.length ≤ 16 ∧ ∀ a ∈ l, a.length ≤ 60)
set_option maxHeartbeats 1000000 in
theorem contains_any (A : Option Addr) (n c : Nat) (l : List Wd) (w : World) (hl : l.length = n) (hn : n ≤ 9223372036854775807) (hA : LV w A (svs l)) (hs : ∀ a ∈ l, a.length ≤ 9223372036854775807) :
    Calls Tryd.prog 36 #[.slice A n c, .func (.func 37) #[] #[]] w fun e w' => e = .returned (.bool (!decide (∀ a ∈ l, a.length ≤ 60))) ∧ w = w' := by
  have HC := Lib.hid (fun W h => index_any A n c l W hl hn h hs)
  have HA := Lib.hid hA
  clear hA hs hl
  go_enter Tryd.func36, Tryd.ntmps36
  go_wp2_with fail
  refine (HC.out _ HA.out).mono ?_
  rintro e w' ⟨z, rfl, hz, rfl⟩
  have HZ := Lib.hid hz
  clear hz
  go_wp2
  go_ret
  refine ⟨ret_bool ?_, rfl⟩
  rw [Bool.eq_iff_iff]
  have := HZ.out
  simp only [decide_eq_true_eq, Bool.not_eq_true', decide_eq_false_iff_not]
  rw [← this]
  omega
set_option maxHeartbeats 1000000 in
theorem attrsMay_any (A : Option Addr) (n c : Nat) (l : List Wd) (w : World) (hl : l.length = n) (hn : n ≤ 9223372036854775807) (hA : LV w A (svs l)) (hs : ∀ a ∈ l, a.length ≤ 9223372036854775807) :
    Calls Tryd.prog 27 #[.slice A n c] w fun e w' => e = .returned (.bool (aMay l)) ∧ w = w' := by
  have HC := Lib.hid (fun W h => contains_any A n c l W hl hn h hs)
  have HA := Lib.hid hA
  have HL := Lib.hid hl
  clear hA hs hl
  by_cases h2 : n % 2 = 0
  · have h2a : ((n : Int) % 2 != 0) = false := by simp; omega
    by_cases h16 : n ≤ 16
    · go_enter Tryd.func27, Tryd.ntmps27
      go_wp2_with fail
      refine (HC.out _ HA.out).mono ?_
      rintro e w' ⟨rfl, rfl⟩
      go_wp2
      go_ret
      refine ⟨ret_bool ?_, rfl⟩
      rw [Bool.eq_iff_iff]
      simp only [aMay, HL.out, Bool.not_eq_true', Bool.not_not, decide_eq_true_eq]
      exact ⟨fun h => ⟨h2, h16, h⟩, fun h => h.2.2⟩
    · go_enter Tryd.func27, Tryd.ntmps27
      go_wp2
      go_ret
      exact ⟨ret_bool (decide_eq_false (by rw [HL.out]; omega)).symm, rfl⟩
  · have h2a : ((n : Int) % 2 != 0) = true := by simp; omega
    go_enter Tryd.func27, Tryd.ntmps27
    go_wp2
    go_ret
    exact ⟨ret_bool (decide_eq_false (by rw [HL.out]; omega)).symm, rfl⟩
end Go.Proofs.YthfeonmaajiajaaDoor
