/-
  slices.IndexFunc, ContainsFunc, Contains at find's closures: one contract each, for any predicate.
-/
import Derived.Test.YtaacikjoafobfaaGreatDoorZFiA
namespace Go.Proofs.YtaacikjoafobfaaGreatDoor.Fi
open Go.ChangeShapes Go.WideShapes Go.ChangeAt Go.RowKit
open Sx (Tr Ms Mr TR MR XR tV r1)
set_option linter.unusedVariables false
set_option linter.unusedSimpArgs false

set_option maxHeartbeats 2000000 in
theorem idx_cl (p : At2 → Bool) (k0 : Nat) (Ak : Option Addr) (l : List (At2)) (ck : Nat) (w : World) (hI : AR w Ak l) (hl : l.length ≤ 1000)
    (hP : ∀ (k : Nat) (hk : k < l.length) (V : World), Below w.heap.size w V → Calls Tryz.prog 92 #[.agg #[.string l[k].1, .string l[k].2], .pointer (some ⟨k0, 0, none⟩)] V (GivesV (.bool (p l[k])) V)) :
    Calls Tryz.prog 123 #[.slice Ak l.length ck, .func (.func 92) #[] #[.pointer (some ⟨k0, 0, none⟩)]] w fun e w' => e = .returned (.int .i64 (fst1 p l)) ∧ Below w.heap.size w w' := by
  have HP := Lib.hid hP
  have HI := Lib.hid hI
  clear hP hI
  obtain ⟨n, hnn⟩ : ∃ n, l.length = n := ⟨_, rfl⟩
  have HNN := Lib.hid hnn
  obtain ⟨R, hR⟩ : ∃ R, fst1 p l = R := ⟨_, rfl⟩
  have HR := Lib.hid hR
  rw [hR]
  rw [hnn] at hl ⊢
  clear hnn hR
  go_enter Tryz.func123, Tryz.ntmps123
  go_wp2
  go_loopw [8] (fun q wr => ∃ k : Nat, k ≤ n ∧ q = .int .i64 k ∧ Hid ((l.take k).any p = false) ∧ Hid (Below w.heap.size w wr)) (fun q _ => n - (intOf q).toNat)
  case atStart => exact ⟨0, Nat.zero_le _, rfl, Lib.hid rfl, Lib.hid (Below.refl _ _)⟩
  case round =>
    obtain ⟨k, hk, rfl, HT, HB⟩ := hrel
    by_cases hlt : k < n
    · have k0 : (0 : Int) ≤ (k : Int) := by omega
      have k1 : (k : Int) < (n : Int) := by omega
      have hkl : k < l.length := by rw [HNN.out]; exact hlt
      obtain ⟨ga, oa, rfl, hga, hc, hd⟩ := (HI.out.below HB.out) k hkl
      rw [getD_at default hkl] at hc hd
      have HK := Lib.hid (HP.out k hkl wr HB.out)
      have HT2 := Lib.hid (any_more hkl HT.out)
      have HH : Hid (p l[k] = true → R = (k : Int)) := Lib.hid (fun h => by rw [← HR.out]; exact fst1_hit hkl HT.out h)
      generalize l[k] = y at *
      obtain ⟨ya, yb⟩ := y
      simp only [] at hc hd HK HT2 HH
      go_wp2_with fail
      refine HK.out.mono ?_
      rintro e w1 ⟨rfl, hb⟩
      have HB1 := Lib.hid (HB.out.trans (hb.mono HB.out.size))
      clear hb
      generalize HY : p _ = Y at *
      clear HY
      cases Y with
      | true =>
        have HA := Lib.hid (HH.out rfl)
        go_wp2
        go_ret
        exact ⟨by rw [HA.out]; rfl, HB1.out⟩
      | false =>
        go_wp2
        go_roundw
        case rel => exact ⟨k + 1, by omega, by go_num, HT2, HB1⟩
        case measure => simp [intOf] <;> omega
    · obtain rfl : k = n := by omega
      have e : l.take k = l := List.take_of_length_le (by rw [HNN.out]; exact Nat.le_refl _)
      rw [e] at HT
      have HA : Hid (R = -1) := Lib.hid (by rw [← HR.out]; exact fst1_miss HT.out)
      go_wp2
      go_ret
      exact ⟨by rw [HA.out]; rfl, HB.out⟩
set_option maxHeartbeats 1000000 in
theorem has_cl (p : At2 → Bool) (k0 : Nat) (Ak : Option Addr) (l : List (At2)) (ck : Nat) (w : World) (hI : AR w Ak l) (hl : l.length ≤ 1000)
    (hP : ∀ (k : Nat) (hk : k < l.length) (V : World), Below w.heap.size w V → Calls Tryz.prog 92 #[.agg #[.string l[k].1, .string l[k].2], .pointer (some ⟨k0, 0, none⟩)] V (GivesV (.bool (p l[k])) V)) :
    Calls Tryz.prog 91 #[.slice Ak l.length ck, .func (.func 92) #[] #[.pointer (some ⟨k0, 0, none⟩)]] w (GivesV (.bool (l.any p)) w) := by
  have HX := Lib.hid (idx_cl p k0 Ak l ck w hI hl hP)
  have HE := Lib.hid (fst1_neg (p := p) (l := l))
  generalize fst1 p l = j at *
  clear hI hP
  go_enter Tryz.func91, Tryz.ntmps91
  go_wp2_with fail
  refine HX.out.mono ?_
  rintro e w1 ⟨rfl, hb⟩
  have HB := Lib.hid hb
  clear hb
  go_wp2
  go_ret
  exact ⟨ret_bool (by rw [← HE.out]), HB.out⟩
set_option maxHeartbeats 2000000 in
theorem idx_nm (p : At2 → Bool) (k0 : Nat) (Ak : Option Addr) (l : List (At2)) (ck : Nat) (w : World) (hI : AR w Ak l) (hl : l.length ≤ 1000)
    (hP : ∀ (k : Nat) (hk : k < l.length) (V : World), Below w.heap.size w V → Calls Tryz.prog 95 #[.agg #[.string l[k].1, .string l[k].2], .pointer (some ⟨k0, 0, none⟩)] V (GivesV (.bool (p l[k])) V)) :
    Calls Tryz.prog 123 #[.slice Ak l.length ck, .func (.func 95) #[] #[.pointer (some ⟨k0, 0, none⟩)]] w fun e w' => e = .returned (.int .i64 (fst1 p l)) ∧ Below w.heap.size w w' := by
  have HP := Lib.hid hP
  have HI := Lib.hid hI
  clear hP hI
  obtain ⟨n, hnn⟩ : ∃ n, l.length = n := ⟨_, rfl⟩
  have HNN := Lib.hid hnn
  obtain ⟨R, hR⟩ : ∃ R, fst1 p l = R := ⟨_, rfl⟩
  have HR := Lib.hid hR
  rw [hR]
  rw [hnn] at hl ⊢
  clear hnn hR
  go_enter Tryz.func123, Tryz.ntmps123
  go_wp2
  go_loopw [8] (fun q wr => ∃ k : Nat, k ≤ n ∧ q = .int .i64 k ∧ Hid ((l.take k).any p = false) ∧ Hid (Below w.heap.size w wr)) (fun q _ => n - (intOf q).toNat)
  case atStart => exact ⟨0, Nat.zero_le _, rfl, Lib.hid rfl, Lib.hid (Below.refl _ _)⟩
  case round =>
    obtain ⟨k, hk, rfl, HT, HB⟩ := hrel
    by_cases hlt : k < n
    · have k0 : (0 : Int) ≤ (k : Int) := by omega
      have k1 : (k : Int) < (n : Int) := by omega
      have hkl : k < l.length := by rw [HNN.out]; exact hlt
      obtain ⟨ga, oa, rfl, hga, hc, hd⟩ := (HI.out.below HB.out) k hkl
      rw [getD_at default hkl] at hc hd
      have HK := Lib.hid (HP.out k hkl wr HB.out)
      have HT2 := Lib.hid (any_more hkl HT.out)
      have HH : Hid (p l[k] = true → R = (k : Int)) := Lib.hid (fun h => by rw [← HR.out]; exact fst1_hit hkl HT.out h)
      generalize l[k] = y at *
      obtain ⟨ya, yb⟩ := y
      simp only [] at hc hd HK HT2 HH
      go_wp2_with fail
      refine HK.out.mono ?_
      rintro e w1 ⟨rfl, hb⟩
      have HB1 := Lib.hid (HB.out.trans (hb.mono HB.out.size))
      clear hb
      generalize HY : p _ = Y at *
      clear HY
      cases Y with
      | true =>
        have HA := Lib.hid (HH.out rfl)
        go_wp2
        go_ret
        exact ⟨by rw [HA.out]; rfl, HB1.out⟩
      | false =>
        go_wp2
        go_roundw
        case rel => exact ⟨k + 1, by omega, by go_num, HT2, HB1⟩
        case measure => simp [intOf] <;> omega
    · obtain rfl : k = n := by omega
      have e : l.take k = l := List.take_of_length_le (by rw [HNN.out]; exact Nat.le_refl _)
      rw [e] at HT
      have HA : Hid (R = -1) := Lib.hid (by rw [← HR.out]; exact fst1_miss HT.out)
      go_wp2
      go_ret
      exact ⟨by rw [HA.out]; rfl, HB.out⟩
set_option maxHeartbeats 1000000 in
theorem has_nm (p : At2 → Bool) (k0 : Nat) (Ak : Option Addr) (l : List (At2)) (ck : Nat) (w : World) (hI : AR w Ak l) (hl : l.length ≤ 1000)
    (hP : ∀ (k : Nat) (hk : k < l.length) (V : World), Below w.heap.size w V → Calls Tryz.prog 95 #[.agg #[.string l[k].1, .string l[k].2], .pointer (some ⟨k0, 0, none⟩)] V (GivesV (.bool (p l[k])) V)) :
    Calls Tryz.prog 91 #[.slice Ak l.length ck, .func (.func 95) #[] #[.pointer (some ⟨k0, 0, none⟩)]] w (GivesV (.bool (l.any p)) w) := by
  have HX := Lib.hid (idx_nm p k0 Ak l ck w hI hl hP)
  have HE := Lib.hid (fst1_neg (p := p) (l := l))
  generalize fst1 p l = j at *
  clear hI hP
  go_enter Tryz.func91, Tryz.ntmps91
  go_wp2_with fail
  refine HX.out.mono ?_
  rintro e w1 ⟨rfl, hb⟩
  have HB := Lib.hid hb
  clear hb
  go_wp2
  go_ret
  exact ⟨ret_bool (by rw [← HE.out]), HB.out⟩
set_option maxHeartbeats 2000000 in
theorem idx_fit (p : Tr → Bool) (k0 k1 : Nat) (Ak : Option Addr) (l : List (Tr)) (ck : Nat) (w : World) (hI : TR w Ak l) (hl : l.length ≤ 9223372036854775807)
    (hP : ∀ (k : Nat) (hk : k < l.length) (V : World), Below w.heap.size w V → Calls Tryz.prog 57 #[tV l[k], .pointer (some ⟨k0, 0, none⟩), .pointer (some ⟨k1, 0, none⟩)] V (GivesV (.bool (p l[k])) V)) :
    Calls Tryz.prog 97 #[.slice Ak l.length ck, .func (.func 57) #[] #[.pointer (some ⟨k0, 0, none⟩), .pointer (some ⟨k1, 0, none⟩)]] w fun e w' => e = .returned (.int .i64 (fst1 p l)) ∧ Below w.heap.size w w' := by
  have HP := Lib.hid hP
  have HI := Lib.hid hI
  clear hP hI
  obtain ⟨n, hnn⟩ : ∃ n, l.length = n := ⟨_, rfl⟩
  have HNN := Lib.hid hnn
  obtain ⟨R, hR⟩ : ∃ R, fst1 p l = R := ⟨_, rfl⟩
  have HR := Lib.hid hR
  rw [hR]
  rw [hnn] at hl ⊢
  clear hnn hR
  go_enter Tryz.func97, Tryz.ntmps97
  go_wp2
  go_loopw [8] (fun q wr => ∃ k : Nat, k ≤ n ∧ q = .int .i64 k ∧ Hid ((l.take k).any p = false) ∧ Hid (Below w.heap.size w wr)) (fun q _ => n - (intOf q).toNat)
  case atStart => exact ⟨0, Nat.zero_le _, rfl, Lib.hid rfl, Lib.hid (Below.refl _ _)⟩
  case round =>
    obtain ⟨k, hk, rfl, HT, HB⟩ := hrel
    by_cases hlt : k < n
    · have k0 : (0 : Int) ≤ (k : Int) := by omega
      have k1 : (k : Int) < (n : Int) := by omega
      have hkl : k < l.length := by rw [HNN.out]; exact hlt
      obtain ⟨ga, oa, rfl, hga, hc, hd, he⟩ := (HI.out.below HB.out) k l[k] (List.getElem?_eq_getElem hkl)
      have HK := Lib.hid (HP.out k hkl wr HB.out)
      have HT2 := Lib.hid (any_more hkl HT.out)
      have HH : Hid (p l[k] = true → R = (k : Int)) := Lib.hid (fun h => by rw [← HR.out]; exact fst1_hit hkl HT.out h)
      generalize l[k] = y at *
      obtain ⟨ya, yb, yc⟩ := y
      unfold tV at HK
      simp only [] at hc hd he HK HT2 HH
      go_wp2_with fail
      refine HK.out.mono ?_
      rintro e w1 ⟨rfl, hb⟩
      have HB1 := Lib.hid (HB.out.trans (hb.mono HB.out.size))
      clear hb
      generalize HY : p _ = Y at *
      clear HY
      cases Y with
      | true =>
        have HA := Lib.hid (HH.out rfl)
        go_wp2
        go_ret
        exact ⟨by rw [HA.out]; rfl, HB1.out⟩
      | false =>
        go_wp2
        go_roundw
        case rel => exact ⟨k + 1, by omega, by go_num, HT2, HB1⟩
        case measure => simp [intOf] <;> omega
    · obtain rfl : k = n := by omega
      have e : l.take k = l := List.take_of_length_le (by rw [HNN.out]; exact Nat.le_refl _)
      rw [e] at HT
      have HA : Hid (R = -1) := Lib.hid (by rw [← HR.out]; exact fst1_miss HT.out)
      go_wp2
      go_ret
      exact ⟨by rw [HA.out]; rfl, HB.out⟩
set_option maxHeartbeats 1000000 in
theorem has_fit (p : Tr → Bool) (k0 k1 : Nat) (Ak : Option Addr) (l : List (Tr)) (ck : Nat) (w : World) (hI : TR w Ak l) (hl : l.length ≤ 9223372036854775807)
    (hP : ∀ (k : Nat) (hk : k < l.length) (V : World), Below w.heap.size w V → Calls Tryz.prog 57 #[tV l[k], .pointer (some ⟨k0, 0, none⟩), .pointer (some ⟨k1, 0, none⟩)] V (GivesV (.bool (p l[k])) V)) :
    Calls Tryz.prog 56 #[.slice Ak l.length ck, .func (.func 57) #[] #[.pointer (some ⟨k0, 0, none⟩), .pointer (some ⟨k1, 0, none⟩)]] w (GivesV (.bool (l.any p)) w) := by
  have HX := Lib.hid (idx_fit p k0 k1 Ak l ck w hI hl hP)
  have HE := Lib.hid (fst1_neg (p := p) (l := l))
  generalize fst1 p l = j at *
  clear hI hP
  go_enter Tryz.func56, Tryz.ntmps56
  go_wp2_with fail
  refine HX.out.mono ?_
  rintro e w1 ⟨rfl, hb⟩
  have HB := Lib.hid hb
  clear hb
  go_wp2
  go_ret
  exact ⟨ret_bool (by rw [← HE.out]), HB.out⟩
set_option maxHeartbeats 2000000 in
theorem idx_row (p : Mr → Bool) (k0 : Nat) (Ak : Option Addr) (l : List (Mr)) (ck : Nat) (w : World) (hI : XR w Ak l) (hl : l.length ≤ 9223372036854775807)
    (hP : ∀ (k : Nat) (hk : k < l.length) (V : World), Below w.heap.size w V → Calls Tryz.prog 84 #[r1 l[k], .pointer (some ⟨k0, 0, none⟩)] V (GivesV (.bool (p l[k])) V)) :
    Calls Tryz.prog 118 #[.slice Ak l.length ck, .func (.func 84) #[] #[.pointer (some ⟨k0, 0, none⟩)]] w fun e w' => e = .returned (.int .i64 (fst1 p l)) ∧ Below w.heap.size w w' := by
  have HP := Lib.hid hP
  have HI := Lib.hid hI
  clear hP hI
  obtain ⟨n, hnn⟩ : ∃ n, l.length = n := ⟨_, rfl⟩
  have HNN := Lib.hid hnn
  obtain ⟨R, hR⟩ : ∃ R, fst1 p l = R := ⟨_, rfl⟩
  have HR := Lib.hid hR
  rw [hR]
  rw [hnn] at hl ⊢
  clear hnn hR
  go_enter Tryz.func118, Tryz.ntmps118
  go_wp2
  go_loopw [8] (fun q wr => ∃ k : Nat, k ≤ n ∧ q = .int .i64 k ∧ Hid ((l.take k).any p = false) ∧ Hid (Below w.heap.size w wr)) (fun q _ => n - (intOf q).toNat)
  case atStart => exact ⟨0, Nat.zero_le _, rfl, Lib.hid rfl, Lib.hid (Below.refl _ _)⟩
  case round =>
    obtain ⟨k, hk, rfl, HT, HB⟩ := hrel
    by_cases hlt : k < n
    · have k0 : (0 : Int) ≤ (k : Int) := by omega
      have k1 : (k : Int) < (n : Int) := by omega
      have hkl : k < l.length := by rw [HNN.out]; exact hlt
      obtain ⟨ga, oa, rfl, hga, hc, -⟩ := (HI.out.below HB.out) k l[k] (List.getElem?_eq_getElem hkl)
      have HK := Lib.hid (HP.out k hkl wr HB.out)
      have HT2 := Lib.hid (any_more hkl HT.out)
      have HH : Hid (p l[k] = true → R = (k : Int)) := Lib.hid (fun h => by rw [← HR.out]; exact fst1_hit hkl HT.out h)
      generalize l[k] = y at *
      unfold r1 at *
      go_wp2_with fail
      refine HK.out.mono ?_
      rintro e w1 ⟨rfl, hb⟩
      have HB1 := Lib.hid (HB.out.trans (hb.mono HB.out.size))
      clear hb
      generalize HY : p _ = Y at *
      clear HY
      cases Y with
      | true =>
        have HA := Lib.hid (HH.out rfl)
        go_wp2
        go_ret
        exact ⟨by rw [HA.out]; rfl, HB1.out⟩
      | false =>
        go_wp2
        go_roundw
        case rel => exact ⟨k + 1, by omega, by go_num, HT2, HB1⟩
        case measure => simp [intOf] <;> omega
    · obtain rfl : k = n := by omega
      have e : l.take k = l := List.take_of_length_le (by rw [HNN.out]; exact Nat.le_refl _)
      rw [e] at HT
      have HA : Hid (R = -1) := Lib.hid (by rw [← HR.out]; exact fst1_miss HT.out)
      go_wp2
      go_ret
      exact ⟨by rw [HA.out]; rfl, HB.out⟩
set_option maxHeartbeats 1000000 in
theorem has_row (p : Mr → Bool) (k0 : Nat) (Ak : Option Addr) (l : List (Mr)) (ck : Nat) (w : World) (hI : XR w Ak l) (hl : l.length ≤ 9223372036854775807)
    (hP : ∀ (k : Nat) (hk : k < l.length) (V : World), Below w.heap.size w V → Calls Tryz.prog 84 #[r1 l[k], .pointer (some ⟨k0, 0, none⟩)] V (GivesV (.bool (p l[k])) V)) :
    Calls Tryz.prog 83 #[.slice Ak l.length ck, .func (.func 84) #[] #[.pointer (some ⟨k0, 0, none⟩)]] w (GivesV (.bool (l.any p)) w) := by
  have HX := Lib.hid (idx_row p k0 Ak l ck w hI hl hP)
  have HE := Lib.hid (fst1_neg (p := p) (l := l))
  generalize fst1 p l = j at *
  clear hI hP
  go_enter Tryz.func83, Tryz.ntmps83
  go_wp2_with fail
  refine HX.out.mono ?_
  rintro e w1 ⟨rfl, hb⟩
  have HB := Lib.hid hb
  clear hb
  go_wp2
  go_ret
  exact ⟨ret_bool (by rw [← HE.out]), HB.out⟩
set_option maxHeartbeats 2000000 in
theorem idx_id (p : Int → Bool) (k0 k1 : Nat) (Ak : Option Addr) (l : List (Int)) (ck : Nat) (w : World) (hI : IR w Ak l) (hl : l.length ≤ 1000)
    (hP : ∀ (k : Nat) (hk : k < l.length) (V : World), Below w.heap.size w V → Calls Tryz.prog 53 #[.int .i64 l[k], .pointer (some ⟨k0, 0, none⟩), .pointer (some ⟨k1, 0, none⟩)] V (GivesV (.bool (p l[k])) V)) :
    Calls Tryz.prog 52 #[.slice Ak l.length ck, .func (.func 53) #[] #[.pointer (some ⟨k0, 0, none⟩), .pointer (some ⟨k1, 0, none⟩)]] w fun e w' => e = .returned (.int .i64 (fst1 p l)) ∧ Below w.heap.size w w' := by
  have HP := Lib.hid hP
  have HI := Lib.hid hI
  clear hP hI
  obtain ⟨n, hnn⟩ : ∃ n, l.length = n := ⟨_, rfl⟩
  have HNN := Lib.hid hnn
  obtain ⟨R, hR⟩ : ∃ R, fst1 p l = R := ⟨_, rfl⟩
  have HR := Lib.hid hR
  rw [hR]
  rw [hnn] at hl ⊢
  clear hnn hR
  go_enter Tryz.func52, Tryz.ntmps52
  go_wp2
  go_loopw [8] (fun q wr => ∃ k : Nat, k ≤ n ∧ q = .int .i64 k ∧ Hid ((l.take k).any p = false) ∧ Hid (Below w.heap.size w wr)) (fun q _ => n - (intOf q).toNat)
  case atStart => exact ⟨0, Nat.zero_le _, rfl, Lib.hid rfl, Lib.hid (Below.refl _ _)⟩
  case round =>
    obtain ⟨k, hk, rfl, HT, HB⟩ := hrel
    by_cases hlt : k < n
    · have k0 : (0 : Int) ≤ (k : Int) := by omega
      have k1 : (k : Int) < (n : Int) := by omega
      have hkl : k < l.length := by rw [HNN.out]; exact hlt
      obtain ⟨ga, oa, rfl, hga, hc⟩ := (HI.out.below HB.out) k hkl
      rw [getD_at 0 hkl] at hc
      have HK := Lib.hid (HP.out k hkl wr HB.out)
      have HT2 := Lib.hid (any_more hkl HT.out)
      have HH : Hid (p l[k] = true → R = (k : Int)) := Lib.hid (fun h => by rw [← HR.out]; exact fst1_hit hkl HT.out h)
      generalize l[k] = y at *

      go_wp2_with fail
      refine HK.out.mono ?_
      rintro e w1 ⟨rfl, hb⟩
      have HB1 := Lib.hid (HB.out.trans (hb.mono HB.out.size))
      clear hb
      generalize HY : p _ = Y at *
      clear HY
      cases Y with
      | true =>
        have HA := Lib.hid (HH.out rfl)
        go_wp2
        go_ret
        exact ⟨by rw [HA.out]; rfl, HB1.out⟩
      | false =>
        go_wp2
        go_roundw
        case rel => exact ⟨k + 1, by omega, by go_num, HT2, HB1⟩
        case measure => simp [intOf] <;> omega
    · obtain rfl : k = n := by omega
      have e : l.take k = l := List.take_of_length_le (by rw [HNN.out]; exact Nat.le_refl _)
      rw [e] at HT
      have HA : Hid (R = -1) := Lib.hid (by rw [← HR.out]; exact fst1_miss HT.out)
      go_wp2
      go_ret
      exact ⟨by rw [HA.out]; rfl, HB.out⟩
set_option maxHeartbeats 2000000 in
theorem index_at (x : At2) (Ak : Option Addr) (l : List At2) (ck : Nat) (w : World) (hI : AR w Ak l) (hl : l.length ≤ 1000) :
    Calls Tryz.prog 122 #[.slice Ak l.length ck, .agg #[.string x.1, .string x.2]] w fun e w' => e = .returned (.int .i64 (fst1 (fun a => decide (a = x)) l)) ∧ Below w.heap.size w w' := by
  have HI := Lib.hid hI
  clear hI
  obtain ⟨n, hnn⟩ : ∃ n, l.length = n := ⟨_, rfl⟩
  have HNN := Lib.hid hnn
  obtain ⟨p, hp⟩ : ∃ p : At2 → Bool, p = fun a => decide (a = x) := ⟨_, rfl⟩
  have HPp := Lib.hid hp
  rw [← hp]
  obtain ⟨R, hR⟩ : ∃ R, fst1 p l = R := ⟨_, rfl⟩
  have HR := Lib.hid hR
  rw [hR]
  rw [hnn] at hl ⊢
  clear hnn hR hp
  obtain ⟨xa, xb⟩ := x
  simp only []
  obtain ⟨W, hW⟩ : ∃ W, W = w.alloc (.cells #[.string xa, .string xb] 99) := ⟨_, rfl⟩
  have HWb : Hid (Below w.heap.size w W) := Lib.hid (by rw [hW]; exact (Below.refl _ _).alloc (Nat.le_refl _) _)
  have HWk : Hid (W.heap[w.heap.size]? = some (.cells #[.string xa, .string xb] 99 (0, 0))) := Lib.hid (by rw [hW]; exact heap_alloc_new _ _)
  have HIW := Lib.hid (HI.out.below HWb.out)
  go_enter Tryz.func122, Tryz.ntmps122
  go_wp2_with fail
  rw [← hW]
  clear hW
  go_loopw [8] (fun q wr => ∃ k : Nat, k ≤ n ∧ q = .int .i64 k ∧ Hid ((l.take k).any p = false) ∧ Hid (Below W.heap.size W wr)) (fun q _ => n - (intOf q).toNat)
  case atStart => exact ⟨0, Nat.zero_le _, rfl, Lib.hid rfl, Lib.hid (Below.refl _ _)⟩
  case round =>
    obtain ⟨k, hk, rfl, HT, HB⟩ := hrel
    by_cases hlt : k < n
    · have k0 : (0 : Int) ≤ (k : Int) := by omega
      have k1 : (k : Int) < (n : Int) := by omega
      have hkl : k < l.length := by rw [HNN.out]; exact hlt
      obtain ⟨ga, oa, rfl, hga, hc, hd⟩ := (HIW.out.below HB.out) k hkl
      obtain ⟨x0, x1⟩ := block2 ((HB.out.block _ (lt_of_block HWk.out)).trans HWk.out)
      rw [getD_at default hkl] at hc hd
      have HT2 := Lib.hid (any_more hkl HT.out)
      have HH : Hid (p l[k] = true → R = (k : Int)) := Lib.hid (fun h => by rw [← HR.out]; exact fst1_hit hkl HT.out h)
      have HQ : Hid (decide ((xa, xb) = l[k]) = p l[k]) := Lib.hid (by rw [HPp.out, Bool.eq_iff_iff]; simp only [decide_eq_true_eq]; exact eq_comm)
      generalize p l[k] = Y at *
      generalize l[k] = y at *
      obtain ⟨ya, yb⟩ := y
      simp only [] at hc hd
      have hq := fun W => eq_at xa xb ya yb W
      rw [HQ.out] at hq
      cases Y with
      | true =>
        have HA := Lib.hid (HH.out rfl)
        go_upto_region 6 with fail
        go_quiet (fail)
        go_wp2
        go_ret
        exact ⟨by rw [HA.out]; rfl, HWb.out.trans ((below_drewF HB.out _).mono HWb.out.size)⟩
      | false =>
        go_upto_region 6 with fail
        go_quiet (fail)
        go_wp2
        go_roundw
        case rel => exact ⟨k + 1, by omega, by go_num, HT2, Lib.hid (below_drewF HB.out _)⟩
        case measure => simp [intOf] <;> omega
    · obtain rfl : k = n := by omega
      have e : l.take k = l := List.take_of_length_le (by rw [HNN.out]; exact Nat.le_refl _)
      rw [e] at HT
      have HA : Hid (R = -1) := Lib.hid (by rw [← HR.out]; exact fst1_miss HT.out)
      go_wp2
      go_ret
      exact ⟨by rw [HA.out]; rfl, HWb.out.trans (HB.out.mono HWb.out.size)⟩
set_option maxHeartbeats 1000000 in
theorem contains_at (x : At2) (Ak : Option Addr) (l : List At2) (ck : Nat) (w : World) (hI : AR w Ak l) (hl : l.length ≤ 1000) :
    Calls Tryz.prog 89 #[.slice Ak l.length ck, .agg #[.string x.1, .string x.2]] w (GivesV (.bool (l.any fun a => decide (a = x))) w) := by
  have HX := Lib.hid (fun (V : World) (hb : Below w.heap.size w V) => index_at x Ak l ck V (hI.below hb) hl)
  have HE := Lib.hid (fst1_neg (p := fun a => decide (a = x)) (l := l))
  generalize fst1 (fun a => decide (a = x)) l = j at *
  generalize l.any (fun a => decide (a = x)) = R at *
  clear hI
  obtain ⟨xa, xb⟩ := x
  simp only [] at *
  obtain ⟨W, hW⟩ : ∃ W, W = w.alloc (.cells #[.string xa, .string xb] 99) := ⟨_, rfl⟩
  have HWb : Hid (Below w.heap.size w W) := Lib.hid (by rw [hW]; exact (Below.refl _ _).alloc (Nat.le_refl _) _)
  have HWk : Hid (W.heap[w.heap.size]? = some (.cells #[.string xa, .string xb] 99 (0, 0))) := Lib.hid (by rw [hW]; exact heap_alloc_new _ _)
  obtain ⟨x0, x1⟩ := block2 HWk.out
  go_enter Tryz.func89, Tryz.ntmps89
  go_upto_region 1 with fail
  rw [← hW]
  clear hW
  go_wp2_with fail
  refine (HX.out W HWb.out).mono ?_
  rintro e w1 ⟨rfl, hb⟩
  have HB := Lib.hid (HWb.out.trans (hb.mono HWb.out.size))
  clear hb
  go_wp2
  go_ret
  exact ⟨ret_bool (by rw [← HE.out]), HB.out⟩
end Go.Proofs.YtaacikjoafobfaaGreatDoor.Fi
