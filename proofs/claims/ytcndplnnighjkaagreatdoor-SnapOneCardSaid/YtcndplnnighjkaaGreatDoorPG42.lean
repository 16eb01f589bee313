/-
  slices.IndexFunc, ContainsFunc, Contains at find's closures: one contract each, for any predicate.
-/
import Derived.Test.YtcndplnnighjkaaGreatDoorPG40
import Derived.Deep.RegionHeld3
import Derived.StillTailTactics
namespace Go.Proofs.YtcndplnnighjkaaGreatDoor.Fi
open Go.ChangeShapes Go.WideShapes Go.ChangeAt Go.RowKit
open Sx (Tr Ms Mr TR MR XR tV r1)
set_option linter.unusedVariables false
set_option linter.unusedSimpArgs false
set_option maxHeartbeats 2000000 in
theorem idx_cl (p : At2 -> Bool) (k0 : Nat) (Ak : Option Addr) (l : List (At2)) (ck : Nat) (w : World) (hI : AR w Ak l) (hl : l.length <= 1000)
 (hP : ∀ (k : Nat) (hk : k < l.length) (V : World), Below w.heap.size w V -> Calls Tryz.prog 185 #[.agg #[.string l[k].1, .string l[k].2], .pointer (some ⟨k0, 0, none⟩)] V (GivesV (.bool (p l[k])) V)) :
 Calls Tryz.prog 131 #[.slice Ak l.length ck, .func (.func 185) #[] #[.pointer (some ⟨k0, 0, none⟩)]] w fun e w' => e = .returned (.int .i64 (fst1 p l)) /\ Below w.heap.size w w' := by
 have HP := Lib.hid hP
 have HI := Lib.hid hI
 clear hP hI
 obtain ⟨n, hnn⟩ : ∃ n, l.length = n := ⟨_, rfl⟩
 have HNN := Lib.hid hnn
 obtain ⟨R, hR⟩ : ∃ R, fst1 p l = R := ⟨_, rfl⟩
 have HR := Lib.hid hR
 rw [hR]
 rw [hnn] at hl ⊢
 clear hnn hR
 go_enter Tryz.func131, Tryz.ntmps131
 go_wp2
 go_loopw [8] (fun q wr => ∃ k : Nat, k <= n /\ q = .int .i64 k /\ Hid ((l.take k).any p = false) /\ Hid (Below w.heap.size w wr)) (fun q _ => n - (intOf q).toNat)
 case atStart => exact ⟨0, Nat.zero_le _, rfl, Lib.hid rfl, Lib.hid (Below.refl _ _)⟩
 case round =>
  obtain ⟨k, hk, rfl, HT, HB⟩ := hrel
  by_cases hlt : k < n
  · have k0 : (0 : Int) <= (k : Int) := by omega
    have k1 : (k : Int) < (n : Int) := by omega
    have hkl : k < l.length := by rw [HNN.out]; exact hlt
    obtain ⟨ga, oa, rfl, hga, hc, hd⟩ := (HI.out.below HB.out) k hkl
    rw [getD_at default hkl] at hc hd
    have HK := Lib.hid (HP.out k hkl wr HB.out)
    have HT2 := Lib.hid (any_more hkl HT.out)
    have HH : Hid (p l[k] = true -> R = (k : Int)) := Lib.hid (fun h => by rw [<- HR.out]; exact fst1_hit hkl HT.out h)
    generalize l[k] = y at *
    obtain ⟨ya, yb⟩ := y
    simp only [] at hc hd HK HT2 HH
    go_wp2_with fail
    refine HK.out.mono ?_
    rintro e w1 ⟨rfl, hb⟩
    have HB1 := Lib.hid (HB.out.trans (hb.mono HB.out.size))
    clear hb
    generalize HY : p _ = Y at *
    clear HY
    cases Y with
    | true =>
      have HA := Lib.hid (HH.out rfl)
      go_wp2
      go_ret
      exact ⟨by rw [HA.out]; rfl, HB1.out⟩
    | false =>
      go_wp2
      go_roundw
      case rel => exact ⟨k + 1, by omega, by go_num, HT2, HB1⟩
      case measure => simp [intOf] <;> omega
  · obtain rfl : k = n := by omega
    have e : l.take k = l := List.take_of_length_le (by rw [HNN.out]; exact Nat.le_refl _)
    rw [e] at HT
    have HA : Hid (R = -1) := Lib.hid (by rw [<- HR.out]; exact fst1_miss HT.out)
    go_wp2
    go_ret
    exact ⟨by rw [HA.out]; rfl, HB.out⟩
set_option maxHeartbeats 1000000 in
theorem has_cl (p : At2 -> Bool) (k0 : Nat) (Ak : Option Addr) (l : List (At2)) (ck : Nat) (w : World) (hI : AR w Ak l) (hl : l.length <= 1000)
 (hP : ∀ (k : Nat) (hk : k < l.length) (V : World), Below w.heap.size w V -> Calls Tryz.prog 185 #[.agg #[.string l[k].1, .string l[k].2], .pointer (some ⟨k0, 0, none⟩)] V (GivesV (.bool (p l[k])) V)) :
 Calls Tryz.prog 104 #[.slice Ak l.length ck, .func (.func 185) #[] #[.pointer (some ⟨k0, 0, none⟩)]] w (GivesV (.bool (l.any p)) w) := by
 have HX := Lib.hid (idx_cl p k0 Ak l ck w hI hl hP)
 have HE := Lib.hid (fst1_neg (p := p) (l := l))
 generalize fst1 p l = j at *
 clear hI hP
 go_enter Tryz.func104, Tryz.ntmps104
 go_wp2_with fail
 refine HX.out.mono ?_
 rintro e w1 ⟨rfl, hb⟩
 have HB := Lib.hid hb
 clear hb
 go_wp2
 go_ret
 exact ⟨ret_bool (by rw [<- HE.out]), HB.out⟩
set_option maxHeartbeats 2000000 in
theorem idx_nm (p : At2 -> Bool) (k0 : Nat) (Ak : Option Addr) (l : List (At2)) (ck : Nat) (w : World) (hI : AR w Ak l) (hl : l.length <= 1000)
 (hP : ∀ (k : Nat) (hk : k < l.length) (V : World), Below w.heap.size w V -> Calls Tryz.prog 188 #[.agg #[.string l[k].1, .string l[k].2], .pointer (some ⟨k0, 0, none⟩)] V (GivesV (.bool (p l[k])) V)) :
 Calls Tryz.prog 131 #[.slice Ak l.length ck, .func (.func 188) #[] #[.pointer (some ⟨k0, 0, none⟩)]] w fun e w' => e = .returned (.int .i64 (fst1 p l)) /\ Below w.heap.size w w' := by
 have HP := Lib.hid hP
 have HI := Lib.hid hI
 clear hP hI
 obtain ⟨n, hnn⟩ : ∃ n, l.length = n := ⟨_, rfl⟩
 have HNN := Lib.hid hnn
 obtain ⟨R, hR⟩ : ∃ R, fst1 p l = R := ⟨_, rfl⟩
 have HR := Lib.hid hR
 rw [hR]
 rw [hnn] at hl ⊢
 clear hnn hR
 go_enter Tryz.func131, Tryz.ntmps131
 go_wp2
 go_loopw [8] (fun q wr => ∃ k : Nat, k <= n /\ q = .int .i64 k /\ Hid ((l.take k).any p = false) /\ Hid (Below w.heap.size w wr)) (fun q _ => n - (intOf q).toNat)
 case atStart => exact ⟨0, Nat.zero_le _, rfl, Lib.hid rfl, Lib.hid (Below.refl _ _)⟩
 case round =>
  obtain ⟨k, hk, rfl, HT, HB⟩ := hrel
  by_cases hlt : k < n
  · have k0 : (0 : Int) <= (k : Int) := by omega
    have k1 : (k : Int) < (n : Int) := by omega
    have hkl : k < l.length := by rw [HNN.out]; exact hlt
    obtain ⟨ga, oa, rfl, hga, hc, hd⟩ := (HI.out.below HB.out) k hkl
    rw [getD_at default hkl] at hc hd
    have HK := Lib.hid (HP.out k hkl wr HB.out)
    have HT2 := Lib.hid (any_more hkl HT.out)
    have HH : Hid (p l[k] = true -> R = (k : Int)) := Lib.hid (fun h => by rw [<- HR.out]; exact fst1_hit hkl HT.out h)
    generalize l[k] = y at *
    obtain ⟨ya, yb⟩ := y
    simp only [] at hc hd HK HT2 HH
    go_wp2_with fail
    refine HK.out.mono ?_
    rintro e w1 ⟨rfl, hb⟩
    have HB1 := Lib.hid (HB.out.trans (hb.mono HB.out.size))
    clear hb
    generalize HY : p _ = Y at *
    clear HY
    cases Y with
    | true =>
      have HA := Lib.hid (HH.out rfl)
      go_wp2
      go_ret
      exact ⟨by rw [HA.out]; rfl, HB1.out⟩
    | false =>
      go_wp2
      go_roundw
      case rel => exact ⟨k + 1, by omega, by go_num, HT2, HB1⟩
      case measure => simp [intOf] <;> omega
  · obtain rfl : k = n := by omega
    have e : l.take k = l := List.take_of_length_le (by rw [HNN.out]; exact Nat.le_refl _)
    rw [e] at HT
    have HA : Hid (R = -1) := Lib.hid (by rw [<- HR.out]; exact fst1_miss HT.out)
    go_wp2
    go_ret
    exact ⟨by rw [HA.out]; rfl, HB.out⟩
set_option maxHeartbeats 1000000 in
theorem has_nm (p : At2 -> Bool) (k0 : Nat) (Ak : Option Addr) (l : List (At2)) (ck : Nat) (w : World) (hI : AR w Ak l) (hl : l.length <= 1000)
 (hP : ∀ (k : Nat) (hk : k < l.length) (V : World), Below w.heap.size w V -> Calls Tryz.prog 188 #[.agg #[.string l[k].1, .string l[k].2], .pointer (some ⟨k0, 0, none⟩)] V (GivesV (.bool (p l[k])) V)) :
 Calls Tryz.prog 104 #[.slice Ak l.length ck, .func (.func 188) #[] #[.pointer (some ⟨k0, 0, none⟩)]] w (GivesV (.bool (l.any p)) w) := by
 have HX := Lib.hid (idx_nm p k0 Ak l ck w hI hl hP)
 have HE := Lib.hid (fst1_neg (p := p) (l := l))
 generalize fst1 p l = j at *
 clear hI hP
 go_enter Tryz.func104, Tryz.ntmps104
 go_wp2_with fail
 refine HX.out.mono ?_
 rintro e w1 ⟨rfl, hb⟩
 have HB := Lib.hid hb
 clear hb
 go_wp2
 go_ret
 exact ⟨ret_bool (by rw [<- HE.out]), HB.out⟩
set_option maxHeartbeats 2000000 in
theorem idx_fit (p : Tr -> Bool) (k0 k1 : Nat) (Ak : Option Addr) (l : List (Tr)) (ck : Nat) (w : World) (hI : TR w Ak l) (hl : l.length <= 9223372036854775807)
 (hP : ∀ (k : Nat) (hk : k < l.length) (V : World), Below w.heap.size w V -> Calls Tryz.prog 170 #[tV l[k], .pointer (some ⟨k0, 0, none⟩), .pointer (some ⟨k1, 0, none⟩)] V (GivesV (.bool (p l[k])) V)) :
 Calls Tryz.prog 190 #[.slice Ak l.length ck, .func (.func 170) #[] #[.pointer (some ⟨k0, 0, none⟩), .pointer (some ⟨k1, 0, none⟩)]] w fun e w' => e = .returned (.int .i64 (fst1 p l)) /\ Below w.heap.size w w' := by
 have HP := Lib.hid hP
 have HI := Lib.hid hI
 clear hP hI
 obtain ⟨n, hnn⟩ : ∃ n, l.length = n := ⟨_, rfl⟩
 have HNN := Lib.hid hnn
 obtain ⟨R, hR⟩ : ∃ R, fst1 p l = R := ⟨_, rfl⟩
 have HR := Lib.hid hR
 rw [hR]
 rw [hnn] at hl ⊢
 clear hnn hR
 go_enter Tryz.func190, Tryz.ntmps190
 go_wp2
 go_loopw [8] (fun q wr => ∃ k : Nat, k <= n /\ q = .int .i64 k /\ Hid ((l.take k).any p = false) /\ Hid (Below w.heap.size w wr)) (fun q _ => n - (intOf q).toNat)
 case atStart => exact ⟨0, Nat.zero_le _, rfl, Lib.hid rfl, Lib.hid (Below.refl _ _)⟩
 case round =>
  obtain ⟨k, hk, rfl, HT, HB⟩ := hrel
  by_cases hlt : k < n
  · have k0 : (0 : Int) <= (k : Int) := by omega
    have k1 : (k : Int) < (n : Int) := by omega
    have hkl : k < l.length := by rw [HNN.out]; exact hlt
    obtain ⟨ga, oa, rfl, hga, hc, hd, he⟩ := (HI.out.below HB.out) k l[k] (List.getElem?_eq_getElem hkl)
    have HK := Lib.hid (HP.out k hkl wr HB.out)
    have HT2 := Lib.hid (any_more hkl HT.out)
    have HH : Hid (p l[k] = true -> R = (k : Int)) := Lib.hid (fun h => by rw [<- HR.out]; exact fst1_hit hkl HT.out h)
    generalize l[k] = y at *
    obtain ⟨ya, yb, yc⟩ := y
    unfold tV at HK
    simp only [] at hc hd he HK HT2 HH
    go_wp2_with fail
    refine HK.out.mono ?_
    rintro e w1 ⟨rfl, hb⟩
    have HB1 := Lib.hid (HB.out.trans (hb.mono HB.out.size))
    clear hb
    generalize HY : p _ = Y at *
    clear HY
    cases Y with
    | true =>
      have HA := Lib.hid (HH.out rfl)
      go_wp2
      go_ret
      exact ⟨by rw [HA.out]; rfl, HB1.out⟩
    | false =>
      go_wp2
      go_roundw
      case rel => exact ⟨k + 1, by omega, by go_num, HT2, HB1⟩
      case measure => simp [intOf] <;> omega
  · obtain rfl : k = n := by omega
    have e : l.take k = l := List.take_of_length_le (by rw [HNN.out]; exact Nat.le_refl _)
    rw [e] at HT
    have HA : Hid (R = -1) := Lib.hid (by rw [<- HR.out]; exact fst1_miss HT.out)
    go_wp2
    go_ret
    exact ⟨by rw [HA.out]; rfl, HB.out⟩
set_option maxHeartbeats 1000000 in
theorem has_fit (p : Tr -> Bool) (k0 k1 : Nat) (Ak : Option Addr) (l : List (Tr)) (ck : Nat) (w : World) (hI : TR w Ak l) (hl : l.length <= 9223372036854775807)
 (hP : ∀ (k : Nat) (hk : k < l.length) (V : World), Below w.heap.size w V -> Calls Tryz.prog 170 #[tV l[k], .pointer (some ⟨k0, 0, none⟩), .pointer (some ⟨k1, 0, none⟩)] V (GivesV (.bool (p l[k])) V)) :
 Calls Tryz.prog 169 #[.slice Ak l.length ck, .func (.func 170) #[] #[.pointer (some ⟨k0, 0, none⟩), .pointer (some ⟨k1, 0, none⟩)]] w (GivesV (.bool (l.any p)) w) := by
 have HX := Lib.hid (idx_fit p k0 k1 Ak l ck w hI hl hP)
 have HE := Lib.hid (fst1_neg (p := p) (l := l))
 generalize fst1 p l = j at *
 clear hI hP
 go_enter Tryz.func169, Tryz.ntmps169
 go_wp2_with fail
 refine HX.out.mono ?_
 rintro e w1 ⟨rfl, hb⟩
 have HB := Lib.hid hb
 clear hb
 go_wp2
 go_ret
 exact ⟨ret_bool (by rw [<- HE.out]), HB.out⟩
set_option maxHeartbeats 2000000 in
theorem idx_row (p : Mr -> Bool) (k0 : Nat) (Ak : Option Addr) (l : List (Mr)) (ck : Nat) (w : World) (hI : XR w Ak l) (hl : l.length <= 9223372036854775807)
 (hP : ∀ (k : Nat) (hk : k < l.length) (V : World), Below w.heap.size w V -> Calls Tryz.prog 138 #[r1 l[k], .pointer (some ⟨k0, 0, none⟩)] V (GivesV (.bool (p l[k])) V)) :
 Calls Tryz.prog 147 #[.slice Ak l.length ck, .func (.func 138) #[] #[.pointer (some ⟨k0, 0, none⟩)]] w fun e w' => e = .returned (.int .i64 (fst1 p l)) /\ Below w.heap.size w w' := by
 have HP := Lib.hid hP
 have HI := Lib.hid hI
 clear hP hI
 obtain ⟨n, hnn⟩ : ∃ n, l.length = n := ⟨_, rfl⟩
 have HNN := Lib.hid hnn
 obtain ⟨R, hR⟩ : ∃ R, fst1 p l = R := ⟨_, rfl⟩
 have HR := Lib.hid hR
 rw [hR]
 rw [hnn] at hl ⊢
 clear hnn hR
 go_enter Tryz.func147, Tryz.ntmps147
 go_wp2
 go_loopw [8] (fun q wr => ∃ k : Nat, k <= n /\ q = .int .i64 k /\ Hid ((l.take k).any p = false) /\ Hid (Below w.heap.size w wr)) (fun q _ => n - (intOf q).toNat)
 case atStart => exact ⟨0, Nat.zero_le _, rfl, Lib.hid rfl, Lib.hid (Below.refl _ _)⟩
 case round =>
  obtain ⟨k, hk, rfl, HT, HB⟩ := hrel
  by_cases hlt : k < n
  · have k0 : (0 : Int) <= (k : Int) := by omega
    have k1 : (k : Int) < (n : Int) := by omega
    have hkl : k < l.length := by rw [HNN.out]; exact hlt
    obtain ⟨ga, oa, rfl, hga, hc, -⟩ := (HI.out.below HB.out) k l[k] (List.getElem?_eq_getElem hkl)
    have HK := Lib.hid (HP.out k hkl wr HB.out)
    have HT2 := Lib.hid (any_more hkl HT.out)
    have HH : Hid (p l[k] = true -> R = (k : Int)) := Lib.hid (fun h => by rw [<- HR.out]; exact fst1_hit hkl HT.out h)
    generalize l[k] = y at *
    unfold r1 at *
    go_wp2_with fail
    refine HK.out.mono ?_
    rintro e w1 ⟨rfl, hb⟩
    have HB1 := Lib.hid (HB.out.trans (hb.mono HB.out.size))
    clear hb
    generalize HY : p _ = Y at *
    clear HY
    cases Y with
    | true =>
      have HA := Lib.hid (HH.out rfl)
      go_wp2
      go_ret
      exact ⟨by rw [HA.out]; rfl, HB1.out⟩
    | false =>
      go_wp2
      go_roundw
      case rel => exact ⟨k + 1, by omega, by go_num, HT2, HB1⟩
      case measure => simp [intOf] <;> omega
  · obtain rfl : k = n := by omega
    have e : l.take k = l := List.take_of_length_le (by rw [HNN.out]; exact Nat.le_refl _)
    rw [e] at HT
    have HA : Hid (R = -1) := Lib.hid (by rw [<- HR.out]; exact fst1_miss HT.out)
    go_wp2
    go_ret
    exact ⟨by rw [HA.out]; rfl, HB.out⟩
set_option maxHeartbeats 1000000 in
theorem has_row (p : Mr -> Bool) (k0 : Nat) (Ak : Option Addr) (l : List (Mr)) (ck : Nat) (w : World) (hI : XR w Ak l) (hl : l.length <= 9223372036854775807)
 (hP : ∀ (k : Nat) (hk : k < l.length) (V : World), Below w.heap.size w V -> Calls Tryz.prog 138 #[r1 l[k], .pointer (some ⟨k0, 0, none⟩)] V (GivesV (.bool (p l[k])) V)) :
 Calls Tryz.prog 137 #[.slice Ak l.length ck, .func (.func 138) #[] #[.pointer (some ⟨k0, 0, none⟩)]] w (GivesV (.bool (l.any p)) w) := by
 have HX := Lib.hid (idx_row p k0 Ak l ck w hI hl hP)
 have HE := Lib.hid (fst1_neg (p := p) (l := l))
 generalize fst1 p l = j at *
 clear hI hP
 go_enter Tryz.func137, Tryz.ntmps137
 go_wp2_with fail
 refine HX.out.mono ?_
 rintro e w1 ⟨rfl, hb⟩
 have HB := Lib.hid hb
 clear hb
 go_wp2
 go_ret
 exact ⟨ret_bool (by rw [<- HE.out]), HB.out⟩
set_option maxHeartbeats 2000000 in
theorem index_at (x : At2) (Ak : Option Addr) (l : List At2) (ck : Nat) (w : World) (hI : AR w Ak l) (hl : l.length <= 1000) :
 Calls Tryz.prog 194 #[.slice Ak l.length ck, .agg #[.string x.1, .string x.2]] w fun e w' => e = .returned (.int .i64 (fst1 (fun a => decide (a = x)) l)) /\ Below w.heap.size w w' := by
 have HI := Lib.hid hI
 clear hI
 obtain ⟨n, hnn⟩ : ∃ n, l.length = n := ⟨_, rfl⟩
 have HNN := Lib.hid hnn
 obtain ⟨p, hp⟩ : ∃ p : At2 -> Bool, p = fun a => decide (a = x) := ⟨_, rfl⟩
 have HPp := Lib.hid hp
 rw [<- hp]
 obtain ⟨R, hR⟩ : ∃ R, fst1 p l = R := ⟨_, rfl⟩
 have HR := Lib.hid hR
 rw [hR]
 rw [hnn] at hl ⊢
 clear hnn hR hp
 obtain ⟨xa, xb⟩ := x
 simp only []
 obtain ⟨W, hW⟩ : ∃ W, W = w.alloc (.cells #[.string xa, .string xb] 112) := ⟨_, rfl⟩
 have HWb : Hid (Below w.heap.size w W) := Lib.hid (by rw [hW]; exact (Below.refl _ _).alloc (Nat.le_refl _) _)
 have HWk : Hid (W.heap[w.heap.size]? = some (.cells #[.string xa, .string xb] 112 (0, 0))) := Lib.hid (by rw [hW]; exact heap_alloc_new _ _)
 have HIW := Lib.hid (HI.out.below HWb.out)
 go_enter Tryz.func194, Tryz.ntmps194
 go_wp2_with fail
 rw [<- hW]
 clear hW
 go_loopw [8] (fun q wr => ∃ k : Nat, k <= n /\ q = .int .i64 k /\ Hid ((l.take k).any p = false) /\ Hid (Below W.heap.size W wr)) (fun q _ => n - (intOf q).toNat)
 case atStart => exact ⟨0, Nat.zero_le _, rfl, Lib.hid rfl, Lib.hid (Below.refl _ _)⟩
 case round =>
  obtain ⟨k, hk, rfl, HT, HB⟩ := hrel
  by_cases hlt : k < n
  · have k0 : (0 : Int) <= (k : Int) := by omega
    have k1 : (k : Int) < (n : Int) := by omega
    have hkl : k < l.length := by rw [HNN.out]; exact hlt
    obtain ⟨ga, oa, rfl, hga, hc, hd⟩ := (HIW.out.below HB.out) k hkl
    obtain ⟨x0, x1⟩ := block2 ((HB.out.block _ (lt_of_block HWk.out)).trans HWk.out)
    rw [getD_at default hkl] at hc hd
    have HT2 := Lib.hid (any_more hkl HT.out)
    have HH : Hid (p l[k] = true -> R = (k : Int)) := Lib.hid (fun h => by rw [<- HR.out]; exact fst1_hit hkl HT.out h)
    have HQ : Hid (decide ((xa, xb) = l[k]) = p l[k]) := Lib.hid (by rw [HPp.out, Bool.eq_iff_iff]; simp only [decide_eq_true_eq]; exact eq_comm)
    generalize p l[k] = Y at *
    generalize l[k] = y at *
    obtain ⟨ya, yb⟩ := y
    simp only [] at hc hd
    have hq := fun W => eq_at xa xb ya yb W
    rw [HQ.out] at hq
    cases Y with
    | true =>
      have HA := Lib.hid (HH.out rfl)
      go_upto_region 6 with fail
      go_quiet (fail)
      go_wp2
      go_ret
      exact ⟨by rw [HA.out]; rfl, HWb.out.trans ((below_drewF HB.out _).mono HWb.out.size)⟩
    | false =>
      go_upto_region 6 with fail
      go_quiet (fail)
      go_wp2
      go_roundw
      case rel => exact ⟨k + 1, by omega, by go_num, HT2, Lib.hid (below_drewF HB.out _)⟩
      case measure => simp [intOf] <;> omega
  · obtain rfl : k = n := by omega
    have e : l.take k = l := List.take_of_length_le (by rw [HNN.out]; exact Nat.le_refl _)
    rw [e] at HT
    have HA : Hid (R = -1) := Lib.hid (by rw [<- HR.out]; exact fst1_miss HT.out)
    go_wp2
    go_ret
    exact ⟨by rw [HA.out]; rfl, HWb.out.trans (HB.out.mono HWb.out.size)⟩
set_option maxHeartbeats 1000000 in
theorem contains_at (x : At2) (Ak : Option Addr) (l : List At2) (ck : Nat) (w : World) (hI : AR w Ak l) (hl : l.length <= 1000) :
 Calls Tryz.prog 183 #[.slice Ak l.length ck, .agg #[.string x.1, .string x.2]] w (GivesV (.bool (l.any fun a => decide (a = x))) w) := by
 have HX := Lib.hid (fun (V : World) (hb : Below w.heap.size w V) => index_at x Ak l ck V (hI.below hb) hl)
 have HE := Lib.hid (fst1_neg (p := fun a => decide (a = x)) (l := l))
 generalize fst1 (fun a => decide (a = x)) l = j at *
 generalize l.any (fun a => decide (a = x)) = R at *
 clear hI
 obtain ⟨xa, xb⟩ := x
 simp only [] at *
 obtain ⟨W, hW⟩ : ∃ W, W = w.alloc (.cells #[.string xa, .string xb] 112) := ⟨_, rfl⟩
 have HWb : Hid (Below w.heap.size w W) := Lib.hid (by rw [hW]; exact (Below.refl _ _).alloc (Nat.le_refl _) _)
 have HWk : Hid (W.heap[w.heap.size]? = some (.cells #[.string xa, .string xb] 112 (0, 0))) := Lib.hid (by rw [hW]; exact heap_alloc_new _ _)
 obtain ⟨x0, x1⟩ := block2 HWk.out
 go_enter Tryz.func183, Tryz.ntmps183
 go_upto_region 1 with fail
 rw [<- hW]
 clear hW
 go_wp2_with fail
 refine (HX.out W HWb.out).mono ?_
 rintro e w1 ⟨rfl, hb⟩
 have HB := Lib.hid (HWb.out.trans (hb.mono HWb.out.size))
 clear hb
 go_wp2
 go_ret
 exact ⟨ret_bool (by rw [<- HE.out]), HB.out⟩
end Go.Proofs.YtcndplnnighjkaaGreatDoor.Fi
namespace Go.Proofs.YtcndplnnighjkaaGreatDoor.Fi
open Go.ChangeShapes Go.WideShapes Go.ChangeAt Go.RowKit
open Sx (Tr Ms Mr TR MR XR tV r1)
set_option linter.unusedVariables false
set_option linter.unusedSimpArgs false
def ncel (m : Mn) : Obj := .cells #[.int .i64 m.kind, .string m.name, .string m.text, .slice m.aA m.attrs.length m.aC, .int .i64 m.parent, .slice m.kA m.kids.length m.kC] 55
def tcel (t : Tr) : Obj := .cells #[.int .i64 t.1, .string t.2.1, .string t.2.2] 171
def lay2 (w : World) (m : Mn) (t : Tr) : World := (w.alloc (ncel m)).alloc (tcel t)
theorem lay2_below (w : World) (m : Mn) (t : Tr) : Below w.heap.size w (lay2 w m t) := ((Below.refl _ _).alloc (Nat.le_refl _) _).alloc (by simp) _
theorem lay2_n (w : World) (m : Mn) (t : Tr) : (lay2 w m t).heap[w.heap.size]? = some (.cells #[.int .i64 m.kind, .string m.name, .string m.text, .slice m.aA m.attrs.length m.aC, .int .i64 m.parent, .slice m.kA m.kids.length m.kC] 55 (0, 0)) :=
 (Below.heap_alloc _ _ _ (by simp)).trans (heap_alloc_new w _)
theorem lay2_t (w : World) (m : Mn) (t : Tr) : (lay2 w m t).heap[w.heap.size + 1]? = some (.cells #[.int .i64 t.1, .string t.2.1, .string t.2.2] 171 (0, 0)) := by
 have := heap_alloc_new (w.alloc (ncel m)) (tcel t)
 rwa [World.size_alloc] at this
theorem block3f {w : World} {g : Nat} {x y z : Value} {t : TypeId} (h : w.heap[g]? = some (.cells #[x, y, z] t (0, 0))) : w.cell? ⟨g, 0, none⟩ = some x /\ w.cell? ⟨g, 1, none⟩ = some y /\ w.cell? ⟨g, 2, none⟩ = some z := by
 refine ⟨?_, ?_, ?_⟩ <;> simp [World.cell?, h]
set_option maxRecDepth 100000 in
set_option maxHeartbeats 1000000 in
theorem ask1 (m : Mn) (t : Tr) (w : World) (hm : m.name.size <= 100000) (ht : t.2.1.size <= 100000) : Calls Tryz.prog 180 #[nval m, tV t] w (GivesV (.bool ((Wx.fd m.name).toList == (Wx.fd t.2.1).toList)) w) := by
 have HW := Lib.hid (lay2_below w m t)
 obtain ⟨W, hW⟩ : ∃ W, W = lay2 w m t := ⟨_, rfl⟩
 have HC : Hid (∀ V, Below W.heap.size W V -> V.cell? ⟨w.heap.size, 1, none⟩ = some (.string m.name) /\ V.cell? ⟨w.heap.size + 1, 1, none⟩ = some (.string t.2.1)) := Lib.hid (fun V hb => by
  have h1 := lay2_n w m t
  have h2 := lay2_t w m t
  rw [<- hW] at h1 h2
  obtain ⟨-, a1, -⟩ := block6 ((hb.block _ (lt_of_block h1)).trans h1)
  obtain ⟨-, b1, -⟩ := block3f ((hb.block _ (lt_of_block h2)).trans h2)
  exact ⟨a1, b1⟩)
 have HF1 := Lib.hid (fun (V : World) => Wx.fold_any m.name V hm)
 have HF2 := Lib.hid (fun (V : World) => Wx.fold_any t.2.1 V ht)
 rw [<- hW] at HW
 unfold lay2 ncel tcel at hW
 obtain ⟨kd, nm0, tx, al, pa, kl, aA, aC, kA, kC⟩ := m
 obtain ⟨tk, tn, tv⟩ := t
 unfold nval tV
 simp only [] at *
 generalize Wx.fd nm0 = fa at *
 generalize Wx.fd tn = fb at *
 clear hm ht
 go_enter Tryz.func180, Tryz.ntmps180
 go_wp2_with fail
 rw [<- hW]
 clear hW
 go_region_held3 (fun V => V.cell? ⟨w.heap.size, 1, none⟩ = some (.string nm0) /\ V.cell? ⟨w.heap.size + 1, 1, none⟩ = some (.string tn))
  (first | with_reducible exact HC.out _ (Below.refl _ _) | with_reducible exact HC.out _ (Below.refl _ _).drew | with_reducible exact HC.out _ HB1.out | with_reducible exact HC.out _ HB2.out)
  (first
    | (have hx := HB1.out; clear hx; go_at_call 181; refine (HF2.out _).mono ?_; rintro e w2 ⟨rfl, hb⟩; have HB2 := Lib.hid (HB1.out.trans (hb.mono HB1.out.size)); clear hb)
    | (go_at_call 181; refine (HF1.out _).mono ?_; rintro e w1 ⟨rfl, hb⟩; have HB1 := Lib.hid ((Below.refl W.heap.size W).drew.trans (hb.mono (by simp))); clear hb))
 all_goals
  go_wp2
  go_ret
  exact ⟨rfl, HW.out.trans (HB2.out.mono HW.out.size)⟩
set_option maxRecDepth 100000 in
set_option maxHeartbeats 1000000 in
theorem ask2 (m : Mn) (t : Tr) (w : World) (hA : AR w m.aA m.attrs) (hl : m.attrs.length <= 1000) : Calls Tryz.prog 182 #[nval m, tV t] w (GivesV (.bool (m.attrs.any (fun a => decide (a = (idS, t.2.1))))) w) := by
 have HW := Lib.hid (lay2_below w m t)
 have h1 := lay2_n w m t
 have h2 := lay2_t w m t
 obtain ⟨W, hW⟩ : ∃ W, W = lay2 w m t := ⟨_, rfl⟩
 rw [<- hW] at HW h1 h2
 obtain ⟨a0, a1, a2, a3, a4, a5⟩ := block6 h1
 obtain ⟨b0, b1, b2⟩ := block3f h2
 have HX : Hid (Calls Tryz.prog 183 #[.slice m.aA m.attrs.length m.aC, .agg #[.string ⟨#[105, 100]⟩, .string t.2.1]] W (GivesV (.bool (m.attrs.any fun a => decide (a = (idS, t.2.1)))) W)) := Lib.hid (contains_at (idS, t.2.1) m.aA m.attrs m.aC W (hA.below HW.out) hl)
 unfold lay2 ncel tcel at hW
 obtain ⟨kd, nm0, tx, al, pa, kl, aA, aC, kA, kC⟩ := m
 obtain ⟨tk, tn, tv⟩ := t
 unfold nval tV
 simp only [] at *
 generalize al.any (fun a => decide (a = (idS, tn))) = R at *
 clear hA hl h1 h2
 go_enter Tryz.func182, Tryz.ntmps182
 go_upto_region 1 with fail
 rw [<- hW]
 clear hW
 go_wp2_with fail
 refine HX.out.mono ?_
 rintro e w1 ⟨rfl, hb⟩
 have HB := Lib.hid (HW.out.trans (hb.mono HW.out.size))
 clear hb
 go_wp2
 go_ret
 exact ⟨rfl, HB.out⟩
set_option maxRecDepth 100000 in
set_option maxHeartbeats 1000000 in
theorem ask5 (m : Mn) (t : Tr) (w : World) (hA : AR w m.aA m.attrs) (hl : m.attrs.length <= 1000) : Calls Tryz.prog 189 #[nval m, tV t] w (GivesV (.bool (m.attrs.any (fun a => decide (a = (t.2.1, t.2.2))))) w) := by
 have HW := Lib.hid (lay2_below w m t)
 have h1 := lay2_n w m t
 have h2 := lay2_t w m t
 obtain ⟨W, hW⟩ : ∃ W, W = lay2 w m t := ⟨_, rfl⟩
 rw [<- hW] at HW h1 h2
 obtain ⟨a0, a1, a2, a3, a4, a5⟩ := block6 h1
 obtain ⟨b0, b1, b2⟩ := block3f h2
 have HX : Hid (Calls Tryz.prog 183 #[.slice m.aA m.attrs.length m.aC, .agg #[.string t.2.1, .string t.2.2]] W (GivesV (.bool (m.attrs.any fun a => decide (a = (t.2.1, t.2.2)))) W)) := Lib.hid (contains_at (t.2.1, t.2.2) m.aA m.attrs m.aC W (hA.below HW.out) hl)
 unfold lay2 ncel tcel at hW
 obtain ⟨kd, nm0, tx, al, pa, kl, aA, aC, kA, kC⟩ := m
 obtain ⟨tk, tn, tv⟩ := t
 unfold nval tV
 simp only [] at *
 generalize al.any (fun a => decide (a = (tn, tv))) = R at *
 clear hA hl h1 h2
 go_enter Tryz.func189, Tryz.ntmps189
 go_upto_region 1 with fail
 rw [<- hW]
 clear hW
 go_wp2_with fail
 refine HX.out.mono ?_
 rintro e w1 ⟨rfl, hb⟩
 have HB := Lib.hid (HW.out.trans (hb.mono HW.out.size))
 clear hb
 go_wp2
 go_ret
 exact ⟨rfl, HB.out⟩
def TAt (w : World) (k : Nat) (t : Tr) : Prop := w.heap[k]? = some (.cells #[.int .i64 t.1, .string t.2.1, .string t.2.2] 171 (0, 0))
theorem TAt.below {w w' : World} {k : Nat} {t : Tr} (h : TAt w k t) (hb : Below w.heap.size w w') : TAt w' k t := (hb.block k (lt_of_block h)).trans h
set_option maxRecDepth 100000 in
set_option maxHeartbeats 1000000 in
theorem nm1 (k : Nat) (a : At2) (t : Tr) (w : World) (h : TAt w k t) : Calls Tryz.prog 188 #[.agg #[.string a.1, .string a.2], .pointer (some ⟨k, 0, none⟩)] w (GivesV (.bool (nmB t.2.1 a)) w) := by
 obtain ⟨x, y⟩ := a
 obtain ⟨W, hW⟩ : ∃ W, W = w.alloc (.cells #[.string x, .string y] 112) := ⟨_, rfl⟩
 have HWb : Hid (Below w.heap.size w W) := Lib.hid (by rw [hW]; exact (Below.refl _ _).alloc (Nat.le_refl _) _)
 have HWk : Hid (W.heap[w.heap.size]? = some (.cells #[.string x, .string y] 112 (0, 0))) := Lib.hid (by rw [hW]; exact heap_alloc_new _ _)
 obtain ⟨y0, y1⟩ := block2 HWk.out
 obtain ⟨x0, x1, x2⟩ := block3f (TAt.below h HWb.out)
 clear h
 simp only []
 go_enter Tryz.func188, Tryz.ntmps188
 go_upto_region 1 with fail
 rw [<- hW]
 clear hW
 go_wp2
 go_ret
 exact ⟨rfl, HWb.out⟩
set_option maxRecDepth 100000 in
set_option maxHeartbeats 1000000 in
theorem cl1 (k : Nat) (a : At2) (t : Tr) (w : World) (h : TAt w k t) (ha : a.2.size <= 100000) : Calls Tryz.prog 185 #[.agg #[.string a.1, .string a.2], .pointer (some ⟨k, 0, none⟩)] w (GivesV (.bool (clB t.2.1 a)) w) := by
 obtain ⟨x, y⟩ := a
 obtain ⟨W, hW⟩ : ∃ W, W = w.alloc (.cells #[.string x, .string y] 112) := ⟨_, rfl⟩
 have HWb : Hid (Below w.heap.size w W) := Lib.hid (by rw [hW]; exact (Below.refl _ _).alloc (Nat.le_refl _) _)
 have HWk : Hid (W.heap[w.heap.size]? = some (.cells #[.string x, .string y] 112 (0, 0))) := Lib.hid (by rw [hW]; exact heap_alloc_new _ _)
 obtain ⟨y0, y1⟩ := block2 HWk.out
 obtain ⟨x0, x1, x2⟩ := block3f (TAt.below h HWb.out)
 have HX := Lib.hid (fun (V : World) => Wx.has_any y t.2.1 V ha)
 have HE : Hid (clB t.2.1 (x, y) = ((x.toList == clS.toList) && decide (t.2.1.data.toList ∈ ws y))) := Lib.hid rfl
 generalize clB t.2.1 (x, y) = R at *
 generalize decide (t.2.1.data.toList ∈ ws y) = Q at *
 obtain ⟨tk, tn, tv⟩ := t
 clear h ha
 simp only [] at *
 by_cases hc : x = clS
 · have hq : (x.toList == [99, 108, 97, 115, 115]) = true := by rw [hc]; simp [clS]
   have HR : Hid (R = Q) := Lib.hid (by rw [HE.out, hc]; simp)
   clear hc
   go_enter Tryz.func185, Tryz.ntmps185
   go_upto_region 1 with fail
   rw [<- hW]
   clear hW
   go_wp2_with fail
   refine (HX.out _).mono ?_
   rintro e w5 ⟨rfl, hb⟩
   have HB1 := Lib.hid hb
   clear hb
   go_wp2
   go_ret
   exact ⟨ret_bool (by rw [HR.out]), HWb.out.trans (HB1.out.mono HWb.out.size)⟩
 · have hL : clS.toList = [99, 108, 97, 115, 115] := by simp [clS]
   have hq : (x.toList == [99, 108, 97, 115, 115]) = false := by
    rw [<- hL, Bool.eq_false_iff]
    intro e
    exact hc (toList_injA.1 (by simpa using e))
   have HR : Hid (R = false) := Lib.hid (by rw [HE.out, hL, hq]; rfl)
   clear hL
   clear hc
   go_enter Tryz.func185, Tryz.ntmps185
   go_upto_region 1 with fail
   rw [<- hW]
   clear hW
   go_wp2
   go_ret
   exact ⟨ret_bool (by rw [HR.out]), HWb.out⟩
set_option maxRecDepth 100000 in
set_option maxHeartbeats 1000000 in
theorem ask3 (m : Mn) (t : Tr) (w : World) (hA : AR w m.aA m.attrs) (hm : NB m) : Calls Tryz.prog 184 #[nval m, tV t] w (GivesV (.bool (m.attrs.any (clB t.2.1))) w) := by
 have HW := Lib.hid (lay2_below w m t)
 have h1 := lay2_n w m t
 have h2 := lay2_t w m t
 obtain ⟨W, hW⟩ : ∃ W, W = lay2 w m t := ⟨_, rfl⟩
 rw [<- hW] at HW h1 h2
 obtain ⟨a0, a1, a2, a3, a4, a5⟩ := block6 h1
 have HX := Lib.hid (has_cl (clB t.2.1) (w.heap.size + 1) m.aA m.attrs m.aC W (hA.below HW.out) hm.attrs (fun k hk V hb => cl1 (w.heap.size + 1) m.attrs[k] t V (TAt.below h2 hb) (hm.vals _ (List.getElem_mem hk))))
 unfold lay2 ncel tcel at hW
 obtain ⟨kd, nm0, tx, al, pa, kl, aA, aC, kA, kC⟩ := m
 obtain ⟨tk, tn, tv⟩ := t
 unfold nval tV
 simp only [] at *
 generalize al.any (clB tn) = R at *
 clear hA hm h1 h2
 go_enter Tryz.func184, Tryz.ntmps184
 go_upto_region 1 with fail
 rw [<- hW]
 clear hW
 go_wp2_with fail
 refine HX.out.mono ?_
 rintro e w1 ⟨rfl, hb⟩
 have HB := Lib.hid (HW.out.trans (hb.mono HW.out.size))
 clear hb
 go_wp2
 go_ret
 exact ⟨rfl, HB.out⟩
set_option maxRecDepth 100000 in
set_option maxHeartbeats 1000000 in
theorem ask4 (m : Mn) (t : Tr) (w : World) (hA : AR w m.aA m.attrs) (hm : NB m) : Calls Tryz.prog 187 #[nval m, tV t] w (GivesV (.bool (m.attrs.any (nmB t.2.1))) w) := by
 have HW := Lib.hid (lay2_below w m t)
 have h1 := lay2_n w m t
 have h2 := lay2_t w m t
 obtain ⟨W, hW⟩ : ∃ W, W = lay2 w m t := ⟨_, rfl⟩
 rw [<- hW] at HW h1 h2
 obtain ⟨a0, a1, a2, a3, a4, a5⟩ := block6 h1
 have HX := Lib.hid (has_nm (nmB t.2.1) (w.heap.size + 1) m.aA m.attrs m.aC W (hA.below HW.out) hm.attrs (fun k hk V hb => nm1 (w.heap.size + 1) m.attrs[k] t V (TAt.below h2 hb)))
 unfold lay2 ncel tcel at hW
 obtain ⟨kd, nm0, tx, al, pa, kl, aA, aC, kA, kC⟩ := m
 obtain ⟨tk, tn, tv⟩ := t
 unfold nval tV
 simp only [] at *
 generalize al.any (nmB tn) = R at *
 clear hA hm h1 h2
 go_enter Tryz.func187, Tryz.ntmps187
 go_upto_region 1 with fail
 rw [<- hW]
 clear hW
 go_wp2_with fail
 refine HX.out.mono ?_
 rintro e w1 ⟨rfl, hb⟩
 have HB := Lib.hid (HW.out.trans (hb.mono HW.out.size))
 clear hb
 go_wp2
 go_ret
 exact ⟨rfl, HB.out⟩
end Go.Proofs.YtcndplnnighjkaaGreatDoor.Fi
namespace Go.Proofs.YtcndplnnighjkaaGreatDoor.Fi
open Go.ChangeShapes Go.WideShapes Go.ChangeAt Go.RowKit
open Sx (Tr Ms Mr TR MR XR tV r1)
set_option linter.unusedVariables false
set_option linter.unusedSimpArgs false
def known : Array Value := #[.nilFunc, .func (.func 180) #[] #[], .func (.func 182) #[] #[], .func (.func 184) #[] #[], .func (.func 187) #[] #[], .func (.func 189) #[] #[]]
theorem known_cells {w : World} {g : Nat} {t : TypeId} (h : w.heap[g]? = some (.cells known t (0, 0))) : w.cell? ⟨g, 0, none⟩ = some .nilFunc /\ w.cell? ⟨g, 1, none⟩ = some (.func (.func 180) #[] #[]) /\ w.cell? ⟨g, 2, none⟩ = some (.func (.func 182) #[] #[]) /\ w.cell? ⟨g, 3, none⟩ = some (.func (.func 184) #[] #[]) /\ w.cell? ⟨g, 4, none⟩ = some (.func (.func 187) #[] #[]) /\ w.cell? ⟨g, 5, none⟩ = some (.func (.func 189) #[] #[]) := by
 unfold known at h
 refine ⟨?_, ?_, ?_, ?_, ?_, ?_⟩ <;> simp [World.cell?, h]
set_option maxHeartbeats 1000000 in
theorem asks_any (w : World) : Calls Tryz.prog 168 #[] w (GivesV (.agg known) w) := by
 have h := heap_alloc_new w (.cells known 179)
 obtain ⟨W, hW⟩ : ∃ W, W = w.alloc (.cells known 179) := ⟨_, rfl⟩
 have HB : Hid (Below w.heap.size w W) := Lib.hid (by rw [hW]; exact (Below.refl _ _).alloc (Nat.le_refl _) _)
 rw [<- hW] at h
 obtain ⟨a0, a1, a2, a3, a4, a5⟩ := known_cells h
 unfold known at hW ⊢
 clear h
 go_enter Tryz.func168, Tryz.ntmps168
 go_wp2_with fail
 rw [<- hW]
 clear hW
 refine bodyPost_ret (v := .agg #[.nilFunc, .func (.func 180) #[] #[], .func (.func 182) #[] #[], .func (.func 184) #[] #[], .func (.func 187) #[] #[], .func (.func 189) #[] #[]]) (by simp [results, Tryz.results168, go_sem, a0, a1, a2, a3, a4, a5]) rfl ⟨rfl, HB.out⟩
def NAt (w : World) (k : Nat) (m : Mn) : Prop := w.heap[k]? = some (.cells #[.int .i64 m.kind, .string m.name, .string m.text, .slice m.aA m.attrs.length m.aC, .int .i64 m.parent, .slice m.kA m.kids.length m.kC] 55 (0, 0))
theorem NAt.below {w w' : World} {k : Nat} {m : Mn} (h : NAt w k m) (hb : Below w.heap.size w w') : NAt w' k m := (hb.block k (lt_of_block h)).trans h
def KAt (w : World) (k : Nat) : Prop := w.heap[k]? = some (.cells known 179 (0, 0))
theorem KAt.below {w w' : World} {k : Nat} (h : KAt w k) (hb : Below w.heap.size w w') : KAt w' k := (hb.block k (lt_of_block h)).trans h
set_option maxRecDepth 100000 in
set_option maxHeartbeats 2000000 in
theorem fit1 (k0 k1 : Nat) (m : Mn) (t : Tr) (w : World) (hk : KAt w k0) (hn : NAt w k1 m) (hA : AR w m.aA m.attrs) (hm : NB m) (ht : t.2.1.size <= 100000) :
 Calls Tryz.prog 170 #[tV t, .pointer (some ⟨k0, 0, none⟩), .pointer (some ⟨k1, 0, none⟩)] w (GivesV (.bool (!soB m t)) w) := by
 obtain ⟨W, hW⟩ : ∃ W, W = w.alloc (tcel t) := ⟨_, rfl⟩
 have HWb : Hid (Below w.heap.size w W) := Lib.hid (by rw [hW]; exact (Below.refl _ _).alloc (Nat.le_refl _) _)
 have hWk : W.heap[w.heap.size]? = some (.cells #[.int .i64 t.1, .string t.2.1, .string t.2.2] 171 (0, 0)) := by rw [hW]; exact heap_alloc_new _ _
 obtain ⟨b0, b1, b2⟩ := block3f hWk
 obtain ⟨a0, a1, a2, a3, a4, a5⟩ := block6 (NAt.below hn HWb.out)
 obtain ⟨c0, c1, c2, c3, c4, c5⟩ := known_cells (KAt.below hk HWb.out)
 have H1 := Lib.hid (fun (V : World) (hb : Below W.heap.size W V) => ask1 m t V hm.name ht)
 have H2 := Lib.hid (fun (V : World) (hb : Below W.heap.size W V) => ask2 m t V ((hA.below HWb.out).below hb) hm.attrs)
 have H3 := Lib.hid (fun (V : World) (hb : Below W.heap.size W V) => ask3 m t V ((hA.below HWb.out).below hb) hm)
 have H4 := Lib.hid (fun (V : World) (hb : Below W.heap.size W V) => ask4 m t V ((hA.below HWb.out).below hb) hm)
 have H5 := Lib.hid (fun (V : World) (hb : Below W.heap.size W V) => ask5 m t V ((hA.below HWb.out).below hb) hm.attrs)
 have HE : Hid (soB m t = if t.1 = 1 then (Wx.fd m.name).toList == (Wx.fd t.2.1).toList else if t.1 = 2 then m.attrs.any (fun a => decide (a = (idS, t.2.1))) else if t.1 = 3 then m.attrs.any (clB t.2.1) else if t.1 = 4 then m.attrs.any (nmB t.2.1) else if t.1 = 5 then m.attrs.any (fun a => decide (a = (t.2.1, t.2.2))) else false) := Lib.hid rfl
 unfold tcel at hW
 generalize soB m t = R at *
 obtain ⟨tk, tn, tv⟩ := t
 obtain ⟨kd, nm0, tx, al, pa, kl, aA, aC, kA, kC⟩ := m
 unfold nval tV at *
 simp only [] at *
 generalize ((Wx.fd nm0).toList == (Wx.fd tn).toList) = R1 at *
 generalize al.any (fun a => decide (a = (idS, tn))) = R2 at *
 generalize al.any (clB tn) = R3 at *
 generalize al.any (nmB tn) = R4 at *
 generalize al.any (fun a => decide (a = (tn, tv))) = R5 at *
 clear hk hn hA hm ht hWk
 by_cases h0 : tk < 1
 · have HR : Hid (R = false) := Lib.hid (by rw [HE.out, if_neg (by omega), if_neg (by omega), if_neg (by omega), if_neg (by omega), if_neg (by omega)])
   have q0 : decide (tk < 1) = true := by simpa using h0
   go_enter Tryz.func170, Tryz.ntmps170
   go_upto_region 1 with fail
   rw [<- hW]
   clear hW HE h0
   go_quiet (fail)
   go_wp2
   go_ret
   exact ⟨ret_bool (by rw [HR.out]; rfl), below_drewF HWb.out _⟩
 by_cases h6 : 5 < tk
 · have HR : Hid (R = false) := Lib.hid (by rw [HE.out, if_neg (by omega), if_neg (by omega), if_neg (by omega), if_neg (by omega), if_neg (by omega)])
   have q0 : decide (tk < 1) = false := by simpa using h0
   have q1 : decide (5 < tk) = true := by simpa using h6
   go_enter Tryz.func170, Tryz.ntmps170
   go_upto_region 1 with fail
   rw [<- hW]
   clear hW HE h0 h6
   go_quiet (fail)
   go_wp2
   go_ret
   exact ⟨ret_bool (by rw [HR.out]; rfl), below_drewF HWb.out _⟩
 have hcase : tk = 1 \/ tk = 2 \/ tk = 3 \/ tk = 4 \/ tk = 5 := by omega
 clear h0 h6
 rcases hcase with rfl | rfl | rfl | rfl | rfl
 · have HR : Hid (R = R1) := Lib.hid (by rw [HE.out]; rfl)
   go_enter Tryz.func170, Tryz.ntmps170
   go_upto_region 1 with fail
   rw [<- hW]
   clear hW HE
   go_still_tail 15, (by kernel_rfl)
   change wpList _ _ _ _ _ W.drew
   go_wp2_with fail
   refine (H1.out _ (Below.refl _ _).drew).mono ?_
   rintro e w1 ⟨rfl, hb⟩
   have HB := Lib.hid (HWb.out.trans (((Below.refl W.heap.size W).drew.trans (hb.mono (by simp))).mono HWb.out.size))
   clear hb
   go_wp2
   go_ret
   exact ⟨ret_bool (by rw [HR.out]), HB.out⟩
 · have HR : Hid (R = R2) := Lib.hid (by rw [HE.out]; rfl)
   go_enter Tryz.func170, Tryz.ntmps170
   go_upto_region 1 with fail
   rw [<- hW]
   clear hW HE
   go_still_tail 15, (by kernel_rfl)
   change wpList _ _ _ _ _ W.drew
   go_wp2_with fail
   refine (H2.out _ (Below.refl _ _).drew).mono ?_
   rintro e w1 ⟨rfl, hb⟩
   have HB := Lib.hid (HWb.out.trans (((Below.refl W.heap.size W).drew.trans (hb.mono (by simp))).mono HWb.out.size))
   clear hb
   go_wp2
   go_ret
   exact ⟨ret_bool (by rw [HR.out]), HB.out⟩
 · have HR : Hid (R = R3) := Lib.hid (by rw [HE.out]; rfl)
   go_enter Tryz.func170, Tryz.ntmps170
   go_upto_region 1 with fail
   rw [<- hW]
   clear hW HE
   go_still_tail 15, (by kernel_rfl)
   change wpList _ _ _ _ _ W.drew
   go_wp2_with fail
   refine (H3.out _ (Below.refl _ _).drew).mono ?_
   rintro e w1 ⟨rfl, hb⟩
   have HB := Lib.hid (HWb.out.trans (((Below.refl W.heap.size W).drew.trans (hb.mono (by simp))).mono HWb.out.size))
   clear hb
   go_wp2
   go_ret
   exact ⟨ret_bool (by rw [HR.out]), HB.out⟩
 · have HR : Hid (R = R4) := Lib.hid (by rw [HE.out]; rfl)
   go_enter Tryz.func170, Tryz.ntmps170
   go_upto_region 1 with fail
   rw [<- hW]
   clear hW HE
   go_still_tail 15, (by kernel_rfl)
   change wpList _ _ _ _ _ W.drew
   go_wp2_with fail
   refine (H4.out _ (Below.refl _ _).drew).mono ?_
   rintro e w1 ⟨rfl, hb⟩
   have HB := Lib.hid (HWb.out.trans (((Below.refl W.heap.size W).drew.trans (hb.mono (by simp))).mono HWb.out.size))
   clear hb
   go_wp2
   go_ret
   exact ⟨ret_bool (by rw [HR.out]), HB.out⟩
 · have HR : Hid (R = R5) := Lib.hid (by rw [HE.out]; rfl)
   go_enter Tryz.func170, Tryz.ntmps170
   go_upto_region 1 with fail
   rw [<- hW]
   clear hW HE
   go_still_tail 15, (by kernel_rfl)
   change wpList _ _ _ _ _ W.drew
   go_wp2_with fail
   refine (H5.out _ (Below.refl _ _).drew).mono ?_
   rintro e w1 ⟨rfl, hb⟩
   have HB := Lib.hid (HWb.out.trans (((Below.refl W.heap.size W).drew.trans (hb.mono (by simp))).mono HWb.out.size))
   clear hb
   go_wp2
   go_ret
   exact ⟨ret_bool (by rw [HR.out]), HB.out⟩
set_option maxRecDepth 100000 in
set_option maxHeartbeats 2000000 in
theorem fits_any (m : Mn) (A : Option Addr) (T : List Tr) (c : Nat) (w : World) (hA : AR w m.aA m.attrs) (hm : NB m) (hT : TR w A T) (ht : ∀ t ∈ T, t.2.1.size <= 100000) (hl : T.length <= 9223372036854775807) :
 Calls Tryz.prog 158 #[nval m, .slice A T.length c] w (GivesV (.bool (fitsB m T)) w) := by
 obtain ⟨W, hW⟩ : ∃ W, W = w.alloc (ncel m) := ⟨_, rfl⟩
 have HWb : Hid (Below w.heap.size w W) := Lib.hid (by rw [hW]; exact (Below.refl _ _).alloc (Nat.le_refl _) _)
 have HWk : Hid (NAt W w.heap.size m) := Lib.hid (by rw [hW]; exact heap_alloc_new _ _)
 have HX := Lib.hid (fun (V : World) (k0 : Nat) (hb : Below W.heap.size W V) (hk : KAt V k0) => has_fit (fun t => !soB m t) k0 w.heap.size A T c V (hT.below (HWb.out.trans (hb.mono HWb.out.size))) hl (fun k hk' U hU => fit1 k0 w.heap.size m T[k] U (hk.below hU) ((HWk.out.below hb).below hU) ((hA.below (HWb.out.trans (hb.mono HWb.out.size))).below hU) hm (ht _ (List.getElem_mem hk'))))
 have HE : Hid (fitsB m T = ((m.kind == 1) && !T.any (fun t => !soB m t))) := Lib.hid (by
  unfold fitsB
  congr 1
  rw [List.any_eq_not_all_not, Bool.not_not]
  congr 1
  funext t
  simp)
 unfold ncel at hW
 generalize fitsB m T = R at *
 generalize T.any (fun t => !soB m t) = Q at *
 obtain ⟨nT, hnT⟩ : ∃ nT, T.length = nT := ⟨_, rfl⟩
 rw [hnT] at HX ⊢
 clear hA hm hT ht hl hnT
 obtain ⟨a0, a1, a2, a3, a4, a5⟩ := block6 HWk.out
 obtain ⟨kd, nm0, tx, al, pa, kl, aA, aC, kA, kC⟩ := m
 unfold nval
 simp only [] at *
 by_cases hk : kd = 1
 · have q0 : (kd != 1) = false := by simpa using hk
   have HR : Hid (R = !Q) := Lib.hid (by rw [HE.out, hk]; rfl)
   have HAs := Lib.hid (asks_any W)
   unfold known at HAs
   clear hk HE
   go_enter Tryz.func158, Tryz.ntmps158
   go_upto_region 1 with fail
   rw [<- hW]
   clear hW
   go_wp2_with fail
   refine HAs.out.mono ?_
   rintro e w1 ⟨rfl, hb⟩
   have HB1 := Lib.hid hb
   have HB2 := Lib.hid (hb.alloc hb.size (.cells known 179))
   have HX2 := Lib.hid (HX.out _ _ HB2.out (heap_alloc_new w1 (.cells known 179)))
   unfold known at HX2 HB2
   clear hb
   go_wp2_with fail
   refine HX2.out.mono ?_
   rintro e w2 ⟨rfl, hb⟩
   have HB3 := Lib.hid (HWb.out.trans ((HB2.out.trans (hb.mono HB2.out.size)).mono HWb.out.size))
   clear hb
   go_wp2
   go_ret
   exact ⟨ret_bool (by rw [HR.out]), HB3.out⟩
 · have q0 : (kd != 1) = true := by simpa using hk
   have HR : Hid (R = false) := Lib.hid (by rw [HE.out, show (kd == 1) = false by simpa using hk]; rfl)
   clear hk HE
   go_enter Tryz.func158, Tryz.ntmps158
   go_upto_region 1 with fail
   rw [<- hW]
   clear hW
   go_wp2
   go_ret
   exact ⟨ret_bool (by rw [HR.out]), HWb.out⟩
end Go.Proofs.YtcndplnnighjkaaGreatDoor.Fi
