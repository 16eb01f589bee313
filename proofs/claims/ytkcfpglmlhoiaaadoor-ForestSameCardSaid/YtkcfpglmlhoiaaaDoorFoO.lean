/-
  The bound of the laws on forests.
-/
import Derived.Test.YtkcfpglmlhoiaaaDoorFoI
namespace Go.Proofs.YtkcfpglmlhoiaaaDoor
open Go.ChangeShapes Go.WideShapes Go.ChangeAt Go.RowKit
set_option linter.unusedVariables false
set_option linter.unusedSimpArgs false

def attBd (a : ByteArray × ByteArray) : Bool := decide (a.1.size ≤ 100) && decide (a.2.size ≤ 100)
def nodeBd (m : Mn) : Bool := (decide (m.name.size ≤ 100) && (decide (m.text.size ≤ 100) && (decide (m.attrs.length ≤ 12) && decide (m.kids.length ≤ 80)))) && m.attrs.all attBd
def bdB (F : List Mn) : Bool := F.all nodeBd && decide (F.length ≤ 70)
theorem all_take_succ {α : Type} {f : α → Bool} {l : List α} {k : Nat} (hk : k < l.length) (h : (l.take k).all f = true) : (l.take (k + 1)).all f = f l[k] := by
  rw [take_more hk, List.all_append, h]
  simp
theorem all_mem_no {α : Type} {f : α → Bool} {l : List α} {x : α} (hx : x ∈ l) (h : f x = false) : l.all f = false := List.all_eq_false.2 ⟨x, hx, by rw [h]; simp⟩
set_option maxRecDepth 100000 in
set_option maxHeartbeats 8000000 in
theorem bounded_any (A : Option Addr) (F : List Mn) (c : Nat) (w : World) (hF : FR w A F) (hn : F.length ≤ 9223372036854775807) :
    Calls Tryd.prog 4 #[.slice A F.length c] w fun e w' => e = .returned (.bool (bdB F)) ∧ w' = w := by
  have HF := Lib.hid hF
  have HE : Hid (bdB F = (F.all nodeBd && decide (F.length ≤ 70))) := Lib.hid rfl
  generalize bdB F = R at *
  obtain ⟨n, hnn⟩ : ∃ n, F.length = n := ⟨_, rfl⟩
  have HNN := Lib.hid hnn
  rw [hnn] at hn HE ⊢
  clear hF hnn
  go_enter Tryd.func4, Tryd.ntmps4
  go_wp2_with fail
  go_loopw [3] (fun q wr => ∃ j : Nat, j ≤ n ∧ q = .int .i64 j ∧ Hid ((F.take j).all nodeBd = true) ∧ w = wr) (fun q _ => n - (intOf q).toNat)
  case atStart => exact ⟨0, Nat.zero_le _, rfl, Lib.hid rfl, rfl⟩
  case round =>
    obtain ⟨j, hj, rfl, HT, rfl⟩ := hrel
    by_cases hlt : j < n
    · have k0 : (0 : Int) ≤ (j : Int) := by omega
      have k1 : (j : Int) < (n : Int) := by omega
      have hjF : j < F.length := by rw [HNN.out]; exact hlt
      obtain ⟨hfj, g, off, rfl, hg, hnd⟩ := HF.out j F[j] (List.getElem?_eq_getElem hjF)
      have HT2 := Lib.hid (all_take_succ hjF HT.out)
      have HNo : Hid (nodeBd F[j] = false → R = false) := Lib.hid (fun h => by rw [HE.out, all_mem_no (List.getElem_mem hjF) h]; rfl)
      have HNB : Hid (nodeBd F[j] = ((decide (F[j].name.size ≤ 100) && (decide (F[j].text.size ≤ 100) && (decide (F[j].attrs.length ≤ 12) && decide (F[j].kids.length ≤ 80)))) && F[j].attrs.all attBd)) := Lib.hid rfl
      have HAr := Lib.hid hnd.ar
      have c1 := hnd.c1
      have c2 := hnd.c2
      have c3 := hnd.c3
      have c5 := hnd.c5
      clear hnd hfj
      generalize nodeBd F[j] = NB at *
      generalize F[j] = m at *
      by_cases h1 : 100 < m.name.size
      · have h1' : (100 : Int) < (m.name.size : Int) := by omega
        have HR := Lib.hid (HNo.out (by rw [HNB.out, decide_eq_false (by omega)]; rfl))
        go_wp2
        go_ret
        exact ⟨ret_bool HR.out.symm, rfl⟩
      have h1' : ¬ (100 : Int) < (m.name.size : Int) := by omega
      by_cases h2 : 100 < m.text.size
      · have h2' : (100 : Int) < (m.text.size : Int) := by omega
        have HR := Lib.hid (HNo.out (by rw [HNB.out, decide_eq_false (show ¬ m.text.size ≤ 100 by omega)]; simp))
        go_wp2
        go_ret
        exact ⟨ret_bool HR.out.symm, rfl⟩
      have h2' : ¬ (100 : Int) < (m.text.size : Int) := by omega
      by_cases h3 : 12 < m.attrs.length
      · have h3' : (12 : Int) < (m.attrs.length : Int) := by omega
        have HR := Lib.hid (HNo.out (by rw [HNB.out, decide_eq_false (show ¬ m.attrs.length ≤ 12 by omega)]; simp))
        go_wp2
        go_ret
        exact ⟨ret_bool HR.out.symm, rfl⟩
      have h3' : ¬ (12 : Int) < (m.attrs.length : Int) := by omega
      by_cases h4 : 80 < m.kids.length
      · have h4' : (80 : Int) < (m.kids.length : Int) := by omega
        have HR := Lib.hid (HNo.out (by rw [HNB.out, decide_eq_false (show ¬ m.kids.length ≤ 80 by omega)]; simp))
        go_wp2
        go_ret
        exact ⟨ret_bool HR.out.symm, rfl⟩
      have h4' : ¬ (80 : Int) < (m.kids.length : Int) := by omega
      have HNB2 : Hid (NB = m.attrs.all attBd) := Lib.hid (by
        rw [HNB.out, decide_eq_true (show m.name.size ≤ 100 by omega), decide_eq_true (show m.text.size ≤ 100 by omega), decide_eq_true (show m.attrs.length ≤ 12 by omega), decide_eq_true (show m.kids.length ≤ 80 by omega)]
        simp)
      clear HNB
      obtain ⟨al, hal⟩ : ∃ al, m.attrs.length = al := ⟨_, rfl⟩
      have HAL := Lib.hid hal
      rw [hal] at c3 h3'
      clear hal h3
      go_wp2_with fail
      go_loopw [4] (fun q wx => ∃ i : Nat, i ≤ al ∧ q = .int .i64 i ∧ Hid ((m.attrs.take i).all attBd = true) ∧ w = wx) (fun q _ => al - (intOf q).toNat)
      case atStart => exact ⟨0, Nat.zero_le _, rfl, Lib.hid rfl, rfl⟩
      case round =>
        obtain ⟨i, hi, rfl, HTa, rfl⟩ := hrel
        by_cases hil : i < al
        · have i0 : (0 : Int) ≤ (i : Int) := by omega
          have i1 : (i : Int) < (al : Int) := by omega
          have hiF : i < m.attrs.length := by rw [HAL.out]; exact hil
          obtain ⟨ga, oa, hAA, hga, hca, hcb⟩ := HAr.out i hiF
          have HTa2 := Lib.hid (all_take_succ hiF HTa.out)
          have HNa : Hid (attBd m.attrs[i] = false → R = false) := Lib.hid (fun h => HNo.out (by rw [HNB2.out, all_mem_no (List.getElem_mem hiF) h]))
          have HAB : Hid (attBd m.attrs[i] = (decide (m.attrs[i].1.size ≤ 100) && decide (m.attrs[i].2.size ≤ 100))) := Lib.hid rfl
          rw [getD_at default hiF] at hca hcb
          generalize attBd m.attrs[i] = AB at *
          generalize m.attrs[i] = a at *
          rw [hAA] at c3
          by_cases h5 : 100 < a.1.size
          · have h5' : (100 : Int) < (a.1.size : Int) := by omega
            have HR := Lib.hid (HNa.out (by rw [HAB.out, decide_eq_false (by omega)]; rfl))
            go_wp2
            go_ret
            exact ⟨ret_bool HR.out.symm, rfl⟩
          have h5' : ¬ (100 : Int) < (a.1.size : Int) := by omega
          by_cases h6 : 100 < a.2.size
          · have h6' : (100 : Int) < (a.2.size : Int) := by omega
            have HR := Lib.hid (HNa.out (by rw [HAB.out, decide_eq_false (show ¬ a.2.size ≤ 100 by omega)]; simp))
            go_wp2
            go_ret
            exact ⟨ret_bool HR.out.symm, rfl⟩
          have h6' : ¬ (100 : Int) < (a.2.size : Int) := by omega
          have HTa3 : Hid ((m.attrs.take (i + 1)).all attBd = true) := Lib.hid (by rw [HTa2.out, HAB.out, decide_eq_true (show a.1.size ≤ 100 by omega), decide_eq_true (show a.2.size ≤ 100 by omega)]; rfl)
          go_wp2
          go_roundw
          case rel => exact ⟨i + 1, by omega, by go_num, HTa3, by first | trivial | rfl⟩
          case measure => simp [intOf] <;> omega
        · obtain rfl : i = al := by omega
          have e : m.attrs.take i = m.attrs := List.take_of_length_le (by rw [HAL.out]; exact Nat.le_refl _)
          have HT3 : Hid ((F.take (j + 1)).all nodeBd = true) := Lib.hid (by rw [HT2.out, HNB2.out, ← e]; exact HTa.out)
          go_wp2
          go_roundw
          case rel => exact ⟨j + 1, by omega, by go_num, HT3, by first | trivial | rfl⟩
          case measure => simp [intOf] <;> omega
    · obtain rfl : j = n := by omega
      have e : F.take j = F := List.take_of_length_le (by rw [HNN.out]; exact Nat.le_refl _)
      rw [e] at HT
      go_wp2
      go_ret
      exact ⟨ret_bool (by rw [HE.out, HT.out]; simp; omega), rfl⟩
end Go.Proofs.YtkcfpglmlhoiaaaDoor
