/-
  The bound of the laws, and their small case.
-/
import Derived.Test.YtdjhnjokmmbafaaDoorOpN
import Derived.Test.YtdjhnjokmmbafaaDoorOpK
namespace Go.Proofs.YtdjhnjokmmbafaaDoor
open Go.ChangeShapes Go.WideShapes Go.ChangeAt Go.RowKit
set_option linter.unusedVariables false
set_option linter.unusedSimpArgs false

def szO (o : Po) : Bool := decide (o.name.size ≤ 300) && decide (o.text.size ≤ 300)
def bdO (l : List Po) : Bool := l.all szO && decide (l.length ≤ 25)
set_option maxRecDepth 100000 in
set_option maxHeartbeats 4000000 in
theorem bounded_any (A : Option Addr) (l : List Po) (c : Nat) (w : World) (hA : OL w A l) (hn : l.length ≤ 9223372036854775807) :
    Calls Tryd.prog 9 #[.slice A l.length c] w fun e w' => e = .returned (.bool (bdO l)) ∧ w' = w := by
  have HA := Lib.hid hA
  have HE : Hid (bdO l = (l.all szO && decide (l.length ≤ 25))) := Lib.hid rfl
  generalize bdO l = R at *
  obtain ⟨n, hnn⟩ : ∃ n, l.length = n := ⟨_, rfl⟩
  have HNN := Lib.hid hnn
  rw [hnn] at hn HE ⊢
  clear hA hnn
  go_enter Tryd.func9, Tryd.ntmps9
  go_wp2_with fail
  go_loopw [3] (fun q wr => ∃ j : Nat, j ≤ n ∧ q = .int .i64 j ∧ Hid ((l.take j).all szO = true) ∧ w = wr) (fun q _ => n - (intOf q).toNat)
  case atStart => exact ⟨0, Nat.zero_le _, rfl, Lib.hid rfl, rfl⟩
  case round =>
    obtain ⟨j, hj, rfl, HT, rfl⟩ := hrel
    by_cases hlt : j < n
    · have k0 : (0 : Int) ≤ (j : Int) := by omega
      have k1 : (j : Int) < (n : Int) := by omega
      have hjl : j < l.length := by rw [HNN.out]; exact hlt
      obtain ⟨hfo, g, off, rfl, hg, c0, c1, c2, c3, c4, c5⟩ := HA.out j l[j] (List.getElem?_eq_getElem hjl)
      have HAll2 : Hid ((l.take (j + 1)).all szO = szO l[j]) := Lib.hid (by rw [List.take_add_one, List.getElem?_eq_getElem hjl, List.all_append, HT.out]; simp)
      have HNo : Hid (szO l[j] = false → R = false) := Lib.hid (fun h => by rw [HE.out, List.all_eq_false.2 ⟨_, List.getElem_mem hjl, by rw [h]; simp⟩]; rfl)
      have HSz : Hid (szO l[j] = (decide (l[j].name.size ≤ 300) && decide (l[j].text.size ≤ 300))) := Lib.hid rfl
      clear hfo c0 c1 c2 c3
      generalize szO l[j] = Z at *
      generalize l[j] = o at *
      by_cases h1 : 300 < o.name.size
      · have h1' : (300 : Int) < (o.name.size : Int) := by omega
        have HR := Lib.hid (HNo.out (by rw [HSz.out, decide_eq_false (by omega)]; rfl))
        go_wp2
        go_ret
        exact ⟨ret_bool HR.out.symm, rfl⟩
      have h1' : ¬ (300 : Int) < (o.name.size : Int) := by omega
      by_cases h2 : 300 < o.text.size
      · have h2' : (300 : Int) < (o.text.size : Int) := by omega
        have HR := Lib.hid (HNo.out (by rw [HSz.out, decide_eq_false (show ¬ o.text.size ≤ 300 by omega)]; simp))
        go_wp2
        go_ret
        exact ⟨ret_bool HR.out.symm, rfl⟩
      have h2' : ¬ (300 : Int) < (o.text.size : Int) := by omega
      have HT2 : Hid ((l.take (j + 1)).all szO = true) := Lib.hid (by rw [HAll2.out, HSz.out, decide_eq_true (show o.name.size ≤ 300 by omega), decide_eq_true (show o.text.size ≤ 300 by omega)]; rfl)
      go_wp2
      go_roundw
      case rel => exact ⟨j + 1, by omega, by go_num, HT2, by first | trivial | rfl⟩
      case measure => simp [intOf] <;> omega
    · obtain rfl : j = n := by omega
      have e : l.take j = l := List.take_of_length_le (by rw [HNN.out]; exact Nat.le_refl _)
      rw [e] at HT
      go_wp2
      go_ret
      exact ⟨ret_bool (by rw [HE.out, HT.out]; simp; omega), rfl⟩
/-- The small case's operation. -/
def o3 : Po := ⟨4, 3, 0, -1, ⟨#[]⟩, ⟨#[]⟩⟩
theorem o3_fit : Fit o3 := ⟨by constructor <;> decide, by constructor <;> decide, by constructor <;> decide, by constructor <;> decide⟩
theorem o3_may : mayO o3 = true := by decide
theorem o3_enc : encR [o3] = ([4, 1, 6, 0, 1, 1], 0) := by kernel_rfl
theorem o3_dec : decL 20 [4, 1, 6, 0, 1, 1] = some [o3] := by
  have := decL_enc 20 [o3] (by simp) (fun o ho => by obtain rfl := List.mem_singleton.1 ho; exact ⟨o3_may, o3_fit⟩)
  have e : encL [o3] = [4, 1, 6, 0, 1, 1] := by kernel_rfl
  rw [e] at this
  exact this
theorem o3_prn : prn o3 = [105, 110, 115, 101, 114, 116, 32, 51, 32, 48, 32, 45, 49] := by kernel_rfl
end Go.Proofs.YtdjhnjokmmbafaaDoor
