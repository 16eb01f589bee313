/-
  Texts as Print tells them: escaped.
-/
import Derived.Test.YtkcfpglmlhoiaaaDoorFoB
import Derived.Test.YtkcfpglmlhoiaaaDoorShelf
namespace Go.Proofs.YtkcfpglmlhoiaaaDoor
open Go.ChangeShapes Go.WideShapes Go.ChangeAt Go.RowKit
set_option linter.unusedVariables false
set_option linter.unusedSimpArgs false

theorem replaceK_length (old new : List UInt8) : ∀ (k : Nat) (s : List UInt8), (Lib.replaceK old new k s).length ≤ s.length + k * new.length
  | 0, s => by simp [Lib.replaceK]
  | k + 1, s => by
    rw [Lib.replaceK]
    split
    · omega
    · have ih := replaceK_length old new k (s.drop ((Lib.index s old).toNat + old.length))
      rw [List.length_append, List.length_append, List.length_take]
      rw [List.length_drop] at ih
      rw [Nat.succ_mul]
      omega
theorem count_le {s : ByteArray} {old : ByteArray} (h : 1 ≤ old.size) : Lib.countB s old ≤ s.size := by
  have := Lib.countB_mul_le old h s.size s (Nat.le_refl _)
  exact Nat.le_trans (Nat.le_mul_of_pos_right _ h) this
theorem replaceAll_length (s old new : ByteArray) (h : 1 ≤ old.size) (hne : (old.data.toList == new.data.toList) = false) : (Lib.replaceAll s.data.toList old.data.toList new.data.toList).length ≤ s.size + s.size * new.size := by
  unfold Lib.replaceAll Lib.replace
  rw [hne, if_neg (by simp)]
  refine Nat.le_trans (replaceK_length _ _ _ _) ?_
  have h1 : Lib.replaceNum s.data.toList old.data.toList (-1) = Lib.countB s old := by
    unfold Lib.replaceNum
    rw [if_pos (by omega)]
  rw [h1, ← Lib.size_eq, ← Lib.size_eq]
  have := Nat.mul_le_mul_right new.size (count_le (s := s) h)
  omega
/-- A text escaped. -/
def esc (l : List UInt8) : List UInt8 := Lib.replaceAll (Lib.replaceAll l [38] [38, 97, 109, 112, 59]) [60] [38, 108, 116, 59]
set_option maxHeartbeats 1000000 in
theorem escaped_any (s : ByteArray) (mx : Int) (w : World) (hm : w.cell? ⟨0, 0, none⟩ = some (.int .i64 mx)) (hs : s.size ≤ 100000) :
    Calls Tryd.prog 29 #[.string s] w (GivesV (.string ⟨(esc s.data.toList).toArray⟩) w) := by
  have hg : 0 < w.heap.size := World.block_lt_of_cell? _ _ hm
  have hc1 := count_le (s := s) (old := ⟨#[38]⟩) (by decide)
  have H1 := Lib.hid (Tryd.strings_ReplaceAll s ⟨#[38]⟩ ⟨#[38, 97, 109, 112, 59]⟩ mx w (by omega) hm (by decide) (by show s.size + Lib.countB s ⟨#[38]⟩ * 5 ≤ _; omega))
  have hl1 := replaceAll_length s ⟨#[38]⟩ ⟨#[38, 97, 109, 112, 59]⟩ (by decide) (by decide)
  obtain ⟨t, ht⟩ : ∃ t : ByteArray, t = ⟨(Lib.replaceAll s.data.toList [38] [38, 97, 109, 112, 59]).toArray⟩ := ⟨_, rfl⟩
  have htl : t.data.toList = Lib.replaceAll s.data.toList [38] [38, 97, 109, 112, 59] := by rw [ht]
  have hts : t.size ≤ 600000 := by
    rw [Lib.size_eq, htl]
    refine Nat.le_trans hl1 ?_
    show s.size + s.size * 5 ≤ 600000
    omega
  have hc2 := count_le (s := t) (old := ⟨#[60]⟩) (by decide)
  have H2 := Lib.hid (fun (W : World) (hW : W.cell? ⟨0, 0, none⟩ = some (.int .i64 mx)) => Tryd.strings_ReplaceAll t ⟨#[60]⟩ ⟨#[38, 108, 116, 59]⟩ mx W (by omega) hW (by decide) (by show t.size + Lib.countB t ⟨#[60]⟩ * 4 ≤ _; omega))
  have HR : Hid ((⟨(Lib.replaceAll t.data.toList [60] [38, 108, 116, 59]).toArray⟩ : ByteArray) = ⟨(esc s.data.toList).toArray⟩) := Lib.hid (by rw [htl]; rfl)
  have H1' : Hid (Calls Tryd.prog 45 #[.string s, .string ⟨#[38]⟩, .string ⟨#[38, 97, 109, 112, 59]⟩] w fun e w' => e = .returned (.string t) ∧ Below w.heap.size w w') := Lib.hid (by rw [ht]; exact H1.out)
  have H2' : Hid (∀ (W : World), W.cell? ⟨0, 0, none⟩ = some (.int .i64 mx) → Calls Tryd.prog 45 #[.string t, .string ⟨#[60]⟩, .string ⟨#[38, 108, 116, 59]⟩] W fun e w' => e = .returned (.string ⟨(esc s.data.toList).toArray⟩) ∧ Below W.heap.size W w') := Lib.hid (fun W hW => by rw [← HR.out]; exact H2.out W hW)
  clear H1 H2 HR htl hts hl1 hc1 hc2 ht
  generalize (⟨(esc s.data.toList).toArray⟩ : ByteArray) = R at *
  have HM := Lib.hid hm
  clear hm
  go_enter Tryd.func29, Tryd.ntmps29
  go_wp2_with fail
  refine H1'.out.mono ?_
  rintro e w1 ⟨rfl, hb⟩
  have HB := Lib.hid hb
  clear hb
  go_wp2_with fail
  refine (H2'.out w1 ((HB.out.cell (p := ⟨0, 0, none⟩) hg).trans HM.out)).mono ?_
  rintro e w2 ⟨rfl, hb⟩
  have HB2 := Lib.hid (HB.out.trans (hb.mono HB.out.size))
  clear hb
  go_wp2
  go_ret
  exact ⟨rfl, HB2.out⟩
end Go.Proofs.YtkcfpglmlhoiaaaDoor
