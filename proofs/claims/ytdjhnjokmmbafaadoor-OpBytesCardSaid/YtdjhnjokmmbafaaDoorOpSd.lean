/-
  What is read, letter by letter.
-/
import Derived.Test.YtdjhnjokmmbafaaDoorOpSc
namespace Go.Proofs.YtdjhnjokmmbafaaDoor
open Go.ChangeShapes Go.WideShapes Go.ChangeAt Go.RowKit
set_option linter.unusedVariables false
set_option linter.unusedSimpArgs false

def setF (c : Int) (o : Po) (p : List UInt8) : Po := if c = 105 then { o with id := numP p } else if c = 116 then { o with dst := numP p } else if c = 97 then { o with pos := numP p } else if c = 110 then { o with name := ba (p.drop 1) } else { o with text := ba (p.drop 1) }
def lrun : List Int → Po → List UInt8 → Option (Po × List UInt8)
  | [], o, r => some (o, r)
  | c :: cs, o, r => (piece r).bind fun x => lrun cs (setF c o x.1) x.2
def hasL (k : Int) : List Int := if k = 1 then [110] else if k = 2 then [120] else if k = 3 then [120] else if k = 4 then [105, 116, 97] else if k = 5 then [105] else if k = 6 then [105, 110, 120] else if k = 7 then [105, 110] else if k = 8 then [105, 120] else []
theorem hasL_size (k : Int) : (hasS k).size = (hasL k).length := by
  unfold hasS hasL
  repeat' split
  all_goals rfl
theorem kind9 (k : Int) : k = 1 ∨ k = 2 ∨ k = 3 ∨ k = 4 ∨ k = 5 ∨ k = 6 ∨ k = 7 ∨ k = 8 ∨ (k < 1 ∨ 8 < k) := by omega
theorem hasL_none {k : Int} (h : k < 1 ∨ 8 < k) : hasL k = [] := by
  unfold hasL
  rw [if_neg (by omega), if_neg (by omega), if_neg (by omega), if_neg (by omega), if_neg (by omega), if_neg (by omega), if_neg (by omega), if_neg (by omega)]
theorem hasL_at (k : Int) : ∀ j c, (hasL k)[j]? = some c → PlainAid.bt (hasS k) j = c ∧ (c = 105 ∨ c = 116 ∨ c = 97 ∨ c = 110 ∨ c = 120) := by
  intro j c h
  rcases kind9 k with rfl | rfl | rfl | rfl | rfl | rfl | rfl | rfl | hk
  rotate_left 8
  · rw [hasL_none hk] at h; simp at h
  all_goals
    rcases j with _ | _ | _ | j
    all_goals first
      | (obtain rfl : _ = c := Option.some.inj h
         exact ⟨by decide +kernel, by decide⟩)
      | cases h
theorem hasL_three (k : Int) : (hasL k).length ≤ 3 := by
  unfold hasL
  repeat' split
  all_goals simp
theorem loose_run (b : UInt8) (r : List UInt8) : loose1 (b :: r) = lrun (hasL b.toNat) ⟨b.toNat, 0, 0, 0, ba [], ba []⟩ r := by
  rw [loose1]
  generalize (b.toNat : Int) = k
  rcases kind9 k with rfl | rfl | rfl | rfl | rfl | rfl | rfl | rfl | h
  rotate_left 8
  · have e1 : hasI k = false := decide_eq_false (by omega)
    have e2 : hasT k = false := decide_eq_false (by omega)
    have e3 : hasN k = false := decide_eq_false (by omega)
    have e4 : hasX k = false := decide_eq_false (by omega)
    rw [hasL_none h, e1, e2, e3, e4]
    rfl
  · rw [show hasI 1 = false from rfl, show hasT 1 = false from rfl, show hasN 1 = true from rfl, show hasX 1 = false from rfl, show hasL 1 = [110] from rfl]
    simp only [lsN, optT, rdT, lrun, if_true, Bool.false_eq_true, if_false, Option.bind_some]
    rcases piece r with _ | ⟨p0, r0⟩
    · rfl
    simp only [Option.map_some, Option.bind_some]
    rfl
  · rw [show hasI 2 = false from rfl, show hasT 2 = false from rfl, show hasN 2 = false from rfl, show hasX 2 = true from rfl, show hasL 2 = [120] from rfl]
    simp only [lsN, optT, rdT, lrun, if_true, Bool.false_eq_true, if_false, Option.bind_some]
    rcases piece r with _ | ⟨p0, r0⟩
    · rfl
    simp only [Option.map_some, Option.bind_some]
    rfl
  · rw [show hasI 3 = false from rfl, show hasT 3 = false from rfl, show hasN 3 = false from rfl, show hasX 3 = true from rfl, show hasL 3 = [120] from rfl]
    simp only [lsN, optT, rdT, lrun, if_true, Bool.false_eq_true, if_false, Option.bind_some]
    rcases piece r with _ | ⟨p0, r0⟩
    · rfl
    simp only [Option.map_some, Option.bind_some]
    rfl
  · rw [show hasI 4 = true from rfl, show hasT 4 = true from rfl, show hasN 4 = false from rfl, show hasX 4 = false from rfl, show hasL 4 = [105, 116, 97] from rfl]
    simp only [lsN, optT, rdT, lrun, if_true, Bool.false_eq_true, if_false, Option.bind_some]
    rcases piece r with _ | ⟨p0, r0⟩
    · rfl
    simp only [Option.map_some, Option.bind_some]
    rcases piece r0 with _ | ⟨p1, r1⟩
    · rfl
    simp only [Option.map_some, Option.bind_some]
    rcases piece r1 with _ | ⟨p2, r2⟩
    · rfl
    simp only [Option.map_some, Option.bind_some]
    rfl
  · rw [show hasI 5 = true from rfl, show hasT 5 = false from rfl, show hasN 5 = false from rfl, show hasX 5 = false from rfl, show hasL 5 = [105] from rfl]
    simp only [lsN, optT, rdT, lrun, if_true, Bool.false_eq_true, if_false, Option.bind_some]
    rcases piece r with _ | ⟨p0, r0⟩
    · rfl
    simp only [Option.map_some, Option.bind_some]
    rfl
  · rw [show hasI 6 = true from rfl, show hasT 6 = false from rfl, show hasN 6 = true from rfl, show hasX 6 = true from rfl, show hasL 6 = [105, 110, 120] from rfl]
    simp only [lsN, optT, rdT, lrun, if_true, Bool.false_eq_true, if_false, Option.bind_some]
    rcases piece r with _ | ⟨p0, r0⟩
    · rfl
    simp only [Option.map_some, Option.bind_some]
    rcases piece r0 with _ | ⟨p1, r1⟩
    · rfl
    simp only [Option.map_some, Option.bind_some]
    rcases piece r1 with _ | ⟨p2, r2⟩
    · rfl
    simp only [Option.map_some, Option.bind_some]
    rfl
  · rw [show hasI 7 = true from rfl, show hasT 7 = false from rfl, show hasN 7 = true from rfl, show hasX 7 = false from rfl, show hasL 7 = [105, 110] from rfl]
    simp only [lsN, optT, rdT, lrun, if_true, Bool.false_eq_true, if_false, Option.bind_some]
    rcases piece r with _ | ⟨p0, r0⟩
    · rfl
    simp only [Option.map_some, Option.bind_some]
    rcases piece r0 with _ | ⟨p1, r1⟩
    · rfl
    simp only [Option.map_some, Option.bind_some]
    rfl
  · rw [show hasI 8 = true from rfl, show hasT 8 = false from rfl, show hasN 8 = false from rfl, show hasX 8 = true from rfl, show hasL 8 = [105, 120] from rfl]
    simp only [lsN, optT, rdT, lrun, if_true, Bool.false_eq_true, if_false, Option.bind_some]
    rcases piece r with _ | ⟨p0, r0⟩
    · rfl
    simp only [Option.map_some, Option.bind_some]
    rcases piece r0 with _ | ⟨p1, r1⟩
    · rfl
    simp only [Option.map_some, Option.bind_some]
    rfl
end Go.Proofs.YtdjhnjokmmbafaaDoor
