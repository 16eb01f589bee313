/-
  What the laws of layer 7 want of plain forests: moved, and moved back.
-/
import Derived.Test.YtaacikjoafobfaaGreatDoorG12
namespace Go.Proofs.YtaacikjoafobfaaGreatDoor
open Go.ChangeShapes Go.WideShapes Go.ChangeAt Go.RowKit
set_option linter.unusedVariables false
set_option linter.unusedSimpArgs false

def insO (i t a : Nat) : Ops.Po := ⟨4, i, t, a, ⟨#[]⟩, ⟨#[]⟩⟩
def remO (i : Nat) : Ops.Po := ⟨5, i, 0, 0, ⟨#[]⟩, ⟨#[]⟩⟩
theorem do_ins {F : List Mn} {i t a : Nat} : doP F (insO i t a) = insP F i t a := by
  unfold doP insO
  simp
theorem do_rem {F : List Mn} {i : Nat} : doP F (remO i) = remP F i := by
  unfold doP remO
  simp
theorem place_at {F : List Mn} (h : mayB F = true) {i p : Nat} (hi : i < F.length) (hp : par F i = (p : Int)) : p < F.length ∧ i ≠ 0 ∧ (kidsOf F p).findIdx (fun x => decide (x = (i : Int))) < (kidsOf F p).length ∧ (kidsOf F p).getD ((kidsOf F p).findIdx (fun x => decide (x = (i : Int)))) 0 = i ∧ ∀ j, j < (kidsOf F p).findIdx (fun x => decide (x = (i : Int))) → (kidsOf F p).getD j 0 ≠ (i : Int) := by
  obtain ⟨-, -, h3, -, -⟩ := may_iff.1 h
  obtain ⟨hn0, p', e1, hpl, hcnt⟩ := ((h3 i hi).1).resolve_left (by omega)
  obtain rfl : p = p' := by omega
  have hmem : (i : Int) ∈ kidsOf F p := List.count_pos_iff.1 (by omega)
  have hlt : (kidsOf F p).findIdx (fun x => decide (x = (i : Int))) < (kidsOf F p).length := List.findIdx_lt_length_of_exists ⟨_, hmem, by simp⟩
  refine ⟨hpl, hn0, hlt, ?_, fun j hj e => ?_⟩
  · rw [getD_at 0 hlt]
    have := List.findIdx_getElem (p := fun x : Int => decide (x = (i : Int))) (w := hlt)
    simpa using this
  · have := List.not_of_lt_findIdx hj
    rw [getD_at 0 (by omega)] at e
    simp [e] at this
theorem moved_back {F G : List Mn} (h : mayB F = true) {i p t a : Nat} (hi : i < F.length) (ht : t < F.length) (hp : par F i = (p : Int)) (he : errP F (insO i t a) = 0) (hG : G.map core = (oneP F (insO i t a)).1.map core) :
    errP G (insO i p ((kidsOf F p).findIdx fun x => decide (x = (i : Int)))) = 0 ∧ (oneP G (insO i p ((kidsOf F p).findIdx fun x => decide (x = (i : Int))))).1.map core = F.map core := by
  have hm := may_do h he
  rw [oneP, if_pos he, do_ins] at hG
  rw [do_ins] at hm
  obtain ⟨a1, a2⟩ := ins_like (at_ := a) h hi ht
  obtain ⟨e1, e2⟩ := laid_back h hm (rest_ins F i t a) hi hp a1 a2
  have e3 : errP G (insO i p ((kidsOf F p).findIdx fun x => decide (x = (i : Int)))) = 0 := by rw [err_like hG]; exact e1
  refine ⟨e3, ?_⟩
  rw [oneP, if_pos e3, do_like hG, do_ins, e2]
theorem removed_back {F G : List Mn} (h : mayB F = true) {i p : Nat} (hi : i < F.length) (hp : par F i = (p : Int)) (hG : G.map core = (oneP F (remO i)).1.map core) :
    errP F (remO i) = 0 ∧ par G i = -1 ∧ errP G (insO i p ((kidsOf F p).findIdx fun x => decide (x = (i : Int)))) = 0 ∧ (oneP G (insO i p ((kidsOf F p).findIdx fun x => decide (x = (i : Int))))).1.map core = F.map core := by
  have hne : par F i ≠ -1 := by omega
  have he : errP F (remO i) = 0 := by
    have hm : Ops.mayO (remO i) = true := rfl
    have hk : (remO i).kind = 5 := rfl
    unfold errP
    rw [if_neg (by rw [hm]; simp), if_neg (by rw [hk]; omega), if_neg (by rw [hk]; omega), if_neg (by rw [hk]; omega), if_pos hk]
    unfold remE remO
    simp only [Int.toNat_natCast]
    have h0 := (place_at h hi hp).2.1
    rw [if_neg (by rw [isB]; simp; omega), if_neg (by omega), if_neg hne]
  have hm := may_do h he
  rw [oneP, if_pos he, do_rem] at hG
  rw [do_rem] at hm
  obtain ⟨a1, a2⟩ := rem_like h hi hne
  obtain ⟨e1, e2⟩ := laid_back h hm (rest_rem F i) hi hp a1 a2
  have e3 : errP G (insO i p ((kidsOf F p).findIdx fun x => decide (x = (i : Int)))) = 0 := by rw [err_like hG]; exact e1
  refine ⟨he, ?_, e3, ?_⟩
  · rw [par_like hG, rem_par hi, if_pos rfl]
  · rw [oneP, if_pos e3, do_like hG, do_ins, e2]
end Go.Proofs.YtaacikjoafobfaaGreatDoor
