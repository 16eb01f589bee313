/-
  The document's own take: a text of n bytes from words, and the rest.
-/
import Derived.Test.YthfeonmaajiajaaDoorRecSs
import Derived.Test.YthfeonmaajiajaaDoorRecSm
import Derived.Test.YthfeonmaajiajaaDoorRecRb
namespace Go.Proofs.YthfeonmaajiajaaDoor
open Go.ChangeShapes Go.WideShapes Go.ChangeAt Go.RowKit
open Rm
set_option linter.unusedVariables false
set_option linter.unusedSimpArgs false

/-- What take tells: a text, and what is left; what stands there is told. -/
def GivesK (l : List Int) (i : Nat) (A : Option Addr) (w : World) (e : Ending) (w' : World) : Prop :=
  ∃ (t : Wd) (p : Option Addr) (n c : Nat) (g : Bool) (lr : List Int), e = .returned (.tuple #[.string (str t), .slice p n c, .bool g]) ∧ LV w' p (gvs lr) ∧ lr.length = n ∧ n ≤ c ∧ c ≤ maxLen ∧ n ≤ l.length ∧ U64 lr ∧
    (∀ a, p = some a → ∃ b, A = some b ∧ b.block = a.block) ∧ t.length ≤ i ∧ (∀ s more, l = wds s ++ more → s.length = i → g = true ∧ t = s ∧ lr = more) ∧ Below w.heap.size w w'
set_option maxRecDepth 100000 in
set_option maxHeartbeats 1000000 in
theorem rtake_any (A : Option Addr) (n c i : Nat) (l : List Int) (w : World) (hA : LV w A (gvs l)) (hl : l.length = n) (hnc : n ≤ c) (hc : c ≤ maxLen) (hn : n ≤ 1000) (hU : U64 l) (hi : i ≤ 100) :
    Calls Tryd.prog 24 #[.slice A n c, .int .i64 i] w (GivesK l i A w) := by
  have hnw : ((i : Int) + 7) / 8 = ((nw i : Nat) : Int) := by unfold nw; omega
  by_cases hk : nw i ≤ n
  · have hs1 := run_hiG A n c (nw i) (by omega)
    have hs2 := run_loG A n c (nw i) hk
    have e1 : gvs (l.take (nw i)) = (gvs l).take (nw i) := by simp [gvs]
    have e2 : gvs (l.drop (nw i)) = (gvs l).drop (nw i) := by simp [gvs]
    have h0 : LV w (subA A c 0) (gvs l) := by
      have := subA_lv (c := c) (k := 0) hA (by rw [gvs_length]; omega)
      rwa [List.drop_zero] at this
    have HTx := Lib.hid (rtext_any (subA A c 0) (nw i) c (l.take (nw i)) i w (by rw [e1]; exact h0.take _) (by rw [List.length_take]; omega) (by omega) (fun x hx => hU x (List.mem_of_mem_take hx)))
    have HLV : Hid (∀ X, Below w.heap.size w X → LV X (subA A c (nw i)) (gvs (l.drop (nw i)))) := Lib.hid (fun X h => by rw [e2]; exact subA_lv (hA.below h) (by rw [gvs_length]; omega))
    have HB : Hid (∀ a, subA A c (nw i) = some a → ∃ b, A = some b ∧ b.block = a.block) := Lib.hid (fun a h => subA_block h)
    have HTk : Hid (∀ s more, l = wds s ++ more → s.length = i → txt (l.take (nw i)) i = some s ∧ l.drop (nw i) = more) := Lib.hid (fun s more h1 h2 => by
      subst h2
      exact (take_wds h1).2)
    have HLen : Hid ((l.drop (nw i)).length = n - nw i ∧ n - nw i ≤ c - nw i ∧ c - nw i ≤ maxLen ∧ n - nw i ≤ l.length ∧ U64 (l.drop (nw i)) ∧ ((txt (l.take (nw i)) i).getD []).length ≤ i) := Lib.hid ⟨by rw [List.length_drop, hl], by omega, by omega, by omega, fun x hx => hU x (List.mem_of_mem_drop hx), txt_len⟩
    clear e1 e2 h0 hA hU hl
    have hc' : c ≤ 9223372036854775807 := by unfold maxLen at hc; omega
    clear hc
    generalize subA A c (nw i) = p2 at *
    generalize subA A c 0 = p1 at *
    generalize hkk : nw i = k at *
    have hk2 : ¬ (n : Int) < (k : Int) := by omega
    clear hkk
    go_enter Tryd.func24, Tryd.ntmps24
    go_wp2_with fail
    refine HTx.out.mono ?_
    rintro e w1 ⟨rfl, hb⟩
    have HB1 := Lib.hid hb
    clear hb HTx
    obtain ⟨T, hT⟩ : ∃ T, T = (txt (l.take k) i).getD [] := ⟨_, rfl⟩
    obtain ⟨g, hg⟩ : ∃ g, g = (txt (l.take k) i).isSome := ⟨_, rfl⟩
    rw [← hT, ← hg]
    have HT := Lib.hid hT
    have HG := Lib.hid hg
    clear hT hg
    go_wp2_with fail
    go_quiet (fail)
    go_wp2
    go_ret3
    obtain ⟨z1, z2, z3, z4, z5, z6⟩ := HLen.out
    refine ⟨T, p2, n - k, c - k, g, l.drop k, rfl, ?_, z1, z2, z3, z4, z5, HB.out, by rw [HT.out]; exact z6, fun s more h1 h2 => ?_, ?_⟩
    · first | exact HLV.out _ HB1.out | exact HLV.out _ HB1.out.drew | exact HLV.out _ (bdrewN HB1.out _)
    · obtain ⟨a, b⟩ := HTk.out s more h1 h2
      rw [HG.out, HT.out, a, b]
      exact ⟨rfl, rfl, rfl⟩
    · first | exact HB1.out | exact HB1.out.drew | exact bdrewN HB1.out _
  · have hk2 : (n : Int) < ((nw i : Nat) : Int) := by omega
    have HN : Hid (∀ s more, l = wds s ++ more → s.length = i → False) := Lib.hid (fun s more h1 h2 => by
      have := (take_wds h1).1
      rw [h2] at this
      omega)
    clear hk
    generalize nw i = k at *
    go_enter Tryd.func24, Tryd.ntmps24
    go_wp2_with fail
    go_ret3
    exact ⟨[], none, 0, 0, false, [], rfl, LV.nil _ _, rfl, Nat.le_refl _, by unfold maxLen; omega, Nat.zero_le _, (fun x hx => by cases hx), (fun a e => by cases e), Nat.zero_le _, (fun s more h1 h2 => (HN.out s more h1 h2).elim), by first | exact Below.refl _ _ | exact (Below.refl _ _).drew⟩
end Go.Proofs.YthfeonmaajiajaaDoor
