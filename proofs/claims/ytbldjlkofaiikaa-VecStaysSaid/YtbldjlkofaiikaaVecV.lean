/-
  slices.Delete and slices.Insert at lists of numbers, as Remove and Insert call them.
-/
import Derived.Test.YtbldjlkofaiikaaVecT
import Derived.Deep.RegionLaw
import Derived.Lib.Overlaps
import Derived.Lib.AppendZerosOnto
import Derived.Lib.SlicesDelete
import Derived.Shelf.RegionOpenPlain
import Derived.Laws.Externs
import Derived.Laws.IdiomCopy
namespace Go.Proofs.Ytbldjlkofaiikaa
open Go.ChangeShapes Go.WideShapes Go.ChangeAt Go.RowKit
set_option linter.unusedVariables false
set_option linter.unusedSimpArgs false

/-- Numbers laid over a list, from o on. -/
def over (l : List Int) (o : Nat) : List Int → List Int
  | [] => l
  | x :: r => over (l.set o x) (o + 1) r
theorem over_eq : ∀ (m : List Int) (l : List Int) (o : Nat), o + m.length ≤ l.length → over l o m = l.take o ++ m ++ l.drop (o + m.length)
  | [], l, o, h => by simp [over]
  | x :: r, l, o, h => by
    rw [over, over_eq r _ _ (by simp at h ⊢; omega)]
    have ho : o < l.length := by simp at h; omega
    rw [List.take_succ_eq_append_getElem (by simp; exact ho), List.getElem_set_self, List.take_set_of_le (Nat.le_refl _), List.drop_set_of_lt (by omega)]
    simp
    congr 1
    omega
theorem own_over {B g n cap : Nat} : ∀ (m : List Int) (o : Nat) (w : World) (l : List Int), w.ownsRow B 41 1 (.slice (some ⟨g, 0, none⟩) n cap) n (gvs l) → (w.setCells g o (gvs m)).ownsRow B 41 1 (.slice (some ⟨g, 0, none⟩) n cap) n (gvs (over l o m))
  | [], o, w, l, h => h
  | x :: r, o, w, l, h => by
    have h1 := (h.stored o (.int .u64 x)).1
    rw [← set_map_gen] at h1
    exact own_over r (o + 1) _ _ h1
theorem below_setCells {B g : Nat} {w0 : World} (hB : B ≤ g) : ∀ (vs : List Value) (o : Nat) (w : World), Below B w0 w → Below B w0 (w.setCells g o vs)
  | [], o, w, h => h
  | v :: r, o, w, h => below_setCells hB r (o + 1) _ (h.setCell hB v)
theorem own_shrink {w : World} {B g n cap : Nat} {l : List Int} (h : w.ownsRow B 41 1 (.slice (some ⟨g, 0, none⟩) n cap) n (gvs l)) {m : Nat} (hm : m ≤ n) : w.ownsRow B 41 1 (.slice (some ⟨g, 0, none⟩) m cap) m (gvs (l.take m)) := by
  have h1 := h.1
  rcases h.2 with ⟨h', _⟩ | ⟨g', cap', cur, hv, h2, h3, h4, h5, h6, h7⟩
  · cases h'
  · cases hv
    refine ⟨by rw [gvs_length] at h1 ⊢; rw [List.length_take]; omega, .inr ⟨g, cap, cur, rfl, h2, h3, by omega, h5, h6, ?_⟩⟩
    rw [gvs, List.map_take, ← gvs, ← h7, List.take_take]
    congr 1
    omega

set_option maxRecDepth 1000000 in
set_option maxHeartbeats 4000000 in
theorem delete_any (k j B : Nat) (hj : j = k + 1) (l : List Int) (v : Value) (w : World) (ho : w.ownsRow B 41 1 v l.length (gvs l)) (hk : k < l.length) (hl : l.length ≤ 1000) :
    Calls Try.prog 34 #[v, .int .i64 k, .int .i64 j] w (GivesTu B (l.take k ++ l.drop j) w) := by
  obtain ⟨pl, cap, rfl, hnc, hcm, -⟩ := own_form ho
  obtain ⟨g, rfl, hg, hgl⟩ := own_some ho (by omega)
  unfold maxLen at hcm
  obtain ⟨i0, hi0, hz0, hz1, hz2⟩ := info_parts info_G
  obtain ⟨n, hn⟩ : ∃ n, l.length = n := ⟨_, rfl⟩
  rw [hn] at ho hk hl hnc ⊢
  have HO := Lib.hid ho
  have hlen : (gvs (l.drop j)).length = (n - j) * 1 := by rw [gvs_length, List.length_drop, hn, Nat.mul_one]
  obtain ⟨A, hA, hsrc⟩ : ∃ A : Addr, (if cap = j then some (⟨g, 0, none⟩ : Addr) else some ⟨g, j, none⟩) = some A ∧ Hid (∀ t u, (gvs (l.drop j))[t]? = some u → w.drew.cell? (A.add t) = some u) := by
    by_cases h : cap = j
    · refine ⟨⟨g, 0, none⟩, by simp [h], Lib.hid fun t u hu => ?_⟩
      have h0 : (gvs (l.drop j)).length = 0 := by rw [hlen]; omega
      rw [List.length_eq_zero_iff.1 h0] at hu
      simp at hu
    · refine ⟨⟨g, j, none⟩, by simp [h], Lib.hid fun t u hu => ?_⟩
      rw [add_plain]
      exact own_from ho j t u hu
  have s3 : Hid (∀ t, t < (gvs (l.drop j)).length → (w.drew.cell? ⟨g, 0 + k * 1 + t, none⟩).isSome = true ∧ w.drew.frozen? ⟨g, 0 + k * 1 + t, none⟩ = false) := Lib.hid (fun t ht => by
    rw [hlen] at ht
    rw [Nat.zero_add, Nat.mul_one]
    exact ⟨by show (w.cell? _).isSome = true; rw [own_at_gen ho (by omega)]; rfl, ho.frozenAt _⟩)
  obtain ⟨W1, hW1⟩ : ∃ W1, W1 = w.drew.setCells g (0 + k * 1) (gvs (l.drop j)) := ⟨_, rfl⟩
  have HW1 := Lib.hid hW1
  have hO1 : W1.ownsRow B 41 1 (.slice (some ⟨g, 0, none⟩) n cap) n (gvs (over l k (l.drop j))) := by
    rw [hW1, Nat.zero_add, Nat.mul_one]
    exact own_over _ _ _ _ ho.drew
  have HB1 : Hid (Below B w W1) := Lib.hid (by rw [hW1]; exact below_setCells hg _ _ _ (Below.refl _ w).drew)
  have e1 : n - 1 = k + (n - j) := by omega
  have hv3 : ∀ w, (zeroValue 41).run Try.prog w = .ok (.int .u64 0) w := fun w => by simp [zeroValue, typeInfo, hi0, hz0]
  have hcl : ∀ ty, (Builtin.clear_ #[24] ty #[.slice (some ⟨g, k + (n - j), none⟩) (n - (k + (n - j))) (cap - (k + (n - j)))]).run Try.prog W1 = .ok (.tuple #[]) (W1.setCells g (k + (n - j)) (List.replicate (n - (k + (n - j))) (.int .u64 0))) :=
    fun ty => Lib.run_clear_slice W1 _ 41 ty _ Try.underlying24 hv3 rfl rfl g _ _ _ (by omega) (fun t ht => by rw [own_at_gen hO1 (by omega)]; rfl) (fun t ht => hO1.frozenAt _)
  have hrep : List.replicate (n - (k + (n - j))) (Value.int .u64 0) = gvs [0] := by rw [show n - (k + (n - j)) = 1 by omega]; rfl
  have hO2 := own_over [0] (k + (n - j)) W1 _ hO1
  have hO3 := own_shrink hO2 (m := k + (n - j)) (by omega)
  have hfin : (over (over l k (l.drop j)) (k + (n - j)) [0]).take (k + (n - j)) = l.take k ++ l.drop j := by
    have h1 : (over l k (l.drop j)).length = n := by
      rw [over_eq _ _ _ (by simp; omega)]
      simp; omega
    rw [over_eq [0] _ _ (by rw [h1]; simp; omega), List.append_assoc, List.take_append_of_le_length (by rw [List.length_take, h1]; omega), List.take_take, Nat.min_self, over_eq _ _ _ (by simp; omega)]
    exact List.take_left' (by simp; omega)
  rw [hfin] at hO3
  have HO3 := Lib.hid hO3
  have HFL : Hid ((l.take k ++ l.drop j).length = k + (n - j)) := Lib.hid (by simp; omega)
  have HREP := Lib.hid hrep
  have hic : k ≤ cap := by omega
  have hjc : j ≤ cap := by omega
  have k0 : (0 : Int) ≤ (k : Int) := by omega
  have k1 : (k : Int) ≤ (j : Int) := by omega
  have k2 : (j : Int) ≤ (n : Int) := by omega
  have k3 : ¬ ((k : Int) = (j : Int)) := by omega
  have k5 : (0 : Int) ≤ (j : Int) := by omega
  have k6 : k ≤ j := by omega
  have k7 : j ≤ n := by omega
  have mixed : Try.prog.follows Departure.mixedOrders = true := by kernel_rfl
  have HJ := Lib.hid hj
  have s1 : Hid ((gvs (l.drop j)).length = (n - j) * 1) := Lib.hid hlen
  have hI := Lib.hid hi0
  have hZ1 := Lib.hid hz1
  have s2 : Hid (∀ u ∈ gvs (l.drop j), u.oneCell' = true) := Lib.hid (gvs_one _)
  clear hj hW1 hO1 hO2 hO3 hfin hrep ho hi0 hz0 hz1 hz2 hlen hn
  generalize gvs (l.drop j) = news at *
  go_enter Try.func34, Try.ntmps34
  go_wp2_with fail
  go_region_law_o (refine step_append_room rfl (.tmp 22) (.tmp 25) 24 rfl 41 i0 1 Try.underlying24 hI.out hZ1.out g 0 k cap (by simp [Act.eval, Act.put]) A (n - j) (cap - j) news (by simp [Act.eval, Act.put]) s1.out hsrc.out s2.out (by omega) s3.out ?_; rw [← HW1.out])
  go_wp2
  go_ret
  refine ⟨_, rfl, ?_, ?_⟩
  · rw [HFL.out, HREP.out]
    exact HO3.out
  · exact below_setCells hg _ _ _ HB1.out
end Go.Proofs.Ytbldjlkofaiikaa
