/-
  Lists that a call makes, as layer 3 (slots) needs them: what is owned, what is copied.
-/
import Derived.Test.YtbldjlkofaiikaaSlotA
import Derived.Deep.OwnRows
import Derived.Deep.AppendLies
import Derived.Maps.AppendAt
import Derived.Laws.CopyOwn
import Derived.Laws.AppendOwnNone
import Derived.OneCell
import Derived.OwnWalk
import Derived.WalkSmall
namespace Go.Proofs.Ytbldjlkofaiikaa
open Go.ChangeShapes Go.WideShapes Go.ChangeAt Go.RowKit
set_option linter.unusedVariables false

theorem own_below {w w' : World} {base : Nat} {e : TypeId} {size n : Nat} {v : Value} {xs : List Value} (h : w.ownsRow base e size v n xs) (hb : Below w.heap.size w w') : w'.ownsRow base e size v n xs := by
  refine ⟨h.1, ?_⟩
  rcases h.2 with h' | ⟨g, cap, cur, h1, h2, h3, h4⟩
  · exact .inl h'
  · exact .inr ⟨g, cap, cur, h1, h2, (hb.block g (Array.getElem?_eq_some_iff.1 h3).1).trans h3, h4⟩
theorem own_drop {w : World} {base base' : Nat} {e : TypeId} {size n : Nat} {v : Value} {xs : List Value} (h : w.ownsRow base e size v n xs) (hb : base' ≤ base) : w.ownsRow base' e size v n xs := by
  refine ⟨h.1, ?_⟩
  rcases h.2 with h' | ⟨g, cap, cur, h1, h2, h3, h4⟩
  · exact .inl h'
  · exact .inr ⟨g, cap, cur, h1, Nat.le_trans hb h2, h3, h4⟩
theorem own_form {w : World} {base : Nat} {e : TypeId} {v : Value} {n : Nat} {xs : List Value} (h : w.ownsRow base e 1 v n xs) : ∃ p cap, v = .slice p n cap ∧ n ≤ cap ∧ cap ≤ maxLen ∧ xs.length = n := by
  have h1 := h.1
  rw [Nat.mul_one] at h1
  rcases h.2 with ⟨rfl, rfl⟩ | ⟨g, cap, cur, rfl, _, _, hnc, hcm, _⟩
  · exact ⟨none, 0, rfl, Nat.le_refl _, by simp [maxLen], h1⟩
  · exact ⟨_, cap, rfl, hnc, hcm, h1⟩
theorem own_some {w : World} {base : Nat} {e : TypeId} {p : Option Addr} {n cap : Nat} {xs : List Value} (h : w.ownsRow base e 1 (.slice p n cap) n xs) (hn : 0 < n) : ∃ g, p = some ⟨g, 0, none⟩ ∧ base ≤ g ∧ g < w.heap.size := by
  rcases h.2 with ⟨_, rfl⟩ | ⟨g, cap', cur, hv, hb, hg, _⟩
  · omega
  · cases hv
    exact ⟨g, rfl, hb, (Array.getElem?_eq_some_iff.1 hg).1⟩
theorem own_succ {w : World} {base : Nat} {e : TypeId} {v : Value} {k : Nat} {xs : List Value} (h : w.ownsRow base e 1 v (k + 1) xs) : ∃ g cap, v = .slice (some ⟨g, 0, none⟩) (k + 1) cap := by
  obtain ⟨p, cap, rfl, _⟩ := own_form h
  obtain ⟨g, rfl, _⟩ := own_some h (by omega)
  exact ⟨g, cap, rfl⟩
theorem add_plain (g i j : Nat) : (⟨g, i, none⟩ : Addr).add j = ⟨g, i + j, none⟩ := by unfold Addr.add; split <;> simp_all

/-- A list of just xs, of elements e, is handed back in new memory. -/
def GivesRow (e : TypeId) (xs : List Value) (w : World) (en : Ending) (w' : World) : Prop :=
  ∃ v, en = .returned v ∧ w'.ownsRow w.heap.size e 1 v xs.length xs ∧ Below w.heap.size w w'

theorem splice_all {α : Type} (L cs : List α) (h : L.length = cs.length) : splice L 0 cs = cs := by
  unfold splice
  rw [List.take_zero, List.nil_append, Nat.zero_add, ← h, List.drop_length, List.append_nil]

theorem info_G : (Try.prog.info? 41).map (fun i => (i.zero, i.size, i.bytes)) = some (some (.int .u64 0), 1, 8) := by kernel_rfl
set_option maxHeartbeats 400000 in
theorem copyG_any (v : Value) (n : Nat) (xs : List Value) (b : Nat) (w : World) (h : w.ownsRow b 41 1 v n xs) (h1 : ∀ u ∈ xs, u.oneCell' = true) (hl : n ≤ 100000) :
    Calls Try.prog 89 #[v] w (GivesRow 41 xs w) := by
  obtain ⟨p, cap, rfl, hnc, hcm, hx⟩ := own_form h
  have hmk := fun W : World => run_make_row' (P := Try.prog) 24 41 (.int .u64 0) 8 Try.underlying24 info_G rfl .i64 .i64 n (by omega) (by omega) W
  have hsz : (Try.prog.info? 41).map (·.size) = some 1 := by kernel_rfl
  have HSZ := Lib.hid hsz
  have HX := Lib.hid hx
  have HO := Lib.hid h
  clear h hx hsz
  go_enter Try.func89, Try.ntmps89
  go_wp2_with (with_reducible refine wpList_copy_splice rfl (.tmp 7) (.tmp 8) 24 24 rfl 41 Try.underlying24 HSZ.out (some ⟨w.heap.size, 0, none⟩) p n n n cap rfl rfl w.heap.size 0 (madeCells #[.int .u64 0] n).toList 41 ?hg xs ?hn ?hpos ?hfit h1 w.heap.size w ?hb (Nat.le_refl _) ?hk)
  case hg => rw [Array.toArray_toList]; exact heap_alloc_new w _
  case hn => rw [HX.out]; exact (Nat.min_self n).symm
  case hpos =>
    intro h0
    try refine ⟨rfl, ?_⟩
    obtain ⟨g, rfl, hg0, hg1⟩ := own_some HO.out (by have := HX.out; omega)
    refine ⟨_, rfl, fun j u hu => ?_⟩
    have := HO.out.cells rfl j u hu
    rw [← this]
    exact World.cell?_alloc_lt w _ _ (by rw [add_plain]; exact hg1)
  case hfit => have h0 : (madeCells #[.int .u64 0] n).toList.length = n := by rw [Array.length_toList, size_madeCells]
               have := HX.out; omega
  case hb => exact (Below.refl _ w).alloc (Nat.le_refl _) _
  case hk =>
    intro w' HG hb
    have HB := Lib.hid hb
    clear hb
    go_wp2
    go_ret
    have e : splice (madeCells #[.int .u64 0] n).toList 0 xs = xs := splice_all _ _ (by rw [Array.length_toList, size_madeCells, HX.out])
    have hG := HG.out
    rw [e] at hG
    have hx := HX.out
    subst hx
    refine ⟨_, rfl, ⟨by rw [Nat.mul_one], .inr ⟨w.heap.size, xs.length, xs.toArray, rfl, Nat.le_refl _, hG, Nat.le_refl _, by unfold maxLen; omega, by simp, ?_⟩⟩, HB.out⟩
    rw [Nat.mul_one]
    exact List.take_length

theorem info_U : (Try.prog.info? 4).map (fun i => (i.zero, i.size, i.bytes)) = some (some (.bool false), 1, 1) := by kernel_rfl
set_option maxHeartbeats 400000 in
theorem copyU_any (v : Value) (n : Nat) (xs : List Value) (b : Nat) (w : World) (h : w.ownsRow b 4 1 v n xs) (h1 : ∀ u ∈ xs, u.oneCell' = true) (hl : n ≤ 100000) :
    Calls Try.prog 90 #[v] w (GivesRow 4 xs w) := by
  obtain ⟨p, cap, rfl, hnc, hcm, hx⟩ := own_form h
  have hmk := fun W : World => run_make_row' (P := Try.prog) 25 4 (.bool false) 1 Try.underlying25 info_U rfl .i64 .i64 n (by omega) (by omega) W
  have hsz : (Try.prog.info? 4).map (·.size) = some 1 := by kernel_rfl
  have HSZ := Lib.hid hsz
  have HX := Lib.hid hx
  have HO := Lib.hid h
  clear h hx hsz
  go_enter Try.func90, Try.ntmps90
  go_wp2_with (with_reducible refine wpList_copy_splice rfl (.tmp 7) (.tmp 8) 25 25 rfl 4 Try.underlying25 HSZ.out (some ⟨w.heap.size, 0, none⟩) p n n n cap rfl rfl w.heap.size 0 (madeCells #[.bool false] n).toList 4 ?hg xs ?hn ?hpos ?hfit h1 w.heap.size w ?hb (Nat.le_refl _) ?hk)
  case hg => rw [Array.toArray_toList]; exact heap_alloc_new w _
  case hn => rw [HX.out]; exact (Nat.min_self n).symm
  case hpos =>
    intro h0
    try refine ⟨rfl, ?_⟩
    obtain ⟨g, rfl, hg0, hg1⟩ := own_some HO.out (by have := HX.out; omega)
    refine ⟨_, rfl, fun j u hu => ?_⟩
    have := HO.out.cells rfl j u hu
    rw [← this]
    exact World.cell?_alloc_lt w _ _ (by rw [add_plain]; exact hg1)
  case hfit => have h0 : (madeCells #[.bool false] n).toList.length = n := by rw [Array.length_toList, size_madeCells]
               have := HX.out; omega
  case hb => exact (Below.refl _ w).alloc (Nat.le_refl _) _
  case hk =>
    intro w' HG hb
    have HB := Lib.hid hb
    clear hb
    go_wp2
    go_ret
    have e : splice (madeCells #[.bool false] n).toList 0 xs = xs := splice_all _ _ (by rw [Array.length_toList, size_madeCells, HX.out])
    have hG := HG.out
    rw [e] at hG
    have hx := HX.out
    subst hx
    refine ⟨_, rfl, ⟨by rw [Nat.mul_one], .inr ⟨w.heap.size, xs.length, xs.toArray, rfl, Nat.le_refl _, hG, Nat.le_refl _, by unfold maxLen; omega, by simp, ?_⟩⟩, HB.out⟩
    rw [Nat.mul_one]
    exact List.take_length

theorem info_F : (Try.prog.info? 3).map (fun i => (i.zero, i.size, i.bytes)) = some (some (.int .i64 0), 1, 8) := by kernel_rfl
set_option maxHeartbeats 400000 in
theorem copyF_any (v : Value) (n : Nat) (xs : List Value) (b : Nat) (w : World) (h : w.ownsRow b 3 1 v n xs) (h1 : ∀ u ∈ xs, u.oneCell' = true) (hl : n ≤ 100000) :
    Calls Try.prog 91 #[v] w (GivesRow 3 xs w) := by
  obtain ⟨p, cap, rfl, hnc, hcm, hx⟩ := own_form h
  have hmk := fun W : World => run_make_row' (P := Try.prog) 26 3 (.int .i64 0) 8 Try.underlying26 info_F rfl .i64 .i64 n (by omega) (by omega) W
  have hsz : (Try.prog.info? 3).map (·.size) = some 1 := by kernel_rfl
  have HSZ := Lib.hid hsz
  have HX := Lib.hid hx
  have HO := Lib.hid h
  clear h hx hsz
  go_enter Try.func91, Try.ntmps91
  go_wp2_with (with_reducible refine wpList_copy_splice rfl (.tmp 7) (.tmp 8) 26 26 rfl 3 Try.underlying26 HSZ.out (some ⟨w.heap.size, 0, none⟩) p n n n cap rfl rfl w.heap.size 0 (madeCells #[.int .i64 0] n).toList 3 ?hg xs ?hn ?hpos ?hfit h1 w.heap.size w ?hb (Nat.le_refl _) ?hk)
  case hg => rw [Array.toArray_toList]; exact heap_alloc_new w _
  case hn => rw [HX.out]; exact (Nat.min_self n).symm
  case hpos =>
    intro h0
    try refine ⟨rfl, ?_⟩
    obtain ⟨g, rfl, hg0, hg1⟩ := own_some HO.out (by have := HX.out; omega)
    refine ⟨_, rfl, fun j u hu => ?_⟩
    have := HO.out.cells rfl j u hu
    rw [← this]
    exact World.cell?_alloc_lt w _ _ (by rw [add_plain]; exact hg1)
  case hfit => have h0 : (madeCells #[.int .i64 0] n).toList.length = n := by rw [Array.length_toList, size_madeCells]
               have := HX.out; omega
  case hb => exact (Below.refl _ w).alloc (Nat.le_refl _) _
  case hk =>
    intro w' HG hb
    have HB := Lib.hid hb
    clear hb
    go_wp2
    go_ret
    have e : splice (madeCells #[.int .i64 0] n).toList 0 xs = xs := splice_all _ _ (by rw [Array.length_toList, size_madeCells, HX.out])
    have hG := HG.out
    rw [e] at hG
    have hx := HX.out
    subst hx
    refine ⟨_, rfl, ⟨by rw [Nat.mul_one], .inr ⟨w.heap.size, xs.length, xs.toArray, rfl, Nat.le_refl _, hG, Nat.le_refl _, by unfold maxLen; omega, by simp, ?_⟩⟩, HB.out⟩
    rw [Nat.mul_one]
    exact List.take_length
end Go.Proofs.Ytbldjlkofaiikaa
