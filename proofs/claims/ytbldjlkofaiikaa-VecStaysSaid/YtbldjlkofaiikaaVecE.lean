/-
  Lists and pools, cloned.
-/
import Derived.Test.YtbldjlkofaiikaaVecD
import Derived.Lib.SliceRun
namespace Go.Proofs.Ytbldjlkofaiikaa
open Go.ChangeShapes Go.WideShapes Go.ChangeAt Go.RowKit
set_option linter.unusedVariables false
set_option linter.unusedSimpArgs false

/-- A list of n elements e, of these cells, is handed back in new memory. -/
def GivesCl (e : TypeId) (size n : Nat) (xs : List Value) (w : World) (en : Ending) (w' : World) : Prop :=
  ∃ v, en = .returned v ∧ w'.ownsRow w.heap.size e size v n xs ∧ Below w.heap.size w w'
theorem info_K : (Try.prog.info? 83).map (fun i => (i.zero, i.size, i.bytes)) = some (some (.agg #[.int .i64 0, .int .u64 0, .int .u64 0, .int .u64 0, .int .u64 0]), 5, 40) := by kernel_rfl

set_option maxRecDepth 100000 in
set_option maxHeartbeats 1000000 in
theorem cloneG (v : Value) (n : Nat) (xs : List Value) (b : Nat) (w : World) (h : w.ownsRow b 41 1 v n xs) (h1 : ∀ u ∈ xs, u.oneCell' = true) (hl : n ≤ 1000) :
    Calls Try.prog 64 #[v] w (GivesCl 41 1 n xs w) := by
  obtain ⟨i0', hi0, hz0, hz1, hz2⟩ := info_parts info_G
  have hI := Lib.hid hi0
  have hZ0 := Lib.hid hz0
  have hZ1 := Lib.hid hz1
  have hZ2 := Lib.hid hz2
  clear hi0 hz0 hz1 hz2
  have qE : ∀ (w : World) (a : Option Addr) (n c n' c' : Nat), (binOp .eql 24 (.slice a n c) (.slice none n' c')).run Try.prog w = .ok (.bool a.isNone) w := fun w a n c n' c' => Lib.run_eql_slice_nil w _ 41 a n c n' c' Try.underlying24
  rcases h.2 with ⟨rfl, rfl⟩ | ⟨g, cap, cur, rfl, hbg, hg, hnc, hcm, hcs, hct⟩
  · have hx : xs = [] := List.eq_nil_of_length_eq_zero (h.1.trans (Nat.zero_mul _))
    subst hx
    go_enter Try.func64, Try.ntmps64
    go_wp2
    go_ret
    exact ⟨_, rfl, World.ownsRow_nil _ _ _ _, Below.refl _ _⟩
  · have HO := Lib.hid h
    have hgl := (Array.getElem?_eq_some_iff.1 hg).1
    clear h hg hct hcs
    have HC : Hid (∀ j u, xs[j]? = some u → (w.alloc (.cells #[] 41)).cell? ((⟨g, 0, none⟩ : Addr).add j) = some u) := Lib.hid (fun j u hu => by
      rw [World.cell?_alloc_lt _ _ _ (by rw [add_plain]; exact hgl)]
      exact HO.out.cells rfl j u hu)
    have HN : Hid ((w.alloc (.cells #[] 41)).ownsRow w.heap.size 41 1 (.slice (some ⟨w.heap.size, 0, none⟩) 0 0) 0 []) := Lib.hid ⟨by simp, .inr ⟨w.heap.size, 0, #[], rfl, Nat.le_refl _, heap_alloc_new _ _, Nat.le_refl _, by simp [maxLen], by simp, by simp⟩⟩
    go_enter Try.func64, Try.ntmps64
    go_wp2_with (at_builtin; refine wpList_append_own_at _ rfl _ _ 24 rfl w.heap.size 41 i0' (.int .u64 0) 1 8 Try.underlying24 hI.out hZ0.out hZ1.out hZ2.out rfl (by decide) _ _ _ rfl HN.out ⟨g, 0, none⟩ n cap xs rfl HO.out.1 HC.out h1 (by unfold maxLen; omega) (by omega) (by simp) ?_; intro v' w5 hown' hgrow _ hat; obtain ⟨q', cap', rfl, -, -⟩ := own_form5 hown'
                 have HO' := Lib.hid hown'
                 have HGR := Lib.hid hgrow
                 clear hown' hgrow hat)
    go_ret
    refine ⟨_, rfl, ?_, ?_⟩
    · have := HO'.out
      rw [List.nil_append] at this
      simpa using this
    · exact ((Below.refl _ w).alloc (Nat.le_refl _) _).grown HGR.out (by simp) (fun q e => (HN.out.lt q e).1)

set_option maxRecDepth 100000 in
set_option maxHeartbeats 1000000 in
theorem cloneU (v : Value) (n : Nat) (xs : List Value) (b : Nat) (w : World) (h : w.ownsRow b 4 1 v n xs) (h1 : ∀ u ∈ xs, u.oneCell' = true) (hl : n ≤ 1000) :
    Calls Try.prog 65 #[v] w (GivesCl 4 1 n xs w) := by
  obtain ⟨i0', hi0, hz0, hz1, hz2⟩ := info_parts info_U
  have hI := Lib.hid hi0
  have hZ0 := Lib.hid hz0
  have hZ1 := Lib.hid hz1
  have hZ2 := Lib.hid hz2
  clear hi0 hz0 hz1 hz2
  have qE : ∀ (w : World) (a : Option Addr) (n c n' c' : Nat), (binOp .eql 25 (.slice a n c) (.slice none n' c')).run Try.prog w = .ok (.bool a.isNone) w := fun w a n c n' c' => Lib.run_eql_slice_nil w _ 4 a n c n' c' Try.underlying25
  rcases h.2 with ⟨rfl, rfl⟩ | ⟨g, cap, cur, rfl, hbg, hg, hnc, hcm, hcs, hct⟩
  · have hx : xs = [] := List.eq_nil_of_length_eq_zero (h.1.trans (Nat.zero_mul _))
    subst hx
    go_enter Try.func65, Try.ntmps65
    go_wp2
    go_ret
    exact ⟨_, rfl, World.ownsRow_nil _ _ _ _, Below.refl _ _⟩
  · have HO := Lib.hid h
    have hgl := (Array.getElem?_eq_some_iff.1 hg).1
    clear h hg hct hcs
    have HC : Hid (∀ j u, xs[j]? = some u → (w.alloc (.cells #[] 4)).cell? ((⟨g, 0, none⟩ : Addr).add j) = some u) := Lib.hid (fun j u hu => by
      rw [World.cell?_alloc_lt _ _ _ (by rw [add_plain]; exact hgl)]
      exact HO.out.cells rfl j u hu)
    have HN : Hid ((w.alloc (.cells #[] 4)).ownsRow w.heap.size 4 1 (.slice (some ⟨w.heap.size, 0, none⟩) 0 0) 0 []) := Lib.hid ⟨by simp, .inr ⟨w.heap.size, 0, #[], rfl, Nat.le_refl _, heap_alloc_new _ _, Nat.le_refl _, by simp [maxLen], by simp, by simp⟩⟩
    go_enter Try.func65, Try.ntmps65
    go_wp2_with (at_builtin; refine wpList_append_own_at _ rfl _ _ 25 rfl w.heap.size 4 i0' (.bool false) 1 1 Try.underlying25 hI.out hZ0.out hZ1.out hZ2.out rfl (by decide) _ _ _ rfl HN.out ⟨g, 0, none⟩ n cap xs rfl HO.out.1 HC.out h1 (by unfold maxLen; omega) (by omega) (by simp) ?_; intro v' w5 hown' hgrow _ hat; obtain ⟨q', cap', rfl, -, -⟩ := own_form5 hown'
                 have HO' := Lib.hid hown'
                 have HGR := Lib.hid hgrow
                 clear hown' hgrow hat)
    go_ret
    refine ⟨_, rfl, ?_, ?_⟩
    · have := HO'.out
      rw [List.nil_append] at this
      simpa using this
    · exact ((Below.refl _ w).alloc (Nat.le_refl _) _).grown HGR.out (by simp) (fun q e => (HN.out.lt q e).1)

set_option maxRecDepth 100000 in
set_option maxHeartbeats 1000000 in
theorem cloneF (v : Value) (n : Nat) (xs : List Value) (b : Nat) (w : World) (h : w.ownsRow b 3 1 v n xs) (h1 : ∀ u ∈ xs, u.oneCell' = true) (hl : n ≤ 1000) :
    Calls Try.prog 66 #[v] w (GivesCl 3 1 n xs w) := by
  obtain ⟨i0', hi0, hz0, hz1, hz2⟩ := info_parts info_F
  have hI := Lib.hid hi0
  have hZ0 := Lib.hid hz0
  have hZ1 := Lib.hid hz1
  have hZ2 := Lib.hid hz2
  clear hi0 hz0 hz1 hz2
  have qE : ∀ (w : World) (a : Option Addr) (n c n' c' : Nat), (binOp .eql 26 (.slice a n c) (.slice none n' c')).run Try.prog w = .ok (.bool a.isNone) w := fun w a n c n' c' => Lib.run_eql_slice_nil w _ 3 a n c n' c' Try.underlying26
  rcases h.2 with ⟨rfl, rfl⟩ | ⟨g, cap, cur, rfl, hbg, hg, hnc, hcm, hcs, hct⟩
  · have hx : xs = [] := List.eq_nil_of_length_eq_zero (h.1.trans (Nat.zero_mul _))
    subst hx
    go_enter Try.func66, Try.ntmps66
    go_wp2
    go_ret
    exact ⟨_, rfl, World.ownsRow_nil _ _ _ _, Below.refl _ _⟩
  · have HO := Lib.hid h
    have hgl := (Array.getElem?_eq_some_iff.1 hg).1
    clear h hg hct hcs
    have HC : Hid (∀ j u, xs[j]? = some u → (w.alloc (.cells #[] 3)).cell? ((⟨g, 0, none⟩ : Addr).add j) = some u) := Lib.hid (fun j u hu => by
      rw [World.cell?_alloc_lt _ _ _ (by rw [add_plain]; exact hgl)]
      exact HO.out.cells rfl j u hu)
    have HN : Hid ((w.alloc (.cells #[] 3)).ownsRow w.heap.size 3 1 (.slice (some ⟨w.heap.size, 0, none⟩) 0 0) 0 []) := Lib.hid ⟨by simp, .inr ⟨w.heap.size, 0, #[], rfl, Nat.le_refl _, heap_alloc_new _ _, Nat.le_refl _, by simp [maxLen], by simp, by simp⟩⟩
    go_enter Try.func66, Try.ntmps66
    go_wp2_with (at_builtin; refine wpList_append_own_at _ rfl _ _ 26 rfl w.heap.size 3 i0' (.int .i64 0) 1 8 Try.underlying26 hI.out hZ0.out hZ1.out hZ2.out rfl (by decide) _ _ _ rfl HN.out ⟨g, 0, none⟩ n cap xs rfl HO.out.1 HC.out h1 (by unfold maxLen; omega) (by omega) (by simp) ?_; intro v' w5 hown' hgrow _ hat; obtain ⟨q', cap', rfl, -, -⟩ := own_form5 hown'
                 have HO' := Lib.hid hown'
                 have HGR := Lib.hid hgrow
                 clear hown' hgrow hat)
    go_ret
    refine ⟨_, rfl, ?_, ?_⟩
    · have := HO'.out
      rw [List.nil_append] at this
      simpa using this
    · exact ((Below.refl _ w).alloc (Nat.le_refl _) _).grown HGR.out (by simp) (fun q e => (HN.out.lt q e).1)

set_option maxRecDepth 100000 in
set_option maxHeartbeats 1000000 in
theorem cloneC (v : Value) (n : Nat) (xs : List Value) (b : Nat) (w : World) (h : w.ownsRow b 83 5 v n xs) (h1 : ∀ u ∈ xs, u.oneCell' = true) (hl : n ≤ 1000) :
    Calls Try.prog 67 #[v] w (GivesCl 83 5 n xs w) := by
  obtain ⟨i0', hi0, hz0, hz1, hz2⟩ := info_parts info_K
  have hI := Lib.hid hi0
  have hZ0 := Lib.hid hz0
  have hZ1 := Lib.hid hz1
  have hZ2 := Lib.hid hz2
  clear hi0 hz0 hz1 hz2
  have qE : ∀ (w : World) (a : Option Addr) (n c n' c' : Nat), (binOp .eql 29 (.slice a n c) (.slice none n' c')).run Try.prog w = .ok (.bool a.isNone) w := fun w a n c n' c' => Lib.run_eql_slice_nil w _ 83 a n c n' c' Try.underlying29
  rcases h.2 with ⟨rfl, rfl⟩ | ⟨g, cap, cur, rfl, hbg, hg, hnc, hcm, hcs, hct⟩
  · have hx : xs = [] := List.eq_nil_of_length_eq_zero (h.1.trans (Nat.zero_mul _))
    subst hx
    go_enter Try.func67, Try.ntmps67
    go_wp2
    go_ret
    exact ⟨_, rfl, World.ownsRow_nil _ _ _ _, Below.refl _ _⟩
  · have HO := Lib.hid h
    have hgl := (Array.getElem?_eq_some_iff.1 hg).1
    clear h hg hct hcs
    have HC : Hid (∀ j u, xs[j]? = some u → (w.alloc (.cells #[] 83)).cell? ((⟨g, 0, none⟩ : Addr).add j) = some u) := Lib.hid (fun j u hu => by
      rw [World.cell?_alloc_lt _ _ _ (by rw [add_plain]; exact hgl)]
      exact HO.out.cells rfl j u hu)
    have HN : Hid ((w.alloc (.cells #[] 83)).ownsRow w.heap.size 83 5 (.slice (some ⟨w.heap.size, 0, none⟩) 0 0) 0 []) := Lib.hid ⟨by simp, .inr ⟨w.heap.size, 0, #[], rfl, Nat.le_refl _, heap_alloc_new _ _, Nat.le_refl _, by simp [maxLen], by simp, by simp⟩⟩
    go_enter Try.func67, Try.ntmps67
    go_wp2_with (at_builtin; refine wpList_append_own_at _ rfl _ _ 29 rfl w.heap.size 83 i0' (.agg #[.int .i64 0, .int .u64 0, .int .u64 0, .int .u64 0, .int .u64 0]) 5 40 Try.underlying29 hI.out hZ0.out hZ1.out hZ2.out rfl (by decide) _ _ _ rfl HN.out ⟨g, 0, none⟩ n cap xs rfl HO.out.1 HC.out h1 (by unfold maxLen; omega) (by omega) (by simp) ?_; intro v' w5 hown' hgrow _ hat; obtain ⟨q', cap', rfl, -, -⟩ := own_form5 hown'
                 have HO' := Lib.hid hown'
                 have HGR := Lib.hid hgrow
                 clear hown' hgrow hat)
    go_ret
    refine ⟨_, rfl, ?_, ?_⟩
    · have := HO'.out
      rw [List.nil_append] at this
      simpa using this
    · exact ((Below.refl _ w).alloc (Nat.le_refl _) _).grown HGR.out (by simp) (fun q e => (HN.out.lt q e).1)
end Go.Proofs.Ytbldjlkofaiikaa
