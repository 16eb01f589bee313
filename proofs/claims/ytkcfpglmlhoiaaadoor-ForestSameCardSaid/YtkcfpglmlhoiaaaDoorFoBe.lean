/-
  A forest's row of nodes, copied, and one cell of it made other.
-/
import Derived.Test.YtkcfpglmlhoiaaaDoorFoBc
import Derived.Test.YtkcfpglmlhoiaaaDoorFoP
import Derived.Test.YtkcfpglmlhoiaaaDoorFoJ
import Derived.Laws.Rows
namespace Go.Proofs.YtkcfpglmlhoiaaaDoor
open Go.ChangeShapes Go.WideShapes Go.ChangeAt Go.RowKit
set_option linter.unusedVariables false
set_option linter.unusedSimpArgs false

def ncells (m : Mn) : List Value := [.int .i64 m.kind, .string m.name, .string m.text, .slice m.aA m.attrs.length m.aC, .int .i64 m.parent, .slice m.kA m.kids.length m.kC]
def fcells (F : List Mn) : List Value := F.flatMap ncells
theorem fcells_length (F : List Mn) : (fcells F).length = F.length * 6 := by
  induction F with
  | nil => rfl
  | cons m F ih => rw [fcells, List.flatMap_cons, List.length_append]; rw [fcells] at ih; rw [ih]; simp [ncells]; omega
theorem fcells_one (F : List Mn) : ∀ u ∈ fcells F, u.oneCell' = true := by
  intro u hu
  obtain ⟨m, -, hm⟩ := List.mem_flatMap.1 hu
  simp only [ncells, List.mem_cons, List.not_mem_nil, or_false] at hm
  rcases hm with rfl | rfl | rfl | rfl | rfl | rfl <;> rfl
/-- The six cells of a node. -/
structure C6 (w : World) (g o : Nat) (m : Mn) : Prop where
  c0 : w.cell? ⟨g, o, none⟩ = some (.int .i64 m.kind)
  c1 : w.cell? ⟨g, o + 1, none⟩ = some (.string m.name)
  c2 : w.cell? ⟨g, o + 2, none⟩ = some (.string m.text)
  c3 : w.cell? ⟨g, o + 3, none⟩ = some (.slice m.aA m.attrs.length m.aC)
  c4 : w.cell? ⟨g, o + 4, none⟩ = some (.int .i64 m.parent)
  c5 : w.cell? ⟨g, o + 5, none⟩ = some (.slice m.kA m.kids.length m.kC)
/-- The rows of nodes, from o on. -/
def RowAt (w : World) (g o : Nat) (F : List Mn) : Prop := ∀ i m, F[i]? = some m → C6 w g (o + i * 6) m
theorem fr_row {w : World} {g o : Nat} {F : List Mn} (h : FR w (some ⟨g, o, none⟩) F) : RowAt w g o F := fun i m hm => by
  obtain ⟨-, g', o', hA, -, hn⟩ := h i m hm
  cases hA
  exact ⟨hn.c0, hn.c1, hn.c2, hn.c3, hn.c4, hn.c5⟩
theorem row_cells {w : World} {g : Nat} : ∀ {F : List Mn} {o : Nat}, RowAt w g o F → ∀ j u, (fcells F)[j]? = some u → w.cell? ⟨g, o + j, none⟩ = some u
  | [], o, h, j, u, hu => by simp [fcells] at hu
  | m :: F, o, h, j, u, hu => by
    have h0 := h 0 m rfl
    rw [Nat.zero_mul, Nat.add_zero] at h0
    have hr : RowAt w g (o + 6) F := fun i m' hm => by
      have := h (i + 1) m' (by simpa using hm)
      rw [show o + (i + 1) * 6 = o + 6 + i * 6 by omega] at this
      exact this
    rw [fcells, List.flatMap_cons] at hu
    by_cases hj : j < 6
    · rw [List.getElem?_append_left (by simpa [ncells] using hj)] at hu
      rcases j with _ | _ | _ | _ | _ | _ | j
      · simp [ncells] at hu; subst hu; exact h0.c0
      · simp [ncells] at hu; subst hu; exact h0.c1
      · simp [ncells] at hu; subst hu; exact h0.c2
      · simp [ncells] at hu; subst hu; exact h0.c3
      · simp [ncells] at hu; subst hu; exact h0.c4
      · simp [ncells] at hu; subst hu; exact h0.c5
      · omega
    · rw [List.getElem?_append_right (by simp [ncells]; omega)] at hu
      have := row_cells hr (j - 6) u (by simpa [ncells, fcells] using hu)
      rw [show o + 6 + (j - 6) = o + j by omega] at this
      exact this
theorem cells_row {w : World} {g : Nat} : ∀ {F : List Mn} {o : Nat}, (∀ j u, (fcells F)[j]? = some u → w.cell? ⟨g, o + j, none⟩ = some u) → RowAt w g o F
  | [], o, h, i, m, hm => by simp at hm
  | m :: F, o, h, i, m', hm => by
    cases i with
    | zero =>
      simp at hm
      subst hm
      rw [Nat.zero_mul, Nat.add_zero]
      have key : ∀ j u, (ncells m)[j]? = some u → w.cell? ⟨g, o + j, none⟩ = some u := fun j u hu => h j u (by
        rw [fcells, List.flatMap_cons, List.getElem?_append_left (List.getElem?_eq_some_iff.1 hu).1]; exact hu)
      exact ⟨key 0 _ rfl, key 1 _ rfl, key 2 _ rfl, key 3 _ rfl, key 4 _ rfl, key 5 _ rfl⟩
    | succ i =>
      have hr : RowAt w g (o + 6) F := cells_row (fun j u hu => by
        have := h (6 + j) u (by rw [fcells, List.flatMap_cons, List.getElem?_append_right (by simp [ncells])]; simpa [ncells, fcells] using hu)
        rw [show o + (6 + j) = o + 6 + j by omega] at this
        exact this)
      have := hr i m' (by simpa using hm)
      rw [show o + 6 + i * 6 = o + (i + 1) * 6 by omega] at this
      exact this
theorem own_row {w : World} {base : Nat} {v : Value} {F : List Mn} (h : w.ownsRow base 34 6 v F.length (fcells F)) (h0 : 0 < F.length) :
    ∃ g cap cur, v = .slice (some ⟨g, 0, none⟩) F.length cap ∧ base ≤ g ∧ w.heap[g]? = some (.cells cur 34 (0, 0)) ∧ F.length ≤ cap ∧ cap ≤ maxLen ∧ F.length * 6 ≤ cur.size ∧ RowAt w g 0 F := by
  rcases h.2 with ⟨-, h'⟩ | ⟨g, cap, cur, hv, hb, hg, h1, h2, h3, h4⟩
  · omega
  · refine ⟨g, cap, cur, hv, hb, hg, h1, h2, by rw [h3]; exact Nat.mul_le_mul_right _ h1, cells_row (fun j u hu => ?_)⟩
    subst hv
    have := h.cells rfl j u hu
    rw [← this, show (⟨g, 0, none⟩ : Addr).add j = ⟨g, 0 + j, none⟩ by unfold Addr.add; split <;> simp_all]
theorem cell_set {w : World} {g j : Nat} {cur : Array Value} {t : TypeId} (hg : w.heap[g]? = some (.cells cur t (0, 0))) (hj : j < cur.size) (v : Value) (i : Nat) : (w.setCell ⟨g, j, none⟩ v).cell? ⟨g, i, none⟩ = if i = j then some v else w.cell? ⟨g, i, none⟩ := by
  have h1 : (w.setCell ⟨g, j, none⟩ v).heap[g]? = some (.cells (cur.setIfInBounds j v) t (0, 0)) := by
    unfold World.setCell
    simp [Array.getElem?_modify, hg]
  simp only [World.cell?, h1, hg]
  by_cases h : i = j
  · subst h
    simp [hj]
  · simp [h, Ne.symm h]
theorem row_setK {w : World} {g n : Nat} {F : List Mn} {cur : Array Value} {t : TypeId} (h : RowAt w g 0 F) (hg : w.heap[g]? = some (.cells cur t (0, 0))) (hs : F.length * 6 ≤ cur.size) (hn : n < F.length) (k : Int) : RowAt (w.setCell ⟨g, n * 6, none⟩ (.int .i64 k)) g 0 (setK F n k) := by
  intro i m hm
  unfold setK at hm
  rw [List.getElem?_modify] at hm
  obtain ⟨m0, h0, hm'⟩ := Option.map_eq_some_iff.1 hm
  have hc := h i m0 h0
  have key := cell_set hg (j := n * 6) (by omega) (.int .i64 k)
  by_cases hni : n = i
  · subst hni
    rw [if_pos rfl] at hm'
    subst hm'
    constructor
    · rw [key, if_pos (by omega)]
    · rw [key, if_neg (by omega)]; exact hc.c1
    · rw [key, if_neg (by omega)]; exact hc.c2
    · rw [key, if_neg (by omega)]; exact hc.c3
    · rw [key, if_neg (by omega)]; exact hc.c4
    · rw [key, if_neg (by omega)]; exact hc.c5
  · rw [if_neg hni] at hm'
    cases hm'
    constructor
    · rw [key, if_neg (by omega)]; exact hc.c0
    · rw [key, if_neg (by omega)]; exact hc.c1
    · rw [key, if_neg (by omega)]; exact hc.c2
    · rw [key, if_neg (by omega)]; exact hc.c3
    · rw [key, if_neg (by omega)]; exact hc.c4
    · rw [key, if_neg (by omega)]; exact hc.c5
theorem row_setP {w : World} {g n : Nat} {F : List Mn} {cur : Array Value} {t : TypeId} (h : RowAt w g 0 F) (hg : w.heap[g]? = some (.cells cur t (0, 0))) (hs : F.length * 6 ≤ cur.size) (hn : n < F.length) (k : Int) : RowAt (w.setCell ⟨g, n * 6 + 4, none⟩ (.int .i64 k)) g 0 (setP F n k) := by
  intro i m hm
  unfold setP at hm
  rw [List.getElem?_modify] at hm
  obtain ⟨m0, h0, hm'⟩ := Option.map_eq_some_iff.1 hm
  have hc := h i m0 h0
  have key := cell_set hg (j := n * 6 + 4) (by omega) (.int .i64 k)
  by_cases hni : n = i
  · subst hni
    rw [if_pos rfl] at hm'
    subst hm'
    constructor
    · rw [key, if_neg (by omega)]; exact hc.c0
    · rw [key, if_neg (by omega)]; exact hc.c1
    · rw [key, if_neg (by omega)]; exact hc.c2
    · rw [key, if_neg (by omega)]; exact hc.c3
    · rw [key, if_pos (by omega)]
    · rw [key, if_neg (by omega)]; exact hc.c5
  · rw [if_neg hni] at hm'
    cases hm'
    constructor
    · rw [key, if_neg (by omega)]; exact hc.c0
    · rw [key, if_neg (by omega)]; exact hc.c1
    · rw [key, if_neg (by omega)]; exact hc.c2
    · rw [key, if_neg (by omega)]; exact hc.c3
    · rw [key, if_neg (by omega)]; exact hc.c4
    · rw [key, if_neg (by omega)]; exact hc.c5
/-- A row of nodes whose lists lie in what was there is a forest. -/
theorem row_fr {w V : World} {A : Option Addr} {F G : List Mn} {g : Nat} (hF : FR w A F) (hb : Below w.heap.size w V) (hg : g < V.heap.size) (hr : RowAt V g 0 G)
    (hG : ∀ (i : Nat) (m : Mn), G[i]? = some m → Fit m ∧ ∃ m' : Mn, F[i]? = some m' ∧ m.attrs = m'.attrs ∧ m.kids = m'.kids ∧ m.aA = m'.aA ∧ m.kA = m'.kA) : FR V (some ⟨g, 0, none⟩) G := by
  intro i m hm
  obtain ⟨hf, m', hm', e1, e2, e3, e4⟩ := hG i m hm
  obtain ⟨-, g', o', -, -, hn⟩ := hF i m' hm'
  have hc := hr i m hm
  refine ⟨hf, g, 0, rfl, hg, ⟨hc.c0, hc.c1, hc.c2, hc.c3, hc.c4, hc.c5, ?_, ?_⟩⟩
  · rw [e1, e3]; exact hn.ar.below hb
  · rw [e2, e4]; exact hn.ir.below hb
theorem setK_like {F : List Mn} {n : Nat} {k : Int} (hk : I64 k) (hF : ∀ (i : Nat) (m : Mn), F[i]? = some m → Fit m) : ∀ (i : Nat) (m : Mn), (setK F n k)[i]? = some m → Fit m ∧ ∃ m' : Mn, F[i]? = some m' ∧ m.attrs = m'.attrs ∧ m.kids = m'.kids ∧ m.aA = m'.aA ∧ m.kA = m'.kA := by
  intro i m hm
  unfold setK at hm
  rw [List.getElem?_modify] at hm
  obtain ⟨m0, h0, hm'⟩ := Option.map_eq_some_iff.1 hm
  have hf := hF i m0 h0
  by_cases hni : n = i
  · rw [if_pos hni] at hm'
    subst hm'
    exact ⟨⟨hk, hf.p64, hf.ks64, hf.ac, hf.kc⟩, m0, h0, rfl, rfl, rfl, rfl⟩
  · rw [if_neg hni] at hm'
    cases hm'
    exact ⟨hf, m, h0, rfl, rfl, rfl, rfl⟩
theorem setP_like {F : List Mn} {n : Nat} {k : Int} (hk : I64 k) (hF : ∀ (i : Nat) (m : Mn), F[i]? = some m → Fit m) : ∀ (i : Nat) (m : Mn), (setP F n k)[i]? = some m → Fit m ∧ ∃ m' : Mn, F[i]? = some m' ∧ m.attrs = m'.attrs ∧ m.kids = m'.kids ∧ m.aA = m'.aA ∧ m.kA = m'.kA := by
  intro i m hm
  unfold setP at hm
  rw [List.getElem?_modify] at hm
  obtain ⟨m0, h0, hm'⟩ := Option.map_eq_some_iff.1 hm
  have hf := hF i m0 h0
  by_cases hni : n = i
  · rw [if_pos hni] at hm'
    subst hm'
    exact ⟨⟨hf.k64, hk, hf.ks64, hf.ac, hf.kc⟩, m0, h0, rfl, rfl, rfl, rfl⟩
  · rw [if_neg hni] at hm'
    cases hm'
    exact ⟨hf, m, h0, rfl, rfl, rfl, rfl⟩
end Go.Proofs.YtkcfpglmlhoiaaaDoor
