/-
  One item by its place, on plain pools; the small case of the laws, on plain pools.
-/
import Derived.Test.YtbldjlkofaiikaaVecX
import Derived.Test.YtbldjlkofaiikaaVecU
namespace Go.Proofs.Ytbldjlkofaiikaa
set_option linter.unusedVariables false
set_option linter.unusedSimpArgs false

theorem fours_at : ∀ (m : Nat) (l : List Int) (j : Nat), j < m → (fours m l).getD j [] = (l.drop (4 * j)).take 4
  | 0, l, j, h => by omega
  | m + 1, l, 0, h => by simp [fours]
  | m + 1, l, j + 1, h => by
    rw [fours, List.getD_cons_succ, fours_at m _ j (by omega), List.drop_drop]
    congr 2; omega
theorem it_four (l : List Int) (j d : Nat) (h : d < 4) : it ((l.drop (4 * j)).take 4) d = l.getD (4 * j + d) 0 := by
  unfold it
  rw [List.getD, List.getElem?_take, if_pos h, List.getElem?_drop, List.getD]
theorem it_row {p : Pl} {row below : List Int} (h : row.map p.at = fours (qs below.length) below) {i : Nat} (hi : i < below.length) : i / 4 < row.length ∧ it (p.at (row.getD (i / 4) 0)) (i % 4) = below.getD i 0 := by
  have hl := congrArg List.length h
  rw [List.length_map, fours_len] at hl
  have hj : i / 4 < row.length := by rw [hl]; unfold qs; omega
  refine ⟨hj, ?_⟩
  have e : p.at (row.getD (i / 4) 0) = (fours (qs below.length) below).getD (i / 4) [] := by
    rw [← h, getD_at [] (by rw [List.length_map]; exact hj), List.getElem_map, getD_at 0 hj]
  rw [e, fours_at _ _ _ (by rw [← hl]; exact hj), it_four _ _ _ (by omega)]
  congr 1; omega
theorem get_split {p : Pl} (i : Nat) : ∀ (L : Nat) (x : Int), p.get i (L + 1) x = (p.get (i / 4) L x).bind (fun y => if p.st.lv y then some (it (p.at y) (i % 4)) else none)
  | 0, x => by
    rw [Pl.get, Pl.get, Option.bind_some]
    simp [Pl.get]
  | L + 1, x => by
    have h1 : p.get i (L + 1 + 1) x = if p.st.lv x then p.get i (L + 1) (it (p.at x) (i / 4 ^ (L + 1) % 4)) else none := rfl
    have h2 : p.get (i / 4) (L + 1) x = if p.st.lv x then p.get (i / 4) L (it (p.at x) (i / 4 / 4 ^ L % 4)) else none := rfl
    rw [h1, h2]
    split
    · rw [get_split i L, Nat.div_div_eq_div_mul, Nat.mul_comm 4, ← Nat.pow_succ]
    · rfl
theorem get_tr {p : Pl} : ∀ {rows : List (List Int)} {below : List Int} (hne : rows ≠ []) {i : Nat}, Tr p rows below → i < below.length → p.get i rows.length ((rows.getLast hne).getD (i / 4 ^ rows.length) 0) = some (below.getD i 0)
  | [], _, hne, _, _, _ => absurd rfl hne
  | [row], below, _, i, h, hi => by
    obtain ⟨a, b⟩ := it_row h.1 hi
    show p.get i 1 (row.getD (i / 4 ^ 1) 0) = _
    rw [Nat.pow_one, Pl.get, if_pos (by rw [getD_at 0 a]; exact (h.2.1 _ (List.getElem_mem _)).1), Pl.get, Nat.pow_zero, Nat.div_one, b]
  | row :: r0 :: rest, below, _, i, h, hi => by
    obtain ⟨a, b⟩ := it_row h.1 hi
    have ih := get_tr (rows := r0 :: rest) (by simp) h.2.2 a
    show p.get i ((r0 :: rest).length + 1) _ = _
    rw [get_split, List.getLast_cons (by simp), show i / 4 ^ (row :: r0 :: rest).length = i / 4 / 4 ^ (r0 :: rest).length by rw [Nat.div_div_eq_div_mul, Nat.mul_comm 4, ← Nat.pow_succ]; rfl, ih, Option.bind_some, if_pos (by rw [getD_at 0 a]; exact (h.2.1 _ (List.getElem_mem _)).1), b]
theorem lvs_pow : ∀ m, m < 201 → m ≤ 4 ^ lvs m := by decide +kernel
theorem WF.get {p : Pl} {v : Vc} {l : List Int} {rows : List (List Int)} (h : WF p v l rows) {i : Nat} (hi : i < l.length) : p.get i (lvs v.size) v.root = some (l.getD i 0) := by
  have hne : rows ≠ [] := fun e => by
    have := h.len; rw [e] at this
    have := lvs_zero this.symm; omega
  have := get_tr hne h.tr hi
  rw [h.top hne, h.len] at this
  rw [h.size]
  have hz : i / 4 ^ lvs l.length = 0 := Nat.div_eq_of_lt (by have := lvs_pow l.length (by have := h.small; omega); omega)
  rw [hz] at this
  exact this

/-! ### the small case -/
def sT1 : Told := (freshP 9).change ⟨0, 0⟩ [1, 2, 3, 4, 5]
def sT2 : Told := sT1.p.setV sT1.v 4 9
theorem s1 : sT1.e = 0 ∧ sT1.v.size = 5 ∧ sT1.v.root = 16777218 := by decide +kernel
theorem s2 : sT2.e = 0 ∧ sT2.v.size = 5 ∧ sT2.v.root = 16777220 ∧ sT2.gone = [16777217, 16777218] := by decide +kernel
theorem s3' : sT2.p.get 4 (lvs 5) 16777220 = some 9 := by decide +kernel
theorem s4 : sT1.p.down (lvs 5) [16777218] = some [[16777216, 16777217], [16777218]] := by decide +kernel
theorem u15 : U64 [1, 2, 3, 4, 5] := by
  intro x hx
  simp at hx
  omega
theorem sT1_raise : ∃ q rows, (freshP 9).raise [] (lvs 5) [1, 2, 3, 4, 5] = some (q, rows) := by
  obtain ⟨q, rows, h, -⟩ := raise_room (L := lvs 5) (p := freshP 9) (old := []) (below := [1, 2, 3, 4, 5]) (by decide +kernel)
  exact ⟨q, rows, h⟩
theorem sT1_wf : PK 9 1 sT1.p ∧ ∃ rows, WF sT1.p sT1.v [1, 2, 3, 4, 5] rows := by
  obtain ⟨q, rows, h⟩ := sT1_raise
  obtain ⟨a, b, c, d⟩ := change_wf (freshP_ok (n := 9) (by decide)) (by decide) (WF.empty _) (by decide) u15 h
  unfold sT1
  rw [a]
  exact ⟨b, rows, d⟩
theorem sT1_items : sT1.p.items sT1.v = some [1, 2, 3, 4, 5] := by
  obtain ⟨-, rows, h⟩ := sT1_wf
  exact h.items
theorem sT2_pk : PK 9 1 sT2.p := by
  obtain ⟨hk, rows, h⟩ := sT1_wf
  have e : sT2 = sT1.p.change sT1.v [1, 2, 3, 4, 9] := by
    unfold sT2 Pl.setV
    rw [if_neg (by rw [s1.2.1]; decide), sT1_items]
    rfl
  obtain ⟨q, rows2, h2, -⟩ := raise_room (L := lvs 5) (p := sT1.p) (old := rows) (below := [1, 2, 3, 4, 9]) (by decide +kernel)
  obtain ⟨a, b, c, d⟩ := change_wf hk (by decide) h (items := [1, 2, 3, 4, 9]) (by decide) (by intro x hx; simp at hx; omega) h2
  rw [e, a]
  exact b
end Go.Proofs.Ytbldjlkofaiikaa
