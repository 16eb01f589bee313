/-
  Change: what a list turns to; the errors.
-/
import Derived.Test.YtbldjlkofaiikaaVecF
import Derived.Test.YtbldjlkofaiikaaVecL
import Derived.Test.YtbldjlkofaiikaaVecN
namespace Go.Proofs.Ytbldjlkofaiikaa
open Go.ChangeShapes Go.WideShapes Go.ChangeAt Go.RowKit
set_option linter.unusedVariables false
set_option linter.unusedSimpArgs false

/-- What a change tells, in memory. -/
def GivesC (t : Told) (w : World) (en : Ending) (w' : World) : Prop :=
  ∃ vg vu vf vc vl, en = .returned (.tuple #[.agg #[vg, vu, vf, vc], .agg #[.int .u64 t.v.root, .int .i64 t.v.size], vl, .int .i64 t.e]) ∧ PA w' w.heap.size vg vu vf vc t.p ∧ w'.ownsRow w.heap.size 41 1 vl t.gone.length (gvs t.gone) ∧ Below w.heap.size w w'

/-! ### plain -/
theorem down_ok {n : Nat} {G : Int} {p : Pl} (hP : PK n G p) : ∀ {L : Nat} {row : List Int} {ls : List (List Int)}, p.down L row = some ls → U64 row → row.length * 4 ^ L ≤ 1024 → ls.length = L ∧ (∀ r ∈ ls, r.length ≤ 256) ∧ (∀ r ∈ ls, U64 r) ∧ (∀ r ∈ ls, ∀ h ∈ r, ix h < n ∧ p.st.lv h = true)
  | 0, row, ls, he, _, _ => by
    cases he
    exact ⟨rfl, fun r hr => by simp at hr, fun r hr => by simp at hr, fun r hr => by simp at hr⟩
  | L + 1, row, ls, he, hU, hl => by
    rw [Pl.down] at he
    split at he
    · rename_i hall
      obtain ⟨ls', h1, rfl⟩ := Option.map_eq_some_iff.1 he
      have hpl := hP.plen row
      have hpw : row.length * 4 ^ (L + 1) = 4 * row.length * 4 ^ L := by rw [Nat.pow_succ, Nat.mul_comm (4 ^ L) 4, ← Nat.mul_assoc, Nat.mul_comm row.length 4]
      have hm := Nat.mul_le_mul_right (4 ^ L) hpl
      obtain ⟨a, b, c, d⟩ := down_ok hP h1 (hP.parts row) (by omega)
      have hrl : row.length ≤ 256 := by
        have : 1 ≤ 4 ^ L := Nat.pow_pos (by decide)
        have := Nat.mul_le_mul_left (4 * row.length) this
        omega
      refine ⟨by simp [a], fun r hr => ?_, fun r hr => ?_, fun r hr h hh => ?_⟩
      · rcases List.mem_append.1 hr with hr | hr
        · exact b r hr
        · have : r = row := by simpa using hr
          rw [this]; exact hrl
      · rcases List.mem_append.1 hr with hr | hr
        · exact c r hr
        · have : r = row := by simpa using hr
          rw [this]; exact hU
      · rcases List.mem_append.1 hr with hr | hr
        · exact d r hr h hh
        · have : r = row := by simpa using hr
          subst this
          have hlv := List.all_eq_true.1 hall h hh
          have := (hP.fit hU hall h hh).2.2.1
          rw [hP.len] at this
          exact ⟨this, hlv⟩
    · cases he
theorem fours_len : ∀ (m : Nat) (l : List Int), (fours m l).length = m
  | 0, _ => rfl
  | m + 1, l => by rw [fours, List.length_cons, fours_len m]
theorem lays_len : ∀ {cs : List (List Int)} {p q : Pl} {old row : List Int}, p.lays old cs = some (q, row) → row.length = cs.length
  | [], p, q, old, row, h => by cases h; rfl
  | c :: cs, p, q, old, row, h => by
    rw [lays_cons] at h
    split at h
    · cases h
    · rename_i q' x _
      obtain ⟨r, h1, h2⟩ := Option.map_eq_some_iff.1 h
      cases h2
      rw [List.length_cons, List.length_cons, lays_len h1]
theorem raise_len : ∀ {L : Nat} {p q : Pl} {old rows : List (List Int)} {below : List Int}, p.raise old L below = some (q, rows) → below.length ≤ 256 → rows.length = L ∧ ∀ r ∈ rows, r.length ≤ 256
  | 0, p, q, old, rows, below, h, _ => by cases h; exact ⟨rfl, fun r hr => by simp at hr⟩
  | L + 1, p, q, old, rows, below, h, hb => by
    rw [raise_succ] at h
    split at h
    · cases h
    · rename_i q' row hl
      obtain ⟨r, h1, h2⟩ := Option.map_eq_some_iff.1 h
      cases h2
      have hrl := lays_len hl
      rw [fours_len] at hrl
      have hrw : row.length ≤ 256 := by unfold qs at hrl; omega
      obtain ⟨a, b⟩ := raise_len h1 hrw
      refine ⟨by simp [a], fun x hx => ?_⟩
      rcases List.mem_cons.1 hx with rfl | hx
      · exact hrw
      · exact b x hx
end Go.Proofs.Ytbldjlkofaiikaa
