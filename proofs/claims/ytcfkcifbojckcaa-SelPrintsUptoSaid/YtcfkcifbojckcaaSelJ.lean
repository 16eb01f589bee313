/-
  The reader's row: a row of steps of its own.
-/
import Derived.Test.YtcfkcifbojckcaaSelI
namespace Go.Proofs.Ytcfkcifbojckcaa
open Go.ChangeShapes Go.WideShapes Go.ChangeAt Go.RowKit
open Go.PlainAid (bt)
open Sl (St Te Stp Mo tstep cstep fin isB isL isN)
set_option linter.unusedVariables false
set_option linter.unusedSimpArgs false

/-- A step: where its tests lie, and what they are. -/
abbrev Ms := (Option Addr × Nat) × (List Tr × Bool)
def s2 (m : Ms) : List Value := [.slice m.1.1 m.2.1.length m.1.2, .bool m.2.2]
def scells (l : List Ms) : List Value := l.flatMap s2
theorem scells_snoc (l : List Ms) (m : Ms) : scells (l ++ [m]) = scells l ++ s2 m := by simp [scells]
theorem s2_one (m : Ms) : ∀ u ∈ s2 m, u.oneCell' = true := by
  intro u hu
  simp only [s2, List.mem_cons, List.not_mem_nil, or_false] at hu
  rcases hu with rfl | rfl <;> rfl
def stp (m : Ms) : Stp := ⟨m.2.1.map te, m.2.2⟩
theorem info_step : (Try.prog.info? 37).map (fun i => (i.zero, i.size, i.bytes)) = some (some (.agg #[.slice none 0 0, .bool false]), 2, 32) := by kernel_rfl
/-- A row of steps of one's own. -/
structure Rw (w : World) (base : Nat) (v : Value) (l : List Ms) : Prop where
  row : w.ownsRow base 37 2 v l.length (scells l)
  sub : ∀ m ∈ l, w.ownsRow base 39 3 (.slice m.1.1 m.2.1.length m.1.2) m.2.1.length (tcells m.2.1)
theorem Rw.below {w w' : World} {base : Nat} {v : Value} {l : List Ms} (h : Rw w base v l) (hb : Below w.heap.size w w') : Rw w' base v l := ⟨own_below h.row hb, fun m hm => own_below (h.sub m hm) hb⟩
theorem Rw.gr {w w' : World} {base b : Nat} {v : Value} {l : List Ms} (h : Rw w base v l) (hb : b < base) (hg : Gr b w w') : Rw w' base v l := ⟨own_gr h.row hb hg, fun m hm => own_gr (h.sub m hm) hb hg⟩
theorem Rw.mono {w : World} {base base' : Nat} {v : Value} {l : List Ms} (h : Rw w base v l) (hb : base' ≤ base) : Rw w base' v l := ⟨own_mono h.row hb, fun m hm => own_mono (h.sub m hm) hb⟩
/-- A step more. -/
theorem Rw.more {w w' : World} {base : Nat} {v v' : Value} {l : List Ms} {m : Ms} (h : Rw w base v l) (ht : w.ownsRow base 39 3 (.slice m.1.1 m.2.1.length m.1.2) m.2.1.length (tcells m.2.1)) (hr : w'.ownsRow base 37 2 v' (l.length + 1) (scells l ++ s2 m)) (hg : w.grownBy w' v.ownBlock) : Rw w' base v' (l ++ [m]) := by
  refine ⟨by rw [List.length_append, scells_snoc]; exact hr, fun x hx => ?_⟩
  rw [List.mem_append, List.mem_singleton] at hx
  rcases hx with hx | rfl
  · exact (h.sub x hx).kept hg (own_apart2 (h.sub x hx) h.row (by decide))
  · exact ht.kept hg (own_apart2 ht h.row (by decide))
/-- The row is whole up to here. -/
def RdR (s : ByteArray) (j : Nat) (R : List (List Stp)) (rw : List Stp) : Prop :=
  ∃ st, At s j st ∧ fin st = some (R ++ [rw]) ∧ ∀ c, (ls s)[j]? = some c → Sl.step st c = if c = 44 then some ⟨R ++ [rw], [], [], false, .comp⟩ else none
theorem rdy_blanks {s : ByteArray} {j : Nat} {R : List (List Stp)} {r : List Stp} {T : List Te} {ch : Bool} (h : Rdy s j R r T ch) : (sp s j = j ∧ bB (lk s j) = false) ∨ (j < sp s j ∧ At s (sp s j) ⟨R, r, T, ch, .apart⟩ ∧ bB (lk s (sp s j)) = false) := by
  obtain ⟨st, h1, h2, h3⟩ := h
  rcases Bool.eq_false_or_eq_true (bB (lk s j)) with hb | hb
  · right
    obtain ⟨g1, g2⟩ := sp_yes hb
    obtain ⟨c, hc, hl⟩ := lk_get g1
    rw [hl, ← isB_bB] at hb
    obtain ⟨n1, n2, n3, n4⟩ := Sl.isB_not hb
    have k1 := h1.step hc (show Sl.step st c = some ⟨R, r, T, ch, .apart⟩ by rw [h3 c hc]; simp [tstep, n2, n3, n4, hb, St.to])
    have k2 := k1.blanks (st1 := ⟨R, r, T, ch, .apart⟩) (fun c hc => by simp [Sl.step, hc]) (fun c hc => by simp [Sl.step, hc])
    rw [ite_self] at k2
    have := (sp_le s (j + 1) g1).1
    rw [g2]
    exact ⟨by omega, k2, sp_end s (j + 1) g1⟩
  · exact .inl ⟨sp_no hb, hb⟩
/-- Behind a >. -/
theorem rdy_gt {s : ByteArray} {j : Nat} {R : List (List Stp)} {r : List Stp} {T : List Te} {ch : Bool} (h : Rdy s j R r T ch) (hc : lk s (sp s j) = 62) : Cmp s (sp s (sp s j + 1)) R (r ++ [⟨T, ch⟩]) true ∧ sp s j < s.size := by
  have hlt : sp s j < s.size := lk_lt (by rw [hc]; decide)
  have k1 : At s (sp s j + 1) ⟨R, r ++ [⟨T, ch⟩], [], true, .comp⟩ := by
    rcases rdy_blanks h with ⟨e, -⟩ | ⟨-, k, -⟩
    · rw [e] at hc ⊢
      obtain ⟨st, h1, h2, h3⟩ := h
      exact h1.step (lk_byte (c := 62) hc) (by rw [h3 62 (lk_byte (c := 62) hc)]; simp [tstep, isB, St.push])
    · exact k.step (lk_byte (c := 62) hc) (by simp [Sl.step, isB, St.push])
  have k2 := k1.blanks (st1 := ⟨R, r ++ [⟨T, ch⟩], [], true, .comp⟩) (fun c hc => by simp [Sl.step, cstep, hc, St.to]) (fun c hc => by simp [Sl.step, cstep, hc, St.to])
  rw [ite_self] at k2
  exact ⟨⟨_, k2, fun c _ => rfl, fun _ => rfl⟩, hlt⟩
/-- Behind blanks. -/
theorem rdy_apart {s : ByteArray} {j : Nat} {R : List (List Stp)} {r : List Stp} {T : List Te} {ch : Bool} (h : Rdy s j R r T ch) (hj : j < sp s j) (h62 : lk s (sp s j) ≠ 62) (h44 : lk s (sp s j) ≠ 44) (h1 : lk s (sp s j) ≠ -1) : Cmp s (sp s j) R (r ++ [⟨T, ch⟩]) false := by
  rcases rdy_blanks h with ⟨e, -⟩ | ⟨-, k, hb⟩
  · omega
  · refine ⟨_, k, fun c hc => ?_, fun e => absurd (lk_lt h1) (by omega)⟩
    have e1 : isB c = false := by rw [isB_bB, ← (lk_some hc).1]; exact hb
    have e2 : c ≠ 62 := by rintro rfl; exact h62 (lk_some hc).1
    have e3 : c ≠ 44 := by rintro rfl; exact h44 (lk_some hc).1
    simp [Sl.step, e1, e2, e3, St.push]
/-- The row's end. -/
theorem rdy_end {s : ByteArray} {j : Nat} {R : List (List Stp)} {r : List Stp} {T : List Te} {ch : Bool} (h : Rdy s j R r T ch) (hm : mkB (lk s j) = false) (h62 : lk s (sp s j) ≠ 62) (hd : ¬ (j < sp s j ∧ lk s (sp s j) ≠ 44 ∧ lk s (sp s j) ≠ -1)) : RdR s (sp s j) R (r ++ [⟨T, ch⟩]) := by
  rcases rdy_blanks h with ⟨e, hb⟩ | ⟨hj, k, hb⟩
  · rw [e] at h62 ⊢
    obtain ⟨st, h1, h2, h3⟩ := h
    refine ⟨st, h1, h2, fun c hc => ?_⟩
    have e1 : isB c = false := by rw [isB_bB, ← (lk_some hc).1]; exact hb
    have e2 : c ≠ 62 := by rintro rfl; exact h62 (lk_some hc).1
    have e3 : c ≠ 35 ∧ c ≠ 46 ∧ c ≠ 91 := by
      rw [(lk_some hc).1] at hm
      refine ⟨?_, ?_, ?_⟩ <;> (rintro rfl; revert hm; decide)
    rw [h3 c hc]
    simp only [tstep, if_neg e3.1, if_neg e3.2.1, if_neg e3.2.2, e1, if_neg e2, St.pushRow]
    rfl
  · refine ⟨_, k, rfl, fun c hc => ?_⟩
    have h1 : lk s (sp s j) ≠ -1 := by rw [(lk_some hc).1]; omega
    have h44 : lk s (sp s j) = 44 := by
      rcases Decidable.em (lk s (sp s j) = 44) with h | h
      · exact h
      · exact absurd ⟨hj, h, h1⟩ hd
    have hc44 : c = 44 := by
      rw [(lk_some hc).1] at h44
      exact UInt8.toNat_inj.1 (by simp; omega)
    subst hc44
    simp [Sl.step, isB, St.pushRow]
end Go.Proofs.Ytcfkcifbojckcaa
