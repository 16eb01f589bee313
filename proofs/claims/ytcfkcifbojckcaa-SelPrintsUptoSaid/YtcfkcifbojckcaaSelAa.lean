/-
  Rows of the document's own types: what is owned, what of it can be read.
-/
import Derived.Test.YtcfkcifbojckcaaSelY
namespace Go.Proofs.Ytcfkcifbojckcaa
open Go.ChangeShapes Go.WideShapes Go.ChangeAt Go.RowKit
open Go.PlainAid (bt)
set_option linter.unusedVariables false
set_option linter.unusedSimpArgs false

theorem info_rtest : (Try.prog.info? 51).map (fun i => (i.zero, i.size, i.bytes)) = some (some (.agg #[.int .i64 0, .string ⟨#[]⟩, .string ⟨#[]⟩]), 3, 40) := by kernel_rfl
theorem info_rstep : (Try.prog.info? 49).map (fun i => (i.zero, i.size, i.bytes)) = some (some (.agg #[.slice none 0 0, .bool false]), 2, 32) := by kernel_rfl
theorem info_rrow : (Try.prog.info? 46).map (fun i => (i.zero, i.size, i.bytes)) = some (some (.slice none 0 0), 1, 24) := by kernel_rfl
/-- A row of steps of one's own. -/
structure RwR (w : World) (base : Nat) (v : Value) (l : List Ms) : Prop where
  row : w.ownsRow base 49 2 v l.length (scells l)
  sub : ∀ m ∈ l, w.ownsRow base 51 3 (.slice m.1.1 m.2.1.length m.1.2) m.2.1.length (tcells m.2.1)
theorem RwR.below {w w' : World} {base : Nat} {v : Value} {l : List Ms} (h : RwR w base v l) (hb : Below w.heap.size w w') : RwR w' base v l := ⟨own_below h.row hb, fun m hm => own_below (h.sub m hm) hb⟩
theorem RwR.mono {w : World} {base base' : Nat} {v : Value} {l : List Ms} (h : RwR w base v l) (hb : base' ≤ base) : RwR w base' v l := ⟨own_mono h.row hb, fun m hm => own_mono (h.sub m hm) hb⟩
/-- A step more. -/
theorem RwR.more {w w' : World} {base : Nat} {v v' : Value} {l : List Ms} {m : Ms} (h : RwR w base v l) (ht : w.ownsRow base 51 3 (.slice m.1.1 m.2.1.length m.1.2) m.2.1.length (tcells m.2.1)) (hr : w'.ownsRow base 49 2 v' (l.length + 1) (scells l ++ s2 m)) (hg : w.grownBy w' v.ownBlock) : RwR w' base v' (l ++ [m]) := by
  refine ⟨by rw [List.length_append, scells_snoc]; exact hr, fun x hx => ?_⟩
  rw [List.mem_append, List.mem_singleton] at hx
  rcases hx with hx | rfl
  · exact (h.sub x hx).kept hg (own_apart2 (h.sub x hx) h.row (by decide))
  · exact ht.kept hg (own_apart2 ht h.row (by decide))
/-- A selector of one's own. -/
structure SrR (w : World) (base : Nat) (v : Value) (x : List Mr) : Prop where
  row : w.ownsRow base 46 1 v x.length (rcells x)
  sub : ∀ m ∈ x, RwR w base (.slice m.1.1 m.2.length m.1.2) m.2
theorem SrR.below {w w' : World} {base : Nat} {v : Value} {x : List Mr} (h : SrR w base v x) (hb : Below w.heap.size w w') : SrR w' base v x := ⟨own_below h.row hb, fun m hm => (h.sub m hm).below hb⟩
theorem SrR.mono {w : World} {base base' : Nat} {v : Value} {x : List Mr} (h : SrR w base v x) (hb : base' ≤ base) : SrR w base' v x := ⟨own_mono h.row hb, fun m hm => (h.sub m hm).mono hb⟩
theorem RwR.kept {w w' : World} {base base2 : Nat} {v v2 : Value} {l : List Ms} {x : List Mr} (h : RwR w base v l) (hr : w.ownsRow base2 46 1 v2 x.length (rcells x)) (hg : w.grownBy w' v2.ownBlock) : RwR w' base v l :=
  ⟨h.row.kept hg (own_apart2 h.row hr (by decide)), fun m hm => (h.sub m hm).kept hg (own_apart2 (h.sub m hm) hr (by decide))⟩
theorem SrR.more {w w' : World} {base : Nat} {v v' : Value} {x : List Mr} {m : Mr} (h : SrR w base v x) (ht : RwR w base (.slice m.1.1 m.2.length m.1.2) m.2) (hr : w'.ownsRow base 46 1 v' (x.length + 1) (rcells x ++ [r1 m])) (hg : w.grownBy w' v.ownBlock) : SrR w' base v' (x ++ [m]) := by
  refine ⟨by rw [List.length_append, rcells, List.map_append]; exact hr, fun y hy => ?_⟩
  rw [List.mem_append, List.mem_singleton] at hy
  rcases hy with hy | rfl
  · exact (h.sub y hy).kept h.row hg
  · exact ht.kept h.row hg
theorem tr_ofR {w : World} {base : Nat} {A : Option Addr} {c : Nat} {T : List Tr} (h : w.ownsRow base 51 3 (.slice A T.length c) T.length (tcells T)) : TR w A T := by
  intro i t hi
  have hlt : i < T.length := (List.getElem?_eq_some_iff.1 hi).1
  rcases h.2 with ⟨-, h'⟩ | ⟨g, cap, cur, hv, hb, hg, h1, h2, -⟩
  · omega
  · cases hv
    obtain ⟨e1, e2, e3⟩ := tcells_at hi
    refine ⟨g, 0, rfl, lt_block hg, ?_, ?_, ?_⟩
    · have := h.cells rfl _ _ e1; rw [← this, add_plain]
    · have := h.cells rfl _ _ e2; rw [← this, add_plain]; congr 2
    · have := h.cells rfl _ _ e3; rw [← this, add_plain]; congr 2
theorem mr_ofR {w : World} {base : Nat} {A : Option Addr} {c : Nat} {l : List Ms} (h : RwR w base (.slice A l.length c) l) : MR w A l := by
  intro i m hi
  have hlt : i < l.length := (List.getElem?_eq_some_iff.1 hi).1
  rcases h.row.2 with ⟨-, h'⟩ | ⟨g, cap, cur, hv, hb, hg, h1, h2, -⟩
  · omega
  · cases hv
    obtain ⟨e1, e2⟩ := scells_at hi
    refine ⟨g, 0, rfl, lt_block hg, ?_, ?_, tr_ofR (h.sub m (List.mem_of_getElem? hi))⟩
    · have := h.row.cells rfl _ _ e1; rw [← this, add_plain]
    · have := h.row.cells rfl _ _ e2; rw [← this, add_plain]; congr 2
theorem xr_ofR {w : World} {base : Nat} {v : Value} {x : List Mr} (h : SrR w base v x) : ∃ A c, v = .slice A x.length c ∧ XR w A x := by
  obtain ⟨A, c, rfl, -⟩ := own_form2 h.row
  refine ⟨A, c, rfl, fun i m hi => ?_⟩
  have hlt : i < x.length := (List.getElem?_eq_some_iff.1 hi).1
  rcases h.row.2 with ⟨-, h'⟩ | ⟨g, cap, cur, hv, hb, hg, h1, h2, -⟩
  · omega
  · cases hv
    have e1 : (rcells x)[i]? = some (r1 m) := by simp [rcells, hi]
    refine ⟨g, 0, rfl, lt_block hg, ?_, mr_ofR (h.sub m (List.mem_of_getElem? hi))⟩
    have := h.row.cells rfl _ _ e1
    rw [← this, add_plain]
end Go.Proofs.Ytcfkcifbojckcaa
