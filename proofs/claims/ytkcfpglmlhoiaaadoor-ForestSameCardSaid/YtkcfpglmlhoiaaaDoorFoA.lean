/-
  Forests as plain lists, and how they lie in memory.
-/
import Derived.Test.YtkcfpglmlhoiaaaDoorWordB
import Derived.ChangeSlices
import Derived.Carry
import Derived.ChangeMaps5
import Derived.Deep.Slices
namespace Go.Proofs.YtkcfpglmlhoiaaaDoor
open Go.ChangeShapes Go.WideShapes Go.ChangeAt Go.RowKit
set_option linter.unusedVariables false
set_option linter.unusedSimpArgs false

/-- A node, and where its lists lie. -/
structure Mn where
  kind : Int
  name : ByteArray
  text : ByteArray
  attrs : List (ByteArray × ByteArray)
  parent : Int
  kids : List Int
  aA : Option Addr
  aC : Nat
  kA : Option Addr
  kC : Nat
/-- A node as a value. -/
def nval (m : Mn) : Value := .agg #[.int .i64 m.kind, .string m.name, .string m.text, .slice m.aA m.attrs.length m.aC, .int .i64 m.parent, .slice m.kA m.kids.length m.kC]
/-- A list of ints that can be read. -/
def IR (w : World) (A : Option Addr) (l : List Int) : Prop := ∀ j, j < l.length → ∃ g off, A = some ⟨g, off, none⟩ ∧ g < w.heap.size ∧ w.cell? ⟨g, off + j, none⟩ = some (.int .i64 (l.getD j 0))
/-- A list of attributes that can be read. -/
def AR (w : World) (A : Option Addr) (l : List (ByteArray × ByteArray)) : Prop := ∀ j, j < l.length → ∃ g off, A = some ⟨g, off, none⟩ ∧ g < w.heap.size ∧ w.cell? ⟨g, off + j * 2, none⟩ = some (.string (l.getD j default).1) ∧ w.cell? ⟨g, off + j * 2 + 1, none⟩ = some (.string (l.getD j default).2)
def I64 (x : Int) : Prop := -9223372036854775808 ≤ x ∧ x ≤ 9223372036854775807
/-- What any node is that came in. -/
structure Fit (m : Mn) : Prop where
  k64 : I64 m.kind
  p64 : I64 m.parent
  ks64 : ∀ x ∈ m.kids, I64 x
  ac : m.attrs.length ≤ m.aC ∧ m.aC ≤ 9223372036854775807
  kc : m.kids.length ≤ m.kC ∧ m.kC ≤ 9223372036854775807
/-- The six cells of a node, and its lists. -/
structure NodeAt (w : World) (g o : Nat) (m : Mn) : Prop where
  c0 : w.cell? ⟨g, o, none⟩ = some (.int .i64 m.kind)
  c1 : w.cell? ⟨g, o + 1, none⟩ = some (.string m.name)
  c2 : w.cell? ⟨g, o + 2, none⟩ = some (.string m.text)
  c3 : w.cell? ⟨g, o + 3, none⟩ = some (.slice m.aA m.attrs.length m.aC)
  c4 : w.cell? ⟨g, o + 4, none⟩ = some (.int .i64 m.parent)
  c5 : w.cell? ⟨g, o + 5, none⟩ = some (.slice m.kA m.kids.length m.kC)
  ar : AR w m.aA m.attrs
  ir : IR w m.kA m.kids
/-- A forest that can be read. -/
def FR (w : World) (A : Option Addr) (F : List Mn) : Prop := ∀ i m, F[i]? = some m → Fit m ∧ ∃ g off, A = some ⟨g, off, none⟩ ∧ g < w.heap.size ∧ NodeAt w g (off + i * 6) m
theorem IR.below {w w' : World} {A : Option Addr} {l : List Int} (h : IR w A l) (hb : Below w.heap.size w w') : IR w' A l := fun j hj => by
  obtain ⟨g, off, hA, hg, hc⟩ := h j hj
  exact ⟨g, off, hA, Nat.lt_of_lt_of_le hg hb.size, (hb.cell (p := ⟨g, off + j, none⟩) hg).trans hc⟩
theorem AR.below {w w' : World} {A : Option Addr} {l : List (ByteArray × ByteArray)} (h : AR w A l) (hb : Below w.heap.size w w') : AR w' A l := fun j hj => by
  obtain ⟨g, off, hA, hg, hc, hd⟩ := h j hj
  exact ⟨g, off, hA, Nat.lt_of_lt_of_le hg hb.size, (hb.cell (p := ⟨g, off + j * 2, none⟩) hg).trans hc, (hb.cell (p := ⟨g, off + j * 2 + 1, none⟩) hg).trans hd⟩
theorem NodeAt.below {w w' : World} {g o : Nat} {m : Mn} (h : NodeAt w g o m) (hg : g < w.heap.size) (hb : Below w.heap.size w w') : NodeAt w' g o m :=
  ⟨(hb.cell (p := ⟨g, o, none⟩) hg).trans h.c0, (hb.cell (p := ⟨g, o + 1, none⟩) hg).trans h.c1, (hb.cell (p := ⟨g, o + 2, none⟩) hg).trans h.c2, (hb.cell (p := ⟨g, o + 3, none⟩) hg).trans h.c3, (hb.cell (p := ⟨g, o + 4, none⟩) hg).trans h.c4, (hb.cell (p := ⟨g, o + 5, none⟩) hg).trans h.c5, h.ar.below hb, h.ir.below hb⟩
theorem FR.below {w w' : World} {A : Option Addr} {F : List Mn} (h : FR w A F) (hb : Below w.heap.size w w') : FR w' A F := fun i m hm => by
  obtain ⟨hf, g, off, hA, hg, hc⟩ := h i m hm
  exact ⟨hf, g, off, hA, Nat.lt_of_lt_of_le hg hb.size, hc.below hg hb⟩

/-! ### what may be, on plain lists -/
def emp (s : ByteArray) : Bool := decide (s.size = 0)
/-- Whether attributes may be. -/
def attrsB (l : List (ByteArray × ByteArray)) : Bool := decide (l.length ≤ 8) && (List.range l.length).all fun i => nm (l.getD i default).1 && (decide ((l.getD i default).2.size ≤ 60) && !((l.take i).any fun a => a.1.toList == (l.getD i default).1.toList))
/-- Whether a node has what its kind may have. -/
def ownB (m : Mn) : Bool :=
  if m.kind = 2 ∨ m.kind = 3 then decide (m.text.size ≤ 60) && (decide (m.kids.length = 0) && (emp m.name && decide (m.attrs.length = 0)))
  else if m.kind = 0 then emp m.name && (emp m.text && decide (m.attrs.length = 0))
  else if m.kind = 1 then nm m.name && (emp m.text && attrsB m.attrs)
  else false
def par (F : List Mn) (k : Nat) : Int := ((F[k]?).map Mn.parent).getD 0
def kidsOf (F : List Mn) (k : Nat) : List Int := ((F[k]?).map Mn.kids).getD []
def kindOf (F : List Mn) (k : Nat) : Int := ((F[k]?).map Mn.kind).getD 0
def isB (F : List Mn) (x : Int) : Bool := decide (0 ≤ x ∧ x < F.length)
/-- Whether a node's parent has it once, and it is the parent of its kids. -/
def linkB (F : List Mn) (i : Nat) : Bool :=
  (decide (par F i = -1) || (decide (i ≠ 0) && (isB F (par F i) && decide ((kidsOf F (par F i).toNat).count (i : Int) = 1)))) && (kidsOf F i).all fun k => isB F k && decide (par F k.toNat = i)
def docB (F : List Mn) : Bool := (kidsOf F 0).all (fun k => decide (kindOf F k.toNat ≠ 2)) && decide (((kidsOf F 0).filter fun k => decide (kindOf F k.toNat = 1)).length ≤ 1)
/-- Whether the way up from x ends, in so many steps. -/
def endsB (F : List Mn) : Nat → Int → Bool
  | 0, x => decide (x = -1)
  | n + 1, x => decide (x = -1) || endsB F n (par F x.toNat)
def oneB (F : List Mn) (i : Nat) (m : Mn) : Bool := ((m.kind == 0) == ((i : Int) == 0)) && (ownB m && linkB F i)
def mayB (F : List Mn) : Bool := decide (0 < F.length ∧ F.length ≤ 60) && ((List.range F.length).all (fun i => ((F[i]?).map (oneB F i)).getD false) && (docB F && (List.range F.length).all fun i => endsB F F.length i))
end Go.Proofs.YtkcfpglmlhoiaaaDoor
