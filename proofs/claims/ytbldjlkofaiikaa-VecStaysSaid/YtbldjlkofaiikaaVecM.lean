/-
  Pools of chunks, and lists in them, as plain lists. No program here.
-/
import Derived.Test.YtbldjlkofaiikaaSlotN
namespace Go.Proofs.Ytbldjlkofaiikaa
set_option linter.unusedVariables false

/-- A pool: an arena, and of each slot the parts of its chunk (four at most). -/
structure Pl where
  st : St
  ch : List (List Int)
/-- The number of the slot of a handle. -/
def ix (h : Int) : Nat := (h % 16777216).toNat
/-- The parts of the chunk of h. -/
def Pl.at (p : Pl) (h : Int) : List Int := p.ch.getD (ix h) []
/-- The parts of the chunks of a row, in order. -/
def Pl.parts (p : Pl) (row : List Int) : List Int := row.flatMap p.at
/-- How many levels a list of n items has (n up to 256). -/
def lvs (n : Nat) : Nat := if n = 0 then 0 else if n ≤ 4 then 1 else if n ≤ 16 then 2 else if n ≤ 64 then 3 else 4
/-- The rows of a list, L levels from row on down, the lowest first; none: one is stale. -/
def Pl.down (p : Pl) : Nat → List Int → Option (List (List Int))
  | 0, _ => some []
  | L + 1, row => if row.all p.st.lv then (p.down L (p.parts row)).map (· ++ [row]) else none
/-- Whether the handle h has the chunk c. -/
def Pl.holds (p : Pl) (h : Int) (c : List Int) : Bool := decide (p.at h = c)
/-- The chunk c is laid into the slot i, that is taken. -/
def Pl.tk (p : Pl) (i : Nat) (c : List Int) : Pl := ⟨p.st.tk i, p.ch.set i c⟩
/-- The slot i is free again, and its chunk empty. -/
def Pl.gb (p : Pl) (i : Nat) (g : Int) : Pl := ⟨p.st.gb i g, p.ch.set i []⟩
/-- The handle for the chunk c: h, if h is one and has it; else a slot is taken. -/
def Pl.place (p : Pl) (h : Int) (c : List Int) : Option (Pl × Int) :=
  if h ≠ 0 ∧ p.at h = c then some (p, h)
  else match p.st.free.getLast? with
    | none => none
    | some i => some (p.tk i.toNat c, hd i (p.st.gens.getD i.toNat 0))
/-- A list in fours. -/
def fours : Nat → List Int → List (List Int)
  | 0, _ => []
  | m + 1, l => l.take 4 :: fours m (l.drop 4)
/-- How many fours a list of n has. -/
def qs (n : Nat) : Nat := (n + 3) / 4
/-- The handles for chunks cs, where those of old (from its head on) stand. -/
def Pl.lays (p : Pl) : List Int → List (List Int) → Option (Pl × List Int)
  | _, [] => some (p, [])
  | old, c :: cs => match p.place (old.headD 0) c with
    | none => none
    | some (q, h) => (q.lays old.tail cs).map fun r => (r.1, h :: r.2)
/-- The rows of a list: L levels, from below on up. -/
def Pl.raise (p : Pl) (old : List (List Int)) : Nat → List Int → Option (Pl × List (List Int))
  | 0, _ => some (p, [])
  | L + 1, below => match p.lays (old.headD []) (fours (qs below.length) below) with
    | none => none
    | some (q, row) => (q.raise old.tail L row).map fun r => (r.1, row :: r.2)
/-- The handle at a level and a number, or 0. -/
def atR (rows : List (List Int)) (l k : Nat) : Int := (rows.getD l []).getD k 0
/-- What the row new, at its numbers from k on, has not of old. -/
def leftRow (new : List Int) : Nat → List Int → List Int
  | _, [] => []
  | k, h :: t => if new.getD k 0 = h then leftRow new (k + 1) t else h :: leftRow new (k + 1) t
def left (rows : List (List Int)) : Nat → List (List Int) → List Int
  | _, [] => []
  | l, row :: t => leftRow (rows.getD l []) 0 row ++ left rows (l + 1) t
/-- A list: its root, and its size. -/
structure Vc where
  root : Int
  size : Nat
/-- What a change tells. -/
structure Told where
  p : Pl
  v : Vc
  gone : List Int
  e : Int
def Pl.change (p : Pl) (v : Vc) (items : List Int) : Told :=
  if 200 < items.length then ⟨p, v, [], 1⟩
  else match p.down (lvs v.size) [v.root] with
    | none => ⟨p, v, [], 30⟩
    | some old => match p.raise old (lvs items.length) items with
      | none => ⟨p, v, [], 2⟩
      | some (q, rows) => ⟨q, ⟨atR rows (rows.length - 1) 0, items.length⟩, left rows 0 old, 0⟩
/-- The items of a list; none: one of its chunks is stale. -/
def Pl.items (p : Pl) (v : Vc) : Option (List Int) := match p.down (lvs v.size) [v.root] with
  | none => none
  | some [] => some []
  | some (row :: _) => some (p.parts row)
end Go.Proofs.Ytbldjlkofaiikaa
