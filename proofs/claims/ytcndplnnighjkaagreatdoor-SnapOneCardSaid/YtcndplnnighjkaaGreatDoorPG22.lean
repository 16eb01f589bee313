/-
  What the laws of layer 7 want of lists of operations: laid one behind the other.
-/
import Derived.Test.YtcndplnnighjkaaGreatDoorPG16
import Derived.Test.YtcndplnnighjkaaGreatDoorPG04
namespace Go.Proofs.YtcndplnnighjkaaGreatDoor
open Go.ChangeShapes Go.WideShapes Go.ChangeAt Go.RowKit
set_option linter.unusedVariables false
set_option linter.unusedSimpArgs false
def opc (o : Ops.Po) : List Value := [.int .i64 o.kind, .int .i64 o.id, .int .i64 o.dst, .int .i64 o.pos, .string o.name, .string o.text]
def ocells (l : List Ops.Po) : List Value := l.flatMap opc
theorem ocells_at : ∀ {l : List Ops.Po} {j : Nat} (h : j < l.length) {k : Nat}, k < 6 -> (ocells l)[j * 6 + k]? = (opc l[j])[k]?
 | o :: l, 0, h, k, hk => by
   have e : ocells (o :: l) = opc o ++ ocells l := by simp [ocells]
   rw [e, List.getElem?_append_left (by simp [opc]; omega)]
   simp
 | o :: l, j + 1, h, k, hk => by
   have e : ocells (o :: l) = opc o ++ ocells l := by simp [ocells]
   have hl : (opc o).length = 6 := rfl
   rw [e, List.getElem?_append_right (by omega), hl, show (j + 1) * 6 + k - 6 = j * 6 + k by omega]
   exact ocells_at (by simpa using h) hk
end Go.Proofs.YtcndplnnighjkaaGreatDoor
