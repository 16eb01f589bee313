/-
  The law FindIds, of what came in.
-/
import Derived.Test.YtaacikjoafobfaaGreatDoorRows
import Derived.Test.YtaacikjoafobfaaGreatDoorZFiLi
namespace Go.Proofs.YtaacikjoafobfaaGreatDoor.Fi
open Go.ChangeShapes Go.WideShapes Go.ChangeAt Go.RowKit
set_option linter.unusedVariables false

set_option maxRecDepth 100000 in
theorem ids_true {H : Type} {enc : TypeId × Value → H} {W : World} {base : Nat} {v0 : Value} {d0 : DataW H} {p0 : List MemPlace} {v1 : Value} {d1 : DataW H} {p1 : List MemPlace} (hk : Rows.uptoSmall H [d0, d1] = true) (hK : Ops.KT W) (o0 : Value.okWide Tryz.prog W .any base 22 v0) (o1 : Value.okWide Tryz.prog W .any base 9 v1)
    (h0 : DataW.Trod enc Tryz.prog W 0 (fun _ => true) true 22 v0 d0 p0) (h1 : DataW.Trod enc Tryz.prog W 0 (fun _ => true) true 9 v1 d1 p1) (l0 : ∀ x ∈ p0, x.block < W.heap.size) (l1 : ∀ x ∈ p1, x.block < W.heap.size) :
    Calls Tryz.prog 8 #[v0, v1] W fun e W' => e = .returned (.bool true) ∧ Below W.heap.size W W' := by
  obtain ⟨A, cap, l, rfl, e1, e2, hL, -⟩ := Ops.ol_open o0 h0 l0
  obtain ⟨t, rfl, rfl, rfl, w0⟩ := Go.ChangeMaps.open_string Tryz.underlying9 o1 h1
  have hs : Rows.uptoBulkAll [d0, .lit (.string t.data.toList)] ≤ 1048576 := by simpa [Rows.uptoSmall] using hk
  simp only [Rows.uptoBulkAll, Rows.uptoBulk] at hs
  have hz : t.data.toList.length = t.size := rfl
  exact ids_law A l cap t (by omega) W hL (Nat.le_trans e1 e2) hK
end Go.Proofs.YtaacikjoafobfaaGreatDoor.Fi
