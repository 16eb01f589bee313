/-
  The law OpMay, of what came in.
-/
import Derived.Test.YtdjhnjokmmbafaaDoorOpW
namespace Go.Proofs.YtdjhnjokmmbafaaDoor
open Go.ChangeShapes Go.WideShapes Go.ChangeAt Go.RowKit
set_option linter.unusedVariables false

theorem may_true {H : Type} {enc : TypeId × Value → H} {W : World} {base : Nat} {v0 : Value} {d0 : DataW H} {p0 : List MemPlace} (hm : TB W) (o0 : Value.okWide Tryd.prog W .any base 23 v0)
    (h0 : DataW.Trod enc Tryd.prog W 0 (fun _ => true) true 23 v0 d0 p0) (l0 : ∀ x ∈ p0, x.block < W.heap.size) :
    Calls Tryd.prog 7 #[v0] W fun e w' => e = .returned (.bool true) ∧ Below W.heap.size W w' := by
  obtain ⟨o, rfl, hf⟩ := op_open o0 h0
  exact may_law o W hf hm
end Go.Proofs.YtdjhnjokmmbafaaDoor
