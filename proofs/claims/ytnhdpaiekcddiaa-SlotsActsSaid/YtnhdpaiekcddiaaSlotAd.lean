/-
  The law SlotsActs over whatever numbers and list come in.
-/
import Derived.Test.YtnhdpaiekcddiaaSlotAc
namespace Go.Proofs.Ytnhdpaiekcddiaa
open Go.ChangeShapes Go.WideShapes Go.ChangeAt Go.RowKit
set_option linter.unusedVariables false

theorem slotsActs_open {H : Type} {enc : TypeId × Value → H} {W : World} {base : Nat} {v0 v1 v2 : Value} {d0 d1 d2 : DataW H} {p0 p1 p2 : List MemPlace}
    (o0 : Value.okWide Try.prog W .any base 3 v0) (o1 : Value.okWide Try.prog W .any base 22 v1) (o2 : Value.okWide Try.prog W .any base 23 v2)
    (h0 : DataW.Trod enc Try.prog W 0 (fun _ => true) true 3 v0 d0 p0) (h1 : DataW.Trod enc Try.prog W 0 (fun _ => true) true 22 v1 d1 p1) (h2 : DataW.Trod enc Try.prog W 0 (fun _ => true) true 23 v2 d2 p2)
    (l0 : ∀ x ∈ p0, x.block < W.heap.size) (l1 : ∀ x ∈ p1, x.block < W.heap.size) (l2 : ∀ x ∈ p2, x.block < W.heap.size) :
    Calls Try.prog 3 #[v0, v1, v2] W fun e w' => e = .returned (.bool true) ∧ Below W.heap.size W w' := by
  obtain ⟨a0, rfl, rfl, rfl, w0⟩ := open_int Try.underlying3 o0 h0
  obtain ⟨a2, rfl, rfl, rfl, w2⟩ := open_int Try.underlying23 o2 h2
  obtain ⟨b0, b1⟩ := i64_wf w0
  obtain ⟨c0, c1⟩ := u64_wf w2
  obtain ⟨A, n, ca, zs, rfl, hn, hA⟩ := uu_open o1 h1 l1
  exact acts_law a0 b0 b1 A n ca zs a2 c0 c1 W hA hn
end Go.Proofs.Ytnhdpaiekcddiaa
