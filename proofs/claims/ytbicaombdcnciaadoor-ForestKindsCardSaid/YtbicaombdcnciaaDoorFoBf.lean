/-
  The law ForestKinds, of what came in.
-/
import Derived.Test.YtbicaombdcnciaaDoorFoBd
namespace Go.Proofs.YtbicaombdcnciaaDoor
open Go.ChangeShapes Go.WideShapes Go.ChangeAt Go.RowKit
set_option linter.unusedVariables false

theorem u8_wf {n : Int} (h : (Lit.int .u8 n).wf = true) : 0 ≤ n ∧ n ≤ 255 := by
  simpa [Lit.wf, IntKind.min, IntKind.max, IntKind.signed, IntKind.bits] using h

/-- The law, of what came in. -/
theorem kinds_true {H : Type} {enc : TypeId × Value → H} {W : World} {base : Nat} {v0 v1 v2 v3 : Value} {d0 d1 d2 d3 : DataW H} {p0 p1 p2 p3 : List MemPlace} (hm : ∃ mx, W.cell? ⟨0, 0, none⟩ = some (.int .i64 mx)) (o0 : Value.okWide Tryd.prog W .any base 23 v0) (o1 : Value.okWide Tryd.prog W .any base 5 v1) (o2 : Value.okWide Tryd.prog W .any base 3 v2) (o3 : Value.okWide Tryd.prog W .any base 3 v3)
    (h0 : DataW.Trod enc Tryd.prog W 0 (fun _ => true) true 23 v0 d0 p0) (h1 : DataW.Trod enc Tryd.prog W 0 (fun _ => true) true 5 v1 d1 p1) (h2 : DataW.Trod enc Tryd.prog W 0 (fun _ => true) true 3 v2 d2 p2) (h3 : DataW.Trod enc Tryd.prog W 0 (fun _ => true) true 3 v3 d3 p3) (l0 : ∀ x ∈ p0, x.block < W.heap.size) (l1 : ∀ x ∈ p1, x.block < W.heap.size) (l2 : ∀ x ∈ p2, x.block < W.heap.size) (l3 : ∀ x ∈ p3, x.block < W.heap.size) :
    Calls Tryd.prog 6 #[v0, v1, v2, v3] W fun e w' => e = .returned (.bool true) ∧ Below W.heap.size W w' := by
  obtain ⟨mx, hm⟩ := hm
  obtain ⟨A, cap, F, rfl, e1, e2, hF⟩ := forest_open o0 h0 l0
  obtain ⟨x1, rfl, rfl, rfl, b1⟩ := open_int Tryd.underlying5 o1 h1
  obtain ⟨x2, rfl, rfl, rfl, b2⟩ := open_int Tryd.underlying3 o2 h2
  obtain ⟨x3, rfl, rfl, rfl, b3⟩ := open_int Tryd.underlying3 o3 h3
  have c1 : 0 ≤ x1 ∧ x1 ≤ 255 := u8_wf b1
  have c2 : I64 x2 := i64_wf b2
  have c3 : I64 x3 := i64_wf b3
  exact kinds_law A F cap mx x1 x2 x3 W hF (Nat.le_trans e1 e2) hm c1 c2 c3
end Go.Proofs.YtbicaombdcnciaaDoor
