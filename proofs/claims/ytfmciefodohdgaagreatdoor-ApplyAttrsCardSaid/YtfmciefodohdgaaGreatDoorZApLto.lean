/-
  The law ApplyAttrs, of what came in.
-/
import Derived.Test.YtfmciefodohdgaaGreatDoorZApLt
namespace Go.Proofs.YtfmciefodohdgaaGreatDoor
open Go.ChangeShapes Go.WideShapes Go.ChangeAt Go.RowKit
set_option linter.unusedVariables false

set_option maxRecDepth 100000 in
/-- The law, of what came in. -/
theorem attrs_true {H : Type} {enc : TypeId × Value → H} {W : World} {base : Nat} {v0 v1 v2 v3 : Value} {d0 d1 d2 d3 : DataW H} {p0 p1 p2 p3 : List MemPlace} (hm : ∃ mx, W.cell? ⟨1, 0, none⟩ = some (.int .i64 mx)) (hK : Ops.KT W) (o0 : Value.okWide Tryz.prog W .any base 22 v0) (o1 : Value.okWide Tryz.prog W .any base 5 v1) (o2 : Value.okWide Tryz.prog W .any base 9 v2) (o3 : Value.okWide Tryz.prog W .any base 9 v3)
    (h0 : DataW.Trod enc Tryz.prog W 0 (fun _ => true) true 22 v0 d0 p0) (h1 : DataW.Trod enc Tryz.prog W 0 (fun _ => true) true 5 v1 d1 p1) (h2 : DataW.Trod enc Tryz.prog W 0 (fun _ => true) true 9 v2 d2 p2) (h3 : DataW.Trod enc Tryz.prog W 0 (fun _ => true) true 9 v3 d3 p3) (l0 : ∀ x ∈ p0, x.block < W.heap.size) (l1 : ∀ x ∈ p1, x.block < W.heap.size) (l2 : ∀ x ∈ p2, x.block < W.heap.size) (l3 : ∀ x ∈ p3, x.block < W.heap.size) :
    Calls Tryz.prog 9 #[v0, v1, v2, v3] W fun e W' => e = .returned (.bool true) ∧ Below W.heap.size W W' := by
  obtain ⟨mx, hm⟩ := hm
  obtain ⟨A, cap, l, rfl, e1, e2, hL, -⟩ := Ops.ol_open o0 h0 l0
  obtain ⟨a1, rfl, rfl, rfl, w1⟩ := open_int Tryz.underlying5 o1 h1
  obtain ⟨s2, rfl, rfl, rfl, b2⟩ := Go.ChangeMaps.open_string Tryz.underlying9 o2 h2
  obtain ⟨s3, rfl, rfl, rfl, b3⟩ := Go.ChangeMaps.open_string Tryz.underlying9 o3 h3
  obtain ⟨f1, g1⟩ := u8_wf w1
  obtain ⟨n1, rfl⟩ := Int.eq_ofNat_of_zero_le f1
  exact attrs_law A l cap n1 s2 s3 mx W hL (Nat.le_trans e1 e2) (by omega) hK hm
end Go.Proofs.YtfmciefodohdgaaGreatDoor
