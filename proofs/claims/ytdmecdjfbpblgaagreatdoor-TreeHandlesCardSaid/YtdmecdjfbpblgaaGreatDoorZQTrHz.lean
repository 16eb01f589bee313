/-
  The law TreeHandles: all records that a version reaches are live, and no two nodes have the same one; nor have two lists the same chunk.
-/
import Derived.Test.YtdmecdjfbpblgaaGreatDoorQH22
namespace Go.Proofs.YtdmecdjfbpblgaaGreatDoor
set_option maxRecDepth 100000
set_option maxHeartbeats 32000000
open Go.ChangeShapes Go.WideShapes Go.ChangeAt Go.RowKit
set_option linter.unusedVariables false
set_option linter.unusedSimpArgs false
theorem thandles_true {H:Type} {enc:TypeId × Value->H} {W:World} {base:Nat} {v0:Value} {d0:DataW H} {p0:List MemPlace} {v1:Value} {d1:DataW H} {p1:List MemPlace} (hm:∃ mx,W.cell? ⟨1,0,none⟩=some (.int .i64 mx)) (hK:Ops.KT W) (o0:Value.okWide Tryz.prog W .any base 22 v0) (o1:Value.okWide Tryz.prog W .any base 23 v1)
 (h0:DataW.Trod enc Tryz.prog W 0 (fun _=>true) true 22 v0 d0 p0) (h1:DataW.Trod enc Tryz.prog W 0 (fun _=>true) true 23 v1 d1 p1)
 (l0:∀ x∈p0,x.block<W.heap.size) (l1:∀ x∈p1,x.block<W.heap.size) :
 Calls Tryz.prog 3 #[v0,v1] W fun e W'=>e = .returned (.bool true)/\Below W.heap.size W W':=by
 obtain ⟨mx,hmx⟩:=hm;obtain ⟨A,cap,l,rfl,e1,e2,hL,-⟩:=Ops.ztz o0 h0 l0;obtain ⟨B,cb,zs,rfl,e3,hR⟩:=zuo o1 h1 l1;exact zmk A l cap B zs cb mx W hL e1 e2 hR e3 hK hmx
end Go.Proofs.YtdmecdjfbpblgaaGreatDoor
