/-
  The law TreeLive: if what each transaction left is freed, just what the last version reaches is live, each once.
-/
import Derived.Test.YtcndplnnighjkabGreatDoorQH20
namespace Go.Proofs.YtcndplnnighjkabGreatDoor
set_option maxRecDepth 100000
set_option maxHeartbeats 32000000
open Go.ChangeShapes Go.WideShapes Go.ChangeAt Go.RowKit
set_option linter.unusedVariables false
set_option linter.unusedSimpArgs false
theorem tlive_true {H:Type} {enc:TypeId × Value->H} {W:World} {base:Nat} {v0:Value} {d0:DataW H} {p0:List MemPlace} {v1:Value} {d1:DataW H} {p1:List MemPlace} {v2:Value} {d2:DataW H} {p2:List MemPlace} {v3:Value} {d3:DataW H} {p3:List MemPlace} (hm:∃ mx,W.cell? ⟨1,0,none⟩=some (.int .i64 mx)) (hK:Ops.KT W) (o0:Value.okWide Tryz.prog W .any base 5 v0) (o1:Value.okWide Tryz.prog W .any base 5 v1) (o2:Value.okWide Tryz.prog W .any base 22 v2) (o3:Value.okWide Tryz.prog W .any base 23 v3)
 (h0:DataW.Trod enc Tryz.prog W 0 (fun _=>true) true 5 v0 d0 p0) (h1:DataW.Trod enc Tryz.prog W 0 (fun _=>true) true 5 v1 d1 p1) (h2:DataW.Trod enc Tryz.prog W 0 (fun _=>true) true 22 v2 d2 p2) (h3:DataW.Trod enc Tryz.prog W 0 (fun _=>true) true 23 v3 d3 p3)
 (l0:∀ x∈p0,x.block<W.heap.size) (l1:∀ x∈p1,x.block<W.heap.size) (l2:∀ x∈p2,x.block<W.heap.size) (l3:∀ x∈p3,x.block<W.heap.size) :
 Calls Tryz.prog 3 #[v0,v1,v2,v3] W fun e W'=>e = .returned (.bool true)/\Below W.heap.size W W':=by
 obtain ⟨mx,hmx⟩:=hm;obtain ⟨r,rfl,rfl,rfl,w0⟩:=open_int Tryz.underlying5 o0 h0;obtain ⟨c,rfl,rfl,rfl,w1⟩:=open_int Tryz.underlying5 o1 h1;obtain ⟨hr0,hr1⟩:=zrc w0;obtain ⟨hc0,hc1⟩:=zrc w1;obtain ⟨r,rfl⟩:=Int.eq_ofNat_of_zero_le hr0;obtain ⟨c,rfl⟩:=Int.eq_ofNat_of_zero_le hc0;obtain ⟨A,cap,l,rfl,e1,e2,hL,-⟩:=Ops.ztj o2 h2 l2;obtain ⟨B,cb,zs,rfl,e3,hR⟩:=zt8 o3 h3 l3;exact zs1 r c (by omega) (by omega) A l cap B zs cb mx W hL e1 e2 hR e3 hK hmx
end Go.Proofs.YtcndplnnighjkabGreatDoor
