/-
  An operation, and a list of operations, that came in.
-/
import Derived.Test.YtdmecdjfbpblgaaGreatDoorQG17
import Derived.Test.YtdmecdjfbpblgaaGreatDoorQG16
namespace Go.Proofs.YtdmecdjfbpblgaaGreatDoor.Ops
set_option maxRecDepth 100000
set_option maxHeartbeats 32000000
open Go.ChangeShapes Go.WideShapes Go.ChangeAt Go.RowKit
set_option linter.unusedVariables false
set_option linter.unusedSimpArgs false
instance:Inhabited Po:=⟨⟨0,0,0,0,⟨#[]⟩,⟨#[]⟩⟩⟩
theorem add_plain (g i j:Nat):(⟨g,i,none⟩:Addr).add j=⟨g,i+j,none⟩:=by unfold Addr.add;split<;>simp_all
theorem zbe {H:Type} {enc:TypeId × Value->H} {P:Program} {w:World} {base:Nat} {sp:Nat->Bool} {held:Bool} {fuel:Nat} {t:TypeId} {cs:List Value} {x:DataW H × List MemPlace} {fs:Array Field}
 (ht:P.underlying t=some (.struct fs)) (h:DataW.trod enc P w base sp held fuel t cs=some x) (i:Nat) {ft:TypeId} {off:Nat} (hi:(fs[i]?).map (fun f=>(f.type,f.offset))=some (ft,off)) (hc:P.cellsOf ft=1) {v:Value} (hv:cs[off]? = some v) :
 ∃ n d ps,DataW.trod enc P w base sp held n ft [v]=some (d,ps)/\∀ y∈ps,y∈x.2:=by
 obtain ⟨xs,n,_,hx,_,hxl,hf⟩:=DataW.trod_struct ht h;obtain ⟨f,hfi,he⟩:=Option.map_eq_some_iff.1 hi;have e1:f.type=ft:=congrArg Prod.fst he;have e2:f.offset=off:=congrArg Prod.snd he;have hlt:i<xs.length:=by
  rw [hxl];exact (Array.getElem?_eq_some_iff.1 hfi).1
 have:=hf i f hfi;rw [e1,e2,hc,List.getElem?_eq_getElem hlt] at this;obtain ⟨hl,hg⟩:=List.getElem?_eq_some_iff.1 hv;have h1:(cs.drop off).take 1=[v]:=by
  rw [List.drop_eq_getElem_cons hl,hg];rfl
 rw [h1] at this;refine ⟨n,(xs[i]).1,(xs[i]).2,this,fun y hy=>?_⟩;rw [hx];exact List.mem_flatMap.2 ⟨xs[i],List.getElem_mem _,hy⟩
theorem zty {W:World} {base:Nat} {a:Addr} {n:Nat} {cs:List Value} (h:W.cells? base a n=some cs) (hn:0<n):a.spot=none:=by
 obtain ⟨_,hl,hc⟩:=World.cells?_some h;have z:=hc 0 hn;rw [List.getElem?_eq_getElem (by omega)] at z;simpa [Addr.add] using World.cell?_spot z
theorem zd0:Tryz.prog.cellsOf 3=1:=by kernel_rfl
theorem zr4:Tryz.prog.cellsOf 59=6:=by kernel_rfl
theorem fOp0:((Tryz.prog.fieldsOf 59)[0]?).map (fun f=>(f.type,f.offset))=some (3,0):=by kernel_rfl
theorem fOp1:((Tryz.prog.fieldsOf 59)[1]?).map (fun f=>(f.type,f.offset))=some (3,1):=by kernel_rfl
theorem fOp2:((Tryz.prog.fieldsOf 59)[2]?).map (fun f=>(f.type,f.offset))=some (3,2):=by kernel_rfl
theorem fOp3:((Tryz.prog.fieldsOf 59)[3]?).map (fun f=>(f.type,f.offset))=some (3,3):=by kernel_rfl
theorem fOp4:((Tryz.prog.fieldsOf 59)[4]?).map (fun f=>(f.type,f.offset))=some (9,4):=by kernel_rfl
theorem fOp5:((Tryz.prog.fieldsOf 59)[5]?).map (fun f=>(f.type,f.offset))=some (9,5):=by kernel_rfl
theorem ztz {H:Type} {enc:TypeId × Value->H} {W:World} {base:Nat} {v:Value} {d:DataW H} {ps:List MemPlace} (hv:Value.okWide Tryz.prog W .any base 22 v)
 (h:DataW.Trod enc Tryz.prog W 0 (fun _=>true) true 22 v d ps) (hlt:∀ x∈ps,x.block<W.heap.size) :
 ∃ (A:Option Addr) (cap:Nat) (l:List Po),v = .slice A l.length cap/\l.length<=cap/\cap<=9223372036854775807/\OL W A l/\(A=none->l=[]/\cap=0):=by
 obtain ⟨a0,len0,cap0,rfl⟩:=okWide_slice Tryz.underlying22 hv;obtain ⟨fuel,hf⟩:=h
 rcases Deep.open_slice Tryz.underlying22 hf with ⟨hcs,hx⟩|⟨a,len,cap,m,fu,D,Pl,hcs,hb,hl,hm,hmm,hx,hel⟩
 · simp [Value.cells] at hcs;obtain ⟨rfl,rfl,rfl⟩:=hcs;exact ⟨none,0,[],rfl,by simp,by simp,fun i m hm=>by simp at hm,fun _=>⟨rfl,rfl⟩⟩
 · simp [Value.cells] at hcs;obtain ⟨rfl,rfl,rfl⟩:=hcs;simp only [Prod.mk.injEq] at hx;obtain ⟨rfl,rfl⟩:=hx;simp only [if_true] at hmm;subst hmm;rw [zr4] at hel hlt
   by_cases h0:len0=0
   · subst h0;exact ⟨some a,m,[],rfl,by simp,hm,fun i m hm=>by simp at hm,fun h=>by cases h⟩
   obtain ⟨cs0,z1,-⟩:=hel 0 (by omega);have hspot:=zty z1 (by omega);obtain ⟨b,off,spot⟩:=a;have hs:spot=none:=by simpa [Addr.add] using hspot
   subst hs;have hbl:b<W.heap.size:=hlt (.cell b off) (List.mem_append.2 (.inl (MemPlace.mem_row.2 ⟨0,by omega,by simp⟩)));have each:∀ i,i<len0->∃ z:Po,Fit z/\W.cell? ⟨b,off+i*6,none⟩=some (.int .i64 z.kind)/\W.cell? ⟨b,off+i*6+1,none⟩=some (.int .i64 z.id)/\W.cell? ⟨b,off+i*6+2,none⟩=some (.int .i64 z.dst)/\W.cell? ⟨b,off+i*6+3,none⟩=some (.int .i64 z.pos)/\W.cell? ⟨b,off+i*6+4,none⟩=some (.string z.name)/\W.cell? ⟨b,off+i*6+5,none⟩=some (.string z.text):=fun i hi=>by
    obtain ⟨cs',h1,h2⟩:=hel i (by omega);obtain ⟨_,hlen,hcell⟩:=World.cells?_some h1
    match cs',hlen with
    | [y0,y1,y2,y3,y4,y5],_ =>
      obtain ⟨n0,d0,p0,t0,s0⟩:=zbe zb4 h2 0 fOp0 zd0 (v:=y0) rfl;obtain ⟨n1,d1,p1,t1,s1⟩:=zbe zb4 h2 1 fOp1 zd0 (v:=y1) rfl;obtain ⟨n2,d2,p2,t2,s2⟩:=zbe zb4 h2 2 fOp2 zd0 (v:=y2) rfl;obtain ⟨n3,d3,p3,t3,s3⟩:=zbe zb4 h2 3 fOp3 zd0 (v:=y3) rfl;obtain ⟨n4,d4,p4,t4,s4⟩:=zbe zb4 h2 4 fOp4 zf0 (v:=y4) rfl;obtain ⟨n5,d5,p5,t5,s5⟩:=zbe zb4 h2 5 fOp5 zf0 (v:=y5) rfl;obtain ⟨x0,e0,-,w0⟩:=DataW.trod_int Tryz.underlying3 t0;obtain ⟨x1,e1,-,w1⟩:=DataW.trod_int Tryz.underlying3 t1;obtain ⟨x2,e2,-,w2⟩:=DataW.trod_int Tryz.underlying3 t2;obtain ⟨x3,e3,-,w3⟩:=DataW.trod_int Tryz.underlying3 t3;obtain ⟨x4,e4,-,-⟩:=DataW.trod_string Tryz.underlying9 t4;obtain ⟨x5,e5,-,-⟩:=DataW.trod_string Tryz.underlying9 t5;cases e0;cases e1;cases e2;cases e3;cases e4;cases e5;have g0:=hcell 0 (by omega);have g1:=hcell 1 (by omega);have g2:=hcell 2 (by omega);have g3:=hcell 3 (by omega);have g4:=hcell 4 (by omega);have g5:=hcell 5 (by omega);simp only [add_plain,Nat.add_zero] at g0 g1 g2 g3 g4 g5;exact ⟨⟨x0,x1,x2,x3,x4,x5⟩,⟨zhx w0,zhx w1,zhx w2,zhx w3⟩,g0,g1,g2,g3,g4,g5⟩
   obtain ⟨f,hf⟩:=Deep.choose_lt each;refine ⟨some ⟨b,off,none⟩,m,(List.range len0).map f,by simp,by simpa using hl,hm,fun i z hz=>?_,fun h=>by cases h⟩;obtain ⟨hi,e⟩:=List.getElem?_eq_some_iff.1 hz;have hi':i<len0:=by simpa using hi
   have e':f i=z:=by simpa using e
   rw [<- e'];exact ⟨(hf i hi').1,b,off,rfl,hbl,(hf i hi').2⟩
end Go.Proofs.YtdmecdjfbpblgaaGreatDoor.Ops
