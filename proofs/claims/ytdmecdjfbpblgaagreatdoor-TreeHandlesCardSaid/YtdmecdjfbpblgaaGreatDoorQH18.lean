/-
  tree.Node.
-/
import Derived.Test.YtdmecdjfbpblgaaGreatDoorQH17
namespace Go.Proofs.YtdmecdjfbpblgaaGreatDoor
set_option maxRecDepth 100000
set_option maxHeartbeats 32000000
open Go.ChangeShapes Go.WideShapes Go.ChangeAt Go.RowKit
set_option linter.unusedVariables false
set_option linter.unusedSimpArgs false
structure Pt where
 l:List Ops.Po
 A:Option Addr
 c:Nat
def ptv (P:List Pt):List Value:=P.map fun x=>.slice x.A x.l.length x.c
structure PR (w:World) (base:Nat) (v:Value) (P:List Pt):Prop where
 row:w.ownsRow base 22 1 v P.length (ptv P)
 ol:∀ x∈P,Ops.OL w x.A x.l/\x.l.length<=6
def RB (w:World) (A:Option Addr) (l:List Int):Prop:=∀ (j:Nat) (z:Int),l[j]? = some z->(0<=z/\z<=255)/\∃ g off,A=some ⟨g,off,none⟩/\g<w.heap.size/\w.cell? ⟨g,off+j,none⟩=some (.int .u8 z)
theorem RB.below {w w':World} {A:Option Addr} {l:List Int} (h:RB w A l) (hb:Below w.heap.size w w'):RB w' A l:=fun j z hz=>by
 obtain ⟨h1,g,off,h2,h3,h4⟩:=h j z hz;exact ⟨h1,g,off,h2,Nat.lt_of_lt_of_le h3 hb.size,(hb.cell (p:=⟨g,off+j,none⟩) h3).trans h4⟩
theorem zun:(Tryz.prog.info? 22).map (fun i=>(i.zero,i.size,i.bytes))=some (some (.slice none 0 0),1,24):=by kernel_rfl
theorem zj0 (W:World):(sizeOf 59).run Tryz.prog W = .ok 6 W:=by
 have h:(Tryz.prog.info? 59).map (fun i=>i.size)=some 6:=by kernel_rfl
 obtain ⟨i,hi,e⟩:=Option.map_eq_some_iff.1 h;simp [sizeOf,typeInfo,hi,e]
theorem zo5 (g off n c m:Nat) (h:m<=c) (W:World):Sem.run Tryz.prog (Instr.slice 22 (.slice (some ⟨g,off,none⟩) n c) none (some (.int .i64 (m:Int))) none) W = .ok (.slice (some ⟨g,off,none⟩) m c) W:=by
 rw [run_slice_h (P:=Tryz.prog) W 22 (some ⟨g,off,none⟩) n c Tryz.underlying22 .i64 (m:Int) (by omega) (by omega)];rw [show ((sizeOf (Tryz.prog.elem 22)).run Tryz.prog W) = .ok 6 W from zj0 W];simp only [Result.andThen,sliced,Int.toNat_natCast,Nat.sub_zero]
 split
 · rfl
 · simp [add_plain]
theorem zo6 (g off n c m:Nat) (h1:m<=n) (h2:n<=c):∃ p',(∀ W,Sem.run Tryz.prog (Instr.slice 22 (.slice (some ⟨g,off,none⟩) n c) (some (.int .i64 (m:Int))) none none) W = .ok (.slice p' (n - m) (c - m)) W)/\∀ (w:World) (l:List Ops.Po),l.length=n->Ops.OL w (some ⟨g,off,none⟩) l->Ops.OL w p' (l.drop m):=by
 refine ⟨if c=m then some ⟨g,off,none⟩ else some ⟨g,off+m*6,none⟩,fun W=>?_,fun w l hl h i o ho=>?_⟩
 · rw [run_slice_l (P:=Tryz.prog) W 22 (some ⟨g,off,none⟩) n c Tryz.underlying22 .i64 (m:Int) (by omega) (by omega)];rw [show ((sizeOf (Tryz.prog.elem 22)).run Tryz.prog W) = .ok 6 W from zj0 W];simp only [Result.andThen,sliced,Int.toNat_natCast]
   split
   · rfl
   · simp [add_plain]
 · rw [List.getElem?_drop] at ho;obtain ⟨hlt,-⟩:=List.getElem?_eq_some_iff.1 ho;obtain ⟨h1,g',off',e,h3,h4⟩:=h (m+i) o ho;cases e;refine ⟨h1,g,off+m*6,by rw [if_neg (by omega)],h3,?_⟩;rw [show off+m*6+i*6=off+(m+i)*6 by omega];exact h4
def lenOf:Value->Nat
 | .slice _ n _=>n
 | _=>0
theorem zd4 (A:Option Addr) (l:List Ops.Po) (c:Nat) (A2:Option Addr) (by_:List Int) (c2:Nat) (w:World) (hL:Ops.OL w A l) (hl:l.length<=60) (hlc:l.length<=c) (hc:c<=9223372036854775807) (hR:RB w A2 by_) (hb60:by_.length<=60) :
 Calls Tryz.prog 7 #[.slice A l.length c,.slice A2 by_.length c2] w (fun e w'=>∃ v P,e = .returned v/\PR w' w.heap.size v P/\P.length<=l.length/\P.flatMap Pt.l=l/\(∀ x∈P,∀ u,Ops.OL u A l->Ops.OL u x.A x.l)/\Below w.heap.size w w'):=by
 obtain ⟨i0,hJ1,hJ2,hJ3,hJ4⟩:=info_parts zun;have HJ:=Hq (And.intro hJ1 (And.intro hJ2 (And.intro hJ3 hJ4)));have HL:=Hq hL;have HR:=Hq hR;obtain ⟨n,hnn⟩:∃ n,l.length=n:=⟨_,rfl⟩;obtain ⟨bn,hbn⟩:∃ n,by_.length=n:=⟨_,rfl⟩;have HNN:=Hq hnn;have HBN:=Hq hbn;rw [hnn] at hl hlc ⊢;rw [hbn] at hb60 ⊢;clear hL hR hnn hbn hJ1 hJ2 hJ3 hJ4;go_enter Tryz.func7,Tryz.ntmps7;go_wp2;have HE0:Hid ((w.alloc (.cells #[] 22)).ownsRow w.heap.size 22 1 (.slice (some ⟨w.heap.size,0,none⟩) 0 0) 0 (ptv [])):=Hq ⟨rfl,.inr ⟨w.heap.size,0,#[],rfl,Nat.le_refl _,heap_alloc_new _ _,Nat.le_refl _,by unfold maxLen;omega,rfl,rfl⟩⟩;have HP0:Hid (∀ x∈([]:List Pt),(∀ u,Ops.OL u A l->Ops.OL u x.A x.l)/\x.l.length<=6):=Hq (fun x hx=>by simp at hx);have HB0:Hid (Below w.heap.size w (w.alloc (.cells #[] 22))):=Hq (Bq _ _)
 go_loopw [0,5,6] (fun a o q wr=>∃ (P:List Pt) (p A':Option Addr) (c' c5 rn pn:Nat) (rest:List Ops.Po),a = .slice A' rn c'/\o = .slice p pn c5/\q = .int .i64 pn/\rn<=c'/\c'<=9223372036854775807/\rn+pn<=n/\Hid (rest.length=rn)/\Hid (P.length=pn)/\Hid (wr.ownsRow w.heap.size 22 1 (.slice p pn c5) pn (ptv P))/\Hid (∀ x∈P,(∀ u,Ops.OL u A l->Ops.OL u x.A x.l)/\x.l.length<=6)/\Hid (P.flatMap Pt.l++rest=l)/\Hid (∀ u,Ops.OL u A l->Ops.OL u A' rest)/\Hid (Below w.heap.size w wr)) (fun a _ _ _=>lenOf a)
 case atStart => exact ⟨[],some ⟨w.heap.size,0,none⟩,A,c,0,n,0,l,rfl,rfl,rfl,by omega,by omega,by omega,HNN,Hq rfl,HE0,HP0,Hq rfl,Hq (fun u h=>h),HB0⟩
 case round =>
  obtain ⟨P,p,A',c',c5,rn,pn,rest,rfl,rfl,rfl,g1,g2,g3,HRL,HPL,HPR,HPX,HPC,HOL,HB⟩:=hrel;have hbs:=HB.out.size
  by_cases h0:0<rn
  · have h0':(0:Int)<(rn:Int):=by omega
    have hd0:decide ((0:Int)<(rn:Int))=true:=by simpa using h0
    obtain ⟨ga,off,rfl⟩:∃ ga off,A'=some ⟨ga,off,none⟩:=by
     obtain ⟨x,hx⟩:∃ x,rest[0]? = some x:=⟨_,List.getElem?_eq_getElem (by rw [HRL.out];exact h0)⟩;obtain ⟨-,g,off,e,-⟩:=HOL.out w HL.out 0 x hx;exact ⟨g,off,e⟩
    go_upto_if 17 with fail
    go_cut [7] from 18 to 24 (fun x wx=>∃ m:Nat,x = .int .i64 m/\1<=m/\m<=6/\wx=wr)
    case first =>
     by_cases hlt:pn<bn
     · have k0:(0:Int)<=(pn:Int):=by omega
       have k1:(pn:Int)<(bn:Int):=by omega
       obtain ⟨z,hz⟩:∃ z,by_[pn]? = some z:=⟨_,List.getElem?_eq_getElem (by rw [HBN.out];exact hlt)⟩;obtain ⟨⟨z0,z1⟩,gb,ob,rfl,hgb,hcb⟩:=(HR.out.below HB.out) pn z hz;obtain ⟨zn,rfl⟩:=Int.eq_ofNat_of_zero_le z0;clear hz;go_wp2;go_meet;exact ⟨1+zn % 6,by simp,by omega,by omega,rfl⟩
     · have hd1:decide ((pn:Int)<(bn:Int))=false:=by simp;omega
       go_wp2;go_meet;exact ⟨3,rfl,by omega,by omega,rfl⟩
    case rest =>
     obtain ⟨m,rfl,hm1,hm6,rfl⟩:=hcut;go_upto_region 9 with fail
     obtain ⟨q,hq,hq1,hq6,hqr⟩:∃ q:Nat,min (m:Int) (rn:Int)=(q:Int)/\1<=q/\q<=6/\q<=rn:=⟨min m rn,by omega,by omega,by omega,by omega⟩;rw [hq];clear hq;have hsl:=zo5 ga off rn c' q (by omega);obtain ⟨p2,hs2,hsO⟩:=zo6 ga off rn c' q hqr g1;have HSO:Hid (∀ u,Ops.OL u A l->Ops.OL u p2 (rest.drop q)):=Hq (fun u h=>hsO u rest HRL.out (HOL.out u h));clear hsO;have HO1:Hid ((∀ u,Ops.OL u A l->Ops.OL u (some ⟨ga,off,none⟩) (rest.take q))/\(rest.take q).length=q):=Hq ⟨(fun u hu i o ho=>by
      rw [List.getElem?_take] at ho
      split at ho
      · exact HOL.out u hu i o ho
      · cases ho),by rw [List.length_take,HRL.out];omega⟩
     obtain ⟨E,hE⟩:∃ E,E=wc.alloc (.cells #[.slice (some ⟨ga,off,none⟩) q c'] 22):=⟨_,rfl⟩;have HBE:Hid (Below wc.heap.size wc E):=Hq (by rw [hE];exact Bq _ _);have HRE:Hid (E.ownsRow w.heap.size 22 1 (.slice p pn c5) pn (ptv P)):=Hq (own_below HPR.out HBE.out);have HCE:Hid (∀ j u,[Value.slice (some ⟨ga,off,none⟩) q c'][j]? = some u->E.cell? ((⟨wc.heap.size,0,none⟩:Addr).add j)=some u):=Hq (fun j u hj=>by
      match j with
      | 0 =>
        cases hj;rw [add_plain,hE];exact block1 (hnew wc _)
      | j+1=>simp at hj)
     have HSE:Hid (w.heap.size<=E.heap.size):=Hq (by have:=HBE.out.size;omega);have HFIN:Hid (∀ V,E.grownBy V (Value.slice p pn c5).ownBlock->Below w.heap.size w V):=Hq (fun V hg=>(HB.out.trans (HBE.out.mono hbs)).grown hg HSE.out (fun r e=>(HRE.out.lt r e).1));have HPX2:Hid (∀ x∈P++[⟨rest.take q,some ⟨ga,off,none⟩,c'⟩],(∀ u,Ops.OL u A l->Ops.OL u x.A x.l)/\x.l.length<=6):=Hq (fun x hx=>by
      rcases List.mem_append.1 hx with hx|hx
      · exact HPX.out x hx
      · rw [List.mem_singleton.1 hx];exact ⟨HO1.out.1,by rw [HO1.out.2];exact hq6⟩)
     have HPV:Hid (ptv (P++[⟨rest.take q,some ⟨ga,off,none⟩,c'⟩])=ptv P++[.slice (some ⟨ga,off,none⟩) q c']):=Hq (by simp [ptv,HO1.out.2]);have HEE:=Hq hE;clear hE
     go_wp2_with (at_builtin;refine wpList_append_own_at _ rfl _ _ 45 rfl w.heap.size 22 i0 (.slice none 0 0) 1 24 Tryz.underlying45 HJ.out.1 HJ.out.2.1 HJ.out.2.2.1 HJ.out.2.2.2 rfl (by decide) _ _ _ rfl (by rw [<- HEE.out];exact HRE.out) ⟨wc.heap.size,0,none⟩ 1 1 [.slice (some ⟨ga,off,none⟩) q c'] rfl rfl (by rw [<- HEE.out];exact HCE.out) (fun u hu=>by simp only [List.mem_cons,List.not_mem_nil,or_false] at hu;rcases hu with rfl;rfl) (by unfold maxLen;omega) (by omega) (by rw [<- HEE.out];exact HSE.out) ?_;rw [<- HEE.out];intro v' V hown' hgrow _ hat;obtain ⟨p',c6,rfl,-,-⟩:=zj hown';have HF:=Hq (HFIN.out V hgrow);have HRW:Hid (V.ownsRow w.heap.size 22 1 (.slice p' (pn+1) c6) (pn+1) (ptv (P++[⟨rest.take q,some ⟨ga,off,none⟩,c'⟩]))):=Hq (by rw [HPV.out];exact hown');clear hown' hgrow hat)
     go_roundw
     case rel => exact ⟨P++[⟨rest.take q,some ⟨ga,off,none⟩,c'⟩],p',p2,c' - q,c6,rn - q,pn+1,rest.drop q,rfl,rfl,by go_num,by omega,by omega,by omega,Hq (by rw [List.length_drop,HRL.out]),Hq (by rw [List.length_append,HPL.out];rfl),HRW,HPX2,Hq (by rw [List.flatMap_append,<- HPC.out];simp),HSO,HF⟩
     case measure => simp [lenOf];omega
  · obtain rfl:rn=0:=by omega
    have hr0:rest=[]:=List.eq_nil_of_length_eq_zero HRL.out;have HP2:Hid (P.flatMap Pt.l=l):=Hq (by have:=HPC.out;rw [hr0,List.append_nil] at this;exact this);clear hr0;go_wp2;go_ret;exact ⟨_,P,rfl,⟨by rw [HPL.out];exact HPR.out,fun x hx=>⟨((HPX.out x hx).1 w HL.out).below HB.out,(HPX.out x hx).2⟩⟩,by rw [HPL.out];omega,HP2.out,fun x hx=>(HPX.out x hx).1,HB.out⟩
structure RW (X:World) (B kn:Nat) (vr vc:Value) (rs cs:List Int):Prop where
 box:X.heap[kn]? = some (.cells #[vr,vc] 48 (0,0))
 rr:X.ownsRow B 37 1 vr rs.length (V.gvs rs)
 cc:X.ownsRow B 37 1 vc cs.length (V.gvs cs)
 rC:Ap vr vc
 cR:Ap vc vr
theorem RW.below {X Y:World} {B kn:Nat} {vr vc:Value} {rs cs:List Int} (h:RW X B kn vr vc rs cs) (hb:Below X.heap.size X Y):RW Y B kn vr vc rs cs :=
 ⟨(hb.block _ (lt_of_block h.box)).trans h.box,own_below h.rr hb,own_below h.cc hb,h.rC,h.cR⟩
theorem RW.cell {X:World} {B kn:Nat} {vr vc:Value} {rs cs:List Int} (h:RW X B kn vr vc rs cs):X.cell? ⟨kn,0,none⟩=some vr/\X.cell? ⟨kn,1,none⟩=some vc:=block2 h.box
theorem RW.recs {X Y:World} {B kn:Nat} {vr vc v':Value} {rs cs rs':List Int} (h:RW X B kn vr vc rs cs) (b0:Nat) (hb0:b0<=B) (hkn:b0<=kn) (hBX:B<=X.heap.size) (hg:X.grownBy Y vr.ownBlock) (ho:Y.ownsRow B 37 1 v' rs'.length (V.gvs rs')) (hv:v'.ownBlock=vr.ownBlock\/v'.ownBlock=some X.heap.size) :
 Y.heap[kn]? = some (.cells #[vr,vc] 48 (0,0))/\RW (Y.setCell ⟨kn,0,none⟩ v') B kn v' vc rs' cs/\KeepT X (Y.setCell ⟨kn,0,none⟩ v')/\Below b0 X (Y.setCell ⟨kn,0,none⟩ v'):=by
 have hlo:∀ r,vr.ownBlock=some r->B<=r:=fun r e=>(h.rr.lt r e).1
 have hkV:Y.heap[kn]? = some (.cells #[vr,vc] 48 (0,0)):=(hg.block kn (lt_of_block h.box) (fun e=>zi h.rr h.box (by decide) e.symm)).trans h.box;have hc:=h.cc.kept hg h.cR;refine ⟨hkV,⟨by rw [zb hkV];simp,ownsRow_setCell_other ho (a:=⟨kn,0,none⟩) (zi ho hkV (by decide)) _,ownsRow_setCell_other hc (a:=⟨kn,0,none⟩) (zi hc hkV (by decide)) _,?_,h.cR.grown h.cc hv⟩,(KeepT.of_grown h.rr hg (by decide) (by decide) (by decide)).trans (KeepT.of_set hkV (by decide) (by decide) (by decide) 0 _),?_⟩
 · rcases hv with hv|hv
   · unfold Ap;rw [hv];exact h.rC
   · refine .inr ?_;rw [hv];intro e;exact Nat.lt_irrefl _ (h.cc.lt _ e.symm).2
 · exact ((Below.refl b0 X).grown hg (by omega) (fun r e=>by have:=hlo r e;omega)).setCell (p:=⟨kn,0,none⟩) hkn _
theorem RW.chunks {X Y:World} {B kn:Nat} {vr vc v':Value} {rs cs cs':List Int} (h:RW X B kn vr vc rs cs) (b0:Nat) (hb0:b0<=B) (hkn:b0<=kn) (hBX:B<=X.heap.size) (hg:X.grownBy Y vc.ownBlock) (ho:Y.ownsRow B 37 1 v' cs'.length (V.gvs cs')) (hv:v'.ownBlock=vc.ownBlock\/v'.ownBlock=some X.heap.size) :
 Y.heap[kn]? = some (.cells #[vr,vc] 48 (0,0))/\RW (Y.setCell ⟨kn,1,none⟩ v') B kn vr v' rs cs'/\KeepT X (Y.setCell ⟨kn,1,none⟩ v')/\Below b0 X (Y.setCell ⟨kn,1,none⟩ v'):=by
 have hlo:∀ r,vc.ownBlock=some r->B<=r:=fun r e=>(h.cc.lt r e).1
 have hkV:Y.heap[kn]? = some (.cells #[vr,vc] 48 (0,0)):=(hg.block kn (lt_of_block h.box) (fun e=>zi h.cc h.box (by decide) e.symm)).trans h.box;have hc:=h.rr.kept hg h.rC;refine ⟨hkV,⟨by rw [zb hkV];simp,ownsRow_setCell_other hc (a:=⟨kn,1,none⟩) (zi hc hkV (by decide)) _,ownsRow_setCell_other ho (a:=⟨kn,1,none⟩) (zi ho hkV (by decide)) _,h.rC.grown h.rr hv,?_⟩,(KeepT.of_grown h.cc hg (by decide) (by decide) (by decide)).trans (KeepT.of_set hkV (by decide) (by decide) (by decide) 1 _),?_⟩
 · rcases hv with hv|hv
   · unfold Ap;rw [hv];exact h.cR
   · refine .inr ?_;rw [hv];intro e;exact Nat.lt_irrefl _ (h.rr.lt _ e.symm).2
 · exact ((Below.refl b0 X).grown hg (by omega) (fun r e=>by have:=hlo r e;omega)).setCell (p:=⟨kn,1,none⟩) hkn _
theorem zht {n:Nat} {G:Int} {p:V.Pl} {v:V.Vc} {l:List Int} {old:List (List Int)} (hP:V.PK n G p) (hv:V.WF p v l old):old.flatten.length<=1024:=by
 have hb:=hv.b64;have hl:V.lvs v.size<=4:=V.zbl _;obtain ⟨h2,h3,-⟩:=V.zdm hP hv.down (fun x hx=>by rw [List.mem_singleton.1 hx];exact hb) (by
  have:(4:Nat) ^ V.lvs v.size<=4 ^ 4:=Nat.pow_le_pow_right (by omega) hl;simp only [List.length_singleton];omega)
 have h4:=V.zbn h3 old.length;rw [List.take_length] at h4;have:256*old.length<=1024:=by omega
 omega
theorem zo7 (X:World) (kt kn B b0:Nat) (vr vc:Value) (rs cs:List Int) (hd:Int) (g u f r pg pu pf pc:Value) (L:List Rm) (t:Tm) (b n m:Nat) (G:Int) (h:TA X b g u f r pg pu pf pc L t) (hT:TK n m G t) (kd par:Int) (nm tx:ByteArray) (ats:List ByteArray) (v:V.Vc) (kids:List Int) (rows:List (List Int)) (hwf:V.WF t.pl v kids rows) (aA:Option Addr) (aC:Nat)
 (hkt:X.heap[kt]? = some (.cells #[g,u,f,r,pg,pu,pf,pc] 36 (0,0))) (hf:RW X B kn vr vc rs cs) (hr:rs.length<=1000) (hcl:cs.length<=1000000) (hfl:rows.flatten.length<=1000000) (hB0:b0<=B) (hB:b0<=kn) (hBX:B<=X.heap.size) :
 Calls Tryz.prog 25 (#[.int .u64 hd,.agg (rmc ⟨⟨kd,par,nm,tx,ats,v⟩,aA,aC⟩).toArray]++#[.pointer (some ⟨kt,0,none⟩),.pointer (some ⟨kn,0,none⟩)]) X (fun e X'=>e = .returned (.int .i64 0)/\∃ vr' vc',RW X' B kn vr' vc' (rs++[hd]) (cs++rows.flatten)/\KeepT X X'/\Below b0 X X'):=by
 obtain ⟨i0,hI1,hI2,hI3,hI4⟩:=info_parts V.za4;have HI:=Hq (And.intro hI1 (And.intro hI2 (And.intro hI3 hI4)));obtain ⟨ag,cg,au,cu,af,cf,ar,cr,agp,cgp,aup,cup,afp,cfp,acp,ccp,rfl,rfl,rfl,rfl,rfl,rfl,rfl,rfl⟩:=h.form;obtain ⟨rt,sz⟩:=v;obtain ⟨ac,hac⟩:∃ a,ats.length=a:=⟨_,rfl⟩;obtain ⟨pr,cr0,rfl,-,-⟩:=zj hf.rr;obtain ⟨qc,cc0,rfl,-,-⟩:=zj hf.cc;have hszv:sz<=256:=by have:=hwf.size;have:=hwf.small;simp only [] at *;omega
 have hb64:=hwf.b64;obtain ⟨X1,hX1⟩:∃ X1,X1=X.alloc (.cells #[.int .i64 kd,.int .i64 par,.string nm,.string tx,.slice aA ac aC,.int .u64 rt,.int .i64 sz] 80):=⟨_,rfl⟩;have HB1:Hid (Below X.heap.size X X1):=Hq (by rw [hX1];exact Bq _ _);have HRb:Hid (X1.heap[X.heap.size]? = some (.cells #[.int .i64 kd,.int .i64 par,.string nm,.string tx,.slice aA ac aC,.int .u64 rt,.int .i64 sz] 80 (0,0))):=Hq (by rw [hX1];exact hnew _ _);have HTb:Hid (X1.heap[kt]? = some (.cells #[.slice ag t.st.gens.length cg,.slice au t.st.used.length cu,.slice af t.st.free.length cf,.slice ar L.length cr,.slice agp t.pl.st.gens.length cgp,.slice aup t.pl.st.used.length cup,.slice afp t.pl.st.free.length cfp,.slice acp t.pl.ch.length ccp] 36 (0,0))):=Hq ((HB1.out.block _ (lt_of_block hkt)).trans hkt);have HRE:Hid (Calls Tryz.prog 23 #[.agg #[.slice agp t.pl.st.gens.length cgp,.slice aup t.pl.st.used.length cup,.slice afp t.pl.st.free.length cfp,.slice acp t.pl.ch.length ccp],.agg #[.int .u64 rt,.int .i64 sz]] X1 (fun e w'=>∃ vi,e = .returned (.tuple #[vi,.int .i64 0])/\w'.ownsRow X1.heap.size 37 1 vi rows.flatten.length (V.gvs rows.flatten)/\Below X1.heap.size X1 w')):=Hq (by
  refine (V.zk9 rt sz _ _ _ _ t.pl b m G X1 (h.below HB1.out).pa hT.pk hb64.1 hb64.2 hszv).mono ?_;rw [hwf.down];rintro e w' ⟨vi,rfl,h1,h2⟩;exact ⟨vi,rfl,h1,h2⟩)
 have HF1:=Hq (hf.below HB1.out);have HXE:=Hq hX1;have hs1:=HB1.out.size;have hac':=hac;unfold rmc;simp only [hac];obtain ⟨rn,hrn⟩:∃ x,rs.length=x:=⟨_,rfl⟩;obtain ⟨cn,hcn⟩:∃ x,cs.length=x:=⟨_,rfl⟩;obtain ⟨fn,hfn⟩:∃ x,rows.flatten.length=x:=⟨_,rfl⟩;have HRN:=Hq hrn;have HCN:=Hq hcn;have HFN:=Hq hfn;rw [hrn] at hr HF1;rw [hcn] at hcl HF1;rw [hfn] at hfl HRE;clear h hT hwf hkt hf hX1 hac hac' hI1 hI2 hI3 hI4 hrn hcn hfn hb64 hszv;simp only [List.append_toArray,List.cons_append,List.nil_append,List.push_toArray];go_enter Tryz.func25,Tryz.ntmps25;go_upto_region 1 with fail
 rw [<- HXE.out];obtain ⟨a0,a1,a2,a3,a4,a5,a6,a7⟩:=block8 HTb.out;obtain ⟨d0,d1,d2,d3,d4,d5,d6⟩:=block7 HRb.out;go_upto_region 2 with (go_at_call 23;refine HRE.out.mono ?_;rintro e w1 ⟨vi,rfl,ho,hb1⟩;obtain ⟨pi,ci,rfl,-,-⟩:=zj ho;have HO:=Hq ho;have HB2:=Hq hb1;clear ho hb1)
 clear a0 a1 a2 a3 a4 a5 a6 a7 d0 d1 d2 d3 d4 d5 d6;have hs2:=HB2.out.size;have HF2:=Hq (HF1.out.below HB2.out);obtain ⟨E,hE⟩:∃ E,E=w1.alloc (.cells #[.int .u64 hd] 37):=⟨_,rfl⟩;have HBE:Hid (Below w1.heap.size w1 E):=Hq (by rw [hE];exact Bq _ _);have HFE:=Hq (HF2.out.below HBE.out);have HOE:=Hq (own_below HO.out HBE.out);have hsE:=HBE.out.size;have HSE:Hid (Srow E (some ⟨w1.heap.size,0,none⟩) 1 1 [.int .u64 hd]):=Hq (zhq (c:=1) (b:=w1.heap.size) ⟨rfl,.inr ⟨w1.heap.size,1,_,rfl,Nat.le_refl _,by rw [hE];exact hnew _ _,Nat.le_refl _,by unfold maxLen;omega,rfl,rfl⟩⟩ (fun u hu=>by rw [List.mem_singleton.1 hu];rfl));have HEE:=Hq hE;have hBE:B<=E.heap.size:=by omega
 obtain ⟨z0,z1⟩:=HF2.out.cell;have HAP:Hid (Ap (.slice pi fn ci) (.slice pr rn cr0)):=Hq (by
  rcases ho:(Value.slice pi fn ci).ownBlock with _|k
  · exact .inl ho
  · refine .inr ?_;rw [ho];intro e;have h1:=(HO.out.lt k ho).1;have h2:=(HF1.out.rr.lt k e.symm).2;omega)
 have HAQ:Hid (Ap (.slice pi fn ci) (.slice qc cn cc0)):=Hq (by
  rcases ho:(Value.slice pi fn ci).ownBlock with _|k
  · exact .inl ho
  · refine .inr ?_;rw [ho];intro e;have h1:=(HO.out.lt k ho).1;have h2:=(HF1.out.cc.lt k e.symm).2;omega)
 have HRR:Hid (E.ownsRow B 37 1 (.slice pr rn cr0) rn (V.gvs rs)):=Hq (by have:=HFE.out.rr;rw [HRN.out] at this;exact this);have HFIN1:Hid (∀ (Y:World) (p':Option Addr) (c':Nat),E.grownBy Y (Value.slice pr rn cr0).ownBlock->Y.ownsRow B 37 1 (.slice p' (rn+1) c') (rn+1) (V.gvs rs++[.int .u64 hd])->((Value.slice p' (rn+1) c').ownBlock=(Value.slice pr rn cr0).ownBlock\/(Value.slice p' (rn+1) c').ownBlock=some E.heap.size) ->
  Y.cell? ⟨kn,0,none⟩=some (.slice pr rn cr0)/\Y.frozen? ⟨kn,0,none⟩=false/\RW (Y.setCell ⟨kn,0,none⟩ (.slice p' (rn+1) c')) B kn (.slice p' (rn+1) c') (.slice qc cn cc0) (rs++[hd]) cs/\KeepT E (Y.setCell ⟨kn,0,none⟩ (.slice p' (rn+1) c'))/\Below b0 E (Y.setCell ⟨kn,0,none⟩ (.slice p' (rn+1) c'))/\(Y.setCell ⟨kn,0,none⟩ (.slice p' (rn+1) c')).ownsRow X1.heap.size 37 1 (.slice pi fn ci) fn (V.gvs rows.flatten)):=Hq (fun Y p' c' hg ho hv=>by
  have ho':Y.ownsRow B 37 1 (.slice p' (rn+1) c') (rs++[hd]).length (V.gvs (rs++[hd])):=by
   have e1:(rs++[hd]).length=rn+1:=by rw [List.length_append,HRN.out];rfl
   have e2:V.gvs (rs++[hd])=V.gvs rs++[.int .u64 hd]:=by simp [V.gvs]
   rw [e1,e2];exact ho
  obtain ⟨q1,q2,q3,q4⟩:=HFE.out.recs b0 hB0 hB hBE hg ho' hv;have q5:=HOE.out.kept hg HAP.out;exact ⟨(block2 q1).1,za q1 0,q2,q3,q4,ownsRow_setCell_other q5 (a:=⟨kn,0,none⟩) (zi q5 q1 (by decide)) _⟩)
 have HXE2:Hid (Below X.heap.size X E):=Hq ((HB1.out.trans (HB2.out.mono hs1)).trans (HBE.out.mono (by omega)));clear hE;go_upto_region 3 with (at_builtin;refine zfp rfl _ _ rfl rfl (base:=B) (n:=rn) (m:=1) (A:=some ⟨w1.heap.size,0,none⟩) (xs:=V.gvs rs) (news:=[.int .u64 hd]) Tryz.underlying26 HI.out.1 HI.out.2.1 HI.out.2.2.1 HI.out.2.2.2 rfl (by decide) rfl (by rw [<- HEE.out];exact HRR.out) 1 rfl (by rw [<- HEE.out];exact HSE.out) (by unfold maxLen;omega) (by omega) (by rw [<- HEE.out];exact hBE) ?_;rw [<- HEE.out];intro v4 Y4 ho hg hb;obtain ⟨p4,c4,rfl,-,-⟩:=zj ho;have HF:=Hq (HFIN1.out Y4 p4 c4 hg ho hb);clear ho hg hb;have y0:=HF.out.1;have f0:=HF.out.2.1)
 have hsz0:(rs++[hd]).length=rn+1:=by rw [List.length_append,HRN.out];rfl
 have HSZ:=Hq hsz0;clear hsz0 y0 f0 z0 z1;generalize hZ:Y4.setCell ⟨kn,0,none⟩ (.slice p4 (rn+1) c4)=Z at *;clear hZ;have HFZ:=Hq HF.out.2.2.1;have HKZ:=Hq HF.out.2.2.2.1;have HBZ:=Hq HF.out.2.2.2.2.1;have HOZ:=Hq HF.out.2.2.2.2.2;have hBZ:B<=Z.heap.size:=Nat.le_trans hBE HBZ.out.size;have HSR:Hid (Srow Z pi fn 1 (V.gvs rows.flatten)):=Hq (zhq HOZ.out (V.zcc _));have HCR:Hid (Z.ownsRow B 37 1 (.slice qc cn cc0) cn (V.gvs cs)):=Hq (by have:=HFZ.out.cc;rw [HCN.out] at this;exact this);have HFIN2:Hid (∀ (Y:World) (p':Option Addr) (c':Nat),Z.grownBy Y (Value.slice qc cn cc0).ownBlock->Y.ownsRow B 37 1 (.slice p' (cn+fn) c') (cn+fn) (V.gvs cs++V.gvs rows.flatten)->((Value.slice p' (cn+fn) c').ownBlock=(Value.slice qc cn cc0).ownBlock\/(Value.slice p' (cn+fn) c').ownBlock=some Z.heap.size) ->
  Y.cell? ⟨kn,1,none⟩=some (.slice qc cn cc0)/\Y.frozen? ⟨kn,1,none⟩=false/\RW (Y.setCell ⟨kn,1,none⟩ (.slice p' (cn+fn) c')) B kn (.slice p4 (rn+1) c4) (.slice p' (cn+fn) c') (rs++[hd]) (cs++rows.flatten)/\KeepT Z (Y.setCell ⟨kn,1,none⟩ (.slice p' (cn+fn) c'))/\Below b0 Z (Y.setCell ⟨kn,1,none⟩ (.slice p' (cn+fn) c'))):=Hq (fun Y p' c' hg ho hv=>by
  have ho':Y.ownsRow B 37 1 (.slice p' (cn+fn) c') (cs++rows.flatten).length (V.gvs (cs++rows.flatten)):=by
   have e1:(cs++rows.flatten).length=cn+fn:=by rw [List.length_append,HCN.out,HFN.out]
   have e2:V.gvs (cs++rows.flatten)=V.gvs cs++V.gvs rows.flatten:=by simp [V.gvs]
   rw [e1,e2];exact ho
  obtain ⟨q1,q2,q3,q4⟩:=HFZ.out.chunks b0 hB0 hB hBZ hg ho' hv;exact ⟨(block2 q1).2,za q1 1,q2,q3,q4⟩)
 have z1:=HFZ.out.cell.2;clear HF
 go_wp2_with (at_builtin;refine zfp rfl _ _ rfl rfl (base:=B) (n:=cn) (m:=fn) (A:=pi) (xs:=V.gvs cs) (news:=V.gvs rows.flatten) Tryz.underlying26 HI.out.1 HI.out.2.1 HI.out.2.2.1 HI.out.2.2.2 rfl (by decide) rfl HCR.out ci rfl HSR.out (by unfold maxLen;omega) (by omega) hBZ ?_;intro v4 Y5 ho hg hb;obtain ⟨p5,c5,rfl,-,-⟩:=zj ho;have HF:=Hq (HFIN2.out Y5 p5 c5 hg ho hb);clear ho hg hb;have y0:=HF.out.1;have f0:=HF.out.2.1)
 go_ret;exact ⟨rfl,_,_,HF.out.2.2.1,(((KeepT.of_below HXE2.out).trans HKZ.out).trans HF.out.2.2.2.1),((HXE2.out.mono (by omega)).trans HBZ.out).trans HF.out.2.2.2.2⟩
def GivesRc (hs cs:List Int) (w:World) (e:Ending) (w':World):Prop :=
 ∃ va vb,e = .returned (.tuple #[.agg #[va,vb],.int .i64 0])/\w'.ownsRow w.heap.size 37 1 va hs.length (V.gvs hs)/\w'.ownsRow w.heap.size 37 1 vb cs.length (V.gvs cs)/\Below w.heap.size w w'
theorem zo8 (g u f r pg pu pf pc:Value) (L:List Rm) (t:Tm) (b n m:Nat) (G:Int) (w:World) (h:TA w b g u f r pg pu pf pc L t) (hT:TK n m G t) (v:V.Vc) (F:List Mn) (hs:List Int) (vs:List V.Vc) (ks:List (List (List Int))) (rows:List (List Int)) (hv:Ver t v F hs vs ks rows) :
 Calls Tryz.prog 10 #[tval g u f r pg pu pf pc,.agg #[.int .u64 v.root,.int .i64 v.size]] w (GivesRc hs (rows.flatten++ks.flatten.flatten) w):=by
 have hsz:v.size=F.length:=by rw [<- hv.len];exact hv.ixw.size
 have hsm:F.length<=200:=by rw [<- hv.len];exact hv.ixw.small
 have hb64:=hv.ixw.b64;obtain ⟨ag,cg,au,cu,af,cf,ar,cr,agp,cgp,aup,cup,afp,cfp,acp,ccp,rfl,rfl,rfl,rfl,rfl,rfl,rfl,rfl⟩:=h.form;obtain ⟨rt,sz⟩:=v;obtain rfl:sz=F.length:=hsz;have s1:∀ (X:World) (o:Obj),(X.alloc o).heap.size=X.heap.size+1:=fun X o=>by simp
 obtain ⟨W,hW⟩:∃ W,W=((w.alloc (.cells #[.slice ag t.st.gens.length cg,.slice au t.st.used.length cu,.slice af t.st.free.length cf,.slice ar L.length cr,.slice agp t.pl.st.gens.length cgp,.slice aup t.pl.st.used.length cup,.slice afp t.pl.st.free.length cfp,.slice acp t.pl.ch.length ccp] 36)).alloc (.cells #[.int .u64 rt,.int .i64 F.length] 41)).alloc (.cells #[.slice none 0 0,.slice none 0 0] 48):=⟨_,rfl⟩;have hWf:Below w.heap.size w W/\W.heap.size=w.heap.size+3/\W.heap[w.heap.size]? = some (.cells #[.slice ag t.st.gens.length cg,.slice au t.st.used.length cu,.slice af t.st.free.length cf,.slice ar L.length cr,.slice agp t.pl.st.gens.length cgp,.slice aup t.pl.st.used.length cup,.slice afp t.pl.st.free.length cfp,.slice acp t.pl.ch.length ccp] 36 (0,0))/\W.heap[w.heap.size+1]? = some (.cells #[.int .u64 rt,.int .i64 F.length] 41 (0,0))/\W.heap[w.heap.size+1+1]? = some (.cells #[.slice none 0 0,.slice none 0 0] 48 (0,0)):=by
  rw [hW];refine ⟨((((Below.refl _ w).alloc (Nat.le_refl _) _).alloc (by simp) _).alloc (by simp;omega) _),by simp,?_,?_,?_⟩
  · rw [hold _ _ (by first|(simp;done)|(simp;omega)),hold _ _ (by first|(simp;done)|(simp;omega))];exact hnew _ _
  · rw [hold _ _ (by first|(simp;done)|(simp;omega))];exact hnew1 _ _ _
  · have:=hnew ((w.alloc (.cells #[.slice ag t.st.gens.length cg,.slice au t.st.used.length cu,.slice af t.st.free.length cf,.slice ar L.length cr,.slice agp t.pl.st.gens.length cgp,.slice aup t.pl.st.used.length cup,.slice afp t.pl.st.free.length cfp,.slice acp t.pl.ch.length ccp] 36)).alloc (.cells #[.int .u64 rt,.int .i64 F.length] 41)) (.cells #[.slice none 0 0,.slice none 0 0] 48);simpa only [s1] using this
 obtain ⟨hbW,hWs,hW0,hW1,hW2⟩:=hWf;have hrl:=zht hT.pk hv.ixw;have HRE:Hid (Calls Tryz.prog 23 #[.agg #[.slice agp t.pl.st.gens.length cgp,.slice aup t.pl.st.used.length cup,.slice afp t.pl.st.free.length cfp,.slice acp t.pl.ch.length ccp],.agg #[.int .u64 rt,.int .i64 F.length]] W (fun e w'=>∃ vi,e = .returned (.tuple #[vi,.int .i64 0])/\w'.ownsRow W.heap.size 37 1 vi rows.flatten.length (V.gvs rows.flatten)/\Below W.heap.size W w')):=Hq (by
  refine (V.zk9 rt F.length _ _ _ _ t.pl b m G W (h.below hbW).pa hT.pk hb64.1 hb64.2 (by omega)).mono ?_;rw [hv.ixw.down];rintro e w' ⟨vi,rfl,h1,h2⟩;exact ⟨vi,rfl,h1,h2⟩)
 have HEA:Hid (∀ (W2:World) (vi:Value),Below W.heap.size W W2->W2.ownsRow W.heap.size 37 1 vi rows.flatten.length (V.gvs rows.flatten)->Calls Tryz.prog 24 #[tval (.slice ag t.st.gens.length cg) (.slice au t.st.used.length cu) (.slice af t.st.free.length cf) (.slice ar L.length cr) (.slice agp t.pl.st.gens.length cgp) (.slice aup t.pl.st.used.length cup) (.slice afp t.pl.st.free.length cfp) (.slice acp t.pl.ch.length ccp),.agg #[.int .u64 rt,.int .i64 F.length],.func (.func 25) #[] #[.pointer (some ⟨w.heap.size,0,none⟩),.pointer (some ⟨W2.heap.size,0,none⟩)]] (W2.alloc (.cells #[.slice none 0 0,vi] 48)) (fun e w'=>∃ y:Int,e = .returned (.int .i64 y)/\((y=0/\∃ vr vc,RW w' W.heap.size W2.heap.size vr vc (hs.take F.length) (rows.flatten++(ks.take F.length).flatten.flatten)/\Below W.heap.size W2 w')\/(y≠0/\False)))):=Hq (fun W2 vi hb2 hvi=>by
  obtain ⟨W3,hW3⟩:∃ W3,W3=W2.alloc (.cells #[.slice none 0 0,vi] 48):=⟨_,rfl⟩;rw [<- hW3];have hs2:=hb2.size;have hb23:Below W2.heap.size W2 W3:=by rw [hW3];exact Bq _ _
  have hs3:W2.heap.size+1<=W3.heap.size:=by rw [hW3];simp
  have hb3:Below W.heap.size W W3:=hb2.trans (hb23.mono hs2);have hrw0:RW W3 W.heap.size W2.heap.size (.slice none 0 0) vi [] rows.flatten:=⟨by rw [hW3];exact hnew _ _,World.ownsRow_nil _ _ _ _,own_below hvi hb23,zvg _,zdt _⟩;refine zlg _ _ _ _ _ _ _ _ _ L t b rt F.length W3 (h.below (hbW.trans (hb3.mono hbW.size))) (by omega) (fun k X=>∃ vr vc,RW X W.heap.size W2.heap.size vr vc (hs.take k) (rows.flatten++(ks.take k).flatten.flatten)/\Below W.heap.size W2 X) (fun _ _=>False) (fun X hX=>⟨.slice none 0 0,vi,by simpa using hrw0.below hX,(hb23.mono hs2).trans (hX.mono (by omega))⟩) (fun i X hi hJ=>?_);obtain ⟨vr,vc,hrw,hbX⟩:=hJ;have hWX:Below W.heap.size W X:=hb2.trans hbX;have hwX:Below w.heap.size w X:=hbW.trans (hWX.mono hbW.size);have hta:=h.below hwX;obtain ⟨mi,hmi⟩:∃ x,F[i]? = some x:=⟨_,List.getElem?_eq_getElem hi⟩;have hil:i<hs.length:=by rw [hv.len];exact hi
  have hik:i<ks.length:=by rw [hv.kl];exact hi
  have hno:=hv.at_ i mi (hs.getD i 0) hmi (zah 0 hil);have hget:t.pl.get i (V.lvs F.length) rt=some (hs.getD i 0):=hv.ixw.get hil;have hrl2:∀ r∈ks,r.flatten.length<=1024:=fun r hr=>by
   obtain ⟨j,hj⟩:=List.mem_iff_getElem?.1 hr;obtain ⟨hjl,-⟩:=List.getElem?_eq_some_iff.1 hj;have hjF:j<F.length:=by rw [<- hv.kl];exact hjl
   have hno2:=hv.at_ j F[j] (hs.getD j 0) (List.getElem?_eq_getElem hjF) (zah 0 (by rw [hv.len];exact hjF));have e:ks.getD j []=r:=by rw [List.getD_eq_getElem?_getD,hj];rfl
   rw [<- e];exact zht hT.pk hno2.wf
  have hkl:((ks.take i).flatten.flatten).length<=1024*i:=by
   have key:∀ (l:List (List (List Int))),(∀ r∈l,r.flatten.length<=1024)->l.flatten.flatten.length<=1024*l.length:=fun l=>by
    induction l with
    | nil=>intro _;simp
    | cons a l ih =>
      intro hl;have h1:=hl a (by simp);have h2:=ih (fun r hr=>hl r (by simp [hr]));rw [List.flatten_cons,List.flatten_append,List.length_append,List.length_cons];omega
   have:=key (ks.take i) (fun r hr=>hrl2 r (List.mem_of_mem_take hr));rw [List.length_take,Nat.min_eq_left (by omega)] at this;exact this
  have hwk:=hno.wf;refine (zqt _ _ _ _ _ _ _ _ L t b n m G rt F.length i X hta hT hb64.1 hb64.2 (by omega) hi hget hno.b64 hno.lv #[.pointer (some ⟨w.heap.size,0,none⟩),.pointer (some ⟨W2.heap.size,0,none⟩)] (fun y X'=>y=0/\KeepT X X'/\∃ vr vc,RW X' W.heap.size W2.heap.size vr vc (hs.take (i+1)) (rows.flatten++(ks.take (i+1)).flatten.flatten)/\Below W.heap.size W2 X') (fun x Z hx hxk hZ=>?_)).mono ?_
  · obtain ⟨k,aA,aC⟩:=x;have hk:k=recP mi (vs.getD i ⟨0,0⟩):=hxk.trans hno.rc;subst hk;have htz:=hta.below hZ;have hXZ:=hZ.size;have hW2X:=hbX.size;refine (zo7 Z w.heap.size W2.heap.size W.heap.size W.heap.size vr vc (hs.take i) (rows.flatten++(ks.take i).flatten.flatten) (hs.getD i 0) _ _ _ _ _ _ _ _ L t b n m G htz hT mi.kind mi.parent mi.name mi.text (flatA mi.attrs) (vs.getD i ⟨0,0⟩) mi.kids (ks.getD i []) hwk aA aC ((hZ.block _ (by omega)).trans ((hWX.block _ (by omega)).trans hW0)) (hrw.below hZ) (by rw [List.length_take];omega) (by rw [List.length_append];omega) (by have:=zht hT.pk hwk;omega) (Nat.le_refl _) hs2 (by omega)).mono ?_;rintro e X' ⟨rfl,vr',vc',h1,h2,h3⟩;refine ⟨0,rfl,h2,rfl,(KeepT.of_below hZ).trans h2,vr',vc',?_,(hbX.trans (hZ.mono (by omega))).trans h3⟩;have e1:hs.take (i+1)=hs.take i++[hs.getD i 0]:=za7 (zah 0 hil);have e2:ks.take (i+1)=ks.take i++[ks.getD i []]:=za7 (zah [] hik);rw [e1,e2,List.flatten_append,List.flatten_append];simpa [List.append_assoc] using h1
  · rintro e X' ⟨y,rfl,rfl,h1,h2⟩;exact ⟨0,rfl,h1,.inl ⟨rfl,h2⟩⟩)
 have HLN:Hid (hs.take F.length=hs/\ks.take F.length=ks):=Hq ⟨List.take_of_length_le (by rw [hv.len];exact Nat.le_refl _),List.take_of_length_le (by rw [hv.kl];exact Nat.le_refl _)⟩;rw [HLN.out.1,HLN.out.2] at HEA;have HW0:=Hq hW0;have HW1:=Hq hW1;have HW2:=Hq hW2;have HBW:=Hq hbW;have HWE:=Hq hW;have hWL:w.heap.size+3<=W.heap.size:=by omega
 generalize hcl:rows.flatten++ks.flatten.flatten=cl at HEA ⊢;generalize hfl:F.length=fl at *;generalize hrn:rows.flatten.length=rn at *;clear hfl hrn hcl hsm hb64 h hT hv hW hWs hW0 hW1 hW2 hbW hrl HLN;go_enter Tryz.func10,Tryz.ntmps10;go_upto_region 1 with fail
 rw [<- HWE.out];obtain ⟨x0,x1,x2,x3,x4,x5,x6,x7⟩:=block8 HW0.out;obtain ⟨y0,y1⟩:=block2 HW1.out;go_upto_region 5 with (go_at_call 23;refine HRE.out.mono ?_;rintro e w1 ⟨vi,rfl,ho,hb1⟩;obtain ⟨pi,ci,rfl,-,-⟩:=zj ho;have HO:=Hq ho;have HB1:=Hq hb1;clear ho hb1)
 clear x0 x1 x2 x3 x4 x5 x6 x7 y0 y1;have hs1:=HB1.out.size;obtain ⟨W3,hW3⟩:∃ W3,W3=w1.alloc (.cells #[.slice none 0 0,.slice pi rn ci] 48):=⟨_,rfl⟩;have HB3:Hid (Below w1.heap.size w1 W3):=Hq (by rw [hW3];exact Bq _ _);have HBB:Hid (Below W.heap.size W W3):=Hq (HB1.out.trans (HB3.out.mono hs1));obtain ⟨x0,x1,x2,x3,x4,x5,x6,x7⟩:=block8 ((HBB.out.block _ (by omega)).trans HW0.out);obtain ⟨y0,y1⟩:=block2 ((HBB.out.block _ (by omega)).trans HW1.out);have HEB:=Hq (HEA.out w1 (.slice pi rn ci) HB1.out HO.out);rw [<- hW3] at HEB;rw [<- hW3];have hs3:w1.heap.size+1<=W3.heap.size:=by rw [hW3];simp
 clear hW3 HEA;go_upto_region 8 with (go_at_call 24;refine HEB.out.mono ?_;rintro e w2 ⟨y,rfl,(⟨rfl,vr,vc,hrw,hb2⟩|⟨-,⟨⟩⟩)⟩;have HRW:=Hq hrw;have HB2:=Hq hb2;clear hrw hb2)
 clear x0 x1 x2 x3 x4 x5 x6 x7 y0 y1;have hs2:=HB2.out.size;have HK2:=Hq ((HB2.out.block _ (by omega)).trans ((HB1.out.block _ (by omega)).trans HW2.out));obtain ⟨qa,qac,rfl,-,-⟩:=zj HRW.out.rr;obtain ⟨qb,qbc,rfl,-,-⟩:=zj HRW.out.cc;obtain ⟨z0,z1⟩:=HRW.out.cell;obtain ⟨m0,m1⟩:=block2 HK2.out;have f0:=za HK2.out 0;have f1:=za HK2.out 1;have nn:w.heap.size+1+1≠w1.heap.size:=by omega
 go_wp2;obtain ⟨e0,e1⟩:=block2 (za1 HK2.out (.slice qa hs.length qac) (.slice qb cl.length qbc));have k1:=zb HK2.out 0 (.slice qa hs.length qac);refine bodyPost_ret (v:=.tuple #[.agg #[.slice qa hs.length qac,.slice qb cl.length qbc],.int .i64 0]) (by simp [results,Tryz.results10,go_sem,e0,e1]) rfl ⟨_,_,rfl,?_,?_,?_⟩
 · exact zq (ownsRow_setCell_other (ownsRow_setCell_other HRW.out.rr (a:=⟨w.heap.size+1+1,0,none⟩) (zi HRW.out.rr HK2.out (by decide)) _) (a:=⟨w.heap.size+1+1,1,none⟩) (zi (ownsRow_setCell_other HRW.out.rr (a:=⟨w.heap.size+1+1,0,none⟩) (zi HRW.out.rr HK2.out (by decide)) _) k1 (by decide)) _) (by omega)
 · exact zq (ownsRow_setCell_other (ownsRow_setCell_other HRW.out.cc (a:=⟨w.heap.size+1+1,0,none⟩) (zi HRW.out.cc HK2.out (by decide)) _) (a:=⟨w.heap.size+1+1,1,none⟩) (zi (ownsRow_setCell_other HRW.out.cc (a:=⟨w.heap.size+1+1,0,none⟩) (zi HRW.out.cc HK2.out (by decide)) _) k1 (by decide)) _) (by omega)
 · exact (((HBW.out.trans (HB1.out.mono (by omega))).trans (HB2.out.mono (by omega))).setCell (p:=⟨w.heap.size+1+1,0,none⟩) (show w.heap.size<=w.heap.size+1+1 by omega) _).setCell (p:=⟨w.heap.size+1+1,1,none⟩) (show w.heap.size<=w.heap.size+1+1 by omega) _
theorem TA.record {w:World} {b k i c:Nat} {g u f pg pu pf pc:Value} {L:List Rm} {t:Tm} {y:Rm} (h:TA w b g u f (.slice (some ⟨k,0,none⟩) L.length c) pg pu pf pc L t) (hi:i<L.length) (ha:w.ownsRow b 9 1 (.slice y.aA y.k.attrs.length y.aC) y.k.attrs.length (bsv y.k.attrs)) :
 TA (setR w k (i*7) y) b g u f (.slice (some ⟨k,0,none⟩) L.length c) pg pu pf pc (L.set i y) ⟨t.st,t.recs.set i y.k,t.pl⟩:=by
 have hr:=h.row;have o1:=z9 (o:=i*7) y h.ar.g hr (by decide);have o2:=z9 (o:=i*7) y h.ar.u hr (by decide);have o3:=z9 (o:=i*7) y h.ar.f hr (by decide);have o4:=z9 (o:=i*7) y h.pa.ar.g hr (by decide);have o5:=z9 (o:=i*7) y h.pa.ar.u hr (by decide);have o6:=z9 (o:=i*7) y h.pa.ar.f hr (by decide);have o7:=z9 (o:=i*7) y h.pa.cs hr (by decide);have orow:=zli (y:=y) hr hi;refine ⟨⟨o1,o2,o3⟩,⟨⟨o4,o5,o6⟩,o7⟩,?_,?_,?_⟩
 · rw [List.length_set];exact orow
 · show (L.set i y).map Rm.k=t.recs.set i y.k;rw [<- h.like,List.map_set]
 · intro x hx
   rcases List.mem_or_eq_of_mem_set hx with hx|rfl
   · exact z9 y (h.att x hx) hr (by decide)
   · exact z9 x ha hr (by decide)
theorem zq9 (Q:World) (a:Addr):Q.drew.cell? a=Q.cell? a:=rfl
theorem zra (Q:World) (j:Nat):Q.drew.heap[j]? = Q.heap[j]?:=rfl
def FL (Y w:World) (kN kr cr Ln n m:Nat) (G:Int) (t:Tm) (t5:Option Addr) (l5:Nat) (t6:Option Addr) (l6:Nat) (t7:Option Addr) (l7:Nat) (t8:Option Addr) (l8:Nat) (rs:List Int) (k:Nat):Prop :=
 ∃ (tk:Tm) (Lk:List Rm) (ag:Option Addr) (cg:Nat) (au:Option Addr) (cu:Nat) (af:Option Addr) (cf:Nat),
  Y.heap[kN]? = some (.cells #[.slice ag tk.st.gens.length cg,.slice au tk.st.used.length cu,.slice af tk.st.free.length cf,.slice (some ⟨kr,0,none⟩) Ln cr,.slice t5 t.pl.st.gens.length l5,.slice t6 t.pl.st.used.length l6,.slice t7 t.pl.st.free.length l7,.slice t8 t.pl.ch.length l8] 36 (0,0)) /\
  TA Y w.heap.size (.slice ag tk.st.gens.length cg) (.slice au tk.st.used.length cu) (.slice af tk.st.free.length cf) (.slice (some ⟨kr,0,none⟩) Ln cr) (.slice t5 t.pl.st.gens.length l5) (.slice t6 t.pl.st.used.length l6) (.slice t7 t.pl.st.free.length l7) (.slice t8 t.pl.ch.length l8) Lk tk /\
  Lk.length=Ln/\tk.freeR (rs.drop k)=t.freeR rs/\TK n m (G+k) tk/\(∀ h∈rs.drop k,tk.st.lv h=true)/\(rs.drop k).Nodup/\tk.pl=t.pl/\Below w.heap.size w Y
theorem zsw (w:World) (b b2:Nat) (g u f r pg pu pf pc va vb:Value) (L:List Rm) (t:Tm) (h:TA w b g u f r pg pu pf pc L t) (n m:Nat) (G:Int) (hT:TK n m G t) (hn0:0<n) (hm0:0<m) (hatt:AttOk t) (rs cs:List Int) (hlv:∀ h∈rs,t.st.lv h=true) (hnd:rs.Nodup) (h64:V.U64 rs) (hrl:rs.length<=1000)
 (hra:w.ownsRow b2 37 1 va rs.length (V.gvs rs)) (hrb:w.ownsRow b2 37 1 vb cs.length (V.gvs cs)) (hcl:cs.length<=1000) (hc64:∀ x∈cs,V.B64 x) (hG:G+1000<=1099511620000) (q:V.Pl) (hq:t.pl.freeL cs=some q) :
 Calls Tryz.prog 9 #[tval g u f r pg pu pf pc,.agg #[va,vb]] w (fun e w'=>∃ (U:Tm) (vg vu vf vr qg qu qf qc:Value) (L':List Rm),t.freeR rs=some U/\e = .returned (.tuple #[tval vg vu vf vr qg qu qf qc,.int .i64 0])/\TA w' w.heap.size vg vu vf vr qg qu qf qc L' ⟨U.st,U.recs,q⟩/\Below w.heap.size w w'):=by
 obtain ⟨ag,cg,au,cu,af,cf,ar,cr,agp,cgp,aup,cup,afp,cfp,acp,ccp,rfl,rfl,rfl,rfl,rfl,rfl,rfl,rfl⟩:=h.form;obtain ⟨pa,ca,rfl,hca,hca2⟩:=zj hra;obtain ⟨pb,cb,rfl,hcb,hcb2⟩:=zj hrb;have s1:∀ (X:World) (o:Obj),(X.alloc o).heap.size=X.heap.size+1:=fun X o=>by simp
 obtain ⟨W,hW⟩:∃ W,W=((w.alloc (.cells #[.slice ag t.st.gens.length cg,.slice au t.st.used.length cu,.slice af t.st.free.length cf,.slice ar L.length cr,.slice agp t.pl.st.gens.length cgp,.slice aup t.pl.st.used.length cup,.slice afp t.pl.st.free.length cfp,.slice acp t.pl.ch.length ccp] 36)).alloc (.cells #[.slice pa rs.length ca,.slice pb cs.length cb] 48)).alloc (.cells zT8 36):=⟨_,rfl⟩;have hWf:Below w.heap.size w W/\W.heap.size=w.heap.size+3/\W.heap[w.heap.size]? = some (.cells #[.slice ag t.st.gens.length cg,.slice au t.st.used.length cu,.slice af t.st.free.length cf,.slice ar L.length cr,.slice agp t.pl.st.gens.length cgp,.slice aup t.pl.st.used.length cup,.slice afp t.pl.st.free.length cfp,.slice acp t.pl.ch.length ccp] 36 (0,0))/\W.heap[w.heap.size+1]? = some (.cells #[.slice pa rs.length ca,.slice pb cs.length cb] 48 (0,0))/\W.heap[w.heap.size+1+1]? = some (.cells zT8 36 (0,0)):=by
  rw [hW];refine ⟨((((Below.refl _ w).alloc (Nat.le_refl _) _).alloc (by simp) _).alloc (by simp;omega) _),by simp,?_,?_,?_⟩
  · rw [hold _ _ (by first|(simp;done)|(simp;omega)),hold _ _ (by first|(simp;done)|(simp;omega))];exact hnew _ _
  · rw [hold _ _ (by first|(simp;done)|(simp;omega))];exact hnew1 _ _ _
  · have:=hnew ((w.alloc (.cells #[.slice ag t.st.gens.length cg,.slice au t.st.used.length cu,.slice af t.st.free.length cf,.slice ar L.length cr,.slice agp t.pl.st.gens.length cgp,.slice aup t.pl.st.used.length cup,.slice afp t.pl.st.free.length cfp,.slice acp t.pl.ch.length ccp] 36)).alloc (.cells #[.slice pa rs.length ca,.slice pb cs.length cb] 48)) (.cells zT8 36);simpa only [s1] using this
 obtain ⟨hbW,hWs,hW0,hW1,hW2⟩:=hWf;have HCP:Hid (Calls Tryz.prog 18 #[.agg #[.slice ag t.st.gens.length cg,.slice au t.st.used.length cu,.slice af t.st.free.length cf,.slice ar L.length cr,.slice agp t.pl.st.gens.length cgp,.slice aup t.pl.st.used.length cup,.slice afp t.pl.st.free.length cfp,.slice acp t.pl.ch.length ccp]] W (GivesTm t W)):=Hq (zg5 _ _ _ _ _ _ _ _ L t b n m G W (h.below hbW) hT hn0 hatt);have HLL:Hid (L.length=n):=Hq (by rw [<- List.length_map (f:=Rm.k),h.like,hT.len]);obtain ⟨U,hU1,-⟩:=zgl hT hnd hlv;have HU:=Hq hU1;have HT:=Hq hT;have HLV:=Hq hlv;have HND:=Hq hnd;have H64:=Hq h64;have HC64:=Hq hc64;have HQ:=Hq hq;have HRA:=Hq (own_below hra hbW);have HRB:=Hq (own_below hrb hbW);have HW0:=Hq hW0;have HW1:=Hq hW1;have HW2:=Hq hW2;have HBW:=Hq hbW;have HWE:=Hq hW;have hWL:w.heap.size+3<=W.heap.size:=by omega
 obtain ⟨rn,hrn⟩:∃ x,rs.length=x:=⟨_,rfl⟩;obtain ⟨cn,hcn⟩:∃ x,cs.length=x:=⟨_,rfl⟩;have HRN:=Hq hrn;have HCN:=Hq hcn;rw [hrn] at hrl HRA hca HW1 HWE;rw [hcn] at hcl HRB hcb HW1 HWE;rw [hrn,hcn];clear hU1 hT hlv hnd h64 hc64 hq hra hrb hW hWs hW0 hW1 hW2 hbW h hrn hcn hatt;go_enter Tryz.func9,Tryz.ntmps9;go_upto_region 1 with fail
 rw [<- HWE.out];obtain ⟨x0,x1,x2,x3,x4,x5,x6,x7⟩:=block8 HW0.out;obtain ⟨y0,y1⟩:=block2 HW1.out;go_upto_region 2 with (go_at_call 18;refine HCP.out.mono ?_;rintro e w1 ⟨g1,u1,f1,r1,pg1,pu1,pf1,pc1,L1,rfl,hta,hb1⟩;have HTA:=Hq hta;have HB1:=Hq hb1;obtain ⟨t1,l1,t2,l2,t3,l3,t4,l4,t5,l5,t6,l6,t7,l7,t8,l8,rfl,rfl,rfl,rfl,rfl,rfl,rfl,rfl⟩:=hta.form;clear hta hb1)
 clear x0 x1 x2 x3 x4 x5 x6 x7 y0 y1;have hs1:=HB1.out.size;have hL1:Hid (L1.length=n):=Hq (by rw [<- List.length_map (f:=Rm.k),HTA.out.like,HT.out.len]);obtain ⟨kr,rfl,hkr1,hkr2⟩:=V.zab HTA.out.row (by rw [hL1.out];exact hn0);obtain ⟨Y0,hY0⟩:∃ Y0,Y0=w1.alloc (.cells #[.slice t1 t.st.gens.length l1,.slice t2 t.st.used.length l2,.slice t3 t.st.free.length l3,.slice (some ⟨kr,0,none⟩) L1.length l4,.slice t5 t.pl.st.gens.length l5,.slice t6 t.pl.st.used.length l6,.slice t7 t.pl.st.free.length l7,.slice t8 t.pl.ch.length l8] 36):=⟨_,rfl⟩;rw [<- hY0];obtain ⟨Ln,hLn⟩:∃ x,L1.length=x:=⟨_,rfl⟩;rw [hLn] at hY0 hL1;have HBY:Hid (Below w1.heap.size w1 Y0):=Hq (by rw [hY0];exact Bq _ _);have HBW0:Hid (Below W.heap.size W Y0):=Hq (HB1.out.trans (HBY.out.mono hs1));have HFL0:Hid (FL Y0 W w1.heap.size kr l4 Ln n m G t t5 l5 t6 l6 t7 l7 t8 l8 rs 0):=Hq ⟨t,L1,t1,l1,t2,l2,t3,l3,by rw [hY0];exact hnew _ _,by rw [<- hLn];exact HTA.out.below HBY.out,hLn,by simp,by simpa using HT.out,by simpa using HLV.out,by simpa using HND.out,rfl,HBW0.out⟩;obtain ⟨y0,y1⟩:=block2 ((HBW0.out.block _ (by omega)).trans HW1.out);have HKW:Hid (Below W.heap.size W Y0):=HBW0;clear hY0 hLn;have hkN:W.heap.size<=w1.heap.size:=hs1;have hN0:=HBY.out.size;have hLnn:Ln=n:=hL1.out;subst hLnn;clear hL1 y1 HTA;go_wp2
 go_loopw [8,9,10,18] (fun _ _ _ q Y=>∃ k:Nat,k<=rn/\q = .int .i64 k/\Hid (FL Y W w1.heap.size kr l4 Ln Ln m G t t5 l5 t6 l6 t7 l7 t8 l8 rs k)) (fun _ _ _ q _=>rn - (intOf q).toNat)
 case atStart => exact ⟨0,Nat.zero_le _,rfl,HFL0⟩
 case round =>
  obtain ⟨k,hk,rfl,HF⟩:=hrel;obtain ⟨tk,Lk,ag2,cg2,au2,cu2,af2,cf2,hbox,hta,hlk,hfr,htk,hlv,hnd,hpl,hbe⟩:=HF.out;have hsw:=hbe.size;have HBX:=Hq hbox;have HTK:=Hq hta;have HBE:=Hq hbe
  by_cases hlt:k<rn
  · have k0:(0:Int)<=(k:Int):=by omega
    have k1:(k:Int)<(rn:Int):=by omega
    have hkl:k<rs.length:=by rw [HRN.out];exact hlt
    obtain ⟨hd,hhd⟩:∃ x,rs[k]? = some x:=⟨_,List.getElem?_eq_getElem hkl⟩;have hdr:rs.drop k=hd::rs.drop (k+1):=by
     rw [List.drop_eq_getElem_cons hkl];rw [List.getElem?_eq_getElem hkl] at hhd;cases hhd;rfl
    rw [hdr] at hfr hlv hnd;have hl0:=hlv hd (by simp);have hb64:=H64.out hd (List.mem_of_getElem? hhd);obtain ⟨hnm,hnd2⟩:=List.nodup_cons.1 hnd;have hixi:hd % 16777216=((V.ix hd:Nat):Int):=by unfold V.ix;omega
    have hixl:V.ix hd<Ln:=by
     obtain ⟨i,h1,h2,-⟩:=htk.ok.live hl0;unfold V.ix;omega
    have HGV:Hid (∀ X,Below wr.heap.size wr X->Calls Tryz.prog 20 #[.agg #[.slice ag2 tk.st.gens.length cg2,.slice au2 tk.st.used.length cu2,.slice af2 tk.st.free.length cf2],.int .u64 hd] X (V.GivesE (tk.gb hd).st 0 X)):=Hq (fun X hb=>V.giveO htk.ok (by omega) (hta.below hb).ar hb64.1 hb64.2 hl0 hixi);have HNX:Hid ((tk.gb hd).freeR (rs.drop (k+1))=t.freeR rs/\TK Ln m (G+((k+1:Nat):Int)) (tk.gb hd)/\(∀ h∈rs.drop (k+1),(tk.gb hd).st.lv h=true)/\(rs.drop (k+1)).Nodup):=Hq ⟨by rw [<- hfr,Tm.freeR,if_pos hl0],by have:=htk.gb hl0;rw [show G+(k:Int)+1=G+((k+1:Nat):Int) by omega] at this;exact this,fun x hx=>(zik hl0).2 ⟨hlv x (by simp [hx]),fun e=>hnm (by rw [<- e];exact hx)⟩,hnd2⟩;have HB64:=Hq hb64;have HIX:=Hq hixi;have HLK:=Hq hlk;have HPL:=Hq hpl;obtain ⟨ga,hga⟩:∃ ga,pa=some ⟨ga,0,none⟩:=by
     obtain ⟨ga,e,-⟩:=V.zab HRA.out (by omega);cases e;exact ⟨ga,rfl⟩
    subst hga;have hcell:wr.cell? ⟨ga,k,none⟩=some (.int .u64 hd):=by
     have e:(V.gvs rs)[k]? = some (.int .u64 hd):=by simp [V.gvs,hhd]
     have:=(own_below HRA.out HBE.out).cells rfl k _ e;rw [add_plain,Nat.zero_add] at this;exact this
    obtain ⟨x0,x1,x2,x3,x4,x5,x6,x7⟩:=block8 hbox;generalize hix:V.ix hd=i at *;have HIE:=Hq hix;clear hix hbox hta hlk hfr htk hlv hnd hpl hbe hhd hdr hl0 hb64 hnm hnd2 hixi HF;go_upto_region 6 with (go_at_call 20;refine (HGV.out _ (Below.refl _ _)).mono ?_;rintro e w3 ⟨g3,u3,f3,rfl,har,hb3⟩;obtain ⟨b1,d1,b2',d2,b3,d3,rfl,rfl,rfl⟩:=har.form;have HAR:=Hq har;have HB3:=Hq hb3;clear har hb3)
    clear x0 x1 x2 x3 x4 x5 x6 x7;have hs3:=HB3.out.size;obtain ⟨V4,hV4⟩:∃ V4,V4=w3.alloc (.cells #[.slice b1 (tk.gb hd).st.gens.length d1,.slice b2' (tk.gb hd).st.used.length d2,.slice b3 (tk.gb hd).st.free.length d3] 30):=⟨_,rfl⟩;rw [<- hV4];have HB4:Hid (Below w3.heap.size w3 V4):=Hq (by rw [hV4];exact Bq _ _);have HS4:Hid (V4.heap[w3.heap.size]? = some (.cells #[.slice b1 (tk.gb hd).st.gens.length d1,.slice b2' (tk.gb hd).st.used.length d2,.slice b3 (tk.gb hd).st.free.length d3] 30 (0,0))):=Hq (by rw [hV4];exact hnew _ _);have HBr4:Hid (Below wr.heap.size wr V4):=Hq (HB3.out.trans (HB4.out.mono hs3));have HN4:=Hq ((HBr4.out.block _ (lt_of_block HBX.out)).trans HBX.out);have HT4:Hid (TA V4 W.heap.size (.slice b1 (tk.gb hd).st.gens.length d1) (.slice b2' (tk.gb hd).st.used.length d2) (.slice b3 (tk.gb hd).st.free.length d3) (.slice (some ⟨kr,0,none⟩) Ln l4) (.slice t5 t.pl.st.gens.length l5) (.slice t6 t.pl.st.used.length l6) (.slice t7 t.pl.st.free.length l7) (.slice t8 t.pl.ch.length l8) Lk ⟨(tk.gb hd).st,tk.recs,tk.pl⟩):=Hq (by
     have h1:=HTK.out.below HBr4.out;have h2:=(HAR.out.below HB4.out).drop hsw;exact ⟨h2,h1.pa,h1.row,h1.like,h1.att⟩)
    have HBW4:Hid (Below W.heap.size W V4):=Hq (HBE.out.trans (HBr4.out.mono hsw));have hN4:=lt_of_block HBX.out;clear hV4 hcell;obtain ⟨x0,x1,x2⟩:=block3n HS4.out;obtain ⟨n0,n1,n2,n3,n4,n5,n6,n7⟩:=block8 HN4.out;have f0:=za HN4.out 0;have f1:=za HN4.out 1;have f2:=za HN4.out 2;have hne:w3.heap.size≠w1.heap.size:=by omega
    have hne':w1.heap.size≠w3.heap.size:=by omega
    go_upto_region 9 with fail
    have m0:=zb HN4.out 0 (.slice b1 (tk.gb hd).st.gens.length d1);have m1:=zb m0 1 (.slice b2' (tk.gb hd).st.used.length d2);have m2:=zb m1 2 (.slice b3 (tk.gb hd).st.free.length d3);have hm:=((HT4.out.set HN4.out 0 (.slice b1 (tk.gb hd).st.gens.length d1)).set m0 1 (.slice b2' (tk.gb hd).st.used.length d2)).set m1 2 (.slice b3 (tk.gb hd).st.free.length d3);have hbz:=((HBW4.out.setCell (p:=⟨w1.heap.size,0,none⟩) hkN (.slice b1 (tk.gb hd).st.gens.length d1)).setCell (p:=⟨w1.heap.size,1,none⟩) hkN (.slice b2' (tk.gb hd).st.used.length d2)).setCell (p:=⟨w1.heap.size,2,none⟩) hkN (.slice b3 (tk.gb hd).st.free.length d3);obtain ⟨Z,hZ⟩:∃ Z,Z=((V4.setCell ⟨w1.heap.size,0,none⟩ (.slice b1 (tk.gb hd).st.gens.length d1)).setCell ⟨w1.heap.size,1,none⟩ (.slice b2' (tk.gb hd).st.used.length d2)).setCell ⟨w1.heap.size,2,none⟩ (.slice b3 (tk.gb hd).st.free.length d3):=⟨_,rfl⟩;rw [<- hZ] at m2 hm hbz;have HZN:Hid (Z.heap[w1.heap.size]? = some (.cells #[.slice b1 (tk.gb hd).st.gens.length d1,.slice b2' (tk.gb hd).st.used.length d2,.slice b3 (tk.gb hd).st.free.length d3,.slice (some ⟨kr,0,none⟩) Ln l4,.slice t5 t.pl.st.gens.length l5,.slice t6 t.pl.st.used.length l6,.slice t7 t.pl.st.free.length l7,.slice t8 t.pl.ch.length l8] 36 (0,0))):=Hq m2;have HZT:=Hq hm;have HZB:=Hq hbz;rw [<- hZ];clear hZ m0 m1 m2 hm hbz x0 x1 x2 n0 n1 n2 n3 n4 n5 n6 n7 f0 f1 f2;have hLk:V.ix hd=i:=HIE.out;have hil:i<Lk.length:=by rw [HLK.out];exact hixl
    obtain ⟨v0,v1,v2,v3,v4,v5,v6,c0,c1,c2,c3,c4,c5,c6⟩:∃ v0 v1 v2 v3 v4 v5 v6,Z.cell? ⟨kr,i*7,none⟩=some v0/\Z.cell? ⟨kr,i*7+1,none⟩=some v1/\Z.cell? ⟨kr,i*7+2,none⟩=some v2/\Z.cell? ⟨kr,i*7+3,none⟩=some v3/\Z.cell? ⟨kr,i*7+4,none⟩=some v4/\Z.cell? ⟨kr,i*7+5,none⟩=some v5/\Z.cell? ⟨kr,i*7+6,none⟩=some v6:=⟨_,_,_,_,_,_,_,HZT.out.cells hil⟩;have hkrb:=HZT.out.row;obtain ⟨xs,hxs⟩:∃ cur,Z.heap[kr]? = some (.cells cur 80 (0,0)):=by
     rcases hkrb.2 with ⟨hn,-⟩|⟨g,cap,cur,hv,-,hg,-⟩
     · cases hn
     · have e:=congrArg Value.ownBlock hv;simp [Value.ownBlock] at e;subst e;exact ⟨cur,hg⟩
    have HXS:=Hq hxs;have z3:=(block8 HZN.out).2.2.2.1;have f0:=za hxs (i*7);have f1:=za hxs (i*7+1);have f2:=za hxs (i*7+2);have f3:=za hxs (i*7+3);have f4:=za hxs (i*7+4);have f5:=za hxs (i*7+5);have f6:=za hxs (i*7+6);have q0:(0:Int)<=(i:Int):=by omega
    have q1:(i:Int)<(Ln:Int):=by omega
    clear hkrb hxs hil hLk;have ngr:kr≠w1.heap.size:=(zk HXS.out HZN.out (by decide)).1;have HJ1:=Hq z3;have HJ2:Hid (Z.drew.cell? ⟨w1.heap.size,3,none⟩=some (.slice (some ⟨kr,0,none⟩) Ln l4)):=Hq z3;have HJ4:Hid ((((((((Z.setCell ⟨kr,i*7,none⟩ (.int .i64 0)).setCell ⟨kr,i*7+1,none⟩ (.int .i64 0)).setCell ⟨kr,i*7+2,none⟩ (.string ⟨#[]⟩)).setCell ⟨kr,i*7+3,none⟩ (.string ⟨#[]⟩)).setCell ⟨kr,i*7+4,none⟩ (.slice none 0 0)).setCell ⟨kr,i*7+5,none⟩ (.int .u64 0)).setCell ⟨kr,i*7+6,none⟩ (.int .i64 0)).drew.cell? ⟨w1.heap.size,3,none⟩=some (.slice (some ⟨kr,0,none⟩) Ln l4)):=Hq ((zq9 _ _).trans ((zaf (zjt (w:=Z) (o:=i*7) ngr (.int .i64 0) (.int .i64 0) (.string ⟨#[]⟩) (.string ⟨#[]⟩) (.slice none 0 0) (.int .u64 0) (.int .i64 0)) 3).trans HJ1.out))
    go_region_held3 (fun X=>X.cell? ⟨w1.heap.size,3,none⟩=some (.slice (some ⟨kr,0,none⟩) Ln l4))
     (first
       | with_reducible exact HJ1.out
       | with_reducible exact HJ2.out
       | with_reducible exact HJ4.out)
     (first
       | (go_at_call 21
          refine (V.zap hd _ HB64.out.1 HB64.out.2).mono ?_;rw [HIX.out];rintro e w' ⟨rfl,rfl⟩))
    have HFN:Hid (FL (setR Z kr (i*7) ⟨zRk,none,0⟩).drew W w1.heap.size kr l4 Ln Ln m G t t5 l5 t6 l6 t7 l7 t8 l8 rs (k+1)):=Hq (by
     have hz:=HZT.out;rw [<- HLK.out] at hz;have hr:=hz.record (y:=⟨zRk,none,0⟩) (i:=i) (by rw [HLK.out];exact hixl) (World.ownsRow_nil _ _ _ _);rw [HLK.out] at hr;have hb:Below (setR Z kr (i*7) ⟨zRk,none,0⟩).heap.size (setR Z kr (i*7) ⟨zRk,none,0⟩) (setR Z kr (i*7) ⟨zRk,none,0⟩).drew:=(Below.refl _ _).drew;have hkrW:W.heap.size<=kr:=(HZT.out.row.lt kr rfl).1;have e:(⟨(tk.gb hd).st,tk.recs.set i zRk,tk.pl⟩:Tm)=tk.gb hd:=by
      rw [<- HIE.out];rfl
     refine ⟨tk.gb hd,Lk.set i ⟨zRk,none,0⟩,b1,d1,b2',d2,b3,d3,?_,?_,by rw [List.length_set,HLK.out],HNX.out.1,HNX.out.2.1,HNX.out.2.2.1,HNX.out.2.2.2,HPL.out,(zin HZB.out hkrW _).drew⟩
     · exact (zra _ _).trans ((zd9 _ ngr).trans HZN.out)
     · have:=hr.below hb;rw [e] at this;exact this)
    clear z3 f0 f1 f2 f3 f4 f5 f6 c0 c1 c2 c3 c4 c5 c6;go_wp2;go_roundw
    case rel => exact ⟨k+1,by omega,by go_num,HFN⟩
    case measure => simp [intOf]<;>omega
  · obtain rfl:k=rn:=by omega
    have hdn:rs.drop k=[]:=List.drop_eq_nil_of_le (by rw [HRN.out];exact Nat.le_refl _);rw [hdn,Tm.freeR] at hfr;have HUU:=Hq hfr.symm;have HPL:=Hq hpl;have hrb:=own_below HRB.out HBE.out;have HVF:Hid (Calls Tryz.prog 22 #[.agg #[.slice t5 t.pl.st.gens.length l5,.slice t6 t.pl.st.used.length l6,.slice t7 t.pl.st.free.length l7,.slice t8 t.pl.ch.length l8],.slice pb cn cb] wr (V.GivesN q 0 wr)):=Hq (by
     have hpa:=hta.pa;rw [hpl] at hpa;have hpk:=htk.pk;rw [hpl] at hpk;have:=V.zuf cs pb cb _ _ _ _ t.pl q W.heap.size m (G+k) wr hpa hpk (V.RL.of_own (by rw [HCN.out];exact hrb)) (by rw [HCN.out];exact hcb) hcb2 (by rw [HCN.out];exact hcl) HC64.out (by omega) hm0 HQ.out;rw [HCN.out] at this;exact this)
    obtain ⟨x0,x1,x2,x3,x4,x5,x6,x7⟩:=block8 hbox;obtain ⟨y0,y1⟩:=block2 ((hbe.block _ (by omega)).trans HW1.out);have hbeW:=hbe;have hN4:=lt_of_block hbox;clear hbox hta hlk hfr htk hlv hnd hpl hdn hrb HF hbe;go_upto_region 12 with (go_at_call 22;refine HVF.out.mono ?_;rintro e w3 ⟨g3,u3,f3,c3,rfl,hpa,hb3⟩;obtain ⟨p1,j1,p2,j2,p3,j3,p4,j4,rfl,rfl,rfl,rfl⟩:=hpa.form;have HPA:=Hq hpa;have HB3:=Hq hb3;clear hpa hb3)
    clear x0 x1 x2 x3 x4 x5 x6 x7 y0 y1;have hs3:=HB3.out.size;obtain ⟨V5,hV5⟩:∃ V5,V5=w3.alloc (.cells #[.slice p1 q.st.gens.length j1,.slice p2 q.st.used.length j2,.slice p3 q.st.free.length j3,.slice p4 q.ch.length j4] 34):=⟨_,rfl⟩;rw [<- hV5];have HB5:Hid (Below w3.heap.size w3 V5):=Hq (by rw [hV5];exact Bq _ _);have HP5:Hid (V5.heap[w3.heap.size]? = some (.cells #[.slice p1 q.st.gens.length j1,.slice p2 q.st.used.length j2,.slice p3 q.st.free.length j3,.slice p4 q.ch.length j4] 34 (0,0))):=Hq (by rw [hV5];exact hnew _ _);have HBr:Hid (Below wr.heap.size wr V5):=Hq (HB3.out.trans (HB5.out.mono hs3));have HN5:=Hq ((HBr.out.block _ hN4).trans HBX.out);have HT5:Hid (TA V5 W.heap.size (.slice ag2 tk.st.gens.length cg2) (.slice au2 tk.st.used.length cu2) (.slice af2 tk.st.free.length cf2) (.slice (some ⟨kr,0,none⟩) Ln l4) (.slice p1 q.st.gens.length j1) (.slice p2 q.st.used.length j2) (.slice p3 q.st.free.length j3) (.slice p4 q.ch.length j4) Lk ⟨tk.st,tk.recs,q⟩):=Hq (by
     have h1:=HTK.out.below HBr.out;have h2:=(HPA.out.below HB5.out).drop hsw;exact ⟨h1.ar,h2,h1.row,h1.like,h1.att⟩)
    have HBW5:Hid (Below W.heap.size W V5):=Hq (hbeW.trans (HBr.out.mono hsw));obtain ⟨x0,x1,x2,x3⟩:=block4c HP5.out;obtain ⟨n0,n1,n2,n3,n4,n5,n6,n7⟩:=block8 HN5.out;have f4:=za HN5.out 4;have f5:=za HN5.out 5;have f6:=za HN5.out 6;have f7:=za HN5.out 7;have hne:w3.heap.size≠w1.heap.size:=by omega
    have hne':w1.heap.size≠w3.heap.size:=by omega
    clear hV5 hbeW;go_upto_region 15 with fail
    have m0:=zb HN5.out 4 (.slice p1 q.st.gens.length j1);have m1:=zb m0 5 (.slice p2 q.st.used.length j2);have m2:=zb m1 6 (.slice p3 q.st.free.length j3);have m3:=zb m2 7 (.slice p4 q.ch.length j4);have hm:=(((HT5.out.set HN5.out 4 (.slice p1 q.st.gens.length j1)).set m0 5 (.slice p2 q.st.used.length j2)).set m1 6 (.slice p3 q.st.free.length j3)).set m2 7 (.slice p4 q.ch.length j4);have hbz:=(((HBW5.out.setCell (p:=⟨w1.heap.size,4,none⟩) hkN (.slice p1 q.st.gens.length j1)).setCell (p:=⟨w1.heap.size,5,none⟩) hkN (.slice p2 q.st.used.length j2)).setCell (p:=⟨w1.heap.size,6,none⟩) hkN (.slice p3 q.st.free.length j3)).setCell (p:=⟨w1.heap.size,7,none⟩) hkN (.slice p4 q.ch.length j4);obtain ⟨Z,hZ⟩:∃ Z,Z=(((V5.setCell ⟨w1.heap.size,4,none⟩ (.slice p1 q.st.gens.length j1)).setCell ⟨w1.heap.size,5,none⟩ (.slice p2 q.st.used.length j2)).setCell ⟨w1.heap.size,6,none⟩ (.slice p3 q.st.free.length j3)).setCell ⟨w1.heap.size,7,none⟩ (.slice p4 q.ch.length j4):=⟨_,rfl⟩;rw [<- hZ] at m3 hm hbz;have HZN:Hid (Z.heap[w1.heap.size]? = some (.cells #[.slice ag2 tk.st.gens.length cg2,.slice au2 tk.st.used.length cu2,.slice af2 tk.st.free.length cf2,.slice (some ⟨kr,0,none⟩) Ln l4,.slice p1 q.st.gens.length j1,.slice p2 q.st.used.length j2,.slice p3 q.st.free.length j3,.slice p4 q.ch.length j4] 36 (0,0))):=Hq m3;have HZT:=Hq hm;have HZB:=Hq hbz;rw [<- hZ];clear hZ m0 m1 m2 m3 hm hbz x0 x1 x2 x3 n0 n1 n2 n3 n4 n5 n6 n7 f4 f5 f6 f7;have HZR:Hid (Z.heap[w.heap.size+1+1]? = some (.cells zT8 36 (0,0))):=Hq ((HZB.out.block _ (by omega)).trans HW2.out);obtain ⟨n0,n1,n2,n3,n4,n5,n6,n7⟩:=block8 HZN.out;obtain ⟨d0,d1,d2,d3,d4,d5,d6,d7⟩:=block8 HZR.out;have f0:=za HZR.out 0;have f1:=za HZR.out 1;have f2:=za HZR.out 2;have f3:=za HZR.out 3;have f4:=za HZR.out 4;have f5:=za HZR.out 5;have f6:=za HZR.out 6;have f7:=za HZR.out 7;go_wp2;obtain ⟨r1,r2,r3⟩:=TA.set8 HZT.out HZR.out (show w.heap.size<=w.heap.size+1+1 by omega) (.slice ag2 tk.st.gens.length cg2) (.slice au2 tk.st.used.length cu2) (.slice af2 tk.st.free.length cf2) (.slice (some ⟨kr,0,none⟩) Ln l4) (.slice p1 q.st.gens.length j1) (.slice p2 q.st.used.length j2) (.slice p3 q.st.free.length j3) (.slice p4 q.ch.length j4);have r4:=r3 w (HBW.out.trans (HZB.out.mono (by omega)));obtain ⟨Q,hQ⟩:∃ Q,Q=set8 Z (w.heap.size+1+1) (.slice ag2 tk.st.gens.length cg2) (.slice au2 tk.st.used.length cu2) (.slice af2 tk.st.free.length cf2) (.slice (some ⟨kr,0,none⟩) Ln l4) (.slice p1 q.st.gens.length j1) (.slice p2 q.st.used.length j2) (.slice p3 q.st.free.length j3) (.slice p4 q.ch.length j4):=⟨_,rfl⟩;rw [<- hQ] at r1 r2 r4;show bodyPost _ _ _ _ _ (set8 Z (w.heap.size+1+1) (.slice ag2 tk.st.gens.length cg2) (.slice au2 tk.st.used.length cu2) (.slice af2 tk.st.free.length cf2) (.slice (some ⟨kr,0,none⟩) Ln l4) (.slice p1 q.st.gens.length j1) (.slice p2 q.st.used.length j2) (.slice p3 q.st.free.length j3) (.slice p4 q.ch.length j4));rw [<- hQ];clear hQ r3 d0 d1 d2 d3 d4 d5 d6 d7 f0 f1 f2 f3 f4 f5 f6 f7 n0 n1 n2 n3 n4 n5 n6 n7;obtain ⟨d0,d1,d2,d3,d4,d5,d6,d7⟩:=block8 r2;refine bodyPost_ret (v:=.tuple #[tval (.slice ag2 tk.st.gens.length cg2) (.slice au2 tk.st.used.length cu2) (.slice af2 tk.st.free.length cf2) (.slice (some ⟨kr,0,none⟩) Ln l4) (.slice p1 q.st.gens.length j1) (.slice p2 q.st.used.length j2) (.slice p3 q.st.free.length j3) (.slice p4 q.ch.length j4),.int .i64 0]) (by simp [results,Tryz.results9,go_sem,d0,d1,d2,d3,d4,d5,d6,d7]) rfl ⟨tk,_,_,_,_,_,_,_,_,Lk,HUU.out,rfl,r1.drop (by omega),r4⟩
end Go.Proofs.YtdmecdjfbpblgaaGreatDoor
