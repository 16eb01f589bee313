/-
  The law TreeHandles.
-/
import Derived.Test.YtdmecdjfbpblgaaGreatDoorQH23
import Derived.Test.YtdmecdjfbpblgaaGreatDoorQH19
namespace Go.Proofs.YtdmecdjfbpblgaaGreatDoor
set_option maxRecDepth 100000
set_option maxHeartbeats 32000000
open Go.ChangeShapes Go.WideShapes Go.ChangeAt Go.RowKit Go.Maps
set_option linter.unusedVariables false
set_option linter.unusedSimpArgs false
theorem hnew30 (w:World) (a b c:Obj):(((w.alloc a).alloc b).alloc c).heap[w.heap.size]? = some a:=by rw [hold _ _ (by simp;omega)];exact hnew0 w a b
theorem hnew31 (w:World) (a b c:Obj):(((w.alloc a).alloc b).alloc c).heap[w.heap.size+1]? = some b:=by rw [hold _ _ (by simp;try omega)];exact hnew1 w a b
theorem hnew32 (w:World) (a b c:Obj):(((w.alloc a).alloc b).alloc c).heap[w.heap.size+1+1]? = some c:=by
 have:=hnew ((w.alloc a).alloc b) c;simpa using this
theorem zbm {w:World} {base k sz n:Nat} {e:TypeId} {v:Value} {xs:List Value} {cs:Array Value} {t:TypeId} (h:w.ownsRow base e sz v n xs) (hk:w.heap[k]? = some (.cells cs t (0,0))) (ht:e≠t) (j:Nat) (u:Value):(w.setCell ⟨k,j,none⟩ u).ownsRow base e sz v n xs :=
 ownsRow_setCell_other h (a:=⟨k,j,none⟩) (zi h hk ht) _
theorem ztf {w:World} {base k sz n:Nat} {e:TypeId} {v:Value} {xs:List Value} {cs:Array Value} {t:TypeId} (h:w.ownsRow base e sz v n xs) (hk:w.heap[k]? = some (.cells cs t (0,0))) (ht:e≠t) (a b c d e' f g h':Value):(set8 w k a b c d e' f g h').ownsRow base e sz v n xs:=by
 unfold set8;have k1:=zb hk 0 a;have k2:=zb k1 1 b;have k3:=zb k2 2 c;have k4:=zb k3 3 d;have k5:=zb k4 4 e';have k6:=zb k5 5 f;have k7:=zb k6 6 g;exact zbm (zbm (zbm (zbm (zbm (zbm (zbm (zbm h hk ht 0 a) k1 ht 1 b) k2 ht 2 c) k3 ht 3 d) k4 ht 4 e') k5 ht 5 f) k6 ht 6 g) k7 ht 7 h'
theorem ztg {p:V.Pl} {v:V.Vc} {l:List Int} {rows:List (List Int)} (h:V.WF p v l rows) (hl:0<l.length):0<rows.flatten.length:=by
 have hne:rows≠[]:=by
  rintro rfl;have h1:=h.len;have h2:=V.zi0 hl;simp at h1;omega
 have h1:=h.top hne;have h2:v.root∈rows.flatten:=List.mem_flatten.2 ⟨_,List.getLast_mem hne,by rw [h1];simp⟩;exact List.length_pos_of_mem h2
theorem zvh {X Y:World} {k:Nat} {o:Obj} (hb:Below X.heap.size X Y) (h:X.heap[k]? = some o):Y.heap[k]? = some o:=(hb.block _ (lt_of_block h)).trans h
def LI (Y:World) (k9 b n m:Nat) (Gb:Int):Prop :=
 ∃ (t:Tm) (v:V.Vc) (H:List Mn) (hs:List Int) (vs:List V.Vc) (ks:List (List (List Int))) (rows:List (List Int)) (L:List Rm) (G:Int) (t1:Option Addr) (l1:Nat) (t2:Option Addr) (l2:Nat) (t3:Option Addr) (l3:Nat) (t4:Option Addr) (l4:Nat) (t5:Option Addr) (l5:Nat) (t6:Option Addr) (l6:Nat) (t7:Option Addr) (l7:Nat) (t8:Option Addr) (l8:Nat),
  Y.heap[k9]? = some (.cells #[.slice t1 t.st.gens.length l1,.slice t2 t.st.used.length l2,.slice t3 t.st.free.length l3,.slice t4 L.length l4,.slice t5 t.pl.st.gens.length l5,.slice t6 t.pl.st.used.length l6,.slice t7 t.pl.st.free.length l7,.slice t8 t.pl.ch.length l8] 36 (0,0))/\Y.heap[k9+1]? = some (.cells #[.int .u64 v.root,.int .i64 v.size] 41 (0,0))/\TA Y b (.slice t1 t.st.gens.length l1) (.slice t2 t.st.used.length l2) (.slice t3 t.st.free.length l3) (.slice t4 L.length l4) (.slice t5 t.pl.st.gens.length l5) (.slice t6 t.pl.st.used.length l6) (.slice t7 t.pl.st.free.length l7) (.slice t8 t.pl.ch.length l8) L t/\TJ n m G t v H hs vs ks rows/\G<=Gb
theorem zmk (A:Option Addr) (l:List Ops.Po) (ca:Nat) (B:Option Addr) (by_:List Int) (cb:Nat) (mx:Int) (w:World) (hL:Ops.OL w A l) (hla:l.length<=ca) (hca:ca<=9223372036854775807) (hR:RB w B by_) (hlb:by_.length<=9223372036854775807) (hK:Ops.KT w) (hm:w.cell? ⟨1,0,none⟩=some (.int .i64 mx)) :
 Calls Tryz.prog 3 #[.slice A l.length ca,.slice B by_.length cb] w fun e w'=>e = .returned (.bool true)/\Below w.heap.size w w':=by
 have HBD:=Hq (bounded7 A l ca w hL (by omega));have HSH:=Hq (shown12 mx w hK hm);have HL:=Hq hL;have HR:=Hq hR;have HK:=Hq hK;obtain ⟨ln,hln⟩:∃ x,l.length=x:=⟨_,rfl⟩;obtain ⟨bn,hbn⟩:∃ x,by_.length=x:=⟨_,rfl⟩;have HLN:=Hq hln;have HBN:=Hq hbn;obtain ⟨bd,hbd⟩:∃ x,bdO l=x:=⟨_,rfl⟩;rw [hbd] at HBD;rw [hln] at HBD hla ⊢;rw [hbn] at hlb ⊢;clear hL hR hK hm hln hbn hbd;go_enter Tryz.func3,Tryz.ntmps3
 by_cases hok:bd=true/\ln<=60/\bn<=60
 · obtain ⟨rfl,h1,h2⟩:=hok;have b1:decide ((60:Int)<(ln:Int))=false:=by simp;omega
   have b2:decide ((60:Int)<(bn:Int))=false:=by simp;omega
   go_upto_region 3 with (first|(go_at_call 4;refine HBD.out.mono ?_;rintro e w1 ⟨rfl,rfl⟩)|(go_at_call 5;refine HSH.out.mono ?_;rintro e w2 ⟨rfl,hb⟩;have HB2:=Hq hb;clear hb))
   go_upto_region 4 with (go_at_call 6;refine (zlt 500 500 _ (by omega) (by omega) (by omega) (by omega)).mono ?_;rintro e w3 ⟨u,v',gr,gc,hs,vs,ks,rows,vg,vu,vf,vr,pg,pu,pf,pc,L,hgr,hgn,rfl,hta,hb⟩;have HTR:=Hq (zte hgr hgn);obtain ⟨t1,l1,t2,l2,t3,l3,t4,l4,t5,l5,t6,l6,t7,l7,t8,l8,rfl,rfl,rfl,rfl,rfl,rfl,rfl,rfl⟩:=hta.form;have HTA:=Hq hta;have HB3:=Hq hb;clear hgr hgn hta hb)
   have hs2:=HB2.out.size;have hs3:=HB3.out.size;obtain ⟨X,hX⟩:∃ X,X=(w3.alloc (.cells #[.slice t1 u.st.gens.length l1,.slice t2 u.st.used.length l2,.slice t3 u.st.free.length l3,.slice t4 L.length l4,.slice t5 u.pl.st.gens.length l5,.slice t6 u.pl.st.used.length l6,.slice t7 u.pl.st.free.length l7,.slice t8 u.pl.ch.length l8] 36)).alloc (.cells #[.int .u64 v'.root,.int .i64 v'.size] 41):=⟨_,rfl⟩;rw [<- hX];have HBX:Hid (Below w3.heap.size w3 X):=Hq (by rw [hX];exact (Bq _ _).alloc (by simp) _);have HX0:Hid (X.heap[w3.heap.size]? = some (.cells #[.slice t1 u.st.gens.length l1,.slice t2 u.st.used.length l2,.slice t3 u.st.free.length l3,.slice t4 L.length l4,.slice t5 u.pl.st.gens.length l5,.slice t6 u.pl.st.used.length l6,.slice t7 u.pl.st.free.length l7,.slice t8 u.pl.ch.length l8] 36 (0,0))):=Hq (by rw [hX];exact hnew0 _ _ _);have HX1:Hid (X.heap[w3.heap.size+1]? = some (.cells #[.int .u64 v'.root,.int .i64 v'.size] 41 (0,0))):=Hq (by rw [hX];exact hnew1 _ _ _);have hXs:w3.heap.size+2<=X.heap.size:=by rw [hX];simp
   have HwX:Hid (Below w1.heap.size w1 X):=Hq ((HB2.out.trans (HB3.out.mono hs2)).trans (HBX.out.mono (by omega)));have HTAX:=Hq (HTA.out.below HBX.out);clear hX;have HPA:Hid (Calls Tryz.prog 7 #[.slice A ln ca,.slice B bn cb] X (fun e w'=>∃ v P,e = .returned v/\PR w' X.heap.size v P/\P.length<=ln/\P.flatMap Pt.l=l/\(∀ x∈P,∀ u,Ops.OL u A l->Ops.OL u x.A x.l)/\Below X.heap.size X w')):=Hq (by
    have:=zd4 A l ca B by_ cb X (HL.out.below HwX.out) (by rw [HLN.out];exact h1) (by rw [HLN.out];exact hla) hca (HR.out.below HwX.out) (by rw [HBN.out];exact h2);rw [HLN.out,HBN.out] at this;exact this)
   go_upto_region 6 with (go_at_call 7;refine HPA.out.mono ?_;rintro e w4 ⟨vp,P,rfl,hP,hPl,hPm,hPo,hb⟩;have HP:=Hq hP;have HPO:=Hq hPo;have HB4:=Hq hb;clear hP hPm hPo hb)
   obtain ⟨pp,pcap,rfl,-,-⟩:=zj HP.out.row;obtain ⟨pn,hpn⟩:∃ x,P.length=x:=⟨_,rfl⟩;have HPN:=Hq hpn;rw [hpn] at hPl ⊢;clear hpn;have hs4:=HB4.out.size;have HLI:Hid (LI w4 w3.heap.size w2.heap.size 500 500 (1+500*(0:Nat))):=Hq ⟨u,v',[newM],hs,vs,ks,rows,L,1,t1,l1,t2,l2,t3,l3,t4,l4,t5,l5,t6,l6,t7,l7,t8,l8,(HB4.out.block _ (by omega)).trans HX0.out,(HB4.out.block _ (by omega)).trans HX1.out,HTAX.out.below HB4.out,HTR.out,by simp⟩;have HRW:Hid (w4.ownsRow X.heap.size 22 1 (.slice pp pn pcap) pn (ptv P)):=Hq (by have:=HP.out.row;rwa [HPN.out] at this);have HP6:Hid (∀ x∈P,x.l.length<=6):=Hq (fun x hx=>(HP.out.ol x hx).2);have HB14:Hid (Below w1.heap.size w1 w4):=Hq (HwX.out.trans (HB4.out.mono (by have:=HwX.out.size;omega)));have hz4:w3.heap.size+2<=w4.heap.size:=by omega
   have HLw:Hid (Ops.OL w1 A l):=HL;have HKw:Hid (Ops.KT w1):=HK;have hln60:pn<=60:=by omega
   go_loopw [7,9] (fun q7 q Y=>∃ k:Nat,q7 = .int .i64 0/\k<=pn/\q = .int .i64 k/\Hid (LI Y w3.heap.size w2.heap.size 500 500 (1+500*k))/\Hid (Y.ownsRow X.heap.size 22 1 (.slice pp pn pcap) pn (ptv P))/\Hid (Below w1.heap.size w1 Y)/\w3.heap.size+2<=Y.heap.size) (fun _ q _=>pn - (intOf q).toNat)
   case atStart => exact ⟨0,rfl,Nat.zero_le _,rfl,HLI,HRW,HB14,hz4⟩
   case round =>
    obtain ⟨k,rfl,hk,rfl,HLk,HPk,HBk,hyk⟩:=hrel
    by_cases hlt:k<pn
    · have k0:(0:Int)<=(k:Int):=by omega
      have k1:(k:Int)<(pn:Int):=by omega
      clear HTR HTA HTAX HX0 HX1 HLI;clear HRW HB14 hz4;obtain ⟨t,⟨rt,sz⟩,H,hs,vs,ks,rows,L,G,t1,l1,t2,l2,t3,l3,t4,l4,t5,l5,t6,l6,t7,l7,t8,l8,hb9,hb10,hta,htr,hG⟩:=HLk.out;obtain ⟨⟨lp,PA,pc⟩,hPk⟩:∃ x,P[k]? = some x:=⟨_,List.getElem?_eq_getElem (by rw [HPN.out];exact hlt)⟩;obtain ⟨pl,hpl⟩:∃ x,lp.length=x:=⟨_,rfl⟩;have hrowp:=HPk.out;obtain ⟨gp,hgp⟩:∃ gp,pp=some ⟨gp,0,none⟩:=by
       obtain ⟨g,e,-⟩:=V.zab hrowp (by omega);cases e;exact ⟨g,rfl⟩
      subst hgp;have hcp:wr.cell? ⟨gp,k,none⟩=some (.slice PA pl pc):=by
       have e:(ptv P)[k]? = some (.slice PA pl pc):=by simp [ptv,hPk,hpl]
       have:=hrowp.cells rfl k _ e;rw [add_plain,Nat.zero_add] at this;exact this
      have hgpl:gp<wr.heap.size:=(hrowp.lt gp rfl).2;have hol:=HPO.out _ (List.mem_of_getElem? hPk) w1 HLw.out;have hol6:=HP6.out _ (List.mem_of_getElem? hPk);obtain ⟨a5,ha5⟩:∃ a,t.apply ⟨rt,sz⟩ hs H lp=a:=⟨_,rfl⟩;have HST:=Hq (htr.step (show G+1000<=1099511627775 by omega) lp a5 ha5);have HAPP:Hid (∀ X',Below wr.heap.size wr X'->Calls Tryz.prog 8 #[.agg #[.slice t1 t.st.gens.length l1,.slice t2 t.st.used.length l2,.slice t3 t.st.free.length l3,.slice t4 L.length l4,.slice t5 t.pl.st.gens.length l5,.slice t6 t.pl.st.used.length l6,.slice t7 t.pl.st.free.length l7,.slice t8 t.pl.ch.length l8],.agg #[.int .u64 rt,.int .i64 sz],.slice PA pl pc] X' (GivesAp a5 X')):=Hq (fun X' hb=>by
       have hB1:Below w1.heap.size w1 X':=HBk.out.trans (hb.mono HBk.out.size);have:=zjy X' w2.heap.size _ _ _ _ _ _ _ _ L t (hta.below hb) ⟨rt,sz⟩ H 500 500 G hs vs ks rows htr.tr (by omega) (by omega) (by omega) PA lp pc (hol.below hB1) (show lp.length<=1000 by have h6:lp.length<=6:=hol6;omega) (HKw.out.below hB1);rw [hpl,ha5] at this;exact this)
      have HJ:Hid (∀ X',Below wr.heap.size wr X'->X'.cell? ⟨w3.heap.size,0,none⟩=some (.slice t1 t.st.gens.length l1)/\X'.cell? ⟨w3.heap.size,1,none⟩=some (.slice t2 t.st.used.length l2)/\X'.cell? ⟨w3.heap.size,2,none⟩=some (.slice t3 t.st.free.length l3)/\X'.cell? ⟨w3.heap.size,3,none⟩=some (.slice t4 L.length l4)/\X'.cell? ⟨w3.heap.size,4,none⟩=some (.slice t5 t.pl.st.gens.length l5)/\X'.cell? ⟨w3.heap.size,5,none⟩=some (.slice t6 t.pl.st.used.length l6)/\X'.cell? ⟨w3.heap.size,6,none⟩=some (.slice t7 t.pl.st.free.length l7)/\X'.cell? ⟨w3.heap.size,7,none⟩=some (.slice t8 t.pl.ch.length l8)/\X'.cell? ⟨w3.heap.size+1,0,none⟩=some (.int .u64 rt)/\X'.cell? ⟨w3.heap.size+1,1,none⟩=some (.int .i64 sz)/\X'.cell? ⟨gp,k,none⟩=some (.slice PA pl pc)):=Hq (fun X' hb=>by
       obtain ⟨a0,a1,a2,a3,a4,a5,a6,a7⟩:=block8 ((hb.block _ (by omega)).trans hb9);obtain ⟨b0,b1⟩:=block2 ((hb.block _ (by omega)).trans hb10);exact ⟨a0,a1,a2,a3,a4,a5,a6,a7,b0,b1,(hb.cell (p:=⟨gp,k,none⟩) hgpl).trans hcp⟩)
      have HTAk:=Hq hta;have HB9:=Hq (And.intro hb9 hb10);clear hb9 hb10 hta htr hPk hrowp hol hol6 hcp hpl ha5;go_upto_region 8 with fail
      obtain ⟨x0,x1,x2,x3,x4,x5,x6,x7,x8,x9,x10⟩:=HJ.out wr (Below.refl _ _)
      go_cut [10,11,12,13,14] from 57 to 69 (fun s14 s15 s16 s17 s18 wx=>∃ (kT kV kG:Nat) (vg vu vf vr qg qu qf qc:Value) (L5:List Rm) (va vb:Value),s14 = .pointer (some ⟨kT,0,none⟩)/\s15 = .pointer (some ⟨kV,0,none⟩)/\s16 = .pointer (some ⟨kG,0,none⟩)/\s17 = .int .i64 a5.n/\s18 = .int .i64 a5.e/\CR3 wr wx kT kV kG vg vu vf vr qg qu qf qc L5 va vb a5)
      case first =>
       go_region_held3 (fun X=>X.cell? ⟨w3.heap.size,0,none⟩=some (.slice t1 t.st.gens.length l1)/\X.cell? ⟨w3.heap.size,1,none⟩=some (.slice t2 t.st.used.length l2)/\X.cell? ⟨w3.heap.size,2,none⟩=some (.slice t3 t.st.free.length l3)/\X.cell? ⟨w3.heap.size,3,none⟩=some (.slice t4 L.length l4)/\X.cell? ⟨w3.heap.size,4,none⟩=some (.slice t5 t.pl.st.gens.length l5)/\X.cell? ⟨w3.heap.size,5,none⟩=some (.slice t6 t.pl.st.used.length l6)/\X.cell? ⟨w3.heap.size,6,none⟩=some (.slice t7 t.pl.st.free.length l7)/\X.cell? ⟨w3.heap.size,7,none⟩=some (.slice t8 t.pl.ch.length l8)/\X.cell? ⟨w3.heap.size+1,0,none⟩=some (.int .u64 rt)/\X.cell? ⟨w3.heap.size+1,1,none⟩=some (.int .i64 sz)/\X.cell? ⟨gp,k,none⟩=some (.slice PA pl pc))
        ((refine HJ.out _ ?_
          repeat' (first
           | with_reducible exact HBt.out
           | with_reducible exact Below.refl _ _
           | with_reducible refine alloc' ?_ _
           | with_reducible refine Below.drew ?_
           | ((with_reducible refine Below.setCell ?_ ?_ _);rotate_left;focus (first|(show _<=_;omega)|(show _<=_;simp;omega)|(show _<=_;simp;done))))))
        (first
          | (go_at_call 8
             refine (HAPP.out _ (by repeat' (first|with_reducible exact Below.refl _ _|with_reducible refine alloc' ?_ _|with_reducible refine Below.drew ?_))).mono ?_;rintro e wt ⟨vg5,vu5,vf5,vr5,pg5,pu5,pf5,pc5,L5,va5,vb5,rfl,hta5,hr5,hc5,hb5⟩;obtain ⟨q1,m1,q2,m2,q3,m3,q4,m4,q5,m5,q6,m6,q7,m7,q8,m8,rfl,rfl,rfl,rfl,rfl,rfl,rfl,rfl⟩:=hta5.form;obtain ⟨qa,qac,rfl,-,-⟩:=zj hr5;obtain ⟨qb,qbc,rfl,-,-⟩:=zj hc5;have HBt:Hid (Below wr.heap.size wr wt):=Hq (Below.trans (by repeat' (first|with_reducible exact Below.refl _ _|with_reducible refine alloc' ?_ _|with_reducible refine Below.drew ?_)) (hb5.mono (by first|(show _<=_;simp;done)|(show _<=_;simp;omega))))
             first
              | have HTT:Hid (wt.heap[wr.heap.size]? = some (.cells zT8 36 (0,0))):=Hq (zvh hb5 (by first|exact hnew _ _|exact hnew0 _ _ _|exact hnew30 _ _ _ _))
              | have HTT:Hid (wt.heap[wr.heap.size+1]? = some (.cells zT8 36 (0,0))):=Hq (zvh hb5 (by first|exact hnew1 _ _ _|exact hnew31 _ _ _ _))
              | have HTT:Hid (wt.heap[wr.heap.size+1+1]? = some (.cells zT8 36 (0,0))):=Hq (zvh hb5 (hnew32 _ _ _ _))
              | skip
             first
              | (obtain ⟨d0,d1,d2,d3,d4,d5,d6,d7⟩:=block8 HTT.out;have f0:=za HTT.out 0;have f1:=za HTT.out 1;have f2:=za HTT.out 2;have f3:=za HTT.out 3;have f4:=za HTT.out 4;have f5:=za HTT.out 5;have f6:=za HTT.out 6;have f7:=za HTT.out 7;obtain ⟨p5a,p5b,p5c⟩:=lt_ne HTT.out)
              | skip
             first
              | have HVV:Hid (wt.heap[wr.heap.size]? = some (.cells #[.int .u64 0,.int .i64 0] 41 (0,0))):=Hq (zvh hb5 (by first|exact hnew _ _|exact hnew0 _ _ _|exact hnew30 _ _ _ _))
              | have HVV:Hid (wt.heap[wr.heap.size+1]? = some (.cells #[.int .u64 0,.int .i64 0] 41 (0,0))):=Hq (zvh hb5 (by first|exact hnew1 _ _ _|exact hnew31 _ _ _ _))
              | have HVV:Hid (wt.heap[wr.heap.size+1+1]? = some (.cells #[.int .u64 0,.int .i64 0] 41 (0,0))):=Hq (zvh hb5 (hnew32 _ _ _ _))
              | skip
             first
              | (obtain ⟨c0,c1⟩:=block2 HVV.out;have f8:=za HVV.out 0;have f9:=za HVV.out 1;obtain ⟨q5a,q5b,q5c⟩:=lt_ne HVV.out)
              | skip
             first
              | have HGG:Hid (wt.heap[wr.heap.size]? = some (.cells #[.slice none 0 0,.slice none 0 0] 48 (0,0))):=Hq (zvh hb5 (by first|exact hnew _ _|exact hnew0 _ _ _|exact hnew30 _ _ _ _))
              | have HGG:Hid (wt.heap[wr.heap.size+1]? = some (.cells #[.slice none 0 0,.slice none 0 0] 48 (0,0))):=Hq (zvh hb5 (by first|exact hnew1 _ _ _|exact hnew31 _ _ _ _))
              | have HGG:Hid (wt.heap[wr.heap.size+1+1]? = some (.cells #[.slice none 0 0,.slice none 0 0] 48 (0,0))):=Hq (zvh hb5 (hnew32 _ _ _ _))
              | skip
             first
              | (obtain ⟨g0,g1⟩:=block2 HGG.out;have f10:=za HGG.out 0;have f11:=za HGG.out 1;obtain ⟨r5a,r5b,r5c⟩:=lt_ne HGG.out)
              | skip
             first|(have hpq:=zk HTT.out HVV.out (by decide);obtain ⟨tv5,vt5⟩:=hpq)|skip
             first|(have hpq:=zk HTT.out HGG.out (by decide);obtain ⟨tg5,gt5⟩:=hpq)|skip
             first|(have hpq:=zk HVV.out HGG.out (by decide);obtain ⟨vg5',gv5⟩:=hpq)|skip
             have hst:=HBt.out.size;have HC0:Hid (C3 wr wt (.slice q1 a5.t.st.gens.length m1) (.slice q2 a5.t.st.used.length m2) (.slice q3 a5.t.st.free.length m3) (.slice q4 L5.length m4) (.slice q5 a5.t.pl.st.gens.length m5) (.slice q6 a5.t.pl.st.used.length m6) (.slice q7 a5.t.pl.st.free.length m7) (.slice q8 a5.t.pl.ch.length m8) L5 (.slice qa a5.gr.length qac) (.slice qb a5.gc.length qbc) a5):=Hq ⟨hta5.drop (by first|(show _<=_;simp;done)|(show _<=_;simp;omega)),zq hr5 (by first|(show _<=_;simp;done)|(show _<=_;simp;omega)),zq hc5 (by first|(show _<=_;simp;done)|(show _<=_;simp;omega)),HBt.out⟩;clear hta5 hr5 hc5 hb5))
       all_goals
        go_wp2;go_meet
        first
         | with_reducible exact ⟨_,_,_,_,_,_,_,_,_,_,_,_,_,_,rfl,rfl,rfl,rfl,rfl,zsx HC0.out HTT.out (by first|omega|(simp;done)|(simp;omega)) HVV.out (by first|omega|(simp;done)|(simp;omega)) HGG.out (by first|omega|(simp;done)|(simp;omega))⟩
         | with_reducible exact ⟨_,_,_,_,_,_,_,_,_,_,_,_,_,_,rfl,rfl,rfl,rfl,rfl,zsy HC0.out HTT.out (by first|omega|(simp;done)|(simp;omega)) HVV.out (by first|omega|(simp;done)|(simp;omega))⟩
         | with_reducible exact ⟨_,_,_,_,_,_,_,_,_,_,_,_,_,_,rfl,rfl,rfl,rfl,rfl,zsz HC0.out HTT.out (by first|omega|(simp;done)|(simp;omega)) HGG.out (by first|omega|(simp;done)|(simp;omega))⟩
         | with_reducible exact ⟨_,_,_,_,_,_,_,_,_,_,_,_,_,_,rfl,rfl,rfl,rfl,rfl,zs0 HC0.out HVV.out (by first|omega|(simp;done)|(simp;omega)) HGG.out (by first|omega|(simp;done)|(simp;omega))⟩
         | with_reducible exact ⟨_,_,_,_,_,_,_,_,_,_,_,_,_,_,rfl,rfl,rfl,rfl,rfl,zs1 HC0.out HTT.out (by first|omega|(simp;done)|(simp;omega))⟩
         | with_reducible exact ⟨_,_,_,_,_,_,_,_,_,_,_,_,_,_,rfl,rfl,rfl,rfl,rfl,zs2 HC0.out HTT.out (by first|omega|(simp;done)|(simp;omega))⟩
         | with_reducible exact ⟨_,_,_,_,_,_,_,_,_,_,_,_,_,_,rfl,rfl,rfl,rfl,rfl,zs3 HC0.out HVV.out (by first|omega|(simp;done)|(simp;omega))⟩
         | with_reducible exact ⟨_,_,_,_,_,_,_,_,_,_,_,_,_,_,rfl,rfl,rfl,rfl,rfl,zs4 HC0.out HVV.out (by first|omega|(simp;done)|(simp;omega))⟩
         | with_reducible exact ⟨_,_,_,_,_,_,_,_,_,_,_,_,_,_,rfl,rfl,rfl,rfl,rfl,zs5 HC0.out HGG.out (by first|omega|(simp;done)|(simp;omega))⟩
         | with_reducible exact ⟨_,_,_,_,_,_,_,_,_,_,_,_,_,_,rfl,rfl,rfl,rfl,rfl,zs6 HC0.out HGG.out (by first|omega|(simp;done)|(simp;omega))⟩
         | with_reducible exact ⟨_,_,_,_,_,_,_,_,_,_,_,_,_,_,rfl,rfl,rfl,rfl,rfl,zs7 HC0.out ⟩
         | with_reducible exact ⟨_,_,_,_,_,_,_,_,_,_,_,_,_,_,rfl,rfl,rfl,rfl,rfl,zs8 HC0.out ⟩
         | with_reducible exact ⟨_,_,_,_,_,_,_,_,_,_,_,_,_,_,rfl,rfl,rfl,rfl,rfl,zs9 HC0.out ⟩
         | with_reducible exact ⟨_,_,_,_,_,_,_,_,_,_,_,_,_,_,rfl,rfl,rfl,rfl,rfl,zta HC0.out ⟩
         | with_reducible exact ⟨_,_,_,_,_,_,_,_,_,_,_,_,_,_,rfl,rfl,rfl,rfl,rfl,ztb HC0.out ⟩
         | with_reducible exact ⟨_,_,_,_,_,_,_,_,_,_,_,_,_,_,rfl,rfl,rfl,rfl,rfl,ztc HC0.out ⟩
      case rest =>
       obtain ⟨kT,kV,kG,vg,vu,vf,vr,qg,qu,qf,qc,L5,va,vb,rfl,rfl,rfl,rfl,rfl,HT5,HV5,HG5,HC5⟩:=hcut;obtain ⟨q1,m1,q2,m2,q3,m3,q4,m4,q5,m5,q6,m6,q7,m7,q8,m8,rfl,rfl,rfl,rfl,rfl,rfl,rfl,rfl⟩:=HC5.out.ta.form;obtain ⟨qa,qac,rfl,-,-⟩:=zj HC5.out.ra;obtain ⟨qb,qbc,rfl,-,-⟩:=zj HC5.out.rb;obtain ⟨U,qp,F',hs',vs',ks',rows',sTK,sAT,sLV,sND,s64,sRL,sCL,sC64,sU,sQ,sTJ,-⟩:=HST.out;have hbw:=HC5.out.be.size;have HFR:=Hq (zsw wc wr.heap.size wr.heap.size _ _ _ _ _ _ _ _ _ _ L5 a5.t HC5.out.ta 500 500 G sTK (by omega) (by omega) sAT a5.gr a5.gc sLV sND s64 (by omega) HC5.out.ra HC5.out.rb (by omega) sC64 (by omega) qp sQ);have HB5:Hid (Below w1.heap.size w1 wc):=Hq (HBk.out.trans (HC5.out.be.mono HBk.out.size));have HK9:Hid (wc.heap[w3.heap.size]? = some (.cells #[.slice t1 t.st.gens.length l1,.slice t2 t.st.used.length l2,.slice t3 t.st.free.length l3,.slice t4 L.length l4,.slice t5 t.pl.st.gens.length l5,.slice t6 t.pl.st.used.length l6,.slice t7 t.pl.st.free.length l7,.slice t8 t.pl.ch.length l8] 36 (0,0))/\wc.heap[w3.heap.size+1]? = some (.cells #[.int .u64 rt,.int .i64 sz] 41 (0,0))):=Hq ⟨(HC5.out.be.block _ (by omega)).trans HB9.out.1,(HC5.out.be.block _ (by omega)).trans HB9.out.2⟩;have HRWc:Hid (wc.ownsRow X.heap.size 22 1 (.slice (some ⟨gp,0,none⟩) pn pcap) pn (ptv P)):=Hq (own_below HPk.out HC5.out.be);obtain ⟨n1,n2⟩:=zk HK9.out.1 HV5.out (by decide);have HNe:=Hq (And.intro n1 n2);clear n1 n2;obtain ⟨x0,x1,x2,x3,x4,x5,x6,x7⟩:=block8 HT5.out;obtain ⟨y0,y1⟩:=block2 HG5.out;have HV6:=Hq (HV5.out);have HCB:=Hq HC5.out.be;clear HAPP HJ HTAk HST HB9 sLV sND s64 sRL sCL sC64 sQ sAT sTK HC5 HT5 HG5 HPk;go_wp2_with fail;refine HFR.out.mono ?_;rintro e wf ⟨U',gg,gu,gf,gr,hg,hu,hf,hc',L6,hU',rfl,hta6,hb6⟩;obtain rfl:U=U':=Option.some.inj (sU.symm.trans hU');obtain ⟨p1,r1,p2,r2,p3,r3,p4,r4,p5,r5,p6,r6,p7,r7,p8,r8,rfl,rfl,rfl,rfl,rfl,rfl,rfl,rfl⟩:=hta6.form;have HTA6:=Hq hta6;have HK6:Hid (wf.heap[w3.heap.size]? = some (.cells #[.slice t1 t.st.gens.length l1,.slice t2 t.st.used.length l2,.slice t3 t.st.free.length l3,.slice t4 L.length l4,.slice t5 t.pl.st.gens.length l5,.slice t6 t.pl.st.used.length l6,.slice t7 t.pl.st.free.length l7,.slice t8 t.pl.ch.length l8] 36 (0,0))/\wf.heap[w3.heap.size+1]? = some (.cells #[.int .u64 rt,.int .i64 sz] 41 (0,0))):=Hq ⟨(hb6.block _ (lt_of_block HK9.out.1)).trans HK9.out.1,(hb6.block _ (lt_of_block HK9.out.2)).trans HK9.out.2⟩;have HV7:Hid (wf.heap[kV]? = some (.cells #[.int .u64 a5.v.root,.int .i64 a5.v.size] 41 (0,0))):=Hq ((hb6.block _ (lt_of_block HV6.out)).trans HV6.out);have HRWf:Hid (wf.ownsRow X.heap.size 22 1 (.slice (some ⟨gp,0,none⟩) pn pcap) pn (ptv P)):=Hq (own_below HRWc.out hb6);have HB6:Hid (Below w1.heap.size w1 wf):=Hq (HB5.out.trans (hb6.mono HB5.out.size));have hsf:=hb6.size;have HRT:=Hq (zq6 (b':=w1.heap.size) HTA6.out HK6.out.1 HK6.out.2 (by have:=HwX.out.size;omega) (by have:=HwX.out.size;omega) HB6.out (.int .u64 a5.v.root) (.int .i64 a5.v.size));obtain ⟨v0,v1⟩:=block2 HV7.out;obtain ⟨d0,d1,d2,d3,d4,d5,d6,d7⟩:=block8 HK6.out.1;obtain ⟨c0,c1⟩:=block2 HK6.out.2;have f0:=za HK6.out.1 0;have f1:=za HK6.out.1 1;have f2:=za HK6.out.1 2;have f3:=za HK6.out.1 3;have f4:=za HK6.out.1 4;have f5:=za HK6.out.1 5;have f6:=za HK6.out.1 6;have f7:=za HK6.out.1 7;have f8:=za HK6.out.2 0;have f9:=za HK6.out.2 1;obtain ⟨n1,n2⟩:=HNe.out;have n3:w3.heap.size+1≠w3.heap.size:=by omega
       have n4:w3.heap.size≠w3.heap.size+1:=by omega
       clear x0 x1 x2 x3 x4 x5 x6 x7 y0 y1 hta6 hU' HFR;have HZ0:=HRT;unfold set8 at HRT;obtain ⟨Z,hZ⟩:∃ Z,Z=(((set8 wf w3.heap.size (.slice p1 U.st.gens.length r1) (.slice p2 U.st.used.length r2) (.slice p3 U.st.free.length r3) (.slice p4 L6.length r4) (.slice p5 qp.st.gens.length r5) (.slice p6 qp.st.used.length r6) (.slice p7 qp.st.free.length r7) (.slice p8 qp.ch.length r8)).setCell ⟨w3.heap.size+1,0,none⟩ (.int .u64 a5.v.root)).setCell ⟨w3.heap.size+1,1,none⟩ (.int .i64 a5.v.size)):=⟨_,rfl⟩;have HRZ:Hid (TA Z wc.heap.size (.slice p1 U.st.gens.length r1) (.slice p2 U.st.used.length r2) (.slice p3 U.st.free.length r3) (.slice p4 L6.length r4) (.slice p5 qp.st.gens.length r5) (.slice p6 qp.st.used.length r6) (.slice p7 qp.st.free.length r7) (.slice p8 qp.ch.length r8) L6 ⟨U.st,U.recs,qp⟩/\Z.heap[w3.heap.size]? = some (.cells #[.slice p1 U.st.gens.length r1,.slice p2 U.st.used.length r2,.slice p3 U.st.free.length r3,.slice p4 L6.length r4,.slice p5 qp.st.gens.length r5,.slice p6 qp.st.used.length r6,.slice p7 qp.st.free.length r7,.slice p8 qp.ch.length r8] 36 (0,0))/\Z.heap[w3.heap.size+1]? = some (.cells #[.int .u64 a5.v.root,.int .i64 a5.v.size] 41 (0,0))/\Below w1.heap.size w1 Z):=Hq (by rw [hZ];exact HZ0.out);have HRWz:Hid (Z.ownsRow X.heap.size 22 1 (.slice (some ⟨gp,0,none⟩) pn pcap) pn (ptv P)):=Hq (by
        rw [hZ];have k0:(set8 wf w3.heap.size (.slice p1 U.st.gens.length r1) (.slice p2 U.st.used.length r2) (.slice p3 U.st.free.length r3) (.slice p4 L6.length r4) (.slice p5 qp.st.gens.length r5) (.slice p6 qp.st.used.length r6) (.slice p7 qp.st.free.length r7) (.slice p8 qp.ch.length r8)).heap[w3.heap.size+1]? = some (.cells #[.int .u64 rt,.int .i64 sz] 41 (0,0)):=by
         unfold set8;exact so (so (so (so (so (so (so (so HK6.out.2 n4) n4) n4) n4) n4) n4) n4) n4
        have h8:=ztf HRWf.out HK6.out.1 (by decide) (.slice p1 U.st.gens.length r1) (.slice p2 U.st.used.length r2) (.slice p3 U.st.free.length r3) (.slice p4 L6.length r4) (.slice p5 qp.st.gens.length r5) (.slice p6 qp.st.used.length r6) (.slice p7 qp.st.free.length r7) (.slice p8 qp.ch.length r8);exact zbm (zbm h8 k0 (by decide) 0 _) (zb k0 0 _) (by decide) 1 _)
       have HZsz:Hid (wf.heap.size<=Z.heap.size):=Hq (by rw [hZ];unfold set8;simp);unfold set8 at hZ;clear HRT HZ0;go_upto_region 7 with fail
       rw [<- hZ];clear hZ c0 c1 d0 d1 d2 d3 d4 d5 d6 d7 f0 f1 f2 f3 f4 f5 f6 f7 f8 f9 v0 v1 n1 n2 n3 n4;have HRY:Hid (∀ V,Below Z.heap.size Z V->LI V w3.heap.size w2.heap.size 500 500 (1+500*((k+1:Nat):Int))/\V.ownsRow X.heap.size 22 1 (.slice (some ⟨gp,0,none⟩) pn pcap) pn (ptv P)/\Below w1.heap.size w1 V/\w3.heap.size+2<=V.heap.size):=Hq (fun V hb=>by
        have hwz:=HZsz.out;have hcb:=HCB.out.size;refine ⟨⟨⟨U.st,U.recs,qp⟩,a5.v,F',hs',vs',ks',rows',L6,G+500,p1,r1,p2,r2,p3,r3,p4,r4,p5,r5,p6,r6,p7,r7,p8,r8,(hb.block _ (lt_of_block HRZ.out.2.1)).trans HRZ.out.2.1,(hb.block _ (lt_of_block HRZ.out.2.2.1)).trans HRZ.out.2.2.1,(HRZ.out.1.below hb).drop (by omega),sTJ,by omega⟩,own_below HRWz.out hb,HRZ.out.2.2.2.trans (hb.mono HRZ.out.2.2.2.size),by have:=hb.size;omega⟩)
       obtain ⟨R1,R2,R3,R4⟩:=HRY.out Z (Below.refl _ _);have HR1:=Hq R1;have HR2:=Hq R2;have HR3:=Hq R3;clear R1 R2 R3 HRY sTJ HRZ HRWz HTA6 HK6 HK9 HRWf HRWc HB5 HB6 HV6 HV7 HNe HCB HZsz hsf;go_wp2;go_roundw
       case rel => exact ⟨k+1,rfl,by omega,by go_num,HR1,HR2,HR3,R4⟩
       case measure => simp [intOf]<;>omega
    · obtain rfl:k=pn:=by omega
      clear HTR HTA HTAX HX0 HX1 HLI;clear HRW HB14 hz4;obtain ⟨t,⟨rt,sz⟩,H,hs,vs,ks,rows,L,G,t1,l1,t2,l2,t3,l3,t4,l4,t5,l5,t6,l6,t7,l7,t8,l8,hb9,hb10,hta,htr,hG⟩:=HLk.out;have hG2:G<=1099511627775:=by omega
      have HRC:Hid (Calls Tryz.prog 10 #[.agg #[.slice t1 t.st.gens.length l1,.slice t2 t.st.used.length l2,.slice t3 t.st.free.length l3,.slice t4 L.length l4,.slice t5 t.pl.st.gens.length l5,.slice t6 t.pl.st.used.length l6,.slice t7 t.pl.st.free.length l7,.slice t8 t.pl.ch.length l8],.agg #[.int .u64 rt,.int .i64 sz]] wr (GivesRc hs (rows.flatten++ks.flatten.flatten) wr)):=Hq (zo8 _ _ _ _ _ _ _ _ L t w2.heap.size 500 500 G wr hta htr.tr.tk ⟨rt,sz⟩ H hs vs ks rows htr.tr.ver);have HDhs:Hid hs.Nodup:=Hq htr.js.nd;have HVhs:Hid (∀ h∈hs,t.st.lv h=true):=Hq (fun h hh=>(htr.js.mem h).2 hh);have HBhs:Hid (∀ h∈hs,0<=h/\h<=18446744073709551615):=Hq (fun h hh=>by have:=zfv htr.tr.tk.ok hG2 ((htr.js.mem h).2 hh);exact this);have HOhs:=Hq htr.tr.tk.ok;obtain ⟨cs,hcs⟩:∃ c,rows.flatten++ks.flatten.flatten=c:=⟨_,rfl⟩;have HDcs:Hid cs.Nodup:=Hq (by rw [<- hcs];exact htr.jp.nd);have HVcs:Hid (∀ h∈cs,t.pl.st.lv h=true):=Hq (fun h hh=>(htr.jp.mem h).2 (by rw [hcs];exact hh));have HBcs:Hid (∀ h∈cs,0<=h/\h<=18446744073709551615):=Hq (fun h hh=>by have:=zfv htr.tr.tk.pk.ok hG2 ((htr.jp.mem h).2 (by rw [hcs];exact hh));exact this);have HOcs:=Hq htr.tr.tk.pk.ok;obtain ⟨nr,hnr⟩:∃ z,hs.length=z:=⟨_,rfl⟩;obtain ⟨nc,hnc⟩:∃ z,cs.length=z:=⟨_,rfl⟩;have hr500:nr<=500:=by rw [<- hnr];exact zfu htr.tr.tk.ok HDhs.out HVhs.out
      have hc500:nc<=500:=by rw [<- hnc];exact zfu htr.tr.tk.pk.ok HDcs.out HVcs.out
      have hr0:0<nr:=by
       have h1:=(zv.1 htr.tr.may).1.1;rw [<- hnr,htr.tr.ver.len];exact h1
      have hc0:0<nc:=by
       have h1:=ztg htr.tr.ver.ixw (by omega);rw [<- hnc,<- hcs,List.length_append];omega
      have HLhs:=Hq hnr;have HLcs:=Hq hnc;have HTA:=Hq hta;have HT9:=Hq hb9;rw [hcs] at HRC;unfold GivesRc at HRC;rw [hnr,hnc] at HRC;obtain ⟨x0,x1,x2,x3,x4,x5,x6,x7⟩:=block8 hb9;obtain ⟨y0,y1⟩:=block2 hb10;clear hcs hb9 hb10 hta htr hnr hnc hlt;go_wp2_with fail;refine HRC.out.mono ?_;rintro e wq ⟨va2,vb2,rfl,hra,hrb,hb⟩;obtain ⟨pa2,ca2,rfl,-,-⟩:=zj hra;obtain ⟨pb2,cb2,rfl,-,-⟩:=zj hrb;have HRA:=Hq hra;have HRB:=Hq hrb;have HBz:=Hq hb;clear hra hrb hb x0 x1 x2 x3 x4 x5 x6 x7 y0 y1 HRC;obtain ⟨Y2,hY2⟩:∃ Y,Y=wq.alloc (.cells #[.slice pa2 nr ca2,.slice pb2 nc cb2] 48):=⟨_,rfl⟩;obtain ⟨X2,hX2⟩:∃ Y,Y=Y2.alloc (.map #[] 0):=⟨_,rfl⟩;obtain ⟨kg,hkg⟩:∃ x,x=wq.heap.size:=⟨_,rfl⟩;obtain ⟨B2,hB2⟩:∃ x,x=Y2.heap.size:=⟨_,rfl⟩;obtain ⟨base2,hbase2⟩:∃ x,x=wr.heap.size:=⟨_,rfl⟩;have hb1:Below wq.heap.size wq Y2:=by rw [hY2];exact Bq _ _
      have hb2:Below Y2.heap.size Y2 X2:=by rw [hX2];exact Bq _ _
      have hb3:Below wr.heap.size wr X2:=(HBz.out.trans (hb1.mono HBz.out.size)).trans (hb2.mono (by have:=HBz.out.size;have:=hb1.size;omega));have hk1:Y2.heap[kg]? = some (.cells #[.slice pa2 nr ca2,.slice pb2 nc cb2] 48 (0,0)):=by rw [hkg,hY2];exact hnew _ _
      have HFX2:Hid (X2.heap[kg]? = some (.cells #[.slice pa2 nr ca2,.slice pb2 nc cb2] 48 (0,0))/\X2.heap[w3.heap.size]? = some (.cells #[.slice t1 t.st.gens.length l1,.slice t2 t.st.used.length l2,.slice t3 t.st.free.length l3,.slice t4 L.length l4,.slice t5 t.pl.st.gens.length l5,.slice t6 t.pl.st.used.length l6,.slice t7 t.pl.st.free.length l7,.slice t8 t.pl.ch.length l8] 36 (0,0))):=Hq ⟨(hb2.block _ (lt_of_block hk1)).trans hk1,(hb3.block _ (lt_of_block HT9.out)).trans HT9.out⟩;have HRX2hs:Hid (X2.ownsRow base2 37 1 (.slice pa2 nr ca2) nr (V.gvs hs)):=Hq (by rw [hbase2];exact own_below (own_below HRA.out hb1) hb2);have HRX2cs:Hid (X2.ownsRow base2 37 1 (.slice pb2 nc cb2) nc (V.gvs cs)):=Hq (by rw [hbase2];exact own_below (own_below HRB.out hb1) hb2);have HAX2hs:=Hq (HTA.out.ar.below hb3);have HAX2cs:=Hq (HTA.out.pa.ar.below hb3);have HSX2:Hid (Seen X2 B2 0 hs):=Hq (by rw [hX2,hB2];exact Seen.made _ _);have HMX2:Hid (X2.ownsMap Tryz.prog 37 (plainElem (H:=Unit) Tryz.prog 3) B2 0 (.map [])):=Hq (by rw [hX2,hB2];exact World.ownsMap_made Y2 Tryz.prog 37 (plainElem (H:=Unit) Tryz.prog 3));have HNX2:Hid (B2≠kg/\B2≠w3.heap.size/\(Value.slice pa2 nr ca2).ownBlock≠some B2/\(Value.slice pb2 nc cb2).ownBlock≠some B2):=Hq ⟨zip HMX2.out HFX2.out.1,zip HMX2.out HFX2.out.2,za2 HMX2.out HRX2hs.out,za2 HMX2.out HRX2cs.out⟩;have HBX2:Hid (Below w1.heap.size w1 X2):=Hq (HBk.out.trans (hb3.mono HBk.out.size));have hBw:w1.heap.size<=B2:=by rw [hB2];have:=HBk.out.size;have:=HBz.out.size;have:=hb1.size;omega
      have HY2:=Hq hY2;have HX2:=Hq hX2;have HKG:=Hq hkg;have HB2e:=Hq hB2;clear hb1 hb2 hb3 hk1 HT9 HTA HRA HRB hY2 hX2 hkg hB2 hbase2;go_upto_region 14 with fail
      rw [<- HY2.out,<- HKG.out];clear HY2 HKG;have hmm:∀ (t:TypeId) (W:World),(Instr.makeMap t none).run Tryz.prog W = .ok (.map (some W.heap.size)) (W.alloc (.map #[] 0)):=fun _ _=>rfl
      go_upto_region 16 with fail
      clear hmm;rw [<- HX2.out,<- HB2e.out];clear HX2 HB2e
      go_loopw [18] (fun q Y=>∃ i:Nat,q = .int .i64 i/\i<=nr/\Hid (Seen Y B2 i hs)/\Hid (X2.grownBy Y (some B2))) (fun q _=>nr - (intOf q).toNat)
      case atStart => exact ⟨0,rfl,Nat.zero_le _,HSX2,Hq (World.grownBy.refl _ _)⟩
      case round =>
       obtain ⟨i,rfl,hi,HSi,HGi⟩:=hrel;have hkG:wr.heap[kg]? = some (.cells #[.slice pa2 nr ca2,.slice pb2 nc cb2] 48 (0,0)):=(HGi.out.block _ (lt_of_block HFX2.out.1) (by intro e;cases e;exact HNX2.out.1 rfl)).trans HFX2.out.1;obtain ⟨g0,g1⟩:=block2 hkG
       by_cases hlt:i<nr
       · have i0:(0:Int)<=(i:Int):=by omega
         have i1:(i:Int)<(nr:Int):=by omega
         have hil:i<hs.length:=by rw [HLhs.out];exact hlt
         have hrow:wr.ownsRow base2 37 1 (.slice pa2 nr ca2) nr (V.gvs hs):=HRX2hs.out.kept HGi.out (.inr HNX2.out.2.2.1);obtain ⟨gq,hgq⟩:∃ gq,pa2=some ⟨gq,0,none⟩:=by
          obtain ⟨g,e,-⟩:=V.zab hrow (by omega);cases e;exact ⟨g,rfl⟩
         subst hgq;obtain ⟨H,hH⟩:∃ x,hs[i]=x:=⟨_,rfl⟩;have hcq:wr.cell? ⟨gq,i,none⟩=some (.int .u64 H):=by
          have e:(V.gvs hs)[i]? = some (.int .u64 H):=by simp [V.gvs,<- hH,List.getElem?_eq_getElem hil]
          have:=hrow.cells rfl i _ e;rw [add_plain,Nat.zero_add] at this;exact this
         have hgl:=(hrow.lt gq rfl).2;obtain ⟨D,hmap,hD⟩:=HSi.out;have HMP:=Hq hmap;have HAT:Hid (D.atKey (.int .u64 H) (.lit (.int .i64 0)) = .lit (.int .i64 0)):=Hq (hD _ (by rw [<- hH];exact zl0 HDhs.out hil));have HAT1:Hid ((D.put (.int .u64 H) (.lit (.int .i64 1))).atKey (.int .u64 H) (.lit (.int .i64 0)) = .lit (.int .i64 1)):=Hq (atKey_put_same (k:=Lit.int .u64 H) hmap.isMap trivial _ _);have HDP:Hid (∀ h:Int,h ∉ hs.take (i+1)->(D.put (.int .u64 H) (.lit (.int .i64 1))).atKey (.int .u64 h) (.lit (.int .i64 0)) = .lit (.int .i64 0)):=Hq (by rw [<- hH];exact zl1 hil hD _);obtain ⟨b0,b1⟩:=HBhs.out H (by rw [<- hH];exact List.getElem_mem hil);have HLV:Hid (t.st.lv H=true):=Hq (HVhs.out H (by rw [<- hH];exact List.getElem_mem hil));have hne1:gq≠B2:=by
          have:=HNX2.out.2.2.1;intro e;exact this (by rw [e];rfl)
         have hi60:i<=100000:=by omega
         clear hmap hD hH hrow;go_upto_region 19 with (first
          | (at_lookup;refine wpList_lookup_own_int _ rfl _ _ 55 rfl 37 3 .i64 lawK Tryz.underlying55 Tryz.underlying3 (zeroI _) B2 i _ rfl HMP.out _ _ rfl (keyU b0 b1) ?_;intro c hat hwc;obtain rfl:c=0:=(by have h1:=hat.symm.trans HAT.out;injection h1 with h1;injection h1);clear hat hwc)
          | (at_mapUpdate;refine wpList_mapUpdate_own _ rfl _ _ _ 55 rfl 37 3 lawK Tryz.underlying55 _ B2 i _ rfl HMP.out (by unfold maxLen;omega) _ _ _ rfl rfl (keyU b0 b1) _ [] (plainElem_int Tryz.underlying3 (by decide)) ?_;intro w5x hown5 hgrow5
             have HM5:Hid (w5x.ownsMap Tryz.prog 37 (plainElem (H:=Unit) Tryz.prog 3) B2 (i+1) (D.put (.int .u64 H) (.lit (.int .i64 1)))):=Hq hown5;have HG5:Hid (X2.grownBy w5x (some B2)):=Hq (HGi.out.trans hgrow5);have hcq5:=(hgrow5.cell_far ⟨gq,i,none⟩ hgl (by intro e;cases e;exact hne1 rfl)).trans hcq;clear hown5 hgrow5))
         have hkG5:w5x.heap[kg]? = some (.cells #[.slice (some ⟨gq,0,none⟩) nr ca2,.slice pb2 nc cb2] 48 (0,0)):=(HG5.out.block _ (lt_of_block HFX2.out.1) (by intro e;cases e;exact HNX2.out.1 rfl)).trans HFX2.out.1;have hkT5:w5x.heap[w3.heap.size]? = some (.cells #[.slice t1 t.st.gens.length l1,.slice t2 t.st.used.length l2,.slice t3 t.st.free.length l3,.slice t4 L.length l4,.slice t5 t.pl.st.gens.length l5,.slice t6 t.pl.st.used.length l6,.slice t7 t.pl.st.free.length l7,.slice t8 t.pl.ch.length l8] 36 (0,0)):=(HG5.out.block _ (lt_of_block HFX2.out.2) (by intro e;cases e;exact HNX2.out.2.1 rfl)).trans HFX2.out.2;have HAR5:Hid (V.Ar w5x w2.heap.size (.slice t1 t.st.gens.length l1) (.slice t2 t.st.used.length l2) (.slice t3 t.st.free.length l3) t.st):=Hq (HAX2hs.out.grown HG5.out (za2 HMX2.out HAX2hs.out.g) (za2 HMX2.out HAX2hs.out.u) (za2 HMX2.out HAX2hs.out.f));have HLC:Hid (∀ U,Below w5x.heap.size w5x U->Calls Tryz.prog 11 #[.agg #[.slice t1 t.st.gens.length l1,.slice t2 t.st.used.length l2,.slice t3 t.st.free.length l3],.int .u64 H] U (GivesV (.bool true) U)):=Hq (fun U hb=>by
          have:=V.liveO HOhs.out (HAR5.out.below hb) b0 b1;rw [HLV.out] at this;exact this)
         have HMU:Hid (∀ U,Below w5x.heap.size w5x U->U.ownsMap Tryz.prog 37 (plainElem (H:=Unit) Tryz.prog 3) B2 (i+1) (D.put (.int .u64 H) (.lit (.int .i64 1)))):=Hq (fun U hb=>zeb HM5.out hb);have hgq5:gq<w5x.heap.size:=World.block_lt_of_cell? _ _ hcq5;have HJV:Hid (∀ U,Below w5x.heap.size w5x U->U.cell? ⟨kg,0,none⟩=some (.slice (some ⟨gq,0,none⟩) nr ca2)/\U.cell? ⟨gq,i,none⟩=some (.int .u64 H)/\U.cell? ⟨w3.heap.size,0,none⟩=some (.slice t1 t.st.gens.length l1)/\U.cell? ⟨w3.heap.size,1,none⟩=some (.slice t2 t.st.used.length l2)/\U.cell? ⟨w3.heap.size,2,none⟩=some (.slice t3 t.st.free.length l3)):=Hq (fun U hb=>by
          obtain ⟨z0,z1,z2,z3,z4,z5,z6,z7⟩:=block8 ((hb.block _ (lt_of_block hkT5)).trans hkT5);obtain ⟨e0,e1⟩:=block2 ((hb.block _ (lt_of_block hkG5)).trans hkG5);exact ⟨e0,(hb.cell (p:=⟨gq,i,none⟩) hgq5).trans hcq5,z0,z1,z2⟩)
         have HB5x:Hid (Below w5x.heap.size w5x w5x):=Hq (Below.refl _ _);obtain ⟨x0,x1,x2,x3,x4⟩:=HJV.out w5x (Below.refl _ _);clear hkG5 hkT5 hcq5 hcq hkG g0 g1 HMP HAR5 hne1 hgq5 HAT;obtain ⟨c1,hr1,ha1,-⟩:=(HMU.out w5x (Below.refl _ _)).lookup_int lawK Tryz.underlying55 Tryz.underlying3 (zeroI _) (keyU b0 b1);obtain rfl:c1=1:=(by have h1:=ha1.symm.trans HAT1.out;injection h1 with h1;injection h1);obtain ⟨c2,hr2,ha2,-⟩:=(HMU.out w5x.drew (Below.refl _ _).drew).lookup_int lawK Tryz.underlying55 Tryz.underlying3 (zeroI _) (keyU b0 b1);obtain rfl:c2=1:=(by have h1:=ha2.symm.trans HAT1.out;injection h1 with h1;injection h1);clear ha1 ha2
         go_region_held3 (fun U=>U.cell? ⟨kg,0,none⟩=some (.slice (some ⟨gq,0,none⟩) nr ca2)/\U.cell? ⟨gq,i,none⟩=some (.int .u64 H)/\U.cell? ⟨w3.heap.size,0,none⟩=some (.slice t1 t.st.gens.length l1)/\U.cell? ⟨w3.heap.size,1,none⟩=some (.slice t2 t.st.used.length l2)/\U.cell? ⟨w3.heap.size,2,none⟩=some (.slice t3 t.st.free.length l3))
          ((refine HJV.out _ ?_
            repeat' (first
             | with_reducible exact HB11.out
             | with_reducible exact Below.refl _ _
             | with_reducible refine Below.drew ?_)))
          (first
            | (go_at_call 11
               refine (HLC.out _ (by repeat' (first|with_reducible exact Below.refl _ _|with_reducible refine Below.drew ?_))).mono ?_;rintro e w11 ⟨rfl,hb11⟩;have HB11:Hid (Below w5x.heap.size w5x w11):=Hq (Below.trans (by repeat' (first|with_reducible exact Below.refl _ _|with_reducible refine Below.drew ?_)) (hb11.mono (by first|(show _<=_;simp;done)|(show _<=_;simp;omega))));clear hb11))
         have HSN:Hid (Seen w11 B2 (i+1) hs):=Hq ⟨_,zeb HM5.out HB11.out,HDP.out⟩;have HGN:Hid (X2.grownBy w11 (some B2)):=Hq (HG5.out.trans ⟨HB11.out.os,HB11.out.tape,HB11.out.output,HB11.out.size,fun a ha _=>HB11.out.block a ha⟩);go_wp2;go_roundw
         case rel => exact ⟨i+1,by go_num,by omega,HSN,HGN⟩
         case measure => simp [intOf]<;>omega
       · obtain rfl:nr=i:=by omega
         have hf2:wr.heap[w3.heap.size]? = some (.cells #[.slice t1 t.st.gens.length l1,.slice t2 t.st.used.length l2,.slice t3 t.st.free.length l3,.slice t4 L.length l4,.slice t5 t.pl.st.gens.length l5,.slice t6 t.pl.st.used.length l6,.slice t7 t.pl.st.free.length l7,.slice t8 t.pl.ch.length l8] 36 (0,0)):=(HGi.out.block _ (lt_of_block HFX2.out.2) (by intro e;cases e;exact HNX2.out.2.1 rfl)).trans HFX2.out.2;have hra:=HRX2hs.out.kept HGi.out (.inr HNX2.out.2.2.1);have hrb:=HRX2cs.out.kept HGi.out (.inr HNX2.out.2.2.2);have har:=HAX2cs.out.grown HGi.out (za2 HMX2.out HAX2cs.out.g) (za2 HMX2.out HAX2cs.out.u) (za2 HMX2.out HAX2cs.out.f);have hbl:Below w1.heap.size w1 wr:=HBX2.out.grown HGi.out HBX2.out.size (fun r e=>by cases e;exact hBw);obtain ⟨X3,hX3⟩:∃ Y,Y=wr.alloc (.map #[] 0):=⟨_,rfl⟩;obtain ⟨B3,hB3⟩:∃ x,x=wr.heap.size:=⟨_,rfl⟩;have hb2:Below wr.heap.size wr X3:=by rw [hX3];exact Bq _ _
         have HFX3:Hid (X3.heap[kg]? = some (.cells #[.slice pa2 nr ca2,.slice pb2 nc cb2] 48 (0,0))/\X3.heap[w3.heap.size]? = some (.cells #[.slice t1 t.st.gens.length l1,.slice t2 t.st.used.length l2,.slice t3 t.st.free.length l3,.slice t4 L.length l4,.slice t5 t.pl.st.gens.length l5,.slice t6 t.pl.st.used.length l6,.slice t7 t.pl.st.free.length l7,.slice t8 t.pl.ch.length l8] 36 (0,0))):=Hq ⟨(hb2.block _ (lt_of_block hkG)).trans hkG,(hb2.block _ (lt_of_block hf2)).trans hf2⟩;have HRX3hs:=Hq (own_below hra hb2);have HRX3cs:=Hq (own_below hrb hb2);have HAX3cs:=Hq (har.below hb2);have HSX3:Hid (Seen X3 B3 0 cs):=Hq (by rw [hX3,hB3];exact Seen.made _ _);have HMX3:Hid (X3.ownsMap Tryz.prog 37 (plainElem (H:=Unit) Tryz.prog 3) B3 0 (.map [])):=Hq (by rw [hX3,hB3];exact World.ownsMap_made wr Tryz.prog 37 (plainElem (H:=Unit) Tryz.prog 3));have HNX3:Hid (B3≠kg/\B3≠w3.heap.size/\(Value.slice pa2 nr ca2).ownBlock≠some B3/\(Value.slice pb2 nc cb2).ownBlock≠some B3):=Hq ⟨zip HMX3.out HFX3.out.1,zip HMX3.out HFX3.out.2,za2 HMX3.out HRX3hs.out,za2 HMX3.out HRX3cs.out⟩;have HBX3:Hid (Below w1.heap.size w1 X3):=Hq (hbl.trans (hb2.mono hbl.size));have hBw3:w1.heap.size<=B3:=by rw [hB3];exact hbl.size
         have HX3:=Hq hX3;have HB3e:=Hq hB3;clear hf2 hra hrb har hbl hb2 hX3 hB3 HFX2 HRX2hs HRX2cs HAX2hs HAX2cs HMX2 HNX2 HBX2 HSi HGi;have hmm:∀ (t:TypeId) (W:World),(Instr.makeMap t none).run Tryz.prog W = .ok (.map (some W.heap.size)) (W.alloc (.map #[] 0)):=fun _ _=>rfl
         go_upto_region 23 with fail
         clear hmm;rw [<- HX3.out,<- HB3e.out];clear HX3 HB3e g0 g1 hkG
         go_loopw [20] (fun q Y=>∃ i:Nat,q = .int .i64 i/\i<=nc/\Hid (Seen Y B3 i cs)/\Hid (X3.grownBy Y (some B3))) (fun q _=>nc - (intOf q).toNat)
         case atStart => exact ⟨0,rfl,Nat.zero_le _,HSX3,Hq (World.grownBy.refl _ _)⟩
         case round =>
          obtain ⟨i,rfl,hi,HSi,HGi⟩:=hrel;have hkG:wr.heap[kg]? = some (.cells #[.slice pa2 nr ca2,.slice pb2 nc cb2] 48 (0,0)):=(HGi.out.block _ (lt_of_block HFX3.out.1) (by intro e;cases e;exact HNX3.out.1 rfl)).trans HFX3.out.1;obtain ⟨g0,g1⟩:=block2 hkG
          by_cases hlt:i<nc
          · have i0:(0:Int)<=(i:Int):=by omega
            have i1:(i:Int)<(nc:Int):=by omega
            have hil:i<cs.length:=by rw [HLcs.out];exact hlt
            have hrow:wr.ownsRow base2 37 1 (.slice pb2 nc cb2) nc (V.gvs cs):=HRX3cs.out.kept HGi.out (.inr HNX3.out.2.2.2);obtain ⟨gq,hgq⟩:∃ gq,pb2=some ⟨gq,0,none⟩:=by
             obtain ⟨g,e,-⟩:=V.zab hrow (by omega);cases e;exact ⟨g,rfl⟩
            subst hgq;obtain ⟨H,hH⟩:∃ x,cs[i]=x:=⟨_,rfl⟩;have hcq:wr.cell? ⟨gq,i,none⟩=some (.int .u64 H):=by
             have e:(V.gvs cs)[i]? = some (.int .u64 H):=by simp [V.gvs,<- hH,List.getElem?_eq_getElem hil]
             have:=hrow.cells rfl i _ e;rw [add_plain,Nat.zero_add] at this;exact this
            have hgl:=(hrow.lt gq rfl).2;obtain ⟨D,hmap,hD⟩:=HSi.out;have HMP:=Hq hmap;have HAT:Hid (D.atKey (.int .u64 H) (.lit (.int .i64 0)) = .lit (.int .i64 0)):=Hq (hD _ (by rw [<- hH];exact zl0 HDcs.out hil));have HAT1:Hid ((D.put (.int .u64 H) (.lit (.int .i64 1))).atKey (.int .u64 H) (.lit (.int .i64 0)) = .lit (.int .i64 1)):=Hq (atKey_put_same (k:=Lit.int .u64 H) hmap.isMap trivial _ _);have HDP:Hid (∀ h:Int,h ∉ cs.take (i+1)->(D.put (.int .u64 H) (.lit (.int .i64 1))).atKey (.int .u64 h) (.lit (.int .i64 0)) = .lit (.int .i64 0)):=Hq (by rw [<- hH];exact zl1 hil hD _);obtain ⟨b0,b1⟩:=HBcs.out H (by rw [<- hH];exact List.getElem_mem hil);have HLV:Hid (t.pl.st.lv H=true):=Hq (HVcs.out H (by rw [<- hH];exact List.getElem_mem hil));have hne1:gq≠B3:=by
             have:=HNX3.out.2.2.2;intro e;exact this (by rw [e];rfl)
            have hi60:i<=100000:=by omega
            clear hmap hD hH hrow;go_upto_region 26 with (first
             | (at_lookup;refine wpList_lookup_own_int _ rfl _ _ 55 rfl 37 3 .i64 lawK Tryz.underlying55 Tryz.underlying3 (zeroI _) B3 i _ rfl HMP.out _ _ rfl (keyU b0 b1) ?_;intro c hat hwc;obtain rfl:c=0:=(by have h1:=hat.symm.trans HAT.out;injection h1 with h1;injection h1);clear hat hwc)
             | (at_mapUpdate;refine wpList_mapUpdate_own _ rfl _ _ _ 55 rfl 37 3 lawK Tryz.underlying55 _ B3 i _ rfl HMP.out (by unfold maxLen;omega) _ _ _ rfl rfl (keyU b0 b1) _ [] (plainElem_int Tryz.underlying3 (by decide)) ?_;intro w5x hown5 hgrow5
                have HM5:Hid (w5x.ownsMap Tryz.prog 37 (plainElem (H:=Unit) Tryz.prog 3) B3 (i+1) (D.put (.int .u64 H) (.lit (.int .i64 1)))):=Hq hown5;have HG5:Hid (X3.grownBy w5x (some B3)):=Hq (HGi.out.trans hgrow5);have hcq5:=(hgrow5.cell_far ⟨gq,i,none⟩ hgl (by intro e;cases e;exact hne1 rfl)).trans hcq;clear hown5 hgrow5))
            have hkG5:w5x.heap[kg]? = some (.cells #[.slice pa2 nr ca2,.slice (some ⟨gq,0,none⟩) nc cb2] 48 (0,0)):=(HG5.out.block _ (lt_of_block HFX3.out.1) (by intro e;cases e;exact HNX3.out.1 rfl)).trans HFX3.out.1;have hkT5:w5x.heap[w3.heap.size]? = some (.cells #[.slice t1 t.st.gens.length l1,.slice t2 t.st.used.length l2,.slice t3 t.st.free.length l3,.slice t4 L.length l4,.slice t5 t.pl.st.gens.length l5,.slice t6 t.pl.st.used.length l6,.slice t7 t.pl.st.free.length l7,.slice t8 t.pl.ch.length l8] 36 (0,0)):=(HG5.out.block _ (lt_of_block HFX3.out.2) (by intro e;cases e;exact HNX3.out.2.1 rfl)).trans HFX3.out.2;have HAR5:Hid (V.Ar w5x w2.heap.size (.slice t5 t.pl.st.gens.length l5) (.slice t6 t.pl.st.used.length l6) (.slice t7 t.pl.st.free.length l7) t.pl.st):=Hq (HAX3cs.out.grown HG5.out (za2 HMX3.out HAX3cs.out.g) (za2 HMX3.out HAX3cs.out.u) (za2 HMX3.out HAX3cs.out.f));have HLC:Hid (∀ U,Below w5x.heap.size w5x U->Calls Tryz.prog 11 #[.agg #[.slice t5 t.pl.st.gens.length l5,.slice t6 t.pl.st.used.length l6,.slice t7 t.pl.st.free.length l7],.int .u64 H] U (GivesV (.bool true) U)):=Hq (fun U hb=>by
             have:=V.liveO HOcs.out (HAR5.out.below hb) b0 b1;rw [HLV.out] at this;exact this)
            have HMU:Hid (∀ U,Below w5x.heap.size w5x U->U.ownsMap Tryz.prog 37 (plainElem (H:=Unit) Tryz.prog 3) B3 (i+1) (D.put (.int .u64 H) (.lit (.int .i64 1)))):=Hq (fun U hb=>zeb HM5.out hb);have hgq5:gq<w5x.heap.size:=World.block_lt_of_cell? _ _ hcq5;have HJV:Hid (∀ U,Below w5x.heap.size w5x U->U.cell? ⟨kg,1,none⟩=some (.slice (some ⟨gq,0,none⟩) nc cb2)/\U.cell? ⟨gq,i,none⟩=some (.int .u64 H)/\U.cell? ⟨w3.heap.size,4,none⟩=some (.slice t5 t.pl.st.gens.length l5)/\U.cell? ⟨w3.heap.size,5,none⟩=some (.slice t6 t.pl.st.used.length l6)/\U.cell? ⟨w3.heap.size,6,none⟩=some (.slice t7 t.pl.st.free.length l7)):=Hq (fun U hb=>by
             obtain ⟨z0,z1,z2,z3,z4,z5,z6,z7⟩:=block8 ((hb.block _ (lt_of_block hkT5)).trans hkT5);obtain ⟨e0,e1⟩:=block2 ((hb.block _ (lt_of_block hkG5)).trans hkG5);exact ⟨e1,(hb.cell (p:=⟨gq,i,none⟩) hgq5).trans hcq5,z4,z5,z6⟩)
            have HB5x:Hid (Below w5x.heap.size w5x w5x):=Hq (Below.refl _ _);obtain ⟨x0,x1,x2,x3,x4⟩:=HJV.out w5x (Below.refl _ _);clear hkG5 hkT5 hcq5 hcq hkG g0 g1 HMP HAR5 hne1 hgq5 HAT;obtain ⟨c1,hr1,ha1,-⟩:=(HMU.out w5x (Below.refl _ _)).lookup_int lawK Tryz.underlying55 Tryz.underlying3 (zeroI _) (keyU b0 b1);obtain rfl:c1=1:=(by have h1:=ha1.symm.trans HAT1.out;injection h1 with h1;injection h1);obtain ⟨c2,hr2,ha2,-⟩:=(HMU.out w5x.drew (Below.refl _ _).drew).lookup_int lawK Tryz.underlying55 Tryz.underlying3 (zeroI _) (keyU b0 b1);obtain rfl:c2=1:=(by have h1:=ha2.symm.trans HAT1.out;injection h1 with h1;injection h1);clear ha1 ha2
            go_region_held3 (fun U=>U.cell? ⟨kg,1,none⟩=some (.slice (some ⟨gq,0,none⟩) nc cb2)/\U.cell? ⟨gq,i,none⟩=some (.int .u64 H)/\U.cell? ⟨w3.heap.size,4,none⟩=some (.slice t5 t.pl.st.gens.length l5)/\U.cell? ⟨w3.heap.size,5,none⟩=some (.slice t6 t.pl.st.used.length l6)/\U.cell? ⟨w3.heap.size,6,none⟩=some (.slice t7 t.pl.st.free.length l7))
             ((refine HJV.out _ ?_
               repeat' (first
                | with_reducible exact HB11.out
                | with_reducible exact Below.refl _ _
                | with_reducible refine Below.drew ?_)))
             (first
               | (go_at_call 11
                  refine (HLC.out _ (by repeat' (first|with_reducible exact Below.refl _ _|with_reducible refine Below.drew ?_))).mono ?_;rintro e w11 ⟨rfl,hb11⟩;have HB11:Hid (Below w5x.heap.size w5x w11):=Hq (Below.trans (by repeat' (first|with_reducible exact Below.refl _ _|with_reducible refine Below.drew ?_)) (hb11.mono (by first|(show _<=_;simp;done)|(show _<=_;simp;omega))));clear hb11))
            have HSN:Hid (Seen w11 B3 (i+1) cs):=Hq ⟨_,zeb HM5.out HB11.out,HDP.out⟩;have HGN:Hid (X3.grownBy w11 (some B3)):=Hq (HG5.out.trans ⟨HB11.out.os,HB11.out.tape,HB11.out.output,HB11.out.size,fun a ha _=>HB11.out.block a ha⟩);go_wp2;go_roundw
            case rel => exact ⟨i+1,by go_num,by omega,HSN,HGN⟩
            case measure => simp [intOf]<;>omega
          · obtain rfl:nc=i:=by omega
            have hbl:Below w1.heap.size w1 wr:=HBX3.out.grown HGi.out HBX3.out.size (fun r e=>by cases e;exact hBw3);have HBE3:=Hq hbl;clear hbl;go_wp2;go_ret;exact ⟨rfl,HBE3.out⟩
 · have hno:bd=false\/(bd=true/\decide ((60:Int)<(ln:Int))=true)\/(bd=true/\decide ((60:Int)<(ln:Int))=false/\decide ((60:Int)<(bn:Int))=true):=by
    cases bd with
    | false=>exact .inl rfl
    | true =>
      by_cases h6:ln<=60
      · have h7:¬ bn<=60:=fun h=>hok ⟨rfl,h6,h⟩
        exact .inr (.inr ⟨rfl,by simp;omega,by simp;omega⟩)
      · exact .inr (.inl ⟨rfl,by simp;omega⟩)
   rcases hno with rfl|⟨rfl,b1⟩|⟨rfl,b1,b2⟩
   all_goals
    go_upto_region 2 with (first|(go_at_call 4;refine HBD.out.mono ?_;rintro e w1 ⟨rfl,rfl⟩))
    go_wp2_with fail;refine HSH.out.mono ?_;rintro e w2 ⟨rfl,hb⟩;have HB2:=Hq hb;clear hb;go_wp2;go_ret;exact ⟨rfl,HB2.out⟩
end Go.Proofs.YtdmecdjfbpblgaaGreatDoor
