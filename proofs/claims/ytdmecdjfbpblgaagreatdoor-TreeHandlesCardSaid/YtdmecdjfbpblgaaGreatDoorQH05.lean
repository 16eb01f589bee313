/-
  New, Items, Get.
-/
import Derived.Test.YtdmecdjfbpblgaaGreatDoorQH04
import Derived.Lib.AppendZeros
namespace Go.Proofs.YtdmecdjfbpblgaaGreatDoor.V
set_option maxRecDepth 100000
set_option maxHeartbeats 32000000
open Go.ChangeShapes Go.WideShapes Go.ChangeAt Go.RowKit
set_option linter.unusedVariables false
set_option linter.unusedSimpArgs false
def freshP (n:Nat):Pl:=⟨fresh n,List.replicate n []⟩
theorem zqn {n:Nat} (h:n<=500):PK n 1 (freshP n):=by
 refine ⟨zk2 h,by simp [freshP],fun c hc=>?_,fun c hc=>?_⟩
 · rw [List.eq_of_mem_replicate hc];simp
 · rw [List.eq_of_mem_replicate hc];intro x hx;simp at hx
def zK:Array Value:=#[.int .i64 0,.int .u64 0,.int .u64 0,.int .u64 0,.int .u64 0]
theorem zsj (n:Nat):(madeCells zK (n*5)).toList=cvs (List.replicate n []):=by
 apply List.ext_getElem?;intro j
 rcases Nat.lt_or_ge j (n*5) with hj|hj
 · have e:j=j / 5*5+j % 5:=by omega
   have h1:=zk3 (List.replicate n []) (j / 5) (j % 5) (by simp;omega) (by omega);rw [<- e] at h1;rw [h1,zcu,if_pos (by omega)];rw [Array.getElem?_toList,madeCells,Array.getElem?_map,Array.getElem?_range,if_pos hj];show some (zK[j % 5]!)=_;have h5:j % 5<5:=by omega
   generalize j % 5=r at *
   match r,h5 with
   | 0,_=>rfl
   | 1,_=>rfl
   | 2,_=>rfl
   | 3,_=>rfl
   | 4,_=>rfl
   | r+5,h=>omega
 · rw [List.getElem?_eq_none (by rw [Array.length_toList,size_madeCells];exact hj),List.getElem?_eq_none (by rw [zck];simp;exact hj)]
def GivesN (p:Pl) (e:Int) (w:World) (en:Ending) (w':World):Prop :=
 ∃ vg vu vf vc,en = .returned (.tuple #[.agg #[vg,vu,vf,vc],.int .i64 e])/\PA w' w.heap.size vg vu vf vc p/\Below w.heap.size w w'
theorem zua (n:Nat) (w:World) (h:n<=500) :
 Calls Tryz.prog 15 #[.int .i64 n] w (GivesN (freshP n) 0 w):=by
 obtain ⟨i0',hi0,hz0,hz1,hz2⟩:=info_parts zqg;have mk:∀ W:World,(Instr.makeSlice 32 (.int .i64 (n:Int)) (.int .i64 (n:Int))).run Tryz.prog W = .ok (.slice (some ⟨W.heap.size,0,none⟩) n n) (W.alloc (.cells (madeCells zK (n*5)) 119)):=fun W=>by
  have hr:=run_make (P:=Tryz.prog) W 32 119 i0' _ Tryz.underlying32 hi0 hz0 .i64 .i64 n n (by omega) (Int.le_refl _) (by rw [hz2];omega) (by omega);simp only [Int.toNat_natCast,hz1] at hr;exact hr
 clear hi0 hz0 hz1 hz2;go_enter Tryz.func15,Tryz.ntmps15;go_wp2_with fail;refine (zqd n _ h).mono ?_;rintro e w1 ⟨v1,v2,v3,rfl,hA,hb⟩;obtain ⟨pg1,cg1,pu1,cu1,pf1,cf1,rfl,rfl,rfl⟩:=hA.form;have HA:=Lib.hid hA;have HB:=Lib.hid hb;have hs1:=hb.size;simp only [World.size_alloc] at hs1;have HT:Hid (w1.heap[w.heap.size]? = some (.cells #[.slice none 0 0,.slice none 0 0,.slice none 0 0,.slice none 0 0] 34 (0,0))):=Lib.hid ((hb.block _ (by simp)).trans (heap_alloc_new w _));clear hA hb;obtain ⟨d0,d1,d2,d3,y0,y1,y2,y3⟩:=block4 HT.out;have ne:w.heap.size≠w1.heap.size:=by omega
 have ne':w1.heap.size≠w.heap.size:=by omega
 have ne2:w.heap.size<w1.heap.size:=by omega
 have ne3:w.heap.size≠w1.heap.size+1:=by omega
 go_wp2_with fail
 go_region
 all_goals go_wp2
 all_goals
  obtain ⟨V,hV⟩:∃ V,V=(((w1.setCell ⟨w.heap.size,0,none⟩ (.slice pg1 (fresh n).gens.length cg1)).setCell ⟨w.heap.size,1,none⟩ (.slice pu1 (fresh n).used.length cu1)).setCell ⟨w.heap.size,2,none⟩ (.slice pf1 (fresh n).free.length cf1)).setCell ⟨w.heap.size,3,none⟩ (.slice (some ⟨w1.heap.size+1,0,none⟩) n n):=⟨_,rfl⟩;have hAV:Ar V (w.heap.size+1) (.slice pg1 (fresh n).gens.length cg1) (.slice pu1 (fresh n).used.length cu1) (.slice pf1 (fresh n).free.length cf1) (fresh n):=by
   rw [hV];exact Ar.set4 (HA.out.drop (by simp)) (by omega) _ _ _ _
  have hBV:Below w.heap.size w V:=by
   rw [hV];exact zbx (((Below.refl _ w).alloc (Nat.le_refl _) _).trans (HB.out.mono (by simp))) (Nat.le_refl _) _ _ _ _
  have hVs:V.heap.size=w1.heap.size:=by rw [hV];simp
  have hVk:V.heap[w.heap.size]? = some (.cells #[.slice pg1 (fresh n).gens.length cg1,.slice pu1 (fresh n).used.length cu1,.slice pf1 (fresh n).free.length cf1,.slice (some ⟨w1.heap.size+1,0,none⟩) n n] 34 (0,0)):=by
   rw [hV];have:=HT.out;simp [World.setCell,Array.getElem?_modify,this]
  rw [<- hV];have hFk:(((V.alloc (.cells #[.slice pg1 (fresh n).gens.length cg1,.slice pu1 (fresh n).used.length cu1,.slice pf1 (fresh n).free.length cf1] 30)).alloc (.cells (madeCells zK (n*5)) 119)).drew).heap[w.heap.size]? = some (.cells #[.slice pg1 (fresh n).gens.length cg1,.slice pu1 (fresh n).used.length cu1,.slice pf1 (fresh n).free.length cf1,.slice (some ⟨w1.heap.size+1,0,none⟩) n n] 34 (0,0)):=by
   show ((V.alloc _).alloc _).heap[w.heap.size]? = _;rw [heap_alloc_old _ _ (by simp;omega),heap_alloc_old _ _ (by omega)];exact hVk
  obtain ⟨k0,k1,k2,k3,-⟩:=block4 hFk;clear hFk hVk;refine bodyPost_ret (v:=.tuple #[.agg #[.slice pg1 (fresh n).gens.length cg1,.slice pu1 (fresh n).used.length cu1,.slice pf1 (fresh n).free.length cf1,.slice (some ⟨w1.heap.size+1,0,none⟩) n n],.int .i64 0]) (by simp [results,Tryz.results15,go_sem,k0,k1,k2,k3]) rfl ⟨_,_,_,_,rfl,?_,?_⟩
  · refine ⟨(hAV.drop (by omega)).below (((Below.refl _ V).alloc (Nat.le_refl _) _).alloc (by simp) _).drew,?_⟩;refine ⟨by rw [zck],.inr ⟨w1.heap.size+1,n,madeCells zK (n*5),by simp [freshP],by omega,?_,by simp [freshP],by unfold maxLen;omega,size_madeCells _ _,?_⟩⟩
    · rw [<- hVs];exact zas V _ _
    · show List.take (List.length (List.replicate n [])*5) _=cvs (List.replicate n []);rw [zsj];exact List.take_of_length_le (by rw [zck];exact Nat.le_refl _)
  · exact ((hBV.alloc (by omega) _).alloc (by simp;omega) _).drew
def GivesI (o:Option (List Int)) (w:World) (en:Ending) (w':World):Prop :=
 ((o=none/\en = .returned (.tuple #[.slice none 0 0,.int .i64 30]))\/(∃ l v,o=some l/\en = .returned (.tuple #[v,.int .i64 0])/\w'.ownsRow w.heap.size 37 1 v l.length (gvs l)))/\Below w.heap.size w w'
theorem zk8 (root:Int) (size:Nat) (vg vu vf vc:Value) (p:Pl) (b n:Nat) (G:Int) (w:World) (hA:PA w b vg vu vf vc p) (hP:PK n G p) (h0:0<=root) (h1:root<=18446744073709551615) (hs:size<=256) :
 Calls Tryz.prog 36 #[.agg #[vg,vu,vf,vc],.agg #[.int .u64 root,.int .i64 size]] w (GivesI (p.items ⟨root,size⟩) w):=by
 obtain ⟨T,hT⟩:∃ T,p.items ⟨root,size⟩=T:=⟨_,rfl⟩;rw [hT];have HT:=Lib.hid hT;clear hT;have hsm:=hP.ok.small;have HA:=Lib.hid hA;have HP:=Lib.hid hP;clear hA hP;obtain ⟨W,hW⟩:∃ W,W=(w.alloc (.cells #[vg,vu,vf,vc] 34)).alloc (.cells #[.int .u64 root,.int .i64 size] 39):=⟨_,rfl⟩;have HW:Hid (Below w.heap.size w W/\W.heap.size=w.heap.size+2/\W.heap[w.heap.size]? = some (.cells #[vg,vu,vf,vc] 34 (0,0))/\W.heap[w.heap.size+1]? = some (.cells #[.int .u64 root,.int .i64 size] 39 (0,0))):=Lib.hid (by
  subst hW;refine ⟨((Below.refl _ w).alloc (Nat.le_refl _) _).alloc (by simp) _,by simp,?_,zas _ _ _⟩;rw [heap_alloc_old _ _ (by simp)];exact heap_alloc_new w _)
 have HWE:=Lib.hid hW;clear hW;go_enter Tryz.func36,Tryz.ntmps36;go_upto_region 1 with fail
 rw [<- HWE.out];clear HWE;obtain ⟨x0,x1,x2,x3,-⟩:=block4 HW.out.2.2.1;obtain ⟨u0,u1⟩:=block2 HW.out.2.2.2;go_wp2_with fail;refine (zfg root size vg vu vf vc p b n G W (HA.out.below HW.out.1) HP.out h0 h1 hs).mono ?_;rintro e w1 ⟨⟨hd,rfl⟩|⟨ls,v1,hd,rfl,hrr⟩,hb1⟩
 · have HB:Hid (Below w.heap.size w w1):=Lib.hid (HW.out.1.trans (hb1.mono (by have:=HW.out.2.1;omega)));obtain rfl:T=none:=by
    rw [<- HT.out,Pl.items];rw [show p.down (lvs (Vc.mk root size).size) [(Vc.mk root size).root]=none from hd]
   clear hb1;go_wp2;go_ret2;exact ⟨.inl ⟨rfl,rfl⟩,HB.out⟩
 · obtain ⟨ll,lrow,lu,lix⟩:=zdm HP.out hd (fun x hx=>by simp at hx;subst hx;exact ⟨h0,h1⟩) (by
    have:4 ^ lvs size<=4 ^ 4:=Nat.pow_le_pow_right (by decide) (zbl size);simp;omega)
   have HD:=Lib.hid hd;have HL:=Lib.hid (And.intro lrow (And.intro lu lix));have HB:Hid (Below w.heap.size w w1):=Lib.hid (HW.out.1.trans (hb1.mono (by have:=HW.out.2.1;omega)));have hl4:ls.length<=4:=by rw [ll];exact zbl _
   obtain ⟨pr,cr,rfl,-,-⟩:=hrr.form;have HRR:=Lib.hid hrr;have HE0:Hid (w1.heap[w.heap.size]? = some (.cells #[vg,vu,vf,vc] 34 (0,0))):=Lib.hid ((hb1.block _ (by have:=HW.out.2.1;omega)).trans HW.out.2.2.1);have hs1:=hb1.size;have hs2:=HW.out.2.1;clear hb1 hd lrow lu lix hrr ll x0 x1 x2 x3 u0 u1;cases ls with
   | nil =>
     obtain rfl:T=some []:=by
      rw [<- HT.out,Pl.items];rw [show p.down (lvs (Vc.mk root size).size) [(Vc.mk root size).root]=some [] from HD.out]
     simp only [List.length_nil] at *;go_wp2;go_ret2;exact ⟨.inr ⟨[],_,rfl,rfl,World.ownsRow_nil _ _ _ _⟩,HB.out⟩
   | cons row rest =>
     obtain rfl:T=some (p.parts row):=by
      rw [<- HT.out,Pl.items];rw [show p.down (lvs (Vc.mk root size).size) [(Vc.mk root size).root]=some (row::rest) from HD.out]
     obtain ⟨gr,hgr,-,hgrl⟩:∃ g,pr=some ⟨g,0,none⟩/\W.heap.size<=g/\g<w1.heap.size:=by
      obtain ⟨vs,h1,-⟩:=HRR.out;exact zab h1 (by simp)
     subst hgr;obtain ⟨rq,rc,hcell,hrow⟩:=HRR.out.row (i:=0) (by simp);have hcell':w1.cell? ⟨gr,0,none⟩=some (.slice rq row.length rc):=hcell;have HRow:Hid (w1.ownsRow W.heap.size 37 1 (.slice rq row.length rc) row.length (gvs row)):=Lib.hid hrow;have hrl:=HL.out.1 row (by simp);have HF:=Lib.hid (HP.out.fit (HL.out.2.1 row (by simp)) (List.all_eq_true.2 (fun h hh=>(HL.out.2.2 row (by simp) h hh).2)));clear hcell hrow;generalize hN:(row::rest).length=N at *;have hN0:¬ (N:Int)=0:=by simp at hN;omega
     have hN1:(0:Int)<(N:Int):=by simp at hN;omega
     have hN2:((N:Int) == 0)=false:=by simp;omega
     have hN3:0<N:=by omega
     have hN4:N≠0:=by omega
     obtain ⟨x0,x1,x2,x3,-⟩:=block4 HE0.out;go_wp2_with fail
     go_region_held3 (fun w'=>w'.cell? ⟨w.heap.size,0,none⟩=some vg/\w'.cell? ⟨w.heap.size,1,none⟩=some vu/\w'.cell? ⟨w.heap.size,2,none⟩=some vf/\w'.cell? ⟨w.heap.size,3,none⟩=some vc/\w'.cell? ⟨gr,0,none⟩=some (.slice rq row.length rc))
      (first
        | go_keep
        | exact HKK.out)
      (first
        | (go_at_call 66
           refine (zd4 row _ W.heap.size vg vu vf vc p b _ (HA.out.below HB.out.drew) HRow.out.drew HF.out (by rw [HP.out.len];omega) (by omega)).mono ?_;rintro e w2 ⟨v2,rfl,ho2,hb2⟩;rw [zac] at ho2;obtain ⟨q2,c2,rfl,-,-,-⟩:=zh ho2;have HO2:=Lib.hid ho2;have HB2:Hid (Below w1.heap.size w1 w2):=Lib.hid ((Below.refl _ w1).drew.trans hb2);have HKK:Hid (w2.cell? ⟨w.heap.size,0,none⟩=some vg/\w2.cell? ⟨w.heap.size,1,none⟩=some vu/\w2.cell? ⟨w.heap.size,2,none⟩=some vf/\w2.cell? ⟨w.heap.size,3,none⟩=some vc/\w2.cell? ⟨gr,0,none⟩=some (.slice rq row.length rc)):=Lib.hid ⟨(HB2.out.cell (p:=⟨w.heap.size,0,none⟩) (show w.heap.size<_ by omega)).trans x0,(HB2.out.cell (p:=⟨w.heap.size,1,none⟩) (show w.heap.size<_ by omega)).trans x1,(HB2.out.cell (p:=⟨w.heap.size,2,none⟩) (show w.heap.size<_ by omega)).trans x2,(HB2.out.cell (p:=⟨w.heap.size,3,none⟩) (show w.heap.size<_ by omega)).trans x3,(HB2.out.cell (p:=⟨gr,0,none⟩) hgrl).trans hcell'⟩;clear ho2 hb2))
     go_wp2;go_ret2;exact ⟨.inr ⟨p.parts row,_,rfl,rfl,zo HO2.out (show w.heap.size<=w1.heap.size by omega)⟩,HB.out.trans (HB2.out.mono (by omega))⟩
theorem zsk (n:Nat) (w:World) (h:n<=100000) :
 Calls Tryz.prog 111 #[.slice none 0 0,.int .i64 n] w (GivesRow 37 [] w):=by
 by_cases hn:n=0
 · subst hn;go_enter Tryz.func111,Tryz.ntmps111;go_wp2;go_ret;exact ⟨_,rfl,World.ownsRow_nil _ _ _ _,Below.refl _ _⟩
 · obtain ⟨i0',hi0,hz0,hz1,hz2⟩:=info_parts za4;have hG0:=grownCap_ge w n 0 37;have hG1:=grownCap_le_maxLen w n 0 37 (by unfold maxLen;omega);have hrz:∀ ty,_:=fun ty=>Lib.run_append_nil_zeros (P:=Tryz.prog) w 26 3 ty 37 i0' (.int .u64 0) .i64 .i64 Tryz.underlying26 Tryz.underlying3 hi0 hz0 n (by omega) (by omega) (by omega) (by rw [hz2];omega)
   generalize grownCap w n 0 37=C at *;unfold maxLen at hG1;have HRZ:=Lib.hid hrz;clear hrz hi0 hz0 hz1 hz2;have h1:(0:Int)<(n:Int):=by omega
   have h2:¬ ((n:Int)<0):=by omega
   go_enter Tryz.func111,Tryz.ntmps111
   go_wp2_with (at_builtin;refine Lib.wpList_append_run _ rfl _ _ _ _ rfl _ _ rfl rfl _ _ (HRZ.out _) ?_)
   all_goals go_ret
   all_goals
    refine ⟨_,rfl,⟨rfl,.inr ⟨w.heap.size,C,_,rfl,Nat.le_refl _,heap_alloc_new w.drew _,Nat.zero_le _,by unfold maxLen;omega,?_,by simp⟩⟩,(Below.refl _ w).drew.alloc (Nat.le_refl _) _⟩;rw [Array.size_append,size_zeroCells,size_zeroCells];simp [Value.cells];omega
theorem zb6 {ls:List (List Int)} {k:Nat} (h:k<ls.length):(ls.take (k+1)).flatten=(ls.take k).flatten++ls.getD k []:=by
 rw [zaa h,getD_at [] h,List.flatten_append];simp
theorem zbn {ls:List (List Int)} {m:Nat} (h:∀ r∈ls,r.length<=m):∀ k,(ls.take k).flatten.length<=m*k
 | 0=>by simp
 | k+1=>by
   have:=zbn h k
   rcases Nat.lt_or_ge k ls.length with hk|hk
   · rw [zb6 hk,List.length_append];have h2:=h (ls.getD k []) (by rw [getD_at [] hk];exact List.getElem_mem _);rw [Nat.mul_succ];omega
   · rw [List.take_of_length_le (by omega)];rw [List.take_of_length_le hk] at this;rw [Nat.mul_succ];omega
theorem zjj (ls:List (List Int)) (v:Value) (b:Nat) (w:World) (hR:RR w b v ls) (hl:ls.length<=4) (hrl:∀ r∈ls,r.length<=256) :
 Calls Tryz.prog 54 #[v] w (GivesRow 37 (gvs ls.flatten) w):=by
 obtain ⟨pr,cr,rfl,-,-⟩:=hR.form;have HR:=Lib.hid hR;have HRL:=Lib.hid hrl;clear hR hrl;obtain ⟨i0',hi0,hz0,hz1,hz2⟩:=info_parts za4;have hI:=Lib.hid hi0;have hZ0:=Lib.hid hz0;have hZ1:=Lib.hid hz1;have hZ2:=Lib.hid hz2;clear hi0 hz0 hz1 hz2;obtain ⟨N,hN⟩:∃ N,ls.length=N:=⟨_,rfl⟩;have HN:=Lib.hid hN;have HRN:Hid (RR w b (.slice pr N cr) ls):=Lib.hid (by rw [<- hN];exact HR.out);rw [hN] at hl ⊢;clear hN HR;have HROW:Hid (∀ k,k<N->∃ (go:Nat) (q:Option Addr) (c:Nat),pr=some ⟨go,0,none⟩/\go<w.heap.size/\w.cell? ⟨go,k,none⟩=some (.slice q (ls.getD k []).length c)/\w.ownsRow b 37 1 (.slice q (ls.getD k []).length c) (ls.getD k []).length (gvs (ls.getD k []))):=Lib.hid (fun k hk=>by
  have hr:=HRN.out;rw [<- HN.out] at hr hk;obtain ⟨go,hgo,-,hgol⟩:∃ g,pr=some ⟨g,0,none⟩/\b<=g/\g<w.heap.size:=by
   obtain ⟨vs,h1,-⟩:=hr;exact zab h1 (by omega)
  subst hgo;obtain ⟨q,c,h1,h2⟩:=hr.row hk;exact ⟨go,q,c,rfl,hgol,h1,h2⟩)
 go_enter Tryz.func54,Tryz.ntmps54;go_wp2
 go_loopw [3,11] (fun z i wr=>∃ (k:Nat),k<=N/\i = .int .i64 k/\z = .int .i64 ((ls.take k).flatten.length:Nat)/\w=wr) (fun _ i _=>N - (intOf i).toNat)
 case atStart => exact ⟨0,Nat.zero_le _,rfl,by simp,rfl⟩
 case round =>
  obtain ⟨k,hk,rfl,rfl,rfl⟩:=hrel;have hfl:=zbn HRL.out k
  by_cases hlt:k<N
  · obtain ⟨go,q,c,hpr,hgol,hc,ho⟩:=HROW.out k hlt;subst hpr;have hfl2:=zbn HRL.out (k+1);have HFT:=Lib.hid (zb6 (ls:=ls) (k:=k) (by rw [HN.out];exact hlt));rw [HFT.out,List.length_append] at hfl2;generalize (ls.take k).flatten=acc at *;generalize ls.getD k []=r at *;have k0:(0:Int)<=(k:Int):=by omega
    have k1:(k:Int)<(N:Int):=by omega
    have a0:¬ ((acc.length:Int)+(r.length:Int)<0):=by omega
    clear ho;go_wp2;go_roundw
    case rel => exact ⟨k+1,by omega,by go_num,by rw [HFT.out,List.length_append];simp,by first|trivial|rfl⟩
    case measure => simp [intOf]<;>omega
  · obtain rfl:k=N:=by omega
    generalize (ls.take k).flatten.length=m at *;go_wp2_with fail;refine (zsk m _ (by omega)).mono ?_;rintro e w1 ⟨v1,rfl,ho1,hb1⟩;obtain ⟨q1,c1,rfl,-,-⟩:=za0 ho1;have HO1:=Lib.hid ho1;have HB1:=Lib.hid hb1;clear ho1 hb1;go_wp2_with fail
    go_loopw [6,27] (fun z i wr=>∃ (j:Nat) (q:Option Addr) (cap:Nat),j<=k/\i = .int .i64 j/\z = .slice q (ls.take j).flatten.length cap/\Hid (wr.ownsRow w.heap.size 37 1 (.slice q (ls.take j).flatten.length cap) (ls.take j).flatten.length (gvs (ls.take j).flatten))/\Hid (Below w.heap.size w wr)) (fun _ i _=>k - (intOf i).toNat)
    case atStart => exact ⟨0,_,_,Nat.zero_le _,rfl,rfl,HO1,HB1⟩
    case round =>
     obtain ⟨j,q,cap,hj,rfl,rfl,HO,HB⟩:=hrel;have hfl':=zbn HRL.out j;have hws:=HB.out.size
     by_cases hjl:j<k
     · obtain ⟨go,rq,rc,hpr,hgol,hc0,ho⟩:=HROW.out j hjl;subst hpr;have hc:=(HB.out.cell (p:=⟨go,j,none⟩) hgol).trans hc0;have HFT:=Lib.hid (zb6 (ls:=ls) (k:=j) (by rw [HN.out];exact hjl));have hrl2:=HRL.out (ls.getD j []) (by rw [getD_at [] (by rw [HN.out];exact hjl)];exact List.getElem_mem _);generalize (ls.take j).flatten=acc at *;generalize ls.getD j []=r at *;have HSr:=Lib.hid (own_below ho HB.out);clear ho hc0;have j0:(0:Int)<=(j:Int):=by omega
       have j1:(j:Int)<(k:Int):=by omega
       rcases HSr.out.2 with ⟨hnil,hn0⟩|⟨gs,scap,scur,hsl,-⟩
       · obtain rfl:r=[]:=List.eq_nil_of_length_eq_zero hn0;have hc2:wr.cell? ⟨go,j,none⟩=some (.slice none 0 0):=by rw [hc,hnil]
         clear hc hnil
         go_wp2_with (at_builtin;refine wpList_append_own_none rfl _ _ 26 rfl w.heap.size 37 i0' 1 Tryz.underlying26 hI.out _ _ _ rfl HO.out rfl ?_)
         go_roundw
         case rel => exact ⟨j+1,q,cap,by omega,by go_num,by rw [HFT.out,List.append_nil],Lib.hid (by rw [HFT.out,List.append_nil];exact HO.out),HB⟩
         case measure => simp [intOf]<;>omega
       · cases hsl
         go_wp2_with (at_builtin; refine wpList_append_own_at _ rfl _ _ 26 rfl w.heap.size 37 i0' (.int .u64 0) 1 8 Tryz.underlying26 hI.out hZ0.out hZ1.out hZ2.out rfl (by decide) _ _ _ rfl HO.out ⟨gs, 0, none⟩ r.length _ (gvs r) rfl (by rw [zac, Nat.mul_one]) (HSr.out.cells rfl) (zcc _) (by unfold maxLen; omega) (by omega) (by omega) ?_; intro v' w5 hown' hgrow _ hat; obtain ⟨q', cap', rfl, -, -, -⟩ := zh hown'
                      have HO':=Lib.hid hown';have HGR:=Lib.hid hgrow;clear hown' hgrow hat)
         go_roundw
         case rel =>
          refine ⟨j+1,q',cap',by omega,by go_num,by rw [HFT.out,List.length_append],Lib.hid ?_,Lib.hid ?_⟩
          · rw [HFT.out,List.length_append,zff];exact HO'.out
          · exact HB.out.grown HGR.out hws (fun q e=>(HO.out.lt q e).1)
         case measure => simp [intOf]<;>omega
     · obtain rfl:j=k:=by omega
       have e:ls.take j=ls:=List.take_of_length_le (by rw [HN.out];exact Nat.le_refl _);have hO:=HO.out;rw [e] at hO;rw [e];go_wp2;go_ret;exact ⟨_,rfl,by rw [zac];exact hO,HB.out⟩
def GivesRe (o:Option (List (List Int))) (w:World) (en:Ending) (w':World):Prop :=
 ∃ v,en = .returned (.tuple #[v,.int .i64 (if o=none then 30 else 0)])/\w'.ownsRow w.heap.size 37 1 v ((o.getD []).flatten).length (gvs (o.getD []).flatten)/\Below w.heap.size w w'
theorem zk9 (root:Int) (size:Nat) (vg vu vf vc:Value) (p:Pl) (b n:Nat) (G:Int) (w:World) (hA:PA w b vg vu vf vc p) (hP:PK n G p) (h0:0<=root) (h1:root<=18446744073709551615) (hs:size<=256) :
 Calls Tryz.prog 23 #[.agg #[vg,vu,vf,vc],.agg #[.int .u64 root,.int .i64 size]] w (GivesRe (p.down (lvs size) [root]) w):=by
 have HA:=Lib.hid hA;have HP:=Lib.hid hP;clear hA hP;obtain ⟨W,hW⟩:∃ W,W=(w.alloc (.cells #[vg,vu,vf,vc] 34)).alloc (.cells #[.int .u64 root,.int .i64 size] 39):=⟨_,rfl⟩;have HW:Hid (Below w.heap.size w W/\W.heap.size=w.heap.size+2/\W.heap[w.heap.size]? = some (.cells #[vg,vu,vf,vc] 34 (0,0))/\W.heap[w.heap.size+1]? = some (.cells #[.int .u64 root,.int .i64 size] 39 (0,0))):=Lib.hid (by
  subst hW;refine ⟨((Below.refl _ w).alloc (Nat.le_refl _) _).alloc (by simp) _,by simp,?_,zas _ _ _⟩;rw [heap_alloc_old _ _ (by simp)];exact heap_alloc_new w _)
 have HWE:=Lib.hid hW;clear hW;obtain ⟨T,hT⟩:∃ T,p.down (lvs size) [root]=T:=⟨_,rfl⟩;have HH:=Lib.hid (fun W hA=>zfg root size vg vu vf vc p b n G W hA HP.out h0 h1 hs);have HD:Hid (∀ ls,T=some ls->ls.length<=4/\(∀ r∈ls,r.length<=256)):=Lib.hid (fun ls hls=>by
  obtain ⟨ll,lrow,-,-⟩:=zdm HP.out (hT.trans hls) (fun x hx=>by simp at hx;subst hx;exact ⟨h0,h1⟩) (by
   have:4 ^ lvs size<=4 ^ 4:=Nat.pow_le_pow_right (by decide) (zbl size);simp;omega)
  exact ⟨by rw [ll];exact zbl _,lrow⟩)
 rw [hT] at HH ⊢;clear hT;go_enter Tryz.func23,Tryz.ntmps23;go_upto_region 1 with fail
 rw [<- HWE.out];clear HWE;obtain ⟨x0,x1,x2,x3,-⟩:=block4 HW.out.2.2.1;obtain ⟨u0,u1⟩:=block2 HW.out.2.2.2;go_wp2_with fail;refine (HH.out W (HA.out.below HW.out.1)).mono ?_;rintro e w1 ⟨⟨hd,rfl⟩|⟨ls,v1,hd,rfl,hrr⟩,hb1⟩
 · subst hd;have HB:Hid (Below w.heap.size w w1):=Lib.hid (HW.out.1.trans (hb1.mono (by have:=HW.out.2.1;omega)));clear hb1;go_wp2_with fail;refine (zjj [] (.slice none 0 0) 0 w1 ⟨[],World.ownsRow_nil _ _ _ _,fun i hi=>by simp at hi⟩ (by simp) (fun r hr=>by simp at hr)).mono ?_;rintro e w2 ⟨v2,rfl,ho2,hb2⟩;have HO2:=Lib.hid ho2;have HB2:=Lib.hid hb2;clear ho2 hb2;go_wp2;go_ret2;exact ⟨_,rfl,zo HO2.out HB.out.size,HB.out.trans (HB2.out.mono HB.out.size)⟩
 · subst hd;obtain ⟨hl4,hlr⟩:=HD.out ls rfl;have HLR:=Lib.hid hlr;have HB:Hid (Below w.heap.size w w1):=Lib.hid (HW.out.1.trans (hb1.mono (by have:=HW.out.2.1;omega)));have HRR:=Lib.hid hrr;obtain ⟨pr,cr,rfl,-,-⟩:=hrr.form;clear hb1 hrr hlr;go_wp2_with fail;refine (zjj ls _ _ w1 HRR.out hl4 HLR.out).mono ?_;rintro e w2 ⟨v2,rfl,ho2,hb2⟩;rw [zac] at ho2;have HO2:=Lib.hid ho2;have HB2:=Lib.hid hb2;clear ho2 hb2;go_wp2;go_ret2;exact ⟨_,rfl,zo HO2.out HB.out.size,HB.out.trans (HB2.out.mono HB.out.size)⟩
def Pl.get (p:Pl) (i:Nat):Nat->Int->Option Int
 | 0,x=>some x
 | L+1,x=>if p.st.lv x then p.get i L (it (p.at x) (i / 4 ^ L % 4)) else none
theorem digit4 (i k:Nat) (w:World) (h1:i<=255) (hk:k<=3) :
 Calls Tryz.prog 149 #[.int .u32 i,.int .i64 k] w fun e w'=>e = .returned (.int .i64 ((i / 4 ^ k % 4:Nat):Int))/\w=w':=by
 have hp:(2:Int) ^ (2*k)=((4 ^ k:Nat):Int):=by
  rw [show (4:Nat) ^ k=2 ^ (2*k) by rw [Nat.pow_mul]];simp
 have hx1:((i:Int) / ((4 ^ k:Nat):Int))=((i / 4 ^ k:Nat):Int):=by simp
 have hle:i / 4 ^ k<=i:=Nat.div_le_self _ _;have hm:bits .and .u32 ((i:Int) / (2:Int) ^ (2*k)) 3=((i / 4 ^ k % 4:Nat):Int):=by
  rw [hp,hx1];generalize i / 4 ^ k=y at *;have h:=bits_mask .u32 32 (by decide) wraps_u32 2 (by decide) (y:Int) (by omega) (by omega);rw [show ((y % 4:Nat):Int)=(y:Int) % 4 by omega];simpa using h
 have hd:i / 4 ^ k % 4<=3:=by omega
 have Hm:=Lib.hid hm;clear hm hp hx1 hle;generalize i / 4 ^ k % 4=d at *;have h0:(0:Int)<=(k:Int):=by omega
 go_enter Tryz.func149,Tryz.ntmps149;go_wp2;go_ret;exact ⟨zeo (by rw [Hm.out,IntWalk.wrap64_in _ (by omega)]),rfl⟩
theorem zub:Tryz.prog.underlying 119=some (.struct (Tryz.prog.fieldsOf 119)):=by kernel_rfl
theorem zuc:((Tryz.prog.fieldsOf 119)[1]?).map (fun f=>(f.type,f.offset))=some (117,1):=by kernel_rfl
theorem zvc:(Tryz.prog.info? 117).map (fun i=>(i.zero,i.size,i.bytes))=some (some (.agg #[.int .u64 0,.int .u64 0,.int .u64 0,.int .u64 0]),4,32):=by kernel_rfl
theorem zsl (W:World):(sizeOf 117).run Tryz.prog W = .ok 4 W:=by
 obtain ⟨i,hi,-⟩:=info_parts zvc;rw [run_sizeOf W hi];exact congrArg (fun n=>Result.ok n W) (show Tryz.prog.cellsOf 117=4 by kernel_rfl)
theorem zon (n a b c d:Value) (W:World):(Instr.field 119 (.agg #[n,a,b,c,d]) 1).run Tryz.prog W = .ok (.agg #[a,b,c,d]) W:=by
 obtain ⟨f,hf,he⟩:=Option.map_eq_some_iff.1 zuc;have h1:f.type=117:=congrArg Prod.fst he;have h2:f.offset=1:=congrArg Prod.snd he;have h86:Tryz.prog.underlying 117=some (.array 4 37):=by kernel_rfl
 simp [Instr.field,run_underlying zub,hf,h1,h2,part,isAgg,run_underlying h86,zsl,asAgg]
theorem zdc (a b c d v:Value) (k:Nat) (hv:#[a,b,c,d][k]? = some v) (hk:k<4) (W:World):(Instr.index 117 (.agg #[a,b,c,d]) (.int .i64 (k:Int))).run Tryz.prog W = .ok v W:=by
 have h86:Tryz.prog.underlying 117=some (.array 4 37):=by kernel_rfl
 have h:=zcl #[a,b,c,d] (k*1) v (by rw [Nat.mul_one];exact hv) W;have h0:(0:Int)<=(k:Int)/\(k:Int)<((4:Nat):Int):=by omega
 simp only [Instr.index,asIntOf,Sem.run_bind,Sem.run_pure,Result.andThen_ok,run_underlying h86,if_pos h0,zk4,Int.toNat_natCast,h]
def GivesG (o:Option Int) (w:World) (en:Ending) (w':World):Prop :=
 ((o=none/\en = .returned (.tuple #[.int .u64 0,.int .i64 30]))\/(∃ x,o=some x/\en = .returned (.tuple #[.int .u64 x,.int .i64 0])))/\Below w.heap.size w w'
theorem zqo (root:Int) (size i:Nat) (vg vu vf vc:Value) (p:Pl) (b n:Nat) (G:Int) (w:World) (hA:PA w b vg vu vf vc p) (hP:PK n G p) (h0:0<=root) (h1:root<=18446744073709551615) (hs:size<=256) (hi:i<size) :
 Calls Tryz.prog 112 #[.agg #[vg,vu,vf,vc],.agg #[.int .u64 root,.int .i64 size],.int .i64 i] w (GivesG (p.get i (lvs size) root) w):=by
 have hsm:=hP.ok.small;have HA:=Lib.hid hA;have HP:=Lib.hid hP;clear hA hP;have HL:=Lib.hid (fun w=>zfe size w hs);have hL4:=zbl size;generalize lvs size=L at *;obtain ⟨W,hW⟩:∃ W,W=(w.alloc (.cells #[vg,vu,vf,vc] 34)).alloc (.cells #[.int .u64 root,.int .i64 size] 39):=⟨_,rfl⟩;have HW:Hid (Below w.heap.size w W/\W.heap.size=w.heap.size+2/\W.heap[w.heap.size]? = some (.cells #[vg,vu,vf,vc] 34 (0,0))/\W.heap[w.heap.size+1]? = some (.cells #[.int .u64 root,.int .i64 size] 39 (0,0))):=Lib.hid (by
  subst hW;refine ⟨((Below.refl _ w).alloc (Nat.le_refl _) _).alloc (by simp) _,by simp,?_,zas _ _ _⟩;rw [heap_alloc_old _ _ (by simp)];exact heap_alloc_new w _)
 have HWE:=Lib.hid hW;clear hW;have i0:(0:Int)<=(i:Int):=by omega
 have i1:¬ ((i:Int)<0):=by omega
 have i2:(i:Int)<(size:Int):=by omega
 have i3:¬ ((size:Int)<=(i:Int)):=by omega
 have i4:(i:Int) % 4294967296=(i:Int):=by omega
 go_enter Tryz.func112,Tryz.ntmps112;go_upto_region 1 with fail
 rw [<- HWE.out];clear HWE;obtain ⟨u0,u1⟩:=block2 HW.out.2.2.2
 go_wp2_with (go_at_call 108;refine (HL.out _).mono ?_;rintro e w' ⟨rfl,rfl⟩)
 go_loopw [8,9] (fun x l wr=>∃ (r:Nat) (h:Int),l = .int .i64 ((r:Int) - 1)/\x = .int .u64 h/\r<=L/\0<=h/\h<=18446744073709551615/\Hid (p.get i L root=p.get i r h)/\Hid (Below (w.heap.size+2) W wr)) (fun _ l _=>(intOf l+1).toNat)
 case atStart => exact ⟨L,root,rfl,rfl,Nat.le_refl _,h0,h1,Lib.hid rfl,Lib.hid (Below.refl _ _)⟩
 case round =>
  obtain ⟨r,h,rfl,rfl,hr,g0,g1,HE,HB⟩:=hrel;have HKr:Hid (wr.heap[w.heap.size]? = some (.cells #[vg,vu,vf,vc] 34 (0,0))):=Lib.hid ((HB.out.block _ (by omega)).trans HW.out.2.2.1);have HBw:Hid (Below w.heap.size w wr):=Lib.hid (HW.out.1.trans (HB.out.mono (by omega)));have HAr:=Lib.hid (HA.out.below HBw.out);have hsz:w.heap.size+2<=wr.heap.size:=by have:=HB.out.size;have:=HW.out.2.1;omega
  obtain ⟨x0,x1,x2,x3,-⟩:=block4 HKr.out;cases r with
  | zero =>
    go_wp2;go_ret2;exact ⟨.inr ⟨h,by rw [HE.out];rfl,rfl⟩,HBw.out⟩
  | succ r =>
    have hr1:((r+1:Nat):Int) - 1=(r:Int):=by omega
    rw [hr1];have hr0:(0:Int)<=(r:Int):=by omega
    go_wp2_with fail;refine (liveO HP.out.ok HAr.out.ar g0 g1).mono ?_;rintro e w1 ⟨rfl,hb1⟩;have HB1:Hid (Below (w.heap.size+2) W w1):=Lib.hid (HB.out.trans (hb1.mono hsz));have hs1:=hb1.size;clear hb1
    rcases Bool.eq_false_or_eq_true (p.st.lv h) with hv|hv
    · rw [hv];have HV:=Lib.hid hv;clear hv;have HB1w:Hid (Below w.heap.size w w1):=Lib.hid (HW.out.1.trans (HB1.out.mono (by omega)));have HK1:Hid (w1.heap[w.heap.size]? = some (.cells #[vg,vu,vf,vc] 34 (0,0))):=Lib.hid ((HB1.out.block _ (by omega)).trans HW.out.2.2.1);clear x0 x1 x2 x3;obtain ⟨x0,x1,x2,x3,-⟩:=block4 HK1.out;have HIX:Hid (ix h<p.ch.length):=Lib.hid (by
       obtain ⟨j,hj,hjn,-⟩:=HP.out.ok.live HV.out;rw [HP.out.len];unfold ix;omega)
      have hCH:=zgd h vg vu vf vc p b w1 (HA.out.below HB1w.out) g0 g1 HIX.out (by rw [HP.out.len];omega);have HU:Hid (∀ d,0<=it (p.at h) d/\it (p.at h) d<=18446744073709551615):=Lib.hid (fun d=>by
       have:=(HP.out.at h).2;unfold it
       rcases Nat.lt_or_ge d (p.at h).length with hd|hd
       · rw [getD_at 0 hd];exact this _ (List.getElem_mem _)
       · rw [List.getD,List.getElem?_eq_none hd];simp)
      have HGT:Hid (p.get i (r+1) h=p.get i r (it (p.at h) (i / 4 ^ r % 4))):=Lib.hid (by rw [Pl.get,if_pos HV.out]);have hd4:i / 4 ^ r % 4=0\/i / 4 ^ r % 4=1\/i / 4 ^ r % 4=2\/i / 4 ^ r % 4=3:=by omega
      have HDG:=Lib.hid (fun w=>digit4 i r w (by omega) (by omega));generalize i / 4 ^ r % 4=d at *;unfold cval at hCH;generalize p.at h=c at *;have HCH:=Lib.hid hCH;clear hCH;go_wp2_with fail;refine HCH.out.mono ?_;rintro e w2 ⟨rfl,hb2⟩;have hFL:=zon (.int .i64 c.length) (.int .u64 (it c 0)) (.int .u64 (it c 1)) (.int .u64 (it c 2)) (.int .u64 (it c 3));have HB2:Hid (Below (w.heap.size+2) W w2):=Lib.hid (HB1.out.trans (hb2.mono (by omega)));clear hb2;go_wp2_with fail;refine (HDG.out _).mono ?_;rintro e w3 ⟨rfl,rfl⟩;have HD4:=Lib.hid hd4;clear hd4;have hX0:=zdc (.int .u64 (it c 0)) (.int .u64 (it c 1)) (.int .u64 (it c 2)) (.int .u64 (it c 3)) _ 0 rfl (by decide);have hX1:=zdc (.int .u64 (it c 0)) (.int .u64 (it c 1)) (.int .u64 (it c 2)) (.int .u64 (it c 3)) _ 1 rfl (by decide);have hX2:=zdc (.int .u64 (it c 0)) (.int .u64 (it c 1)) (.int .u64 (it c 2)) (.int .u64 (it c 3)) _ 2 rfl (by decide);have hX3:=zdc (.int .u64 (it c 0)) (.int .u64 (it c 1)) (.int .u64 (it c 2)) (.int .u64 (it c 3)) _ 3 rfl (by decide);simp only [Int.natCast_zero,Int.natCast_one,show ((2:Nat):Int)=2 from rfl,show ((3:Nat):Int)=3 from rfl] at hX0 hX1 hX2 hX3
      rcases HD4.out with rfl|rfl|rfl|rfl
      all_goals
       go_wp2;go_roundw
       case rel => exact ⟨r,_,rfl,rfl,by omega,(HU.out _).1,(HU.out _).2,Lib.hid (by rw [HE.out,HGT.out]),HB2⟩
       case measure => simp [intOf]<;>omega
    · rw [hv];have HV:=Lib.hid hv;clear hv;go_wp2;go_ret2;refine ⟨.inl ⟨?_,rfl⟩,HW.out.1.trans (HB1.out.mono (by omega))⟩;rw [HE.out,Pl.get,if_neg (by rw [HV.out];decide)]
def B64 (h:Int):Prop:=0<=h/\h<=18446744073709551615
def Ext (p q:Pl):Prop:=∀ h,p.st.lv h=true->q.st.lv h=true/\q.at h=p.at h
theorem Ext.refl (p:Pl):Ext p p:=fun h hl=>⟨hl,rfl⟩
theorem Ext.trans {p q r:Pl} (a:Ext p q) (b:Ext q r):Ext p r:=fun h hl=>⟨(b h (a h hl).1).1,(b h (a h hl).1).2.trans (a h hl).2⟩
theorem zvd {n:Nat} {G:Int} {p:Pl} (hP:PK n G p) {fr:List Int} {i:Nat} (hfr:p.st.free=fr++[(i:Int)]) (c:List Int):Ext p (p.tk i c):=by
 intro h hl;refine ⟨zc2 hl,?_⟩;obtain ⟨j,hj,hjn,hu,hg⟩:=hP.ok.live hl;have hf:p.st.used.getD i false=false:=hP.ok.free i (by rw [hfr];simp);have hne:i≠ix h:=by
  unfold ix;intro e;have:j=i:=by omega
  rw [this,hf] at hu;cases hu
 show (p.ch.set i c).getD (ix h) []=p.ch.getD (ix h) [];rw [zad,if_neg (fun hc=>hne hc.1)]
structure Spec1 (n:Nat) (G:Int) (p q:Pl) (y:Int) (c:List Int):Prop where
 pk:PK n G q
 ext:Ext p q
 lv:q.st.lv y=true
 at_:q.at y=c
 b64:B64 y
 nz:y≠0
theorem zih {n:Nat} {G:Int} {p:Pl} (hP:PK n G p) (hG:G<=1099511627775) {x:Int} {c:List Int} (h4:c.length<=4) (hc:U64 c) (hx:x≠0->p.st.lv x=true/\B64 x) {q:Pl} {y:Int} (he:p.place x c=some (q,y)):Spec1 n G p q y c:=by
 obtain ⟨hq,hy⟩:=zig hP hG h4 hc (fun a=>(hx a).2) he;unfold Pl.place at he
 split at he
 · rename_i hc'
   cases he;exact ⟨hP,Ext.refl _,(hx hc'.1).1,hc'.2,hy,hc'.1⟩
 · by_cases hf:p.st.free=[]
   · rw [hf] at he;cases he
   · obtain ⟨fr,i,hfr,hi⟩:=hP.ok.last hf;rw [hfr,List.getLast?_concat] at he;cases he;have hs:=hP.ok.small;have hg:=hP.ok.gen hi;rw [Int.toNat_natCast] at hq hy ⊢;refine ⟨hq,zvd hP hfr c,zd3 (by rw [hP.ok.used];exact hi) (by omega),?_,hy,by unfold hd;omega⟩;show (p.ch.set i c).getD (ix (hd i (p.st.gens.getD i 0))) []=c;have:ix (hd i (p.st.gens.getD i 0))=i:=by unfold ix;rw [zdq (by omega)];simp
     rw [this,zad,if_pos ⟨rfl,by rw [hP.len];exact hi⟩]
def Lv (p:Pl) (l:List Int):Prop:=∀ x∈l,p.st.lv x=true/\B64 x/\x≠0
theorem Lv.ext {p q:Pl} {l:List Int} (h:Lv p l) (e:Ext p q):Lv q l:=fun x hx=>⟨(e x (h x hx).1).1,(h x hx).2⟩
theorem Lv.all {p:Pl} {l:List Int} (h:Lv p l):l.all p.st.lv=true:=List.all_eq_true.2 fun x hx=>(h x hx).1
theorem zii {p q:Pl} {l:List Int} (h:Lv p l) (e:Ext p q):l.map q.at=l.map p.at:=List.map_congr_left fun x hx=>(e x (h x hx).1).2
def CsOk (cs:List (List Int)):Prop:=∀ c∈cs,c.length<=4/\U64 c
theorem zgf {l:List Int} (h:l.headD 0≠0):l.headD 0∈l:=by cases l<;>simp at h ⊢
theorem zgg {n:Nat} {G:Int} (hG:G<=1099511627775):∀ {cs:List (List Int)} {p q:Pl} {old row:List Int},PK n G p->CsOk cs->(∀ x∈old,x≠0->p.st.lv x=true/\B64 x)->p.lays old cs=some (q,row)->PK n G q/\Ext p q/\row.map q.at=cs/\Lv q row
 | [],p,q,old,row,hP,_,_,he=>by cases he;exact ⟨hP,Ext.refl _,rfl,fun x hx=>by simp at hx⟩
 | c::cs,p,q,old,row,hP,hcs,ho,he=>by
   rw [za6] at he
   split at he
   · cases he
   · rename_i q1 y hpl
     obtain ⟨r,h1,h2⟩:=Option.map_eq_some_iff.1 he;cases h2;have s:=zih hP hG (hcs c (by simp)).1 (hcs c (by simp)).2 (fun hne=>ho _ (zgf hne) hne) hpl;obtain ⟨a,b,d,e⟩:=zgg hG (old:=old.tail) s.pk (fun c hc=>hcs c (by simp [hc])) (fun x hx hne=>⟨(s.ext x (ho x (List.mem_of_mem_tail hx) hne).1).1,(ho x (List.mem_of_mem_tail hx) hne).2⟩) h1;refine ⟨a,s.ext.trans b,?_,fun x hx=>?_⟩
     · rw [List.map_cons,(b y s.lv).2,s.at_,d]
     · rcases List.mem_cons.1 hx with rfl|hx
       · exact ⟨(b x s.lv).1,s.b64,s.nz⟩
       · exact e x hx
def Tr (p:Pl):List (List Int)->List Int->Prop
 | [],_=>True
 | row::rows,below=>row.map p.at=fours (qs below.length) below/\Lv p row/\Tr p rows row
theorem Tr.ext {p q:Pl} (e:Ext p q):∀ {rows:List (List Int)} {below:List Int},Tr p rows below->Tr q rows below
 | [],_,_=>trivial
 | row::rows,below,h=>⟨(zii h.2.1 e).trans h.1,h.2.1.ext e,Tr.ext e h.2.2⟩
theorem zfj:∀ (m:Nat) {l:List Int},U64 l->CsOk (fours m l)
 | 0,l,h=>fun c hc=>by simp [fours] at hc
 | m+1,l,h=>fun c hc=>by
   rcases List.mem_cons.1 hc with rfl|hc
   · exact ⟨by simp;omega,h.take 4⟩
   · exact zfj m (h.drop 4) c hc
theorem Lv.u64 {p:Pl} {l:List Int} (h:Lv p l):U64 l:=fun x hx=>(h x hx).2.1
theorem zqp {ls:List (List Int)} {x:Int} (h:x∈ls.headD []):∃ r∈ls,x∈r:=by
 cases ls with
 | nil=>simp at h
 | cons r t=>exact ⟨r,by simp,h⟩
theorem zcm {n:Nat} {G:Int} (hG:G<=1099511627775):∀ {L:Nat} {p q:Pl} {old rows:List (List Int)} {below:List Int},PK n G p->U64 below->(∀ r∈old,Lv p r)->p.raise old L below=some (q,rows)->PK n G q/\Ext p q/\Tr q rows below/\rows.length=L
 | 0,p,q,old,rows,below,hP,_,_,he=>by cases he;exact ⟨hP,Ext.refl _,trivial,rfl⟩
 | L+1,p,q,old,rows,below,hP,hU,ho,he=>by
   rw [zaw] at he
   split at he
   · cases he
   · rename_i q1 row hl
     obtain ⟨r,h1,h2⟩:=Option.map_eq_some_iff.1 he;cases h2;obtain ⟨a,b,c,d⟩:=zgg hG hP (zfj _ hU) (fun x hx _=>by obtain ⟨r,hr,hxr⟩:=zqp hx;exact ⟨(ho r hr x hxr).1,(ho r hr x hxr).2.1⟩) hl;obtain ⟨a2,b2,c2,d2⟩:=zcm hG (old:=old.tail) a d.u64 (fun r hr=>(ho r (List.mem_of_mem_tail hr)).ext b) h1;exact ⟨a2,b.trans b2,⟨(zii d b2).trans c,d.ext b2,c2⟩,by simp [d2]⟩
def need:Nat->Nat->Nat
 | 0,_=>0
 | L+1,m=>qs m+need L (qs m)
theorem zjk:∀ {cs:List (List Int)} {p:Pl} {old:List Int},cs.length<=p.st.free.length->∃ q row,p.lays old cs=some (q,row)/\p.st.free.length<=q.st.free.length+cs.length
 | [],p,old,_=>⟨p,[],rfl,by simp⟩
 | c::cs,p,old,h=>by
   have hp:∃ q y,p.place (old.headD 0) c=some (q,y)/\p.st.free.length<=q.st.free.length+1:=by
    unfold Pl.place
    split
    · exact ⟨p,_,rfl,by omega⟩
    · cases hl:p.st.free.getLast? with
      | none=>rw [List.getLast?_eq_none_iff] at hl;rw [hl] at h;simp at h
      | some i=>exact ⟨_,_,rfl,by simp [Pl.tk,St.tk];omega⟩
   obtain ⟨q,y,h1,h2⟩:=hp;obtain ⟨q2,row,h3,h4⟩:=zjk (cs:=cs) (p:=q) (old:=old.tail) (by simp at h;omega);refine ⟨q2,y::row,by rw [za6,h1];simp [h3],by simp;omega⟩
theorem zdd:∀ {L:Nat} {p:Pl} {old:List (List Int)} {below:List Int},need L below.length<=p.st.free.length->∃ q rows,p.raise old L below=some (q,rows)/\p.st.free.length<=q.st.free.length+need L below.length
 | 0,p,old,below,_=>⟨p,[],rfl,by simp [need]⟩
 | L+1,p,old,below,h=>by
   rw [need] at h;obtain ⟨q,row,h1,h2⟩:=zjk (cs:=fours (qs below.length) below) (p:=p) (old:=old.headD []) (by rw [zbs];omega);have hr:=zhn h1;rw [zbs] at hr h2;obtain ⟨q2,rows,h3,h4⟩:=zdd (L:=L) (p:=q) (old:=old.tail) (below:=row) (by rw [hr];omega);refine ⟨q2,row::rows,by rw [zaw,h1];simp [h3],?_⟩;rw [need,hr] at *;omega
theorem zij:∀ (m:Nat) (l:List Int),l.length<=4*m->(fours m l).flatten=l
 | 0,l,h=>by
   have:l=[]:=List.eq_nil_of_length_eq_zero (by omega);subst this;rfl
 | m+1,l,h=>by
   rw [fours,List.flatten_cons,zij m _ (by simp;omega),List.take_append_drop]
theorem zla {p:Pl} {row below:List Int} (h:row.map p.at=fours (qs below.length) below):p.parts row=below:=by
 rw [Pl.parts,List.flatMap_def,h];exact zij _ _ (by unfold qs;omega)
theorem zlb {p:Pl}:∀ {L:Nat} {row:List Int} {ls:List (List Int)},p.down L row=some ls->ls.length=L
 | 0,row,ls,h=>by cases h;rfl
 | L+1,row,ls,h=>by
   rw [Pl.down] at h
   split at h
   · obtain ⟨x,h1,rfl⟩:=Option.map_eq_some_iff.1 h;simp [zlb h1]
   · cases h
theorem zjl {p:Pl}:∀ {k:Nat} {top r0:List Int} {rest:List (List Int)},p.down k top=some (r0::rest)->p.down (k+1) top=if (p.parts r0).all p.st.lv then some (p.parts r0::r0::rest) else none
 | 0,top,r0,rest,h=>by cases h
 | k+1,top,r0,rest,h=>by
   rw [Pl.down] at h
   split at h
   · rename_i hall
     obtain ⟨ls,h1,h2⟩:=Option.map_eq_some_iff.1 h;rw [Pl.down,if_pos hall];cases ls with
     | nil =>
       have hk:=zlb h1;simp at hk;subst hk;simp at h2;obtain ⟨rfl,rfl⟩:=h2;rw [Pl.down,Pl.down]
       split<;>rfl
     | cons r0' ls' =>
       simp at h2;obtain ⟨rfl,rfl⟩:=h2;rw [zjl h1]
       split<;>simp
   · cases h
theorem znb {p:Pl}:∀ {rows:List (List Int)} {below:List Int} (hne:rows≠[]),Tr p rows below->p.down rows.length (rows.getLast hne)=some rows
 | [],_,hne,_=>absurd rfl hne
 | [row],below,_,h=>by
   show p.down 1 row=some [row];rw [Pl.down,if_pos h.2.1.all];rfl
 | row::r0::rest,below,_,h=>by
   have ih:=znb (rows:=r0::rest) (by simp) h.2.2;have:=zjl ih;rw [zla h.2.2.1,if_pos h.2.1.all] at this;rw [List.getLast_cons (by simp)];exact this
def itq:Nat->Nat->Nat
 | 0,m=>m
 | L+1,m=>itq L (qs m)
theorem itq_1:∀ m,m<201->0<m->itq (lvs m) m=1:=by decide +kernel
theorem znc {p:Pl}:∀ {rows:List (List Int)} {below:List Int} (hne:rows≠[]),Tr p rows below->(rows.getLast hne).length=itq rows.length below.length
 | [],_,hne,_=>absurd rfl hne
 | [row],below,_,h=>by
   have:=congrArg List.length h.1;rw [List.length_map,zbs] at this;exact this
 | row::r0::rest,below,_,h=>by
   have ih:=znc (rows:=r0::rest) (by simp) h.2.2;have:=congrArg List.length h.1;rw [List.length_map,zbs] at this;rw [List.getLast_cons (by simp),ih,this];rfl
structure WF (p:Pl) (v:Vc) (l:List Int) (rows:List (List Int)):Prop where
 size:v.size=l.length
 small:l.length<=200
 u64:U64 l
 len:rows.length=lvs l.length
 tr:Tr p rows l
 root:v.root=atR rows (rows.length - 1) 0
theorem zlc {n:Nat} (h:lvs n=0):n=0:=by
 rcases Nat.eq_zero_or_pos n with h'|h'
 · exact h'
 · have:=zi0 h';omega
theorem WF.top {p:Pl} {v:Vc} {l:List Int} {rows:List (List Int)} (h:WF p v l rows) (hne:rows≠[]):rows.getLast hne=[v.root]:=by
 have h1:=znc hne h.tr;have hp:0<l.length:=by
  rcases Nat.eq_zero_or_pos l.length with h'|h'
  · have:=h.len;rw [h'] at this;exact absurd (List.eq_nil_of_length_eq_zero this) hne
  · exact h'
 rw [h.len,itq_1 _ (by have:=h.small;omega) hp] at h1;have hr:=h.root;unfold atR at hr;have hl:rows.length - 1<rows.length:=by have:=List.length_pos_iff.2 hne;omega
 rw [getD_at [] hl,<- List.getLast_eq_getElem hne] at hr;generalize rows.getLast hne=t at *
 match t,h1 with
 | [x],_=>rw [hr];rfl
theorem WF.down {p:Pl} {v:Vc} {l:List Int} {rows:List (List Int)} (h:WF p v l rows):p.down (lvs v.size) [v.root]=some rows:=by
 rw [h.size]
 by_cases hne:rows=[]
 · have:=h.len;rw [hne] at this ⊢;rw [<- this];rfl
 · rw [<- h.len,<- h.top hne];exact znb hne h.tr
theorem WF.items {p:Pl} {v:Vc} {l:List Int} {rows:List (List Int)} (h:WF p v l rows):p.items v=some l:=by
 unfold Pl.items;rw [h.down];cases rows with
 | nil =>
   have:=h.len;have hz:=zlc this.symm;rw [List.eq_nil_of_length_eq_zero hz]
 | cons row rest=>simp only [zla h.tr.1]
theorem zds {p:Pl}:∀ {rows:List (List Int)} {below:List Int},Tr p rows below->∀ r∈rows,Lv p r
 | [],_,_,r,hr=>by simp at hr
 | row::rows,below,h,r,hr=>by
   rcases List.mem_cons.1 hr with rfl|hr
   · exact h.2.1
   · exact zds h.2.2 r hr
theorem WF.ext {p q:Pl} {v:Vc} {l:List Int} {rows:List (List Int)} (h:WF p v l rows) (e:Ext p q):WF q v l rows:=⟨h.size,h.small,h.u64,h.len,h.tr.ext e,h.root⟩
theorem WF.b64 {p:Pl} {v:Vc} {l:List Int} {rows:List (List Int)} (h:WF p v l rows):0<=v.root/\v.root<=18446744073709551615:=by
 by_cases hne:rows=[]
 · have:=h.root;rw [hne] at this;rw [this];decide
 · have:=(zds h.tr _ (List.getLast_mem hne) v.root (by rw [h.top hne];simp)).2.1;exact this
theorem WF.empty (p:Pl):WF p ⟨0,0⟩ [] []:=⟨rfl,by simp,fun x hx=>by simp at hx,rfl,trivial,rfl⟩
theorem zcd {n:Nat} {G:Int} {p:Pl} {v:Vc} {l items:List Int} {old:List (List Int)} (hP:PK n G p) (hG:G<=1099511627775) (hv:WF p v l old) (hi:items.length<=200) (hU:U64 items) {q:Pl} {rows:List (List Int)} (he:p.raise old (lvs items.length) items=some (q,rows)) :
 p.change v items=⟨q,⟨atR rows (rows.length - 1) 0,items.length⟩,left rows 0 old,0⟩/\PK n G q/\Ext p q/\WF q ⟨atR rows (rows.length - 1) 0,items.length⟩ items rows:=by
 obtain ⟨a,b,c,d⟩:=zcm hG hP hU (zds hv.tr) he;refine ⟨?_,a,b,⟨rfl,hi,hU,d,c,rfl⟩⟩;rw [Pl.change,if_neg (by omega),hv.down];simp only [he]
theorem zld:∀ (m:Nat) (l:List Int) (j:Nat),j<m->(fours m l).getD j []=(l.drop (4*j)).take 4
 | 0,l,j,h=>by omega
 | m+1,l,0,h=>by simp [fours]
 | m+1,l,j+1,h=>by
   rw [fours,List.getD_cons_succ,zld m _ j (by omega),List.drop_drop];congr 2;omega
theorem zud (l:List Int) (j d:Nat) (h:d<4):it ((l.drop (4*j)).take 4) d=l.getD (4*j+d) 0:=by
 unfold it;rw [List.getD,List.getElem?_take,if_pos h,List.getElem?_drop,List.getD]
theorem zqq {p:Pl} {row below:List Int} (h:row.map p.at=fours (qs below.length) below) {i:Nat} (hi:i<below.length):i / 4<row.length/\it (p.at (row.getD (i / 4) 0)) (i % 4)=below.getD i 0:=by
 have hl:=congrArg List.length h;rw [List.length_map,zbs] at hl;have hj:i / 4<row.length:=by rw [hl];unfold qs;omega
 refine ⟨hj,?_⟩;have e:p.at (row.getD (i / 4) 0)=(fours (qs below.length) below).getD (i / 4) []:=by
  rw [<- h,getD_at [] (by rw [List.length_map];exact hj),List.getElem_map,getD_at 0 hj]
 rw [e,zld _ _ _ (by rw [<- hl];exact hj),zud _ _ _ (by omega)];congr 1;omega
theorem zjm {p:Pl} (i:Nat):∀ (L:Nat) (x:Int),p.get i (L+1) x=(p.get (i / 4) L x).bind (fun y=>if p.st.lv y then some (it (p.at y) (i % 4)) else none)
 | 0,x=>by
   rw [Pl.get,Pl.get,Option.bind_some];simp [Pl.get]
 | L+1,x=>by
   have h1:p.get i (L+1+1) x=if p.st.lv x then p.get i (L+1) (it (p.at x) (i / 4 ^ (L+1) % 4)) else none:=rfl
   have h2:p.get (i / 4) (L+1) x=if p.st.lv x then p.get (i / 4) L (it (p.at x) (i / 4 / 4 ^ L % 4)) else none:=rfl
   rw [h1,h2]
   split
   · rw [zjm i L,Nat.div_div_eq_div_mul,Nat.mul_comm 4,<- Nat.pow_succ]
   · rfl
theorem zqr {p:Pl}:∀ {rows:List (List Int)} {below:List Int} (hne:rows≠[]) {i:Nat},Tr p rows below->i<below.length->p.get i rows.length ((rows.getLast hne).getD (i / 4 ^ rows.length) 0)=some (below.getD i 0)
 | [],_,hne,_,_,_=>absurd rfl hne
 | [row],below,_,i,h,hi=>by
   obtain ⟨a,b⟩:=zqq h.1 hi;show p.get i 1 (row.getD (i / 4 ^ 1) 0)=_;rw [Nat.pow_one,Pl.get,if_pos (by rw [getD_at 0 a];exact (h.2.1 _ (List.getElem_mem _)).1),Pl.get,Nat.pow_zero,Nat.div_one,b]
 | row::r0::rest,below,_,i,h,hi=>by
   obtain ⟨a,b⟩:=zqq h.1 hi;have ih:=zqr (rows:=r0::rest) (by simp) h.2.2 a;show p.get i ((r0::rest).length+1) _=_;rw [zjm,List.getLast_cons (by simp),show i / 4 ^ (row::r0::rest).length=i / 4 / 4 ^ (r0::rest).length by rw [Nat.div_div_eq_div_mul,Nat.mul_comm 4,<- Nat.pow_succ];rfl,ih,Option.bind_some,if_pos (by rw [getD_at 0 a];exact (h.2.1 _ (List.getElem_mem _)).1),b]
theorem zue:∀ m,m<201->m<=4 ^ lvs m:=by decide +kernel
theorem WF.get {p:Pl} {v:Vc} {l:List Int} {rows:List (List Int)} (h:WF p v l rows) {i:Nat} (hi:i<l.length):p.get i (lvs v.size) v.root=some (l.getD i 0):=by
 have hne:rows≠[]:=fun e=>by
  have:=h.len;rw [e] at this;have:=zlc this.symm;omega
 have:=zqr hne h.tr hi;rw [h.top hne,h.len] at this;rw [h.size];have hz:i / 4 ^ lvs l.length=0:=Nat.div_eq_of_lt (by have:=zue l.length (by have:=h.small;omega);omega);rw [hz] at this;exact this
end Go.Proofs.YtdmecdjfbpblgaaGreatDoor.V
