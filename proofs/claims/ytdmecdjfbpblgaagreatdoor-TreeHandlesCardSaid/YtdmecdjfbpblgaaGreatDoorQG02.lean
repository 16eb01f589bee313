/-
  Whether a node has what its kind may have; whether the document has what it may.
-/
import Derived.Test.YtdmecdjfbpblgaaGreatDoorQG01
import Derived.Deep.OwnRows
import Derived.Deep.AppendLies
import Derived.Laws.CopyOwn
import Derived.Laws.AppendOwnNone
namespace Go.Proofs.YtdmecdjfbpblgaaGreatDoor
set_option maxRecDepth 100000
set_option maxHeartbeats 32000000
open Go.ChangeShapes Go.WideShapes Go.ChangeAt Go.RowKit
set_option linter.unusedVariables false
set_option linter.unusedSimpArgs false
theorem zgo {s:ByteArray} (h:s.size=0):emp s=true:=by simp [emp,h]
theorem zhv {s:ByteArray} (h:¬ s.size=0):emp s=false:=by simp [emp,h]
theorem zj4 (m:Mn) (w:World) (hf:Fit m) (hA:AR w m.aA m.attrs) (hs:m.name.size<=100000/\m.text.size<=100000/\∀ a∈m.attrs,a.1.size<=100000/\a.2.size<=100000) :
 Calls Tryz.prog 59 #[nval m] w (GivesV (.bool (ownB m)) w):=by
 obtain ⟨hs1,hs2,hs3⟩:=hs;have HA:=Hq hA;have HS3:=Hq hs3;have hac:=hf.ac;have HO:Hid (ownB m=_):=Hq (by rw [ownB]);have HAt:=Hq (fun (W:World) (h:AR W m.aA m.attrs)=>zj8 m.aA m.attrs m.aC W h hac.1 hac.2 HS3.out);have HTx:=Hq (fun (W:World)=>zha m.text W hs2);have HNm:=Hq (fun (W:World)=>zhb m.name W hs1);clear hA hs3 hf;generalize ownB m=R at *;unfold nval;obtain ⟨kl,hkl⟩:∃ kl,m.kids.length=kl:=⟨_,rfl⟩;obtain ⟨al,hal⟩:∃ al,m.attrs.length=al:=⟨_,rfl⟩;rw [hal] at HAt;rw [hkl,hal];have HKL:=Hq hkl;have HAL:=Hq hal;clear hkl hal hac;obtain ⟨W,hW⟩:∃ W,W=w.alloc (.cells #[.int .i64 m.kind,.string m.name,.string m.text,.slice m.aA al m.aC,.int .i64 m.parent,.slice m.kA kl m.kC] 90):=⟨_,rfl⟩;have HWb:Hid (Below w.heap.size w W):=Hq (by rw [hW];exact Bq _ _);have HWk:Hid (W.heap[w.heap.size]? = some (.cells #[.int .i64 m.kind,.string m.name,.string m.text,.slice m.aA al m.aC,.int .i64 m.parent,.slice m.kA kl m.kC] 90 (0,0))):=Hq (by rw [hW];exact heap_alloc_new _ _);obtain ⟨x0,x1,x2,x3,x4,x5⟩:=block6 HWk.out
 by_cases hk23:m.kind=2\/m.kind=3
 · have hfz:W.frozen? ⟨w.heap.size,2,none⟩=false:=by simp [World.frozen?,HWk.out]
   have HE:Hid (R=(decide (m.text.size<=60) && (decide (kl=0) && (emp m.name && decide (al=0))))):=Hq (by rw [HO.out,if_pos hk23,HKL.out,HAL.out]);clear HO
   rcases Bool.eq_false_or_eq_true (decide (m.text.size<=60)) with ht|ht
   · rw [ht] at HTx HE
     by_cases hk:kl=0
     · subst hk
       by_cases hn:m.name.size=0
       · have hn1:=zco hn;rw [zgo hn] at HE
         by_cases ha:al=0
         · subst ha
           rcases hk23 with hk2|hk2
           all_goals
            rw [hk2] at x0;rw [hk2] at hW ⊢;go_enter Tryz.func59,Tryz.ntmps59;go_upto_region 1 with fail
            rw [<- hW];clear hW;go_wp2_with fail;refine (HTx.out W).mono ?_;rintro e w' ⟨rfl,rfl⟩;go_wp2;go_ret;exact ⟨ze (by rw [HE.out];rfl),HWb.out.setCell (Nat.le_refl _) _⟩
         · have ha1:((al:Int) == 0)=false:=beq_eq_false_iff_ne.2 (by omega);have ha2:¬ (al:Int)=0:=by omega
           rcases hk23 with hk2|hk2
           all_goals
            rw [hk2] at x0;rw [hk2] at hW ⊢;go_enter Tryz.func59,Tryz.ntmps59;go_upto_region 1 with fail
            rw [<- hW];clear hW;go_wp2_with fail;refine (HTx.out W).mono ?_;rintro e w' ⟨rfl,rfl⟩;go_wp2;go_ret;exact ⟨ze (by rw [HE.out];simp [ha]),HWb.out.setCell (Nat.le_refl _) _⟩
       · have hn1:=zek (s:=m.name) (by omega);rw [zhv hn] at HE
         rcases hk23 with hk2|hk2
         all_goals
          rw [hk2] at x0;rw [hk2] at hW ⊢;go_enter Tryz.func59,Tryz.ntmps59;go_upto_region 1 with fail
          rw [<- hW];clear hW;go_wp2_with fail;refine (HTx.out W).mono ?_;rintro e w' ⟨rfl,rfl⟩;go_wp2;go_ret;exact ⟨ze (by rw [HE.out];simp),HWb.out.setCell (Nat.le_refl _) _⟩
     · have hk1:((kl:Int) != 0)=true:=by simp;omega
       have hk3:¬ (kl:Int)=0:=by omega
       rcases hk23 with hk2|hk2
       all_goals
        rw [hk2] at x0;rw [hk2] at hW ⊢;go_enter Tryz.func59,Tryz.ntmps59;go_upto_region 1 with fail
        rw [<- hW];clear hW;go_wp2_with fail;refine (HTx.out W).mono ?_;rintro e w' ⟨rfl,rfl⟩;go_wp2;go_ret;exact ⟨ze (by rw [HE.out];simp [hk]),HWb.out⟩
   · rw [ht] at HTx HE
     rcases hk23 with hk2|hk2
     all_goals
      rw [hk2] at x0;rw [hk2] at hW ⊢;go_enter Tryz.func59,Tryz.ntmps59;go_upto_region 1 with fail
      rw [<- hW];clear hW;go_wp2_with fail;refine (HTx.out W).mono ?_;rintro e w' ⟨rfl,rfl⟩;go_wp2;go_ret;exact ⟨ze (by rw [HE.out];rfl),HWb.out⟩
 by_cases hk0:m.kind=0
 · have HE:Hid (R=(emp m.name && (emp m.text && decide (al=0)))):=Hq (by rw [HO.out,if_neg hk23,if_pos hk0,HAL.out]);clear HO hk23;rw [hk0] at x0;rw [hk0] at hW ⊢
   by_cases hn:m.name.size=0
   · have hn1:=zco hn;rw [zgo hn] at HE
     by_cases ht:m.text.size=0
     · have ht1:=zco ht;rw [zgo ht] at HE
       by_cases ha:al=0
       · subst ha;go_enter Tryz.func59,Tryz.ntmps59;go_upto_region 1 with fail
         rw [<- hW];clear hW;go_wp2;go_ret;exact ⟨ze (by rw [HE.out];rfl),HWb.out⟩
       · have ha1:((al:Int) == 0)=false:=beq_eq_false_iff_ne.2 (by omega);have ha2:¬ (al:Int)=0:=by omega
         go_enter Tryz.func59,Tryz.ntmps59;go_upto_region 1 with fail
         rw [<- hW];clear hW;go_wp2;go_ret;exact ⟨ze (by rw [HE.out];simp [ha]),HWb.out⟩
     · have ht1:=zek (s:=m.text) (by omega);rw [zhv ht] at HE;go_enter Tryz.func59,Tryz.ntmps59;go_upto_region 1 with fail
       rw [<- hW];clear hW;go_wp2;go_ret;exact ⟨ze (by rw [HE.out];simp),HWb.out⟩
   · have hn1:=zek (s:=m.name) (by omega);rw [zhv hn] at HE;go_enter Tryz.func59,Tryz.ntmps59;go_upto_region 1 with fail
     rw [<- hW];clear hW;go_wp2;go_ret;exact ⟨ze (by rw [HE.out];simp),HWb.out⟩
 by_cases hk1:m.kind=1
 · have HE:Hid (R=(nm m.name && (emp m.text && attrsB m.attrs))):=Hq (by rw [HO.out,if_neg hk23,if_neg hk0,if_pos hk1]);clear HO hk23 hk0;rw [hk1] at x0;rw [hk1] at hW ⊢
   rcases Bool.eq_false_or_eq_true (nm m.name) with hn|hn
   · rw [hn] at HE HNm
     by_cases ht:m.text.size=0
     · have ht1:=zco ht;rw [zgo ht] at HE;generalize attrsB m.attrs=AB at *;go_enter Tryz.func59,Tryz.ntmps59;go_upto_region 1 with fail
       rw [<- hW];clear hW;go_wp2_with fail;refine (HNm.out W).mono ?_;rintro e w' ⟨rfl,rfl⟩;go_wp2_with fail;refine (HAt.out W (HA.out.below HWb.out)).mono ?_;rintro e w1 ⟨rfl,hb⟩;have HB:=Hq (HWb.out.trans (hb.mono HWb.out.size));clear hb;go_wp2;go_ret;exact ⟨ze (by rw [HE.out];simp),HB.out⟩
     · have ht1:=zek (s:=m.text) (by omega);rw [zhv ht] at HE;go_enter Tryz.func59,Tryz.ntmps59;go_upto_region 1 with fail
       rw [<- hW];clear hW;go_wp2_with fail;refine (HNm.out W).mono ?_;rintro e w' ⟨rfl,rfl⟩;go_wp2;go_ret;exact ⟨ze (by rw [HE.out];simp),HWb.out⟩
   · rw [hn] at HE HNm;go_enter Tryz.func59,Tryz.ntmps59;go_upto_region 1 with fail
     rw [<- hW];clear hW;go_wp2_with fail;refine (HNm.out W).mono ?_;rintro e w' ⟨rfl,rfl⟩;go_wp2;go_ret;exact ⟨ze (by rw [HE.out];simp),HWb.out⟩
 · have HE:Hid (R=false):=Hq (by rw [HO.out,if_neg hk23,if_neg hk0,if_neg hk1]);have n2:¬ m.kind=2:=fun h=>hk23 (.inl h)
   have n3:¬ m.kind=3:=fun h=>hk23 (.inr h)
   clear HO hk23;go_enter Tryz.func59,Tryz.ntmps59;go_upto_region 1 with fail
   rw [<- hW];clear hW;go_wp2;go_ret;exact ⟨ze HE.out.symm,HWb.out⟩
theorem zan {F:List Mn} {k:Nat} (h:k<F.length):kindOf F k=F[k].kind:=by simp [kindOf,List.getElem?_eq_getElem h]
theorem zby {F:List Mn} {k:Nat} (h:k<F.length):par F k=F[k].parent:=by simp [par,List.getElem?_eq_getElem h]
theorem zae {F:List Mn} {k:Nat} (h:k<F.length):kidsOf F k=F[k].kids:=by simp [kidsOf,List.getElem?_eq_getElem h]
def elB (F:List Mn) (k:Int):Bool:=decide (kindOf F k.toNat=1)
theorem znk (A:Option Addr) (F:List Mn) (c:Nat) (w:World) (hF:FR w A F) (hn:F.length<=1000) (h0:0<F.length) (hk:∀ m∈F,m.kids.length<=1000) (hB:∀ k∈kidsOf F 0,isB F k=true) :
 Calls Tryz.prog 61 #[.slice A F.length c] w (GivesV (.bool (docB F)) w):=by
 have HF:=Hq hF;obtain ⟨hfit,g,off,hA,hg,hnode⟩:=hF 0 F[0] (List.getElem?_eq_getElem h0);have HE:Hid (docB F=(F[0].kids.all (fun k=>decide (kindOf F k.toNat≠2)) && decide ((F[0].kids.filter (elB F)).length<=1))):=Hq (by rw [docB,zae h0];rfl);rw [zae h0] at hB;have HB0:=Hq hB;have hkl:=hk F[0] (List.getElem_mem _);have c5:=hnode.c5;have HI:=Hq hnode.ir;generalize docB F=R at *;generalize F[0]=m at *;obtain ⟨n,hnn⟩:∃ n,F.length=n:=⟨_,rfl⟩;obtain ⟨kl,hkk⟩:∃ kl,m.kids.length=kl:=⟨_,rfl⟩;have HNN:=Hq hnn;have HKK:=Hq hkk;rw [hnn] at hn h0 ⊢;rw [hkk] at c5 hkl;subst hA;clear hF hk hB hfit hnode hnn hkk;generalize m.kA=kA at *;have z0:(0:Int)<(n:Int):=by omega
 rw [show off+0*6+5=off+5 by omega] at c5;go_enter Tryz.func61,Tryz.ntmps61;go_wp2_with fail
 go_loopw [3,11] (fun e q wr=>∃ j:Nat,j<=kl/\q = .int .i64 j/\e = .int .i64 (((m.kids.take j).filter (elB F)).length:Nat)/\Hid ((m.kids.take j).all (fun k=>decide (kindOf F k.toNat≠2))=true)/\w=wr) (fun _ q _=>kl - (intOf q).toNat)
 case atStart => exact ⟨0,Nat.zero_le _,rfl,rfl,Hq rfl,rfl⟩
 case round =>
  obtain ⟨j,hj,rfl,rfl,HT,rfl⟩:=hrel
  by_cases hlt:j<kl
  · have k0:(0:Int)<=(j:Int):=by omega
    have k1:(j:Int)<(kl:Int):=by omega
    have hjl:j<m.kids.length:=by rw [HKK.out];exact hlt
    obtain ⟨gk,ok,hAk,hgk,hck⟩:=HI.out j hjl;have hmem:m.kids.getD j 0∈m.kids:=by rw [getD_at 0 hjl];exact List.getElem_mem _
    have hisB:=HB0.out _ hmem;have HT2:Hid ((m.kids.take (j+1)).all (fun k=>decide (kindOf F k.toNat≠2))=decide (kindOf F (m.kids.getD j 0).toNat≠2)):=Hq (by rw [zaa hjl,List.all_append,HT.out,getD_at 0 hjl];simp);have HT3:Hid (kindOf F (m.kids.getD j 0).toNat=2->R=false):=Hq (fun h=>by
     rw [HE.out,List.all_eq_false.2 ⟨_,hmem,by simpa using h⟩];rfl)
    have HF2:Hid (((m.kids.take (j+1)).filter (elB F)).length=((m.kids.take j).filter (elB F)).length+if elB F (m.kids.getD j 0) then 1 else 0):=Hq (by
     rw [zaa hjl,List.filter_append,List.length_append,getD_at 0 hjl];cases h:elB F m.kids[j]<;>simp [List.filter_cons,h])
    have hle:((m.kids.take j).filter (elB F)).length<=j:=Nat.le_trans (List.length_filter_le _ _) (by rw [List.length_take];omega);generalize m.kids.getD j 0=y at *;rw [isB,decide_eq_true_eq] at hisB;obtain ⟨k,rfl⟩:=Int.eq_ofNat_of_zero_le hisB.1;have hkF:k<F.length:=by omega
    obtain ⟨hfk,g',off',hA',hg',hnk⟩:=HF.out k F[k] (List.getElem?_eq_getElem hkF);obtain ⟨rfl,rfl⟩:g'=g/\off'=off:=by cases hA';exact ⟨rfl,rfl⟩
    have ck0:=hnk.c0;have y0:(0:Int)<=(k:Int):=by omega
    have y1:(k:Int)<(n:Int):=by rw [<- HNN.out];omega
    have hel:elB F (k:Int)=decide (F[k].kind=1):=by rw [elB,Int.toNat_natCast,zan hkF]
    have hki:kindOf F ((k:Int)).toNat=F[k].kind:=by rw [Int.toNat_natCast,zan hkF]
    rw [hki] at HT2 HT3;rw [hel] at HF2;clear hnk hfk hA' hel hki hisB hmem;generalize F[k].kind=kd at *;generalize ((m.kids.take j).filter (elB F)).length=el at *;subst hAk
    by_cases h2:kd=2
    · subst h2;have HR:=Hq (HT3.out rfl);go_wp2;go_ret;exact ⟨ze HR.out.symm,Below.refl _ _⟩
    · have HT4:Hid ((m.kids.take (j+1)).all (fun k=>decide (kindOf F k.toNat≠2))=true):=Hq (by rw [HT2.out];simpa using h2)
      by_cases h1:kd=1
      · subst h1;go_wp2;go_roundw
        case rel => exact ⟨j+1,by omega,by go_num,by rw [HF2.out];go_num,HT4,by first|trivial|rfl⟩
        case measure => simp [intOf]<;>omega
      · have hd1:decide (kd=1)=false:=decide_eq_false h1;go_wp2;go_roundw
        case rel => exact ⟨j+1,by omega,by go_num,by rw [HF2.out,hd1];simp,HT4,by first|trivial|rfl⟩
        case measure => simp [intOf]<;>omega
  · obtain rfl:j=kl:=by omega
    have e:m.kids.take j=m.kids:=List.take_of_length_le (by rw [HKK.out];exact Nat.le_refl _);rw [e] at HT;rw [e];have hle:(m.kids.filter (elB F)).length<=1000:=Nat.le_trans (List.length_filter_le _ _) (by rw [HKK.out];exact hkl);have HE2:Hid (R=decide (((m.kids.filter (elB F)).length:Int)<=1)):=Hq (by rw [HE.out,HT.out,Bool.true_and,decide_eq_decide];omega);generalize (m.kids.filter (elB F)).length=el at *;go_wp2;go_ret;exact ⟨ze (by rw [HE2.out]),Below.refl _ _⟩
def topF (ks kf:Nat):Value:=.func (.func 121) #[] #[.pointer (some ⟨ks,0,none⟩),.pointer (some ⟨kf,0,none⟩)]
theorem zrc (ks kf:Nat) (A:Option Addr) (n c s:Nat) (y:Int) (w:World) (hn:n<=1000) (hs:s<=n) (hk:w.heap[ks]? = some (.cells #[.int .i64 s] 3 (0,0))) (hf:w.cell? ⟨kf,0,none⟩=some (.slice A n c)) (hne:kf≠ks) :
 Calls Tryz.prog 121 #[.int .i64 y,.pointer (some ⟨ks,0,none⟩),.pointer (some ⟨kf,0,none⟩)] w fun e w'=>e = .returned (.bool (decide (s<n)))/\w'=w.setCell ⟨ks,0,none⟩ (.int .i64 ((s+1:Nat):Int)):=by
 have x0:=block1 hk;have fz:w.frozen? ⟨ks,0,none⟩=false:=by simp [World.frozen?,hk]
 have hne':ks≠kf:=Ne.symm hne;clear hk;go_enter Tryz.func121,Tryz.ntmps121;go_wp2;go_ret;refine ⟨ze ?_,by simp⟩;rw [decide_eq_decide];omega
def Up (F:List Mn):Prop:=∀ i,i<F.length->par F i = -1\/isB F (par F i)=true
theorem zpa (w0:World) (A:Option Addr) (F:List Mn) (c:Nat) (hF:FR w0 A F) (hn:F.length<=1000) (hU:Up F) (ks kf:Nat) (hks:w0.heap.size<=ks) (hne:kf≠ks) (x:Int) (hx:x = -1\/isB F x=true) (w:World) (hb:Below w0.heap.size w0 w)
 (hk:w.heap[ks]? = some (.cells #[.int .i64 0] 3 (0,0))) (hf:w.heap[kf]? = some (.cells #[.slice A F.length c] 61 (0,0))) :
 Calls Tryz.prog 120 #[.slice A F.length c,.int .i64 x,topF ks kf] w fun e w'=>e = .returned (.bool (endsB F F.length x))/\Below w0.heap.size w0 w':=by
 have HF:=Hq hF;have HU:=Hq hU;have HX:=Hq hx;have HB0:=Hq hb;have HK0:=Hq hk;have HF0:=Hq hf;obtain ⟨R,hR⟩:∃ R,endsB F F.length x=R:=⟨_,rfl⟩;have HR:=Hq hR;rw [hR];obtain ⟨n,hnn⟩:∃ n,F.length=n:=⟨_,rfl⟩;have HNN:=Hq hnn;rw [hnn] at hn HF0 HR ⊢;clear hF hU hx hb hk hf hnn hR;unfold topF;go_enter Tryz.func120,Tryz.ntmps120;go_wp2_with fail
 go_loopg [7] (n+1) (fun g at' wr=>∃ (y:Int) (s:Nat),at' = .int .i64 y/\s+g=n+1/\s<=n/\Hid (y = -1\/isB F y=true)/\Hid (endsB F (n - s) y=R)/\Hid (wr.heap[ks]? = some (.cells #[.int .i64 s] 3 (0,0)))/\Hid (wr.heap[kf]? = some (.cells #[.slice A n c] 61 (0,0)))/\Hid (Below w0.heap.size w0 wr))
 case atStart => exact ⟨x,0,rfl,by omega,by omega,HX,HR,HK0,HF0,HB0⟩
 case round =>
  obtain ⟨y,s,rfl,hsg,hsn,HY,HE,HKs,HFk,HB⟩:=hrel
  by_cases hy:y = -1
  · subst hy;have HRt:Hid (R=true):=Hq (by rw [<- HE.out];cases n - s<;>simp [endsB]);go_wp2;go_ret;exact ⟨ze HRt.out.symm,HB.out⟩
  · have hyn:(y != -1)=true:=by simpa using hy
    have hisB:isB F y=true:=HY.out.resolve_left hy;rw [isB,decide_eq_true_eq] at hisB;obtain ⟨k,rfl⟩:=Int.eq_ofNat_of_zero_le hisB.1;have hkF:k<F.length:=by omega
    obtain ⟨hfk,g,off,rfl,hg,hnk⟩:=(HF.out.below HB.out) k F[k] (List.getElem?_eq_getElem hkF);have y0:(0:Int)<=(k:Int):=by omega
    have y1:(k:Int)<(n:Int):=by rw [<- HNN.out];omega
    have HP:=Hq (zby hkF);have HPu:=Hq (HU.out k hkF);have HNd:Hid (∀ W,Below w0.heap.size w0 W->W.cell? ⟨g,off+k*6+4,none⟩=some (.int .i64 F[k].parent)):=Hq (fun W hW=>by
     obtain ⟨-,g',off',hA',-,hn'⟩:=(HF.out.below hW) k F[k] (List.getElem?_eq_getElem hkF);obtain ⟨rfl,rfl⟩:g'=g/\off'=off:=by cases hA';exact ⟨rfl,rfl⟩
     exact hn'.c4)
    rw [HP.out] at HPu;clear hnk hfk;generalize F[k].parent=pp at *;have hfc:=block1 HFk.out;have HS:=Hq (zrc ks kf (some ⟨g,off,none⟩) n c s (k:Int) wr hn hsn HKs.out hfc hne)
    by_cases hsl:s<n
    · rw [decide_eq_true hsl] at HS;obtain ⟨V,hV⟩:∃ V,V=wr.setCell ⟨ks,0,none⟩ (.int .i64 ((s+1:Nat):Int)):=⟨_,rfl⟩;have HVb:Hid (Below w0.heap.size w0 V):=Hq (by rw [hV];exact HB.out.setCell hks _);have HVk:Hid (V.heap[ks]? = some (.cells #[.int .i64 ((s+1:Nat):Int)] 3 (0,0))):=Hq (by rw [hV];have:=HKs.out;simp [World.setCell,Array.getElem?_modify,this]);have HVf:Hid (V.heap[kf]? = some (.cells #[.slice (some ⟨g,off,none⟩) n c] 61 (0,0))):=Hq (by rw [hV];have:=HFk.out;simp [World.setCell,Array.getElem?_modify,this,Ne.symm hne]);rw [<- hV] at HS;have c4:=HNd.out V HVb.out;have HE2:Hid (endsB F (n - (s+1)) pp=R):=Hq (by
       have:=HE.out;rw [show n - s=(n - (s+1))+1 by omega,endsB,Int.toNat_natCast,HP.out] at this;simpa [hy] using this)
      clear hV hfc;go_wp2_with fail;refine HS.out.mono ?_;rintro e w' ⟨rfl,rfl⟩;go_wp2
      go_roundg (n - s)
      case measure => omega
      case rel => exact ⟨pp,s+1,rfl,by omega,by omega,HPu,HE2,HVk,HVf,HVb⟩
    · rw [decide_eq_false hsl] at HS;have HRf:Hid (R=false):=Hq (by rw [<- HE.out,show n - s=0 by omega,endsB];simp);go_wp2_with fail;refine HS.out.mono ?_;rintro e w' ⟨rfl,rfl⟩;go_wp2;go_ret;exact ⟨ze HRf.out.symm,HB.out.setCell hks _⟩
theorem zas (w:World) (o o':Obj):((w.alloc o).alloc o').heap[w.heap.size+1]? = some o':=by
 have:=heap_alloc_new (w.alloc o) o';simpa using this
theorem zpb (A:Option Addr) (F:List Mn) (c i:Nat) (w:World) (hF:FR w A F) (hn:F.length<=1000) (hU:Up F) (hi:i<F.length) :
 Calls Tryz.prog 63 #[.slice A F.length c,.int .i64 i] w (GivesV (.bool (endsB F F.length i)) w):=by
 have HC:=Hq (fun (ks kf:Nat) (hks:w.heap.size<=ks) (hne:kf≠ks) (W:World) (hb:Below w.heap.size w W) (hk:W.heap[ks]? = some (.cells #[.int .i64 0] 3 (0,0))) (hf:W.heap[kf]? = some (.cells #[.slice A F.length c] 61 (0,0))) =>
  zpa w A F c hF hn hU ks kf hks hne (i:Int) (.inr (by rw [isB,decide_eq_true_eq];omega)) W hb hk hf)
 clear hF hU;generalize endsB F F.length i=R at *;generalize F.length=n at *;obtain ⟨W,hW⟩:∃ W,W=(w.alloc (.cells #[.slice A n c] 61)).alloc (.cells #[.int .i64 0] 3):=⟨_,rfl⟩;have HW:Hid (Below w.heap.size w W/\W.heap[w.heap.size]? = some (.cells #[.slice A n c] 61 (0,0))/\W.heap[w.heap.size+1]? = some (.cells #[.int .i64 0] 3 (0,0))):=Hq (by
  subst hW;refine ⟨((Below.refl _ w).alloc (Nat.le_refl _) _).alloc (by simp) _,?_,zas _ _ _⟩;rw [heap_alloc_old _ _ (by simp)];exact heap_alloc_new w _)
 have x0:=block1 HW.out.2.1;have HC2:=Hq (HC.out (w.heap.size+1) w.heap.size (by omega) (by omega) W HW.out.1 HW.out.2.2 HW.out.2.1);unfold topF at HC2;clear HC;go_enter Tryz.func63,Tryz.ntmps63;go_upto_region 2 with fail
 rw [<- hW];clear hW;go_wp2_with fail;refine HC2.out.mono ?_;rintro e w1 ⟨rfl,hb⟩;have HB:=Hq hb;clear hb;go_wp2;go_ret;exact ⟨rfl,HB.out⟩
def may2F (kf:Nat):Value:=.func (.func 62) #[] #[.pointer (some ⟨kf,0,none⟩)]
def may1F (kf:Nat):Value:=.func (.func 58) #[] #[.pointer (some ⟨kf,0,none⟩)]
theorem zrd (kf:Nat) (A:Option Addr) (F:List Mn) (c i:Nat) (m:Mn) (w:World) (hF:FR w A F) (hn:F.length<=1000) (hU:Up F) (hi:i<F.length) (hk:w.heap[kf]? = some (.cells #[.slice A F.length c] 61 (0,0))) :
 Calls Tryz.prog 62 #[.int .i64 i,nval m,.pointer (some ⟨kf,0,none⟩)] w (GivesV (.bool (endsB F F.length i)) w):=by
 have HC:=Hq (fun (W:World) (hb:Below w.heap.size w W)=>zpb A F c i W (hF.below hb) hn hU hi);have hlt:=lt_of_block hk;have ne:kf≠w.heap.size:=by omega
 have x0:=block1 hk;clear hF hU hk;generalize endsB F F.length i=R at *;generalize F.length=n at *;unfold nval;go_enter Tryz.func62,Tryz.ntmps62;go_wp2_with fail;refine (HC.out _ ((Below.refl _ w).alloc (Nat.le_refl _) _)).mono ?_;rintro e w1 ⟨rfl,hb⟩;have HB:Hid (Below w.heap.size w w1):=Hq (((Below.refl _ w).alloc (Nat.le_refl _) _).trans (hb.mono (by simp)));clear hb;go_wp2;go_ret;exact ⟨rfl,HB.out⟩
structure Sz (F:List Mn):Prop where
 len:F.length<=1000
 kids:∀ m∈F,m.kids.length<=1000
 str:∀ m∈F,m.name.size<=100000/\m.text.size<=100000/\∀ a∈m.attrs,a.1.size<=100000/\a.2.size<=100000
theorem zre (kf:Nat) (A:Option Addr) (F:List Mn) (c i:Nat) (m:Mn) (w:World) (hF:FR w A F) (hz:Sz F) (hm:F[i]? = some m) (hk:w.heap[kf]? = some (.cells #[.slice A F.length c] 61 (0,0))) :
 Calls Tryz.prog 58 #[.int .i64 i,nval m,.pointer (some ⟨kf,0,none⟩)] w (GivesV (.bool (oneB F i m)) w):=by
 have hi:i<F.length:=(List.getElem?_eq_some_iff.1 hm).1;have hmem:m∈F:=List.mem_of_getElem? hm;obtain ⟨hfit,g,off,hA,hg,hnode⟩:=hF i m hm;have HL:=Hq (fun (W:World) (hb:Below w.heap.size w W)=>zj7 A F c i W (hF.below hb) hz.len hi hz.kids);have HO:=Hq (fun (W:World) (hb:Below w.heap.size w W)=>zj4 m W hfit (hnode.ar.below hb) (hz.str m hmem));have HE:Hid (oneB F i m=(((m.kind == 0) == ((i:Int) == 0)) && (ownB m && linkB F i))):=Hq rfl;have hlt:=lt_of_block hk;have ne:kf≠w.heap.size:=by omega
 have HK:=Hq hk;clear hF hz hm hk hA hnode hfit hmem;generalize oneB F i m=R at *;generalize ownB m=OB at *;generalize linkB F i=LB at *;generalize F.length=n at *;unfold nval at *;obtain ⟨W,hW⟩:∃ W,W=w.alloc (.cells #[.int .i64 m.kind,.string m.name,.string m.text,.slice m.aA m.attrs.length m.aC,.int .i64 m.parent,.slice m.kA m.kids.length m.kC] 90):=⟨_,rfl⟩;have HWb:Hid (Below w.heap.size w W):=Hq (by rw [hW];exact Bq _ _);have HWk:Hid (W.heap[w.heap.size]? = some (.cells #[.int .i64 m.kind,.string m.name,.string m.text,.slice m.aA m.attrs.length m.aC,.int .i64 m.parent,.slice m.kA m.kids.length m.kC] 90 (0,0))):=Hq (by rw [hW];exact heap_alloc_new _ _);obtain ⟨x0,x1,x2,x3,x4,x5⟩:=block6 HWk.out
 rcases Bool.eq_false_or_eq_true (((m.kind == 0) == ((i:Int) == 0))) with hd|hd
 · rw [hd] at HE;go_enter Tryz.func58,Tryz.ntmps58;go_upto_region 1 with fail
   rw [<- hW];clear hW
   rcases Bool.eq_false_or_eq_true (m.kind == 0) with h1|h1
   · rcases Bool.eq_false_or_eq_true ((i:Int) == 0) with h2|h2
     · go_wp2_with fail;refine (HO.out W HWb.out).mono ?_;rintro e w1 ⟨rfl,hb⟩;have HB:=Hq (HWb.out.trans (hb.mono HWb.out.size));clear hb x0 x1 x2 x3 x4 x5;cases OB with
       | false =>
         go_wp2;go_ret;exact ⟨ze (by rw [HE.out];rfl),HB.out⟩
       | true =>
         have x0:=block1 ((HB.out.block kf hlt).trans HK.out);go_wp2_with fail;refine (HL.out w1 HB.out).mono ?_;rintro e w2 ⟨rfl,hb⟩;have HB2:=Hq (HB.out.trans (hb.mono HB.out.size));clear hb;go_wp2;go_ret;exact ⟨ze (by rw [HE.out];simp),HB2.out⟩
     · exfalso;rw [h1,h2] at hd;cases hd
   · rcases Bool.eq_false_or_eq_true ((i:Int) == 0) with h2|h2
     · exfalso;rw [h1,h2] at hd;cases hd
     · go_wp2_with fail;refine (HO.out W HWb.out).mono ?_;rintro e w1 ⟨rfl,hb⟩;have HB:=Hq (HWb.out.trans (hb.mono HWb.out.size));clear hb x0 x1 x2 x3 x4 x5;cases OB with
       | false =>
         go_wp2;go_ret;exact ⟨ze (by rw [HE.out];rfl),HB.out⟩
       | true =>
         have x0:=block1 ((HB.out.block kf hlt).trans HK.out);go_wp2_with fail;refine (HL.out w1 HB.out).mono ?_;rintro e w2 ⟨rfl,hb⟩;have HB2:=Hq (HB.out.trans (hb.mono HB.out.size));clear hb;go_wp2;go_ret;exact ⟨ze (by rw [HE.out];simp),HB2.out⟩
 · rw [hd] at HE
   rcases Bool.eq_false_or_eq_true (m.kind == 0) with h1|h1
   · rcases Bool.eq_false_or_eq_true ((i:Int) == 0) with h2|h2
     · exfalso;rw [h1,h2] at hd;cases hd
     · go_enter Tryz.func58,Tryz.ntmps58;go_upto_region 1 with fail
       rw [<- hW];clear hW;go_wp2;go_ret;exact ⟨ze (by rw [HE.out];rfl),HWb.out⟩
   · rcases Bool.eq_false_or_eq_true ((i:Int) == 0) with h2|h2
     · go_enter Tryz.func58,Tryz.ntmps58;go_upto_region 1 with fail
       rw [<- hW];clear hW;go_wp2;go_ret;exact ⟨ze (by rw [HE.out];rfl),HWb.out⟩
     · exfalso;rw [h1,h2] at hd;cases hd
theorem every1 (kf:Nat) (A:Option Addr) (F:List Mn) (c:Nat) (w:World) (hF:FR w A F) (hz:Sz F) (hk:w.heap[kf]? = some (.cells #[.slice A F.length c] 61 (0,0))) :
 Calls Tryz.prog 57 #[.slice A F.length c,may1F kf] w (GivesV (.bool ((List.range F.length).all (fun i=>((F[i]?).map (oneB F i)).getD false))) w):=by
 have HF:=Hq hF;have HK:=Hq hk;have HC:=Hq (fun (W:World) (hb:Below w.heap.size w W) (i:Nat) (m:Mn) (hm:F[i]? = some m)=>zre kf A F c i m W (hF.below hb) hz hm ((hb.block kf (lt_of_block hk)).trans hk));have hl:=hz.len;clear hF hk hz;obtain ⟨n,hnn⟩:∃ n,F.length=n:=⟨_,rfl⟩;have HNN:=Hq hnn;obtain ⟨R,hR⟩:∃ R,(List.range F.length).all (fun i=>((F[i]?).map (oneB F i)).getD false)=R:=⟨_,rfl⟩;have HR:=Hq hR;rw [hR,hnn];rw [hnn] at hl;clear hnn hR;unfold may1F nval at *;go_enter Tryz.func57,Tryz.ntmps57;go_wp2_with fail
 go_loopw [9] (fun q wr=>∃ j:Nat,j<=n/\q = .int .i64 j/\Hid ((List.range j).all (fun i=>((F[i]?).map (oneB F i)).getD false)=true)/\Hid (Below w.heap.size w wr)) (fun q _=>n - (intOf q).toNat)
 case atStart => exact ⟨0,Nat.zero_le _,rfl,Hq rfl,Hq (Below.refl _ _)⟩
 case round =>
  obtain ⟨j,hj,rfl,HT,HB⟩:=hrel
  by_cases hlt:j<n
  · have k0:(0:Int)<=(j:Int):=by omega
    have k1:(j:Int)<(n:Int):=by omega
    have hjF:j<F.length:=by rw [HNN.out];exact hlt
    obtain ⟨hfj,g,off,rfl,hg,hnd⟩:=(HF.out.below HB.out) j F[j] (List.getElem?_eq_getElem hjF);have HC2:=Hq (fun (W:World) (hb:Below w.heap.size w W)=>HC.out W hb j F[j] (List.getElem?_eq_getElem hjF));have HPj:Hid ((fun i=>((F[i]?).map (oneB F i)).getD false) j=oneB F j F[j]):=Hq (by simp [List.getElem?_eq_getElem hjF]);have HT2:Hid ((List.range (j+1)).all (fun i=>((F[i]?).map (oneB F i)).getD false)=(fun i=>((F[i]?).map (oneB F i)).getD false) j):=Hq (zes HT.out);have HNo:Hid ((fun i=>((F[i]?).map (oneB F i)).getD false) j=false->R=false):=Hq (fun h=>by rw [<- HR.out];exact zhu h hjF);rw [HPj.out] at HT2 HNo;have c0:=hnd.c0;have c1:=hnd.c1;have c2:=hnd.c2;have c3:=hnd.c3;have c4:=hnd.c4;have c5:=hnd.c5;clear hnd hfj HPj;generalize oneB F j F[j]=X at *;generalize F[j]=m at *;go_upto_region 4 with fail
    obtain ⟨W,hW⟩:∃ W,W=wr.alloc (.cells #[.int .i64 m.kind,.string m.name,.string m.text,.slice m.aA m.attrs.length m.aC,.int .i64 m.parent,.slice m.kA m.kids.length m.kC] 90):=⟨_,rfl⟩;rw [<- hW];have HWb:Hid (Below w.heap.size w W):=Hq (by rw [hW];exact HB.out.alloc HB.out.size _);have HWk:Hid (W.heap[wr.heap.size]? = some (.cells #[.int .i64 m.kind,.string m.name,.string m.text,.slice m.aA m.attrs.length m.aC,.int .i64 m.parent,.slice m.kA m.kids.length m.kC] 90 (0,0))):=Hq (by rw [hW];exact heap_alloc_new _ _);clear hW c0 c1 c2 c3 c4 c5;obtain ⟨x0,x1,x2,x3,x4,x5⟩:=block6 HWk.out;go_wp2_with fail;refine (HC2.out W HWb.out).mono ?_;rintro e w1 ⟨rfl,hb⟩;have HB1:=Hq (HWb.out.trans (hb.mono HWb.out.size));clear hb x0 x1 x2 x3 x4 x5;cases X with
    | true =>
      go_wp2;go_roundw
      case rel => exact ⟨j+1,by omega,by go_num,HT2,HB1⟩
      case measure => simp [intOf]<;>omega
    | false =>
      have HRf:=Hq (HNo.out rfl);go_wp2;go_ret;exact ⟨ze HRf.out.symm,HB1.out⟩
  · obtain rfl:j=n:=by omega
    have HRt:Hid (R=true):=Hq (by have h:=HT.out;rw [<- HNN.out] at h;rw [<- HR.out];exact h);go_wp2;go_ret;exact ⟨ze HRt.out.symm,HB.out⟩
theorem every2 (kf:Nat) (A:Option Addr) (F:List Mn) (c:Nat) (w:World) (hF:FR w A F) (hz:Sz F) (hU:Up F) (hk:w.heap[kf]? = some (.cells #[.slice A F.length c] 61 (0,0))) :
 Calls Tryz.prog 57 #[.slice A F.length c,may2F kf] w (GivesV (.bool ((List.range F.length).all (fun i=>endsB F F.length i))) w):=by
 have HF:=Hq hF;have HK:=Hq hk;have HC:=Hq (fun (W:World) (hb:Below w.heap.size w W) (i:Nat) (m:Mn) (hm:F[i]? = some m)=>zrd kf A F c i m W (hF.below hb) hz.len hU (List.getElem?_eq_some_iff.1 hm).1 ((hb.block kf (lt_of_block hk)).trans hk));have hl:=hz.len;clear hF hk hz;obtain ⟨n,hnn⟩:∃ n,F.length=n:=⟨_,rfl⟩;have HNN:=Hq hnn;obtain ⟨R,hR⟩:∃ R,(List.range F.length).all (fun i=>endsB F F.length i)=R:=⟨_,rfl⟩;have HR:=Hq hR;rw [hR,hnn];rw [hnn] at hl;clear hnn hR;unfold may2F nval at *;go_enter Tryz.func57,Tryz.ntmps57;go_wp2_with fail
 go_loopw [9] (fun q wr=>∃ j:Nat,j<=n/\q = .int .i64 j/\Hid ((List.range j).all (fun i=>endsB F F.length i)=true)/\Hid (Below w.heap.size w wr)) (fun q _=>n - (intOf q).toNat)
 case atStart => exact ⟨0,Nat.zero_le _,rfl,Hq rfl,Hq (Below.refl _ _)⟩
 case round =>
  obtain ⟨j,hj,rfl,HT,HB⟩:=hrel
  by_cases hlt:j<n
  · have k0:(0:Int)<=(j:Int):=by omega
    have k1:(j:Int)<(n:Int):=by omega
    have hjF:j<F.length:=by rw [HNN.out];exact hlt
    obtain ⟨hfj,g,off,rfl,hg,hnd⟩:=(HF.out.below HB.out) j F[j] (List.getElem?_eq_getElem hjF);have HC2:=Hq (fun (W:World) (hb:Below w.heap.size w W)=>HC.out W hb j F[j] (List.getElem?_eq_getElem hjF));have HPj:Hid ((fun i=>endsB F F.length i) j=endsB F F.length j):=Hq (by rfl);have HT2:Hid ((List.range (j+1)).all (fun i=>endsB F F.length i)=(fun i=>endsB F F.length i) j):=Hq (zes HT.out);have HNo:Hid ((fun i=>endsB F F.length i) j=false->R=false):=Hq (fun h=>by rw [<- HR.out];exact zhu h hjF);rw [HPj.out] at HT2 HNo;have c0:=hnd.c0;have c1:=hnd.c1;have c2:=hnd.c2;have c3:=hnd.c3;have c4:=hnd.c4;have c5:=hnd.c5;clear hnd hfj HPj;generalize endsB F F.length j=X at *;generalize F[j]=m at *;go_upto_region 4 with fail
    obtain ⟨W,hW⟩:∃ W,W=wr.alloc (.cells #[.int .i64 m.kind,.string m.name,.string m.text,.slice m.aA m.attrs.length m.aC,.int .i64 m.parent,.slice m.kA m.kids.length m.kC] 90):=⟨_,rfl⟩;rw [<- hW];have HWb:Hid (Below w.heap.size w W):=Hq (by rw [hW];exact HB.out.alloc HB.out.size _);have HWk:Hid (W.heap[wr.heap.size]? = some (.cells #[.int .i64 m.kind,.string m.name,.string m.text,.slice m.aA m.attrs.length m.aC,.int .i64 m.parent,.slice m.kA m.kids.length m.kC] 90 (0,0))):=Hq (by rw [hW];exact heap_alloc_new _ _);clear hW c0 c1 c2 c3 c4 c5;obtain ⟨x0,x1,x2,x3,x4,x5⟩:=block6 HWk.out;go_wp2_with fail;refine (HC2.out W HWb.out).mono ?_;rintro e w1 ⟨rfl,hb⟩;have HB1:=Hq (HWb.out.trans (hb.mono HWb.out.size));clear hb x0 x1 x2 x3 x4 x5;cases X with
    | true =>
      go_wp2;go_roundw
      case rel => exact ⟨j+1,by omega,by go_num,HT2,HB1⟩
      case measure => simp [intOf]<;>omega
    | false =>
      have HRf:=Hq (HNo.out rfl);go_wp2;go_ret;exact ⟨ze HRf.out.symm,HB1.out⟩
  · obtain rfl:j=n:=by omega
    have HRt:Hid (R=true):=Hq (by have h:=HT.out;rw [<- HNN.out] at h;rw [<- HR.out];exact h);go_wp2;go_ret;exact ⟨ze HRt.out.symm,HB.out⟩
theorem zj9 {F:List Mn} (h:(List.range F.length).all (fun i=>((F[i]?).map (oneB F i)).getD false)=true) {i:Nat} (hi:i<F.length):oneB F i F[i]=true:=by
 have:=List.all_eq_true.1 h i (List.mem_range.2 hi);simpa [List.getElem?_eq_getElem hi] using this
theorem zgp {F:List Mn} (h:(List.range F.length).all (fun i=>((F[i]?).map (oneB F i)).getD false)=true) {i:Nat} (hi:i<F.length):linkB F i=true:=by
 have:=zj9 h hi;simp only [oneB,Bool.and_eq_true] at this;exact this.2.2
theorem up_of {F:List Mn} (h:(List.range F.length).all (fun i=>((F[i]?).map (oneB F i)).getD false)=true):Up F:=fun i hi=>by
 have:=zgp h hi;simp only [linkB,Bool.and_eq_true,Bool.or_eq_true,decide_eq_true_eq] at this
 rcases this.1 with h1|h1
 · exact .inl h1
 · exact .inr h1.2.1
theorem zml {F:List Mn} (h:(List.range F.length).all (fun i=>((F[i]?).map (oneB F i)).getD false)=true) {i:Nat} (hi:i<F.length) {k:Int} (hk:k∈kidsOf F i):isB F k=true/\par F k.toNat=i:=by
 have:=zgp h hi;simp only [linkB,Bool.and_eq_true] at this;have:=List.all_eq_true.1 this.2 k hk;simpa using this
theorem zel (A:Option Addr) (F:List Mn) (c:Nat) (w:World) (hF:FR w A F) (hz:Sz F) :
 Calls Tryz.prog 29 #[.slice A F.length c] w (GivesV (.bool (mayB F)) w):=by
 have HF:=Hq hF;have HZ:=Hq hz;have hl:=hz.len;have HE:Hid (mayB F=(decide (0<F.length/\F.length<=60) && ((List.range F.length).all (fun i=>((F[i]?).map (oneB F i)).getD false) && (docB F && (List.range F.length).all fun i=>endsB F F.length i)))):=Hq rfl;have HS:Hid ((List.range F.length).all (fun i=>((F[i]?).map (oneB F i)).getD false)=true->Up F/\∀ h0:0<F.length,∀ k∈kidsOf F 0,isB F k=true):=Hq (fun h=>⟨up_of h,fun h0 k hk=>(zml h h0 hk).1⟩);generalize mayB F=R at *;obtain ⟨W,hW⟩:∃ W,W=w.alloc (.cells #[.slice A F.length c] 61):=⟨_,rfl⟩;have HWb:Hid (Below w.heap.size w W):=Hq (by rw [hW];exact Bq _ _);have HWk:Hid (W.heap[w.heap.size]? = some (.cells #[.slice A F.length c] 61 (0,0))):=Hq (by rw [hW];exact heap_alloc_new _ _);have HE1:=Hq (every1 w.heap.size A F c W (HF.out.below HWb.out) HZ.out HWk.out);have HD:=Hq (fun (V:World) (hb:Below w.heap.size w V) (h0:0<F.length) (hB:∀ k∈kidsOf F 0,isB F k=true)=>znk A F c V (HF.out.below hb) HZ.out.len h0 HZ.out.kids hB);have HE2:=Hq (fun (V:World) (hb:Below w.heap.size w V) (hU:Up F) (hk:V.heap[w.heap.size]? = some (.cells #[.slice A F.length c] 61 (0,0)))=>every2 w.heap.size A F c V (HF.out.below hb) HZ.out hU hk);unfold may1F at HE1;unfold may2F at HE2;have x0:=block1 HWk.out;have hlt:=lt_of_block HWk.out;clear hF hz;generalize (List.range F.length).all (fun i=>((F[i]?).map (oneB F i)).getD false)=B1 at *;generalize (List.range F.length).all (fun i=>endsB F F.length i)=B2 at *;generalize docB F=B3 at *;obtain ⟨n,hnn⟩:∃ n,F.length=n:=⟨_,rfl⟩;rw [hnn] at hl HE HS hW HWk HE1 HD HE2 x0 ⊢;clear hnn
 by_cases h0:n=0
 · subst h0;go_enter Tryz.func29,Tryz.ntmps29;go_upto_region 1 with fail
   rw [<- hW];clear hW;go_wp2;go_ret;exact ⟨ze (by rw [HE.out];rfl),HWb.out⟩
 have h0b:((n:Int) == 0)=false:=beq_eq_false_iff_ne.2 (by omega);have h0c:¬ (n:Int)=0:=by omega
 by_cases h60:60<n
 · have h6:(60:Int)<(n:Int):=by omega
   go_enter Tryz.func29,Tryz.ntmps29;go_upto_region 1 with fail
   rw [<- hW];clear hW;go_wp2;go_ret;exact ⟨ze (by rw [HE.out];simp;omega),HWb.out⟩
 have h6:¬ (60:Int)<(n:Int):=by omega
 have hd:decide (0<n/\n<=60)=true:=decide_eq_true (by omega);rw [hd] at HE;go_enter Tryz.func29,Tryz.ntmps29;go_upto_region 1 with fail
 rw [<- hW];clear hW;go_wp2_with fail;refine HE1.out.mono ?_;rintro e w1 ⟨rfl,hb⟩;have HB1:=Hq (HWb.out.trans (hb.mono HWb.out.size));have HK1:=Hq ((hb.block _ hlt).trans HWk.out);have hlt1:w.heap.size<w1.heap.size:=Nat.lt_of_lt_of_le hlt hb.size;clear hb x0;cases B1 with
 | false =>
   go_wp2;go_ret;exact ⟨ze (by rw [HE.out];rfl),HB1.out⟩
 | true =>
   obtain ⟨hU,hK⟩:=HS.out rfl;have HU:=Hq hU;have HKd:=Hq (hK (by omega));clear hU hK;have x0:=block1 HK1.out;go_wp2_with fail;refine (HD.out w1 HB1.out (by omega) HKd.out).mono ?_;rintro e w2 ⟨rfl,hb⟩;have HB2:=Hq (HB1.out.trans (hb.mono HB1.out.size));have HK2:=Hq ((hb.block _ hlt1).trans HK1.out);clear hb x0;have x0:=block1 HK2.out;cases B3 with
   | false =>
     go_wp2;go_ret;exact ⟨ze (by rw [HE.out];rfl),HB2.out⟩
   | true =>
     go_wp2_with fail;refine (HE2.out w2 HB2.out HU.out HK2.out).mono ?_;rintro e w3 ⟨rfl,hb⟩;have HB3:=Hq (HB2.out.trans (hb.mono HB2.out.size));clear hb x0;go_wp2;go_ret;exact ⟨ze (by rw [HE.out];simp),HB3.out⟩
def onWay (F:List Mn) (top:Int):Nat->Int->Bool
 | 0,_=>false
 | n+1,x=>if x = -1 then false else decide (x=top) || onWay F top n (par F x.toNat)
def belowB (F:List Mn) (top x:Int):Bool:=mayB F && (isB F x && onWay F top F.length x)
def bel1F (k:Nat):Value:=.func (.func 163) #[] #[.pointer (some ⟨k,0,none⟩)]
theorem zrf (k:Nat) (top y:Int) (w:World) (hk:w.cell? ⟨k,0,none⟩=some (.int .i64 top)) :
 Calls Tryz.prog 163 #[.int .i64 y,.pointer (some ⟨k,0,none⟩)] w fun e w'=>e = .returned (.bool (y != top))/\w'=w:=by
 go_enter Tryz.func163,Tryz.ntmps163;go_wp2;go_ret;exact ⟨rfl,rfl⟩
theorem zpc (A:Option Addr) (F:List Mn) (c:Nat) (w:World) (hF:FR w A F) (hn:F.length<=1000) (hU:Up F) (k:Nat) (top x:Int) (hk:w.cell? ⟨k,0,none⟩=some (.int .i64 top)) (hx:x = -1\/isB F x=true) (he:endsB F F.length x=true) :
 Calls Tryz.prog 120 #[.slice A F.length c,.int .i64 x,bel1F k] w fun e w'=>e = .returned (.bool (!onWay F top F.length x))/\w'=w:=by
 have HF:=Hq hF;have HU:=Hq hU;have HX:=Hq hx;have HE:=Hq he;have HK:=Hq (fun y=>zrf k top y w hk);obtain ⟨R,hR⟩:∃ R,onWay F top F.length x=R:=⟨_,rfl⟩;have HR:=Hq hR;rw [hR];obtain ⟨n,hnn⟩:∃ n,F.length=n:=⟨_,rfl⟩;have HNN:=Hq hnn;rw [hnn] at hn HE HR ⊢;clear hF hU hx he hnn hR hk;unfold bel1F;go_enter Tryz.func120,Tryz.ntmps120;go_wp2_with fail
 go_loopg [7] n (fun g at' wr=>∃ (y:Int),at' = .int .i64 y/\Hid (y = -1\/isB F y=true)/\Hid (endsB F g y=true)/\Hid (onWay F top g y=R)/\w=wr)
 case atStart => exact ⟨x,rfl,HX,HE,HR,rfl⟩
 case round =>
  obtain ⟨y,rfl,HY,HEy,HRy,rfl⟩:=hrel
  by_cases hy:y = -1
  · subst hy;have HRf:Hid (R=false):=Hq (by rw [<- HRy.out];cases gk<;>simp [onWay]);go_wp2;go_ret;exact ⟨ze (by rw [HRf.out];rfl),rfl⟩
  · have hyn:(y != -1)=true:=by simpa using hy
    have hisB:isB F y=true:=HY.out.resolve_left hy;rw [isB,decide_eq_true_eq] at hisB;cases gk with
    | zero=>exact absurd (by simpa [endsB] using HEy.out) hy
    | succ gp =>
      obtain ⟨j,rfl⟩:=Int.eq_ofNat_of_zero_le hisB.1;have hjF:j<F.length:=by omega
      obtain ⟨hfk,g,off,rfl,hg,hnk⟩:=HF.out j F[j] (List.getElem?_eq_getElem hjF);have y0:(0:Int)<=(j:Int):=by omega
      have y1:(j:Int)<(n:Int):=by rw [<- HNN.out];omega
      have c4:=hnk.c4;have HPu:=Hq (HU.out j hjF);rw [zby hjF] at HPu;have HE2:Hid (endsB F gp F[j].parent=true):=Hq (by
       have:=HEy.out;rw [endsB,Int.toNat_natCast,zby hjF] at this;simpa [hy] using this)
      have HR2:Hid ((decide ((j:Int)=top) || onWay F top gp F[j].parent)=R):=Hq (by
       have:=HRy.out;rw [onWay,if_neg hy,Int.toNat_natCast,zby hjF] at this;exact this)
      clear hnk hfk;generalize F[j].parent=pp at *;have HS:=Hq (HK.out (j:Int))
      rcases Bool.eq_false_or_eq_true ((j:Int) != top) with ht|ht
      · rw [ht] at HS;have HR3:Hid (onWay F top gp pp=R):=Hq (by
         have h:=HR2.out;rw [decide_eq_false (by simpa using ht)] at h;exact h)
        go_wp2_with fail;refine HS.out.mono ?_;rintro e w' ⟨rfl,rfl⟩;go_wp2
        go_roundg gp
        case measure => omega
        case rel => exact ⟨pp,rfl,HPu,HE2,HR3,by first|trivial|rfl⟩
      · rw [ht] at HS;have HRt:Hid (R=true):=Hq (by
         have h:=HR2.out;rw [decide_eq_true (by simpa using ht)] at h;exact h.symm)
        go_wp2_with fail;refine HS.out.mono ?_;rintro e w' ⟨rfl,rfl⟩;go_wp2;go_ret;exact ⟨ze (by rw [HRt.out];rfl),rfl⟩
theorem zcf {F:List Mn} (h:mayB F=true):0<F.length/\F.length<=60/\(List.range F.length).all (fun i=>((F[i]?).map (oneB F i)).getD false)=true/\docB F=true/\∀ i,i<F.length->endsB F F.length i=true:=by
 simp only [mayB,Bool.and_eq_true,decide_eq_true_eq] at h;refine ⟨h.1.1,h.1.2,h.2.1,h.2.2.1,fun i hi=>?_⟩;exact List.all_eq_true.1 h.2.2.2 i (List.mem_range.2 hi)
theorem zpd (A:Option Addr) (F:List Mn) (c:Nat) (top x:Int) (w:World) (hF:FR w A F) (hz:Sz F) :
 Calls Tryz.prog 139 #[.slice A F.length c,.int .i64 top,.int .i64 x] w (GivesV (.bool (belowB F top x)) w):=by
 have HF:=Hq hF;have HZ:=Hq hz;have hl:=hz.len;have HE:Hid (belowB F top x=(mayB F && (isB F x && onWay F top F.length x))):=Hq rfl;have HM:=Hq (fun (W:World) (hb:Below w.heap.size w W)=>zel A F c W (hF.below hb) hz);have HI:=Hq (fun (W:World)=>zce A F.length c x W hl);have HC:Hid (∀ (W:World),Below w.heap.size w W->W.cell? ⟨w.heap.size,0,none⟩=some (.int .i64 top)->mayB F=true->isB F x=true->Calls Tryz.prog 120 #[.slice A F.length c,.int .i64 x,bel1F w.heap.size] W fun e w'=>e = .returned (.bool (!onWay F top F.length x))/\w'=W):=Hq (fun W hb hk hm hx=>by
  obtain ⟨p1,p2,p3,p4,p5⟩:=zcf hm;refine zpc A F c W (hF.below hb) hl (up_of p3) w.heap.size top x hk (.inr hx) ?_;rw [isB,decide_eq_true_eq] at hx;obtain ⟨j,rfl⟩:=Int.eq_ofNat_of_zero_le hx.1;exact p5 j (by omega))
 unfold bel1F at HC;have HIs:Hid (isB F x=decide (0<=x/\x<(F.length:Int))):=Hq rfl;rw [<- HIs.out] at HI;clear hF hz;generalize belowB F top x=R at *;generalize mayB F=MB at *;generalize isB F x=IB at *;generalize onWay F top F.length x=OW at *;generalize F.length=n at *;obtain ⟨W,hW⟩:∃ W,W=w.alloc (.cells #[.int .i64 top] 3):=⟨_,rfl⟩;have HWb:Hid (Below w.heap.size w W):=Hq (by rw [hW];exact Bq _ _);have HWk:Hid (W.heap[w.heap.size]? = some (.cells #[.int .i64 top] 3 (0,0))):=Hq (by rw [hW];exact heap_alloc_new _ _);have hlt:=lt_of_block HWk.out;go_enter Tryz.func139,Tryz.ntmps139;go_upto_region 1 with fail
 rw [<- hW];clear hW;go_wp2_with fail;refine (HM.out W HWb.out).mono ?_;rintro e w1 ⟨rfl,hb⟩;have HB1:=Hq (HWb.out.trans (hb.mono HWb.out.size));have HK1:=Hq ((hb.block _ hlt).trans HWk.out);clear hb;cases MB with
 | false =>
   go_wp2;go_ret;exact ⟨ze (by rw [HE.out];rfl),HB1.out⟩
 | true =>
   cases IB with
   | false =>
     go_wp2_with fail;refine (HI.out w1).mono ?_;rintro e w' ⟨rfl,rfl⟩;go_wp2;go_ret;exact ⟨ze (by rw [HE.out];rfl),HB1.out⟩
   | true =>
     go_wp2_with fail;refine (HI.out w1).mono ?_;rintro e w' ⟨rfl,rfl⟩;go_wp2_with fail;refine (HC.out _ HB1.out (block1 HK1.out) (by first|trivial|rfl) (by first|trivial|rfl)).mono ?_;rintro e w' ⟨rfl,rfl⟩;go_wp2;go_ret;exact ⟨ze (by rw [HE.out];simp),HB1.out⟩
def ivs (l:List Int):List Value:=l.map (Value.int .i64)
theorem zam (l:List Int):(ivs l).length=l.length:=by simp [ivs]
theorem own_below {w w':World} {base:Nat} {e:TypeId} {size n:Nat} {v:Value} {xs:List Value} (h:w.ownsRow base e size v n xs) (hb:Below w.heap.size w w'):w'.ownsRow base e size v n xs:=by
 refine ⟨h.1,?_⟩
 rcases h.2 with h'|⟨g,cap,cur,h1,h2,h3,h4⟩
 · exact .inl h'
 · exact .inr ⟨g,cap,cur,h1,h2,(hb.block g (Array.getElem?_eq_some_iff.1 h3).1).trans h3,h4⟩
theorem zh {w:World} {base:Nat} {e:TypeId} {v:Value} {n:Nat} {xs:List Value} (h:w.ownsRow base e 1 v n xs):∃ p cap,v = .slice p n cap/\n<=cap/\cap<=maxLen/\xs.length=n:=by
 have h1:=h.1;rw [Nat.mul_one] at h1
 rcases h.2 with ⟨rfl,rfl⟩|⟨g,cap,cur,rfl,_,_,hnc,hcm,_⟩
 · exact ⟨none,0,rfl,Nat.le_refl _,by simp [maxLen],h1⟩
 · exact ⟨_,cap,rfl,hnc,hcm,h1⟩
theorem zi {w:World} {base k size:Nat} {e t:TypeId} {v:Value} {n:Nat} {xs:List Value} {cs:Array Value} (h:w.ownsRow base e size v n xs) (hk:w.heap[k]? = some (.cells cs t (0,0))) (hne:e≠t):v.ownBlock≠some k:=by
 rcases h.2 with ⟨rfl,_⟩|⟨g,cap,cur,rfl,_,hg,_⟩
 · simp [Value.ownBlock]
 · intro he;obtain rfl:g=k:=by simpa [Value.ownBlock] using he
   rw [hg] at hk;cases hk;exact hne rfl
theorem zcp:(Tryz.prog.info? 3).map (fun i=>(i.zero,i.size,i.bytes))=some (some (.int .i64 0),1,8):=by kernel_rfl
structure Box (w:World) (k B:Nat) (l:List Int):Prop where
 own:∃ p cap,w.heap[k]? = some (.cells #[.slice p l.length cap] 28 (0,0))/\w.ownsRow B 3 1 (.slice p l.length cap) l.length (ivs l)
theorem Box.below {w w':World} {k B:Nat} {l:List Int} (h:Box w k B l) (hb:Below w.heap.size w w'):Box w' k B l:=by
 obtain ⟨p,cap,h1,h2⟩:=h.own;exact ⟨p,cap,(hb.block k (lt_of_block h1)).trans h1,own_below h2 hb⟩
end Go.Proofs.YtdmecdjfbpblgaaGreatDoor
