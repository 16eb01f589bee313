/-
  The rows of a list: handles.
-/
import Derived.Test.YtdmecdjfbpblgaaGreatDoorQH03
namespace Go.Proofs.YtdmecdjfbpblgaaGreatDoor.V
set_option maxRecDepth 100000
set_option maxHeartbeats 32000000
open Go.ChangeShapes Go.WideShapes Go.ChangeAt Go.RowKit
set_option linter.unusedVariables false
set_option linter.unusedSimpArgs false
structure PK (n:Nat) (G:Int) (p:Pl):Prop where
 ok:Ok n G p.st
 len:p.ch.length=n
 four:∀ c∈p.ch,c.length<=4
 u64:∀ c∈p.ch,U64 c
theorem PK.at {n:Nat} {G:Int} {p:Pl} (h:PK n G p) (x:Int):(p.at x).length<=4/\U64 (p.at x):=by
 unfold Pl.at;rw [List.getD]
 rcases Nat.lt_or_ge (ix x) p.ch.length with hl|hl
 · rw [List.getElem?_eq_getElem hl];exact ⟨h.four _ (List.getElem_mem _),h.u64 _ (List.getElem_mem _)⟩
 · rw [List.getElem?_eq_none hl];exact ⟨by simp,fun y hy=>by simp at hy⟩
theorem PK.fit {n:Nat} {G:Int} {p:Pl} (h:PK n G p) {row:List Int} (hU:U64 row) (hl:row.all p.st.lv=true):Fit p row:=by
 intro x hx;obtain ⟨i,hi,hin,-⟩:=h.ok.live (List.all_eq_true.1 hl x hx);refine ⟨(hU x hx).1,(hU x hx).2,?_,(h.at x).1⟩;unfold ix;rw [h.len];omega
theorem PK.parts {n:Nat} {G:Int} {p:Pl} (h:PK n G p) (row:List Int):U64 (p.parts row):=by
 intro x hx;obtain ⟨y,_,hy⟩:=List.mem_flatMap.1 hx;exact (h.at y).2 x hy
theorem PK.plen {n:Nat} {G:Int} {p:Pl} (h:PK n G p):∀ row,(p.parts row).length<=4*row.length
 | []=>by simp [Pl.parts]
 | x::t=>by
   have h1:=(h.at x).1;have h2:=h.plen t;simp only [Pl.parts,List.flatMap_cons,List.length_append,List.length_cons] at h2 ⊢;omega
def RP (w:World) (b g L r:Nat) (done:List (List Int)):Prop :=
 ∃ vs:List Value,w.ownsRow b 26 1 (.slice (some ⟨g,0,none⟩) L L) L vs/\∀ j,j<done.length->∃ x,vs[r+j]? = some x/\w.ownsRow b 37 1 x (done.getD j []).length (gvs (done.getD j []))
theorem RP.below {w w':World} {b g L r:Nat} {done:List (List Int)} (h:RP w b g L r done) (hb:Below w.heap.size w w'):RP w' b g L r done:=by
 obtain ⟨vs,h1,h2⟩:=h;exact ⟨vs,own_below h1 hb,fun i hi=>by obtain ⟨x,e,o⟩:=h2 i hi;exact ⟨x,e,own_below o hb⟩⟩
theorem RP.set {w:World} {b g L r:Nat} {done:List (List Int)} (h:RP w b g L (r+1) done) (hr:r<L) {v:Value} {l:List Int} (hv:w.ownsRow b 37 1 v l.length (gvs l)):RP (w.setCell ⟨g,r,none⟩ v) b g L r (l::done):=by
 obtain ⟨vs,h1,h2⟩:=h;obtain ⟨cur,hg,-⟩:=zaq h1;have hk:∀ (x:Value) (n:Nat) (xs:List Value),w.ownsRow b 37 1 x n xs->(w.setCell ⟨g,r,none⟩ v).ownsRow b 37 1 x n xs:=fun x n xs ho=>ownsRow_setCell_other ho (zav ho hg (by decide)) _
 have hl:vs.length=L:=by have:=h1.1;omega
 refine ⟨vs.set r v,(h1.stored r v).1,fun j hj=>?_⟩;cases j with
 | zero=>exact ⟨v,by rw [Nat.add_zero,List.getElem?_set_self (by omega)],hk _ _ _ hv⟩
 | succ j =>
   obtain ⟨x,e,o⟩:=h2 j (by simpa using hj);refine ⟨x,?_,hk _ _ _ o⟩;rw [List.getElem?_set_ne (by omega),<- e];congr 1;omega
theorem RP.end {w:World} {b g L:Nat} {done:List (List Int)} (h:RP w b g L 0 done) (hd:done.length=L):RR w b (.slice (some ⟨g,0,none⟩) L L) done:=by
 obtain ⟨vs,h1,h2⟩:=h;subst hd;exact ⟨vs,h1,fun i hi=>by obtain ⟨x,e,o⟩:=h2 i hi;exact ⟨x,by rw [<- e,Nat.zero_add],o⟩⟩
theorem zjg (w:World) (o o' o'':Obj):(((w.alloc o).alloc o').alloc o'').heap[w.heap.size+1+1]? = some o'':=(show ((w.alloc o).alloc o').heap.size=w.heap.size+1+1 by simp) ▸ heap_alloc_new _ _
theorem zjh (w:World) (o o' o'' o3:Obj):((((w.alloc o).alloc o').alloc o'').alloc o3).heap[w.heap.size+1+1+1]? = some o3:=(show (((w.alloc o).alloc o').alloc o'').heap.size=w.heap.size+1+1+1 by simp) ▸ heap_alloc_new _ _
theorem zqj:(Tryz.prog.info? 26).map (fun i=>(i.zero,i.size,i.bytes))=some (some (.slice none 0 0),1,24):=by kernel_rfl
def GivesH (o:Option (List (List Int))) (w:World) (en:Ending) (w':World):Prop :=
 ((o=none/\en = .returned (.tuple #[.slice none 0 0,.int .i64 30]))\/(∃ ls v,o=some ls/\en = .returned (.tuple #[v,.int .i64 0])/\RR w' w.heap.size v ls))/\Below w.heap.size w w'
theorem zfg (root:Int) (size:Nat) (vg vu vf vc:Value) (p:Pl) (b n:Nat) (G:Int) (w:World) (hA:PA w b vg vu vf vc p) (hP:PK n G p) (h0:0<=root) (h1:root<=18446744073709551615) (hs:size<=256) :
 Calls Tryz.prog 53 #[.agg #[vg,vu,vf,vc],.agg #[.int .u64 root,.int .i64 size]] w (GivesH (p.down (lvs size) [root]) w):=by
 have hsm:=hP.ok.small;have HA:=Lib.hid hA;have HP:=Lib.hid hP;clear hA hP;have HL:=Lib.hid (fun w=>zfe size w hs);have hL4:=zbl size;generalize lvs size=L at *;have mk:=fun W:World=>run_make_row' (P:=Tryz.prog) 130 26 (.slice none 0 0) 24 Tryz.underlying130 zqj rfl .i64 .i64 L (by omega) (by omega) W
 go_enter Tryz.func53,Tryz.ntmps53
 go_wp2_with (go_at_call 108;refine (HL.out _).mono ?_;rintro e w' ⟨rfl,rfl⟩)
 clear mk;obtain ⟨W,hW⟩:∃ W,W=(((w.alloc (.cells #[vg,vu,vf,vc] 34)).alloc (.cells #[.int .u64 root,.int .i64 size] 39)).alloc (.cells (madeCells #[.slice none 0 0] L) 26)).alloc (.cells #[.int .u64 root] 37):=⟨_,rfl⟩;rw [<- hW];have HW:Hid (Below w.heap.size w W/\W.heap.size=w.heap.size+4/\W.heap[w.heap.size]? = some (.cells #[vg,vu,vf,vc] 34 (0,0))/\W.heap[w.heap.size+1+1]? = some (.cells (madeCells #[.slice none 0 0] L) 26 (0,0))/\W.heap[w.heap.size+1+1+1]? = some (.cells #[.int .u64 root] 37 (0,0))):=Lib.hid (by
  subst hW;refine ⟨(((Below.refl _ w).alloc (Nat.le_refl _) _).alloc (by simp) _ |>.alloc (by simp;omega) _).alloc (by simp;omega) _,by simp,?_,?_,?_⟩
  · rw [heap_alloc_old _ _ (by simp;omega),heap_alloc_old _ _ (by simp;omega),heap_alloc_old _ _ (by simp)];exact heap_alloc_new w _
  · rw [heap_alloc_old _ _ (by simp)];exact zjg _ _ _ _
  · exact zjh _ _ _ _ _)
 clear hW;have HS:=Lib.hid HW.out.2.1;have HK:=Lib.hid HW.out.2.2.1;have HAW:=Lib.hid (HA.out.below HW.out.1);have HR0:Hid (RP W w.heap.size (w.heap.size+1+1) L L []):=Lib.hid ⟨_,zbr HW.out.2.2.2.1 (by omega) (by omega),fun j hj=>by simp at hj⟩;have HC0:Hid (W.ownsRow w.heap.size 37 1 (.slice (some ⟨w.heap.size+1+1+1,0,none⟩) 1 1) 1 (gvs [root])):=Lib.hid ⟨by simp [gvs],.inr ⟨_,1,#[.int .u64 root],rfl,by omega,HW.out.2.2.2.2,Nat.le_refl _,by simp [maxLen],by simp,by simp [gvs]⟩⟩
 go_loopw [7,8] (fun v i wr=>∃ (r:Nat) (cur:List Int) (done:List (List Int)) (q:Option Addr) (cap:Nat),i = .int .i64 ((r:Int) - 1)/\v = .slice q cur.length cap/\r+done.length=L/\cur.length*4 ^ r<=256 /\
  Hid (wr.ownsRow w.heap.size 37 1 (.slice q cur.length cap) cur.length (gvs cur))/\Hid (RP wr w.heap.size (w.heap.size+1+1) L r done)/\Hid (p.down L [root]=(p.down r cur).map (· ++ done))/\Hid (U64 cur)/\Hid (Below (w.heap.size+2) W wr)) (fun _ i _=>(intOf i+1).toNat)
 case atStart =>
  refine ⟨L,[root],[],_,_,rfl,rfl,by simp,?_,HC0,HR0,Lib.hid (by simp),Lib.hid (fun x hx=>by simp at hx;subst hx;exact ⟨h0,h1⟩),Lib.hid (Below.refl _ _)⟩;have:4 ^ L<=4 ^ 4:=Nat.pow_le_pow_right (by decide) hL4;simp;omega
 case round =>
  obtain ⟨r,cur,done,q,cap,rfl,rfl,hrL,hcl,HC,HR,HD,HU,HB⟩:=hrel;have HKr:Hid (wr.heap[w.heap.size]? = some (.cells #[vg,vu,vf,vc] 34 (0,0))):=Lib.hid ((HB.out.block _ (by omega)).trans HK.out);have HBw:Hid (Below w.heap.size w wr):=Lib.hid (HW.out.1.trans (HB.out.mono (by omega)));have HAr:=Lib.hid (HA.out.below HBw.out);have hsz:w.heap.size+4<=wr.heap.size:=by have:=HB.out.size;have:=HS.out;omega
  obtain ⟨x0,x1,x2,x3,-⟩:=block4 HKr.out;cases r with
  | zero =>
    go_wp2;go_ret2;refine ⟨.inr ⟨done,_,?_,rfl,HR.out.end (by omega)⟩,HBw.out⟩;rw [HD.out];simp [Pl.down]
  | succ r =>
    have hr0:(0:Int)<=((r+1:Nat):Int) - 1:=by omega
    have hr1:((r+1:Nat):Int) - 1=(r:Int):=by omega
    rw [hr1] at hr0 ⊢;have hcl':cur.length<=256:=by
     have:1<=4 ^ (r+1):=Nat.pow_pos (by decide);have:=Nat.mul_le_mul_left cur.length this;omega
    have hrl:(r:Int)<(L:Int):=by omega
    go_wp2_with fail;refine (zj5 w.heap.size cur _ w.heap.size vg vu vf vc p b n G wr HKr.out HAr.out HP.out.ok HC.out HU.out (by omega)).mono ?_;rintro e w1 ⟨rfl,hb1⟩;have HB1:Hid (Below (w.heap.size+2) W w1):=Lib.hid (HB.out.trans (hb1.mono (by omega)));have HC1:=Lib.hid (own_below HC.out hb1);have HR1:=Lib.hid (HR.out.below hb1);have hs1:=hb1.size;clear hb1
    rcases Bool.eq_false_or_eq_true (cur.all p.st.lv) with hv|hv
    · rw [hv];have HV:=Lib.hid hv;clear hv;have HKs:Hid (w1.heap[w.heap.size]? = some (.cells #[vg,vu,vf,vc] 34 (0,0))):=Lib.hid ((HB1.out.block _ (by omega)).trans HK.out);have HRs:Hid (RP (w1.setCell ⟨w.heap.size+1+1,r,none⟩ (.slice q cur.length cap)) w.heap.size (w.heap.size+1+1) L r (cur::done)):=Lib.hid (HR1.out.set (by omega) HC1.out);obtain ⟨vs,hvs,-⟩:=HR1.out;obtain ⟨curb,hgb,-⟩:=zaq hvs;have cR:∃ u,w1.cell? ⟨w.heap.size+1+1,r,none⟩=some u:=by
       have hl:vs.length=L:=by have:=hvs.1;omega
       exact ⟨vs[r]'(by omega),by rw [hvs.cellAt r (by omega),List.getElem?_eq_getElem (by omega)]⟩
      obtain ⟨u,hu⟩:=cR;have zR:w1.frozen? ⟨w.heap.size+1+1,r,none⟩=false:=hvs.frozenAt r;have HCs:Hid ((w1.setCell ⟨w.heap.size+1+1,r,none⟩ (.slice q cur.length cap)).ownsRow w.heap.size 37 1 (.slice q cur.length cap) cur.length (gvs cur)):=Lib.hid (ownsRow_setCell_other HC1.out (zav HC1.out hgb (by decide)) _);clear hvs hgb;obtain ⟨V,hV⟩:∃ V,V=w1.setCell ⟨w.heap.size+1+1,r,none⟩ (.slice q cur.length cap):=⟨_,rfl⟩;have HBV:Hid (Below (w.heap.size+2) W V):=Lib.hid (by rw [hV];exact HB1.out.setCell (by simp) _);rw [<- hV] at HRs HCs;have HKV:Hid (V.heap[w.heap.size]? = some (.cells #[vg,vu,vf,vc] 34 (0,0))):=Lib.hid ((HBV.out.block _ (by omega)).trans HK.out);have HAV:=Lib.hid (HA.out.below (HW.out.1.trans (HBV.out.mono (by omega))));go_upto_region 9 with fail
      rw [<- hV];have hVs:w1.heap.size=V.heap.size:=by rw [hV];simp
      clear hV x0 x1 x2 x3 hu zR;obtain ⟨x0,x1,x2,x3,-⟩:=block4 HKV.out;go_wp2_with fail;refine (zd4 cur _ w.heap.size vg vu vf vc p b V HAV.out HCs.out (HP.out.fit HU.out HV.out) (by rw [HP.out.len];omega) (by omega)).mono ?_;rintro e w2 ⟨v2,rfl,ho2,hb2⟩;rw [zac] at ho2;obtain ⟨q2,c2,rfl,-,-,-⟩:=zh ho2;have HC2:=Lib.hid (zo ho2 (show w.heap.size<=V.heap.size by omega));have HR2:=Lib.hid (HRs.out.below hb2);have HB2:Hid (Below (w.heap.size+2) W w2):=Lib.hid (HBV.out.trans (hb2.mono (by omega)));clear ho2 hb2;go_wp2;go_roundw
      case rel =>
       refine ⟨r,p.parts cur,cur::done,q2,c2,rfl,rfl,by simp;omega,?_,HC2,HR2,Lib.hid ?_,Lib.hid (HP.out.parts cur),HB2⟩
       · have h2:=HP.out.plen cur;have h3:=Nat.mul_le_mul_right (4 ^ r) h2;rw [Nat.pow_succ] at hcl;rw [Nat.mul_comm 4,Nat.mul_assoc,Nat.mul_comm 4] at h3;omega
       · rw [HD.out,Pl.down,if_pos HV.out,Option.map_map];congr 1;funext x;simp
      case measure => simp [intOf]<;>omega
    · rw [hv];have HV:=Lib.hid hv;clear hv;go_wp2;go_ret2;refine ⟨.inl ⟨?_,rfl⟩,HW.out.1.trans (HB1.out.mono (by omega))⟩;rw [HD.out,Pl.down,if_neg (by rw [HV.out];decide)];rfl
theorem PB.below {w w':World} {k g B cc:Nat} {vg vu vf:Value} {p:Pl} (h:PB w k g B cc vg vu vf p) (hb:Below w.heap.size w w'):PB w' k g B cc vg vu vf p:=⟨(hb.block k (lt_of_block h.blk)).trans h.blk,h.pa.below hb⟩
def GivesP (k g B cc:Nat) (v0:Value) (p:Pl) (o:Option (Pl × Int)) (w:World) (en:Ending) (w':World):Prop :=
 (o=none/\GivesB k g B cc v0 p 0 2 w en w')\/(∃ q x,o=some (q,x)/\GivesB k g B cc v0 q x 0 w en w')
theorem zfh {k g B cc:Nat} {v0:Value} {q:Pl} {w w1 w':World} (h:∃ vg vu vf,PB w' k g B cc vg vu vf q/\Fresh v0 vg w1) (hs:w.heap.size<=w1.heap.size):∃ vg vu vf,PB w' k g B cc vg vu vf q/\Fresh v0 vg w:=by
 obtain ⟨a,b,c,h1,h2⟩:=h;exact ⟨a,b,c,h1,fun r hr=>h2 r (by omega)⟩
theorem zok {p:Pl} {h:Int} {c:List Int} (hn:¬ (h≠0/\p.at h=c)):p.place h c=match p.st.free.getLast? with|none=>none|some i=>some (p.tk i.toNat c,hd i (p.st.gens.getD i.toNat 0)):=by
 unfold Pl.place;rw [if_neg hn];cases p.st.free.getLast? <;> rfl
theorem zt8 (k g B cc:Nat) (h:Int) (c:List Int) (vg vu vf:Value) (p:Pl) (n:Nat) (G:Int) (w:World) (hP:PB w k g B cc vg vu vf p) (hK:PK n G p) (hG:G<=1099511627775) (hBk:B<=k) (hn:¬ (h≠0/\p.at h=c)) :
 Calls Tryz.prog 131 #[.pointer (some ⟨k,0,none⟩),cval c] w (GivesP k g B cc vg p (p.place h c) w):=by
 rw [zok hn]
 by_cases hf:p.st.free=[]
 · refine (zt7 k g B cc c vg vu vf p n G w hP hK.ok hf).mono fun e w' hw=>?_
   rw [hf];exact .inl ⟨rfl,hw⟩
 · obtain ⟨fr,i,hfr,hi⟩:=hK.ok.last hf;refine (zsf k g B cc c vg vu vf p n i fr G w hP hK.ok hG hfr hi hK.len hBk).mono fun e w' hw=>?_
   rw [hfr,List.getLast?_concat];exact .inr ⟨_,_,rfl,hw⟩
theorem zdz (l m ko k g B cc b:Nat) (c:List Int) (old:List (List Int)) (vo vg vu vf:Value) (p:Pl) (n:Nat) (G:Int) (w:World) (ho:w.heap[ko]? = some (.cells #[vo] 130 (0,0))) (hR:RR w b vo old) (hol:old.length<=1000) (hll:l<=1000) (hm:m<=1000)
 (hrl:∀ r∈old,r.length<=1000) (hP:PB w k g B cc vg vu vf p) (hK:PK n G p) (hG:G<=1099511627775) (hBk:B<=k) (hx:atR old l m≠0->0<=atR old l m/\atR old l m<=18446744073709551615/\ix (atR old l m)<n) :
 Calls Tryz.prog 128 #[.int .i64 l,.int .i64 m,cval c,.pointer (some ⟨ko,0,none⟩),.pointer (some ⟨k,0,none⟩)] w (GivesP k g B cc vg p (p.place (atR old l m) c) w):=by
 have hsm:=hK.ok.small;have HO:Hid (w.cell? ⟨ko,0,none⟩=some vo):=Lib.hid (by simp [World.cell?,ho]);have hko:=lt_of_block ho;have hk:=lt_of_block hP.blk;obtain ⟨W,hW⟩:∃ W,W=w.alloc (.cells #[.int .i64 c.length,.int .u64 (it c 0),.int .u64 (it c 1),.int .u64 (it c 2),.int .u64 (it c 3)] 119):=⟨_,rfl⟩;have HBW:Hid (Below w.heap.size w W):=Lib.hid (by rw [hW];exact (Below.refl _ w).alloc (Nat.le_refl _) _);have HXW:Hid (W.heap[w.heap.size]? = some (.cells #[.int .i64 c.length,.int .u64 (it c 0),.int .u64 (it c 1),.int .u64 (it c 2),.int .u64 (it c 3)] 119 (0,0))):=Lib.hid (by rw [hW];exact heap_alloc_new _ _);have HRW:=Lib.hid (hR.below HBW.out);have HPW:=Lib.hid (hP.below HBW.out);have HAT:=Lib.hid (fun w' (h:RR w' b vo old)=>at_in l m old vo b w' h hol hll hm hrl);have HK:=Lib.hid hK;have HX:=Lib.hid hx;have cW:W.cell? ⟨ko,0,none⟩=some vo:=(HBW.out.cell (p:=⟨ko,0,none⟩) hko).trans HO.out;have HTK:=Lib.hid (fun (w':World) (hB:Below W.heap.size W w') (hn:¬ (atR old l m≠0/\p.at (atR old l m)=c))=>zt8 k g B cc (atR old l m) c vg vu vf p n G w' (HPW.out.below hB) hK hG hBk hn);clear ho hR hP hK hx;generalize hh:atR old l m=h at *;have HE:Hid (p.holds h c=decide (p.at h=c)):=Lib.hid rfl;have HPL:Hid (h≠0->p.at h=c->p.place h c=some (p,h)):=Lib.hid (fun a b=>by unfold Pl.place;rw [if_pos ⟨a,b⟩]);unfold cval;go_enter Tryz.func128,Tryz.ntmps128;go_upto_region 1 with fail
 rw [<- hW];have hWs:W.heap.size=w.heap.size+1:=by rw [hW];simp
 clear hW;obtain ⟨⟨b0,b1,b2,b3,b4⟩,-⟩:=block5 HXW.out;obtain ⟨x0,x1,x2,x3,-⟩:=block4 HPW.out.blk;go_wp2_with fail;refine (HAT.out W HRW.out).mono ?_;rintro e w1 ⟨rfl,rfl⟩
 by_cases hz:h=0
 · subst hz;go_wp2_with fail;refine (HTK.out W (Below.refl _ _) (fun hc=>hc.1 rfl)).mono ?_;rintro e w2 (⟨ho,rfl,hpb,hbut⟩|⟨q,x,ho,rfl,hpb,hbut⟩)
   · have HQ:=Lib.hid (And.intro ho (And.intro (zfh (w:=w) hpb HBW.out.size) ((But.of_below HBW.out).trans hbut)));clear ho hpb hbut;go_wp2;go_ret2;exact .inl ⟨HQ.out.1,rfl,HQ.out.2.1,HQ.out.2.2⟩
   · have HQ:=Lib.hid (And.intro ho (And.intro (zfh (w:=w) hpb HBW.out.size) ((But.of_below HBW.out).trans hbut)));clear ho hpb hbut;go_wp2;go_ret2;exact .inr ⟨q,x,HQ.out.1,rfl,HQ.out.2.1,HQ.out.2.2⟩
 · have hz':(h != 0)=true:=by simp [hz]
   have HXX:=Lib.hid (HX.out hz);have hHO:=zqe h c vg vu vf (.slice (some ⟨g,0,none⟩) p.ch.length cc) p B W HPW.out.pa HXX.out.1 HXX.out.2.1 (by rw [HK.out.len];exact HXX.out.2.2) (by rw [HK.out.len];omega) (HK.out.at h).1;unfold cval at hHO;have HHO:=Lib.hid hHO;clear hHO;go_wp2_with fail;refine HHO.out.mono ?_;rintro e w1 ⟨rfl,hb1⟩;have HB1:=Lib.hid hb1;have cX:=(hb1.cell (p:=⟨w.heap.size,0,none⟩) (by show w.heap.size<_;omega)).trans b0;have cX1:=(hb1.cell (p:=⟨w.heap.size,1,none⟩) (by show w.heap.size<_;omega)).trans b1;have cX2:=(hb1.cell (p:=⟨w.heap.size,2,none⟩) (by show w.heap.size<_;omega)).trans b2;have cX3:=(hb1.cell (p:=⟨w.heap.size,3,none⟩) (by show w.heap.size<_;omega)).trans b3;have cX4:=(hb1.cell (p:=⟨w.heap.size,4,none⟩) (by show w.heap.size<_;omega)).trans b4;clear hb1;rw [HE.out]
   by_cases hc:p.at h=c
   · have HC:=Lib.hid hc;rw [decide_eq_true hc];clear hc;go_wp2;go_ret2;exact .inr ⟨p,h,HPL.out hz HC.out,rfl,⟨vg,vu,vf,HPW.out.below HB1.out,fun r _ h=>h⟩,But.of_below (HBW.out.trans (HB1.out.mono (by omega)))⟩
   · have HC:=Lib.hid hc;rw [decide_eq_false hc];clear hc;go_wp2_with fail;refine (HTK.out w1 HB1.out (fun hc=>HC.out hc.2)).mono ?_;rintro e w2 (⟨ho,rfl,hpb,hbut⟩|⟨q,x,ho,rfl,hpb,hbut⟩)
     · have HQ:=Lib.hid (And.intro ho (And.intro (zfh (w:=w) hpb (Nat.le_trans HBW.out.size HB1.out.size)) ((But.of_below (HBW.out.trans (HB1.out.mono (by omega)))).trans hbut)));clear ho hpb hbut;go_wp2;go_ret2;exact .inl ⟨HQ.out.1,rfl,HQ.out.2.1,HQ.out.2.2⟩
     · have HQ:=Lib.hid (And.intro ho (And.intro (zfh (w:=w) hpb (Nat.le_trans HBW.out.size HB1.out.size)) ((But.of_below (HBW.out.trans (HB1.out.mono (by omega)))).trans hbut)));clear ho hpb hbut;go_wp2;go_ret2;exact .inr ⟨q,x,HQ.out.1,rfl,HQ.out.2.1,HQ.out.2.2⟩
theorem zqk {α:Type} {a b:List α} {j:Nat} (d:α) (h:j<a.length):(a++b).getD j d=a.getD j d:=by rw [List.getD,List.getD,List.getElem?_append_left h]
theorem zdb {α:Type} {a b:List α} {j:Nat} (d:α) (h:a.length<=j):(a++b).getD j d=b.getD (j - a.length) d:=by rw [List.getD,List.getD,List.getElem?_append_right h]
theorem zif {α:Type} (l:List α) (m:Nat) (d:α):(l.drop m).headD d=l.getD m d:=by
 rw [List.headD_eq_head?_getD,List.head?_drop,List.getD]
theorem tail_drop {α:Type} (l:List α) (m:Nat):(l.drop m).tail=l.drop (m+1):=by rw [List.tail_drop]
theorem zk7 (old:List (List Int)) (l m:Nat):(((old.drop l).headD []).drop m).headD 0=atR old l m:=by
 rw [zif,zif];rfl
theorem zig {p:Pl} {n:Nat} {G:Int} (h:PK n G p) (hG:G<=1099511627775) {x:Int} {c:List Int} (h4:c.length<=4) (hc:U64 c) (hx:x≠0->0<=x/\x<=18446744073709551615) {q:Pl} {y:Int} (he:p.place x c=some (q,y)):PK n G q/\0<=y/\y<=18446744073709551615:=by
 unfold Pl.place at he
 split at he
 · rename_i hc'
   cases he;exact ⟨h,hx hc'.1⟩
 · by_cases hf:p.st.free=[]
   · rw [hf] at he;cases he
   · obtain ⟨fr,i,hfr,hi⟩:=h.ok.last hf;rw [hfr,List.getLast?_concat] at he;cases he;have hg:=h.ok.gen hi;have hs:=h.ok.small;refine ⟨⟨h.ok.tk hfr,by simp [Pl.tk,h.len],fun d hd=>?_,fun d hd=>?_⟩,?_⟩
     · rcases List.mem_or_eq_of_mem_set hd with hd|rfl
       · exact h.four d hd
       · exact h4
     · rcases List.mem_or_eq_of_mem_set hd with hd|rfl
       · exact h.u64 d hd
       · exact hc
     · rw [Int.toNat_natCast];unfold hd;omega
theorem zol (s:Nat) (l:List Int):fours (s+1) l=l.take 4::fours s (l.drop 4):=rfl
theorem U64.take {l:List Int} (h:U64 l) (k:Nat):U64 (l.take k):=fun x hx=>h x (List.mem_of_mem_take hx)
theorem U64.drop {l:List Int} (h:U64 l) (k:Nat):U64 (l.drop k):=fun x hx=>h x (List.mem_of_mem_drop hx)
theorem zql {hs:List Int} {s:Nat} (h:Int):(hs++List.replicate (s+1) 0).set hs.length h=hs++[h]++List.replicate s 0:=by
 rw [List.set_append_right _ _ (Nat.le_refl _),Nat.sub_self,List.replicate_succ,List.set_cons_zero];simp
theorem RP.push {w:World} {b g L:Nat} {done:List (List Int)} (h:RP w b g L 0 done) (hr:done.length<L) {v:Value} {l:List Int} (hv:w.ownsRow b 37 1 v l.length (gvs l)):RP (w.setCell ⟨g,done.length,none⟩ v) b g L 0 (done++[l]):=by
 obtain ⟨vs,h1,h2⟩:=h;obtain ⟨cur,hg,-⟩:=zaq h1;have hk:∀ (x:Value) (n:Nat) (xs:List Value),w.ownsRow b 37 1 x n xs->(w.setCell ⟨g,done.length,none⟩ v).ownsRow b 37 1 x n xs:=fun x n xs ho=>ownsRow_setCell_other ho (zav ho hg (by decide)) _
 have hl:vs.length=L:=by have:=h1.1;omega
 refine ⟨vs.set done.length v,(h1.stored done.length v).1,fun j hj=>?_⟩;rw [List.length_append,List.length_singleton] at hj
 rcases Nat.lt_or_ge j done.length with hlt|hge
 · obtain ⟨x,e,o⟩:=h2 j hlt;refine ⟨x,?_,?_⟩
   · rw [List.getElem?_set_ne (by omega),<- e]
   · rw [zqk _ hlt];exact hk _ _ _ o
 · obtain rfl:j=done.length:=by omega
   refine ⟨v,by rw [Nat.zero_add,List.getElem?_set_self (by omega)],?_⟩;rw [zdb _ (Nat.le_refl _),Nat.sub_self];exact hk _ _ _ hv
theorem RP.keeps {w w':World} {k gc B cc:Nat} {vg vu vf:Value} {p:Pl} (hP:PB w k gc B cc vg vu vf p) (hb:But k gc w w') {b g L r:Nat} {done:List (List Int)} (h:RP w b g L r done):RP w' b g L r done:=by
 obtain ⟨vs,h1,h2⟩:=h;exact ⟨vs,hP.keeps hb h1 (by decide) (by decide),fun i hi=>by obtain ⟨x,e,o⟩:=h2 i hi;exact ⟨x,e,hP.keeps hb o (by decide) (by decide)⟩⟩
theorem RR.keeps {w w':World} {k gc B cc:Nat} {vg vu vf:Value} {p:Pl} (hP:PB w k gc B cc vg vu vf p) (hb:But k gc w w') {b:Nat} {v:Value} {ls:List (List Int)} (h:RR w b v ls):RR w' b v ls:=by
 obtain ⟨vs,h1,h2⟩:=h;exact ⟨vs,hP.keeps hb h1 (by decide) (by decide),fun i hi=>by obtain ⟨x,e,o⟩:=h2 i hi;exact ⟨x,e,hP.keeps hb o (by decide) (by decide)⟩⟩
theorem PB.apart {w:World} {k g B cc:Nat} {vg vu vf:Value} {p:Pl} (h:PB w k g B cc vg vu vf p) {j:Nat} {t:TypeId} {cs:Array Value} (hj:w.heap[j]? = some (.cells cs t (0,0))) (h1:t≠34) (h2:t≠119):j≠k/\j≠g:=by
 obtain ⟨cur,hg,-⟩:=zaq h.pa.cs;exact ⟨fun e=>by rw [e,h.blk] at hj;cases hj;exact h1 rfl,fun e=>by rw [e,hg] at hj;cases hj;exact h2 rfl⟩
def RL (w:World) (A:Option Addr) (l:List Int):Prop:=0<l.length->∃ g off,A=some ⟨g,off,none⟩/\g<w.heap.size/\∀ j u,(gvs l)[j]? = some u->w.cell? ⟨g,off+j,none⟩=some u
theorem RL.of_own {w:World} {b cap:Nat} {A:Option Addr} {l:List Int} (h:w.ownsRow b 37 1 (.slice A l.length cap) l.length (gvs l)):RL w A l:=fun h0=>by
 obtain ⟨g,rfl,-,hg⟩:=zag h h0;refine ⟨g,0,rfl,hg,fun j u hu=>?_⟩;have:=h.cells rfl j u hu
 rwa [add_plain] at this
theorem RL.below {w w':World} {A:Option Addr} {l:List Int} (h:RL w A l) (hb:Below w.heap.size w w'):RL w' A l:=fun h0=>by
 obtain ⟨g,off,e,hg,hc⟩:=h h0;exact ⟨g,off,e,by have:=hb.size;omega,fun j u hu=>(hb.cell (p:=⟨g,off+j,none⟩) hg).trans (hc j u hu)⟩
theorem RL.drop {w:World} {g off:Nat} {l:List Int} (hc:∀ j u,(gvs l)[j]? = some u->w.cell? ⟨g,off+j,none⟩=some u) (o:Nat):∀ j u,(gvs (l.drop o))[j]? = some u->w.cell? ⟨g,off+o+j,none⟩=some u:=by
 intro j u hj;have:(gvs l)[o+j]? = some u:=by
  simp only [gvs,List.map_drop] at hj ⊢
  rwa [List.getElem?_drop] at hj
 rw [Nat.add_assoc];exact hc _ u this
theorem RL.at_ {w:World} {g off j:Nat} {l:List Int} (hc:∀ j u,(gvs l)[j]? = some u->w.cell? ⟨g,off+j,none⟩=some u) (hj:j<l.length):w.cell? ⟨g,off+j,none⟩=some (.int .u64 (l.getD j 0)):=by
 refine hc j _ ?_;rw [gvs,List.getElem?_map,List.getElem?_eq_getElem hj,getD_at 0 hj];rfl
def GivesR (k g B cc:Nat) (o:Option (Pl × List (List Int))) (w:World) (en:Ending) (w':World):Prop :=
 ((o=none/\en = .returned (.tuple #[.slice none 0 0,.int .i64 2]))\/(∃ q rows v vg vu vf,o=some (q,rows)/\en = .returned (.tuple #[v,.int .i64 0])/\RR w' w.heap.size v rows/\PB w' k g B cc vg vu vf q))/\But k g w w'
def placeF (ko k:Nat):Value:=.func (.func 128) #[] #[.pointer (some ⟨ko,0,none⟩),.pointer (some ⟨k,0,none⟩)]
theorem But.set {k g:Nat} {w w':World} (h:But k g w w') {a:Addr} (ha:w.heap.size<=a.block) (v:Value):But k g w (w'.setCell a v) :=
 ⟨h.os,h.tape,h.output,by simpa using h.size,fun j h1 h2 h3=>(zw _ _ _ (by omega)).trans (h.block j h1 h2 h3)⟩
theorem But.alloc {k g:Nat} {w w':World} (h:But k g w w') (o:Obj):But k g w (w'.alloc o) :=
 h.trans (But.of_below ((Below.refl _ _).alloc (Nat.le_refl _) _))
theorem PB.set {w:World} {k g B cc:Nat} {vg vu vf:Value} {p:Pl} (h:PB w k g B cc vg vu vf p) {j:Nat} {t:TypeId} {cs:Array Value} (hj:w.heap[j]? = some (.cells cs t (0,0))) (h1:t≠34) (h2:t≠119) (h3:4≠t) (h4:3≠t) (hg:vg.ownBlock≠some j) (o:Nat) (x:Value):PB (w.setCell ⟨j,o,none⟩ x) k g B cc vg vu vf p:=by
 obtain ⟨a,b⟩:=h.apart hj h1 h2;refine ⟨(zw _ _ _ a).trans h.blk,⟨⟨?_,?_,?_⟩,?_⟩⟩
 · exact ownsRow_setCell_other h.pa.ar.g hg _
 · exact ownsRow_setCell_other h.pa.ar.u (zav h.pa.ar.u hj h3) _
 · exact ownsRow_setCell_other h.pa.ar.f (zav h.pa.ar.f hj h4) _
 · exact ownsRow_setCell_other h.pa.cs (by simpa [Value.ownBlock] using Ne.symm b) _
structure OldOk (n:Nat) (old:List (List Int)):Prop where
 len:old.length<=4
 row:∀ r∈old,r.length<=256
 u64:∀ r∈old,U64 r
 ix:∀ r∈old,∀ h∈r,ix h<n
theorem OldOk.at {n:Nat} {old:List (List Int)} (h:OldOk n old) (l m:Nat) (hne:atR old l m≠0):0<=atR old l m/\atR old l m<=18446744073709551615/\Go.Proofs.YtdmecdjfbpblgaaGreatDoor.V.ix (atR old l m)<n:=by
 unfold atR at hne ⊢
 rcases Nat.lt_or_ge l old.length with h1|h1
 · rw [getD_at [] h1] at hne ⊢
   rcases Nat.lt_or_ge m (old[l]).length with h2|h2
   · rw [getD_at 0 h2];have a:=h.u64 _ (List.getElem_mem h1) _ (List.getElem_mem h2);exact ⟨a.1,a.2,h.ix _ (List.getElem_mem h1) _ (List.getElem_mem h2)⟩
   · exact absurd (by rw [List.getD,List.getElem?_eq_none h2];rfl) hne
 · exact absurd (by rw [show old.getD l []=[] by rw [List.getD,List.getElem?_eq_none h1];rfl];rfl) hne
theorem za6 {p:Pl} {old:List Int} {c:List Int} {cs:List (List Int)}:p.lays old (c::cs)=match p.place (old.headD 0) c with|none=>none|some (q,h)=>(q.lays old.tail cs).map fun r=>(r.1,h::r.2):=by
 rw [Pl.lays];cases p.place (old.headD 0) c<;>rfl
theorem zaw {p:Pl} {old:List (List Int)} {L:Nat} {below:List Int}:p.raise old (L+1) below=match p.lays (old.headD []) (fours (qs below.length) below) with|none=>none|some (q,row)=>(q.raise old.tail L row).map fun r=>(r.1,row::r.2):=by
 rw [Pl.raise];cases p.lays (old.headD []) (fours (qs below.length) below)<;>rfl
theorem zsh (items:List Int) (pi:Option Addr) (ci ko k g B cc b:Nat) (old:List (List Int)) (vo vg vu vf:Value) (p:Pl) (n:Nat) (G:Int) (w:World) (hI:∀ w',But k g w w'->RL w' pi items) (hci:items.length<=ci) (hcm:ci<=9223372036854775807) (hil:items.length<=200) (hiU:U64 items)
 (ho:w.heap[ko]? = some (.cells #[vo] 130 (0,0))) (hR:RR w b vo old) (hO:OldOk n old) (hP:PB w k g B cc vg vu vf p) (hK:PK n G p) (hG:G<=1099511627775) (hBk:B<=k) :
 Calls Tryz.prog 127 #[.slice pi items.length ci,placeF ko k] w (GivesR k g B cc (p.raise old (lvs items.length) items) w):=by
 have HI:=Lib.hid hI;have HIU:=Lib.hid hiU;have HKO:=Lib.hid ho;have HRO:=Lib.hid hR;have HOO:=Lib.hid hO;have HP:=Lib.hid hP;have HK:=Lib.hid hK;have hnk:=(hP.apart ho (by decide) (by decide));have hkol:=lt_of_block ho;clear hI hiU ho hR hO hP hK;have HL:=Lib.hid (fun w=>zfe items.length w (by omega));have hL4:=zbl items.length;generalize lvs items.length=L at *;unfold placeF;have mk:=fun W:World=>run_make_row' (P:=Tryz.prog) 130 26 (.slice none 0 0) 24 Tryz.underlying130 zqj rfl .i64 .i64 L (by omega) (by omega) W
 go_enter Tryz.func127,Tryz.ntmps127
 go_wp2_with (go_at_call 108;refine (HL.out _).mono ?_;rintro e w' ⟨rfl,rfl⟩)
 clear mk;obtain ⟨W,hW⟩:∃ W,W=w.alloc (.cells (madeCells #[.slice none 0 0] L) 26):=⟨_,rfl⟩;rw [<- hW];have HW:Hid (Below w.heap.size w W/\W.heap.size=w.heap.size+1/\W.heap[w.heap.size]? = some (.cells (madeCells #[.slice none 0 0] L) 26 (0,0))):=Lib.hid (by
  subst hW;exact ⟨(Below.refl _ w).alloc (Nat.le_refl _) _,by simp,heap_alloc_new _ _⟩)
 clear hW;have HR0:Hid (RP W w.heap.size w.heap.size L 0 []):=Lib.hid ⟨_,zbr HW.out.2.2 (by omega) (by omega),fun j hj=>by simp at hj⟩;have HS:=Lib.hid HW.out.2.1
 go_loopw [7,20] (fun v i wr=>∃ (l:Nat) (below:List Int) (done:List (List Int)) (q:Pl) (vg vu vf:Value) (bp:Option Addr) (bc:Nat),i = .int .i64 l/\v = .slice bp below.length bc/\l<=L/\done.length=l/\below.length<=200/\bc<=9223372036854775807/\below.length<=bc /\
  Hid (∀ w',But k g wr w'->RL w' bp below)/\Hid (RP wr w.heap.size w.heap.size L 0 done)/\Hid (U64 below)/\Hid (PB wr k g B cc vg vu vf q)/\Hid (PK n G q)/\Hid (p.raise old L items=(q.raise (old.drop l) (L - l) below).map (fun r=>(r.1,done++r.2)))/\Hid (But k g w wr)) (fun _ i _=>L - (intOf i).toNat)
 case atStart =>
  refine ⟨0,items,[],p,vg,vu,vf,pi,ci,rfl,rfl,Nat.zero_le _,rfl,hil,by omega,by omega,Lib.hid (fun w' hb=>HI.out w' ((But.of_below HW.out.1).trans hb)),HR0,HIU,Lib.hid (HP.out.below HW.out.1),HK,Lib.hid (by simp),Lib.hid (But.of_below HW.out.1)⟩
 case round =>
  obtain ⟨l,below,done,q,vg,vu,vf,bp,bc,rfl,rfl,hlL,hdl,hbl,hbc,hbc2,HB0,HR,HU,HPr,HKr,HE,HBU⟩:=hrel;obtain ⟨wo,hwo⟩:∃ wo,wo=wr:=⟨_,rfl⟩;subst hwo;have hsz:w.heap.size+1<=wo.heap.size:=by
   obtain ⟨vs,hvs,-⟩:=HR.out;obtain ⟨cur,hcur,-⟩:=zaq hvs;have:=lt_of_block hcur;omega
  by_cases hlt:l<L
  · obtain ⟨s,hs⟩:∃ s,L - l=s+1:=⟨L - l - 1,by omega⟩;have hq1:(0:Int)<=(below.length:Int)+3:=by omega
    have hM:((below.length:Int)+4 - 1) / 4=(qs below.length:Int):=by unfold qs;omega
    have hMl:qs below.length<=200:=by unfold qs;omega
    have HMq:Hid (∀ m,m<qs below.length->4*m<below.length):=Lib.hid (fun m hm=>by unfold qs at hm;omega);obtain ⟨M,hMM⟩:∃ M,qs below.length=M:=⟨_,rfl⟩;rw [hMM] at hM hMl HMq;have HMM:=Lib.hid hMM;have HS1:=Lib.hid hs;clear hMM hs;have mk:=fun W:World=>run_make_row' (P:=Tryz.prog) 26 37 (.int .u64 0) 8 Tryz.underlying26 za4 rfl .i64 .i64 M (by omega) (by omega) W
    go_wp2_with fail;clear mk;obtain ⟨V,hV⟩:∃ V,V=wo.alloc (.cells (madeCells #[.int .u64 0] M) 37):=⟨_,rfl⟩;rw [<- hV];have HV:Hid (Below wo.heap.size wo V/\V.heap.size=wo.heap.size+1/\V.heap[wo.heap.size]? = some (.cells (madeCells #[.int .u64 0] M) 37 (0,0))):=Lib.hid (by
     subst hV;exact ⟨(Below.refl _ _).alloc (Nat.le_refl _) _,by simp,heap_alloc_new _ _⟩)
    clear hV;have HVS:=Lib.hid HV.out.2.1;have HG0:Hid (vg.ownBlock≠some wo.heap.size):=Lib.hid (fun e=>by have:=(HPr.out.pa.ar.g.lt _ e).2;omega);have hkol':ko<wo.heap.size:=by have:=HBU.out.size;omega
    have HKOr:=Lib.hid ((HBU.out.block ko hkol hnk.1 hnk.2).trans HKO.out);have HROr:=Lib.hid (RR.keeps HP.out HBU.out HRO.out)
    go_loopw [31] (fun i wr=>∃ (m:Nat) (hs:List Int) (q':Pl) (vg' vu' vf':Value),i = .int .i64 m/\m<=M/\hs.length=m/\Hid (vg'.ownBlock≠some wo.heap.size) /\
     Hid (wr.ownsRow wo.heap.size 37 1 (.slice (some ⟨wo.heap.size,0,none⟩) M M) M (gvs (hs++List.replicate (M - m) 0)))/\Hid (PB wr k g B cc vg' vu' vf' q')/\Hid (PK n G q')/\Hid (U64 hs) /\
     Hid (q.lays ((old.drop l).headD []) (fours M below)=(q'.lays (((old.drop l).headD []).drop m) (fours (M - m) (below.drop (4*m)))).map (fun r=>(r.1,hs++r.2)))/\Hid (But k g wo wr)) (fun i _=>M - (intOf i).toNat)
    case atStart =>
     refine ⟨0,[],q,vg,vu,vf,rfl,Nat.zero_le _,rfl,HG0,Lib.hid ?_,Lib.hid (HPr.out.below HV.out.1),HKr,Lib.hid (fun x hx=>by simp at hx),Lib.hid (by simp),Lib.hid (But.of_below HV.out.1)⟩;have:=zbr HV.out.2.2 (Nat.le_refl _) (by omega);simpa [gvs] using this
    case round =>
     obtain ⟨m,hs,q',vg',vu',vf',rfl,hmM,hhl,HGm,HOm,HPm,HKm,HUm,HEm,HBm⟩:=hrel;have hsm:wo.heap.size+1<=wr.heap.size:=by
      obtain ⟨cur,hcur,-⟩:=zaq HOm.out;have:=lt_of_block hcur;omega
     have HKOm:=Lib.hid ((HBm.out.block ko hkol' hnk.1 hnk.2).trans HKOr.out);have HROm:=Lib.hid (RR.keeps HPr.out HBm.out HROr.out);have HBb:=Lib.hid (HB0.out wr HBm.out);have HRm:=Lib.hid (RP.keeps HPr.out HBm.out HR.out)
     by_cases hlm:m<M
     · have h4m:=HMq.out m hlm;obtain ⟨gb,off,hbp,hgb,hcb⟩:=HBb.out (by omega);subst hbp;have HCB:=Lib.hid hcb;clear hcb;have m0:(0:Int)<=(m:Int):=by omega
       have m1:(m:Int)<(M:Int):=by omega
       have m4:(m:Int)*4=((4*m:Nat):Int):=by omega
       have m5:(0:Int)<=(m:Int)*4:=by omega
       have m6:(m:Int)*4<=(below.length:Int):=by omega
       have m7:(m:Int)*4<=(bc:Int):=by omega
       have HDL:Hid ((below.drop (4*m)).length=below.length - 4*m):=Lib.hid (by simp);have HFL:Hid (Calls Tryz.prog 160 #[.slice (some ⟨gb,off+4*m,none⟩) (below.length - 4*m) (bc - 4*m)] wr (GivesV (cval ((below.drop (4*m)).take 4)) wr)):=Lib.hid (by
        have:=zoi gb (off+4*m) (bc - 4*m) (below.drop (4*m)) wr hgb (RL.drop HCB.out (4*m)) (by simp;omega) (by simp;omega)
        rwa [HDL.out] at this)
       obtain ⟨t,ht⟩:∃ t,M - m=t+1:=⟨M - m - 1,by omega⟩;have HC4:Hid (((below.drop (4*m)).take 4).length<=4/\U64 ((below.drop (4*m)).take 4)):=Lib.hid ⟨by simp;omega,(HU.out.drop _).take _⟩;have HF4:Hid (fours (M - m) (below.drop (4*m))=(below.drop (4*m)).take 4::fours t (below.drop (4*(m+1)))):=Lib.hid (by rw [ht,zol,List.drop_drop,Nat.mul_add]);have HT:=Lib.hid ht;clear ht;generalize (below.drop (4*m)).take 4=c at *;unfold cval at HFL;go_wp2_with fail;refine HFL.out.mono ?_;rintro e w1 ⟨rfl,hb1⟩;have HB1:=Lib.hid hb1;have hs1:=hb1.size;have HPL:Hid (Calls Tryz.prog 128 #[.int .i64 l,.int .i64 m,cval c,.pointer (some ⟨ko,0,none⟩),.pointer (some ⟨k,0,none⟩)] w1 (GivesP k g B cc vg' q' (q'.place (atR old l m) c) w1)):=Lib.hid
        (zdz l m ko k g B cc b c old vo vg' vu' vf' q' n G w1 ((hb1.block ko (by omega)).trans HKOm.out) (HROm.out.below hb1) (by have:=HOO.out.len;omega) (by omega) (by omega) (fun r hr=>by have:=HOO.out.row r hr;omega) (HPm.out.below hb1) HKm.out hG hBk (HOO.out.at l m))
       unfold cval at HPL;have HP1:=Lib.hid (HPm.out.below hb1);clear hb1;go_wp2_with fail;refine HPL.out.mono ?_;rintro e w2 (⟨ho,rfl,hpb,hbut⟩|⟨q2,x,ho,rfl,hpb,hbut⟩)
       · have HQ:=Lib.hid (And.intro ho hbut);clear ho hpb hbut;go_wp2;go_ret2;refine ⟨.inl ⟨?_,rfl⟩,((HBU.out.trans HBm.out).trans (But.of_below HB1.out)).trans HQ.out.2⟩;rw [HE.out,HS1.out,zaw,HMM.out,HEm.out,HF4.out,za6,zk7,HQ.out.1];rfl
       · obtain ⟨vg2,vu2,vf2,hpb,hfr⟩:=hpb;have HQ:=Lib.hid ho;have HPB2:=Lib.hid hpb;have HBT:=Lib.hid hbut;have hG2:=hfr wo.heap.size (by omega) HGm.out;have HPS:=Lib.hid (zig HKm.out hG HC4.out.1 HC4.out.2 (fun hne=>⟨(HOO.out.at l m hne).1,(HOO.out.at l m hne).2.1⟩) ho);have HO2:=Lib.hid (HP1.out.keeps hbut (own_below HOm.out HB1.out) (by decide) (by decide));clear ho hpb hbut hfr;obtain ⟨cur,hcur,-⟩:=zaq HO2.out;have hsz2:=lt_of_block hcur;have hlen:(hs++List.replicate (M - m) 0).length=M:=by simp;omega
         have cR:w2.cell? ⟨wo.heap.size,m,none⟩=some (.int .u64 ((hs++List.replicate (M - m) 0).getD m 0)):=zau HO2.out hlm;have zR:w2.frozen? ⟨wo.heap.size,m,none⟩=false:=HO2.out.frozenAt m;have HPB3:=Lib.hid (HPB2.out.set hcur (by decide) (by decide) (by decide) (by decide) hG2 m (.int .u64 x));have HO3:Hid ((w2.setCell ⟨wo.heap.size,m,none⟩ (.int .u64 x)).ownsRow wo.heap.size 37 1 (.slice (some ⟨wo.heap.size,0,none⟩) M M) M (gvs ((hs++[x])++List.replicate (M - (m+1)) 0))):=Lib.hid (by
          have:=(HO2.out.stored m (.int .u64 x)).1;rw [<- zeg,HT.out,<- hhl,zql] at this;rw [show M - (m+1)=t by have:=HT.out;omega];rw [hhl] at this;exact this)
         clear hcur;generalize (hs++List.replicate (M - m) 0).getD m 0=y at *;go_wp2;go_roundw
         case rel =>
          refine ⟨m+1,hs++[x],q2,vg2,vu2,vf2,by go_num,by omega,by simp [hhl],Lib.hid hG2,HO3,HPB3,Lib.hid HPS.out.1,Lib.hid ?_,Lib.hid ?_,Lib.hid ?_⟩
          · intro y hy
            rcases List.mem_append.1 hy with hy|hy
            · exact HUm.out y hy
            · have:y=x:=by simpa using hy
              subst this;exact HPS.out.2
          · rw [HEm.out,HF4.out,za6,zk7,HQ.out,show M - (m+1)=t by have:=HT.out;omega,tail_drop];simp only [Option.map_map];congr 1;funext r;simp
          · exact ((HBm.out.trans (But.of_below HB1.out)).trans HBT.out).set (by simp) _
         case measure => simp [intOf]<;>omega
     · obtain rfl:m=M:=by omega
       have HOe:Hid (wr.ownsRow wo.heap.size 37 1 (.slice (some ⟨wo.heap.size,0,none⟩) m m) hs.length (gvs hs)):=Lib.hid (by have:=HOm.out;rw [Nat.sub_self,List.replicate_zero,List.append_nil] at this;rw [hhl];exact this);have HR2:=Lib.hid (HRm.out.push (by omega) (l:=hs) (zo HOe.out (by omega)));obtain ⟨vs,hvs,-⟩:=HRm.out;obtain ⟨curb,hgb,-⟩:=zaq hvs;have cR:∃ u,wr.cell? ⟨w.heap.size,l,none⟩=some u:=by
        have hl:vs.length=L:=by have:=hvs.1;omega
        exact ⟨vs[l]'(by omega),by rw [hvs.cellAt l (by omega),List.getElem?_eq_getElem (by omega)]⟩
       obtain ⟨u,hu⟩:=cR;have zR:wr.frozen? ⟨w.heap.size,l,none⟩=false:=hvs.frozenAt l;have HPB3:=Lib.hid (HPm.out.set hgb (by decide) (by decide) (by decide) (by decide) (zav HPm.out.pa.ar.g hgb (by decide)) l (.slice (some ⟨wo.heap.size,0,none⟩) m m));have HO3:Hid ((wr.setCell ⟨w.heap.size,l,none⟩ (.slice (some ⟨wo.heap.size,0,none⟩) m m)).ownsRow 0 37 1 (.slice (some ⟨wo.heap.size,0,none⟩) m m) hs.length (gvs hs)):=Lib.hid (zo (ownsRow_setCell_other HOe.out (zav HOe.out hgb (by decide)) _) (Nat.zero_le _));have HO3':(wr.setCell ⟨w.heap.size,l,none⟩ (.slice (some ⟨wo.heap.size,0,none⟩) m m)).ownsRow 0 37 1 (.slice (some ⟨wo.heap.size,0,none⟩) hs.length m) hs.length (gvs hs):=by
        have:=HO3.out;rw [hhl] at this ⊢;exact this
       have l0:(0:Int)<=(l:Int):=by omega
       have l1:(l:Int)<(L:Int):=by omega
       clear hvs hgb;go_wp2;go_roundw
       case rel =>
        refine ⟨l+1,hs,done++[hs],q',vg',vu',vf',some ⟨wo.heap.size,0,none⟩,m,by go_num,by rw [hhl],by omega,by simp [hdl],by omega,by omega,by omega,Lib.hid (fun w' hb=>RL.of_own (HPB3.out.keeps hb HO3' (by decide) (by decide))),?_,HUm,HPB3,HKm,Lib.hid ?_,Lib.hid ?_⟩
        · rw [hdl] at HR2;exact HR2
        · rw [HE.out,HS1.out,zaw,HMM.out,HEm.out,Nat.sub_self,fours,Pl.lays,show L - (l+1)=s by have:=HS1.out;omega,List.tail_drop];simp only [Option.map_some,List.append_nil,Option.map_map];congr 1;funext r;simp
        · exact (HBU.out.trans HBm.out).set (by simp) _
       case measure => simp [intOf]<;>omega
  · obtain rfl:l=L:=by omega
    go_wp2;go_ret2;refine ⟨.inr ⟨q,done,_,vg,vu,vf,?_,rfl,HR.out.end hdl,HPr.out⟩,HBU.out⟩;rw [HE.out,Nat.sub_self,Pl.raise];simp
theorem drop_at {α:Type} {l:List α} {i:Nat} (d:α) (h:i<l.length):l.drop i=l.getD i d::l.drop (i+1):=by
 rw [getD_at d h];exact List.drop_eq_getElem_cons h
theorem left_at {rows old:List (List Int)} {i:Nat} (h:i<old.length):left rows i (old.drop i)=leftRow (rows.getD i []) 0 ((old.getD i []).drop 0)++left rows (i+1) (old.drop (i+1)):=by
 rw [drop_at [] h,left];rfl
theorem zsi {rows old:List (List Int)} {i:Nat} (h:old.length<=i):left rows i (old.drop i)=[]:=by
 rw [List.drop_eq_nil_of_le h];rfl
theorem zom {new row:List Int} {j:Nat} (h:j<row.length):leftRow new j (row.drop j)=if new.getD j 0=row.getD j 0 then leftRow new (j+1) (row.drop (j+1)) else row.getD j 0::leftRow new (j+1) (row.drop (j+1)):=by
 rw [drop_at 0 h,leftRow]
theorem zmi {new row:List Int} {j:Nat} (h:row.length<=j):leftRow new j (row.drop j)=[]:=by
 rw [List.drop_eq_nil_of_le h];rfl
theorem zt9 (old rows:List (List Int)) (vo vr:Value) (b b':Nat) (w:World) (hO:RR w b vo old) (hR:RR w b' vr rows) (ho:old.length<=4) (hr:rows.length<=4) (hol:∀ r∈old,r.length<=256) (hrl:∀ r∈rows,r.length<=256) :
 Calls Tryz.prog 132 #[vo,vr] w (GivesRow 37 (gvs (left rows 0 old)) w):=by
 obtain ⟨po,co,rfl,-,-⟩:=hO.form;obtain ⟨pr,cr,rfl,-,-⟩:=hR.form;have HO:=Lib.hid hO;have HR:=Lib.hid hR;have HOL:=Lib.hid hol;have HAT:=Lib.hid (fun (w':World) (h:RR w' b' (.slice pr rows.length cr) rows) (l m:Nat) (hl:l<=1000) (hm:m<=1000)=>at_in l m rows _ b' w' h (by omega) hl hm (fun r hx=>by have:=hrl r hx;omega));clear hO hR hol hrl;obtain ⟨i0',hi0,hz0,hz1,hz2⟩:=info_parts za4;have hI:=Lib.hid hi0;have hZ0:=Lib.hid hz0;have hZ1:=Lib.hid hz1;have hZ2:=Lib.hid hz2;clear hi0 hz0 hz1 hz2;obtain ⟨N,hN⟩:∃ N,old.length=N:=⟨_,rfl⟩;have HN:=Lib.hid hN;rw [hN] at ho HO ⊢;clear hN;go_enter Tryz.func132,Tryz.ntmps132;go_wp2
 go_loopw [5,12] (fun l i wr=>∃ (k:Nat) (acc:List Int) (q:Option Addr) (cap:Nat),k<=N/\i = .int .i64 k/\l = .slice q acc.length cap/\acc.length<=256*k /\
  Hid (wr.ownsRow w.heap.size 37 1 (.slice q acc.length cap) acc.length (gvs acc))/\Hid (left rows 0 old=acc++left rows k (old.drop k))/\Hid (Below w.heap.size w wr)) (fun _ i _=>N - (intOf i).toNat)
 case atStart => exact ⟨0,[],none,0,Nat.zero_le _,rfl,rfl,by simp,Lib.hid (World.ownsRow_nil _ _ _ _),Lib.hid (by simp),Lib.hid (Below.refl _ _)⟩
 case round =>
  obtain ⟨k,acc,q,cap,hk,rfl,rfl,hal,HA,HE,HB⟩:=hrel;obtain ⟨wo,hwo⟩:∃ wo,wo=wr:=⟨_,rfl⟩;subst hwo
  by_cases hlt:k<N
  · have k0:(0:Int)<=(k:Int):=by omega
    have k1:(k:Int)<(N:Int):=by omega
    have hkl:k<old.length:=by rw [HN.out];exact hlt
    have HOr:Hid (RR w b (.slice po old.length co) old):=Lib.hid (by rw [HN.out];exact HO.out);obtain ⟨go,hgo,-,hgol⟩:∃ g,po=some ⟨g,0,none⟩/\b<=g/\g<w.heap.size:=by
     obtain ⟨vs,h1,-⟩:=HOr.out;exact zab h1 (by omega)
    subst hgo;obtain ⟨rq,rc,hcell0,hrow⟩:=HOr.out.row hkl;have hcell:=(HB.out.cell (p:=⟨go,k,none⟩) hgol).trans hcell0;clear hcell0;have HLA:=Lib.hid (left_at (rows:=rows) hkl);have hRL:=HOL.out (old.getD k []) (by rw [getD_at [] hkl];exact List.getElem_mem _);have HATR:Hid (∀ m,atR rows k m=(rows.getD k []).getD m 0):=Lib.hid (fun m=>rfl);generalize old.getD k []=row at *;generalize rows.getD k []=new at *;have HRow:=Lib.hid hrow;clear hrow;obtain ⟨m',hm'⟩:∃ m',row.length=m':=⟨_,rfl⟩;have HML:=Lib.hid hm';rw [hm'] at hRL HRow hcell;clear hm';go_wp2_with fail
    go_loopw [5,19] (fun l i wr=>∃ (j:Nat) (ac:List Int) (q:Option Addr) (cap:Nat),j<=m'/\i = .int .i64 j/\l = .slice q ac.length cap/\ac.length<=256*k+j /\
     Hid (wr.ownsRow w.heap.size 37 1 (.slice q ac.length cap) ac.length (gvs ac))/\Hid (left rows 0 old=ac++(leftRow new j (row.drop j)++left rows (k+1) (old.drop (k+1))))/\Hid (Below w.heap.size w wr)) (fun _ i _=>m' - (intOf i).toNat)
    case atStart => exact ⟨0,acc,q,cap,Nat.zero_le _,rfl,rfl,by omega,HA,Lib.hid (by rw [HE.out,HLA.out]),HB⟩
    case round =>
     obtain ⟨j,ac,q,cap,hj,rfl,rfl,hacl,HA,HE,HBi⟩:=hrel
     by_cases hjl:j<m'
     · have j0:(0:Int)<=(j:Int):=by omega
       have j1:(j:Int)<(m':Int):=by omega
       have HRr:=Lib.hid (own_below HRow.out HBi.out);obtain ⟨gr,rfl,_,hgr⟩:=zag HRr.out (by omega);have cr0:=zau HRr.out hjl;have HLR:=Lib.hid (zom (new:=new) (row:=row) (j:=j) (by rw [HML.out];exact hjl));have HAJ:Hid (atR rows k j=new.getD j 0):=Lib.hid (HATR.out j);generalize row.getD j 0=h at *;go_wp2_with fail;refine (HAT.out wr (HR.out.below HBi.out) k j (by omega) (by omega)).mono ?_;rintro e w1 ⟨rfl,rfl⟩;rw [HAJ.out];generalize new.getD j 0=x at *
       by_cases hx:x=h
       · have hx':(x != h)=false:=by simp [hx]
         have HX:=Lib.hid hx;clear hx;go_wp2;go_roundw
         case rel => exact ⟨j+1,ac,q,cap,by omega,by go_num,rfl,by omega,HA,Lib.hid (by rw [HE.out,HLR.out,if_pos HX.out]),HBi⟩
         case measure => simp [intOf]<;>omega
       · have hx':(x != h)=true:=by simp [hx]
         have HX:=Lib.hid hx;have hws:=HBi.out.size;clear hx
         go_wp2_with (at_builtin; refine wpList_append_own_at _ rfl _ _ 26 rfl w.heap.size 37 i0' (.int .u64 0) 1 8 Tryz.underlying26 hI.out hZ0.out hZ1.out hZ2.out rfl (by decide) _ _ _ rfl (HA.out.alloc _) ⟨wr.heap.size, 0, none⟩ 1 1 [.int .u64 h] rfl rfl (cell_one_new _ _ _) (by simp [Value.oneCell']) (by unfold maxLen; omega) (by omega) (by simp; omega) ?_; intro v' w5 hown' hgrow _ hat; obtain ⟨q', cap', rfl, -, -, -⟩ := zh hown'
                      have HO':=Lib.hid hown';have HGR:=Lib.hid hgrow;clear hown' hgrow hat)
         go_roundw
         case rel =>
          refine ⟨j+1,ac++[h],q',cap',by omega,by go_num,by rw [List.length_append];rfl,by simp;omega,Lib.hid ?_,Lib.hid (by rw [HE.out,HLR.out,if_neg HX.out];simp),Lib.hid ?_⟩
          · rw [List.length_append,zff];exact HO'.out
          · exact (HBi.out.alloc hws _).grown HGR.out (by simp;omega) (fun q e=>(HA.out.lt q e).1)
         case measure => simp [intOf]<;>omega
     · obtain rfl:j=m':=by omega
       go_wp2;go_roundw
       case rel =>
        refine ⟨k+1,ac,q,cap,by omega,by go_num,rfl,by omega,HA,Lib.hid ?_,HBi⟩;rw [HE.out,zmi (by rw [HML.out];exact Nat.le_refl _),List.nil_append]
       case measure => simp [intOf]<;>omega
  · obtain rfl:k=N:=by omega
    go_wp2;go_ret;have hE:=HE.out;rw [zsi (by rw [HN.out];exact Nat.le_refl _),List.append_nil] at hE;rw [hE];exact ⟨_,rfl,by rw [zac];exact HA.out,HB.out⟩
def GivesC (t:Told) (w:World) (en:Ending) (w':World):Prop :=
 ∃ vg vu vf vc vl,en = .returned (.tuple #[.agg #[vg,vu,vf,vc],.agg #[.int .u64 t.v.root,.int .i64 t.v.size],vl,.int .i64 t.e])/\PA w' w.heap.size vg vu vf vc t.p/\w'.ownsRow w.heap.size 37 1 vl t.gone.length (gvs t.gone)/\Below w.heap.size w w'
theorem zdm {n:Nat} {G:Int} {p:Pl} (hP:PK n G p):∀ {L:Nat} {row:List Int} {ls:List (List Int)},p.down L row=some ls->U64 row->row.length*4 ^ L<=1024->ls.length=L/\(∀ r∈ls,r.length<=256)/\(∀ r∈ls,U64 r)/\(∀ r∈ls,∀ h∈r,ix h<n/\p.st.lv h=true)
 | 0,row,ls,he,_,_=>by
   cases he;exact ⟨rfl,fun r hr=>by simp at hr,fun r hr=>by simp at hr,fun r hr=>by simp at hr⟩
 | L+1,row,ls,he,hU,hl=>by
   rw [Pl.down] at he
   split at he
   · rename_i hall
     obtain ⟨ls',h1,rfl⟩:=Option.map_eq_some_iff.1 he;have hpl:=hP.plen row;have hpw:row.length*4 ^ (L+1)=4*row.length*4 ^ L:=by rw [Nat.pow_succ,Nat.mul_comm (4 ^ L) 4,<- Nat.mul_assoc,Nat.mul_comm row.length 4]
     have hm:=Nat.mul_le_mul_right (4 ^ L) hpl;obtain ⟨a,b,c,d⟩:=zdm hP h1 (hP.parts row) (by omega);have hrl:row.length<=256:=by
      have:1<=4 ^ L:=Nat.pow_pos (by decide);have:=Nat.mul_le_mul_left (4*row.length) this;omega
     refine ⟨by simp [a],fun r hr=>?_,fun r hr=>?_,fun r hr h hh=>?_⟩
     · rcases List.mem_append.1 hr with hr|hr
       · exact b r hr
       · have:r=row:=by simpa using hr
         rw [this];exact hrl
     · rcases List.mem_append.1 hr with hr|hr
       · exact c r hr
       · have:r=row:=by simpa using hr
         rw [this];exact hU
     · rcases List.mem_append.1 hr with hr|hr
       · exact d r hr h hh
       · have:r=row:=by simpa using hr
         subst this;have hlv:=List.all_eq_true.1 hall h hh;have:=(hP.fit hU hall h hh).2.2.1;rw [hP.len] at this;exact ⟨this,hlv⟩
   · cases he
theorem zbs:∀ (m:Nat) (l:List Int),(fours m l).length=m
 | 0,_=>rfl
 | m+1,l=>by rw [fours,List.length_cons,zbs m]
theorem zhn:∀ {cs:List (List Int)} {p q:Pl} {old row:List Int},p.lays old cs=some (q,row)->row.length=cs.length
 | [],p,q,old,row,h=>by cases h;rfl
 | c::cs,p,q,old,row,h=>by
   rw [za6] at h
   split at h
   · cases h
   · rename_i q' x _
     obtain ⟨r,h1,h2⟩:=Option.map_eq_some_iff.1 h;cases h2;rw [List.length_cons,List.length_cons,zhn h1]
theorem zji:∀ {L:Nat} {p q:Pl} {old rows:List (List Int)} {below:List Int},p.raise old L below=some (q,rows)->below.length<=256->rows.length=L/\∀ r∈rows,r.length<=256
 | 0,p,q,old,rows,below,h,_=>by cases h;exact ⟨rfl,fun r hr=>by simp at hr⟩
 | L+1,p,q,old,rows,below,h,hb=>by
   rw [zaw] at h
   split at h
   · cases h
   · rename_i q' row hl
     obtain ⟨r,h1,h2⟩:=Option.map_eq_some_iff.1 h;cases h2;have hrl:=zhn hl;rw [zbs] at hrl;have hrw:row.length<=256:=by unfold qs at hrl;omega
     obtain ⟨a,b⟩:=zji h1 hrw;refine ⟨by simp [a],fun x hx=>?_⟩
     rcases List.mem_cons.1 hx with rfl|hx
     · exact hrw
     · exact b x hx
theorem block2 {w:World} {k:Nat} {a b:Value} {t:TypeId} (h:w.heap[k]? = some (.cells #[a,b] t (0,0))):w.cell? ⟨k,0,none⟩=some a/\w.cell? ⟨k,1,none⟩=some b:=by
 simp [World.cell?,h]
theorem block2f {w:World} {k:Nat} {a b:Value} {t:TypeId} (h:w.heap[k]? = some (.cells #[a,b] t (0,0))):w.cell? ⟨k,0,none⟩=some a/\w.cell? ⟨k,1,none⟩=some b/\w.frozen? ⟨k,0,none⟩=false/\w.frozen? ⟨k,1,none⟩=false:=by
 simp [World.cell?,World.frozen?,h]
theorem zdr {w:World} {b k size:Nat} {e:TypeId} {v:Value} {n:Nat} {xs:List Value} (h:w.ownsRow b e size v n xs) (hk:k<b) (x y:Value):((w.setCell ⟨k,0,none⟩ x).setCell ⟨k,1,none⟩ y).ownsRow b e size v n xs :=
 ownsRow_setCell_below (ownsRow_setCell_below h hk _) hk _
theorem PA.set2 {w:World} {b k:Nat} {vg vu vf vc:Value} {p:Pl} (h:PA w b vg vu vf vc p) (hk:k<b) (x y:Value):PA ((w.setCell ⟨k,0,none⟩ x).setCell ⟨k,1,none⟩ y) b vg vu vf vc p :=
 ⟨⟨zdr h.ar.g hk _ _,zdr h.ar.u hk _ _,zdr h.ar.f hk _ _⟩,zdr h.cs hk _ _⟩
theorem PA.set4 {w:World} {b k:Nat} {vg vu vf vc:Value} {p:Pl} (h:PA w b vg vu vf vc p) (hk:k<b) (x y z u:Value):PA ((((w.setCell ⟨k,0,none⟩ x).setCell ⟨k,1,none⟩ y).setCell ⟨k,2,none⟩ z).setCell ⟨k,3,none⟩ u) b vg vu vf vc p :=
 ⟨h.ar.set4 hk _ _ _ _,zcv h.cs hk _ _ _ _⟩
theorem zfi {a w:World} {B k:Nat} (h:Below B a w) (hk:B<=k) (x y:Value):Below B a ((w.setCell ⟨k,0,none⟩ x).setCell ⟨k,1,none⟩ y):=(h.setCell hk _).setCell hk _
theorem zz (w:World) {k j:Nat} (x y:Value) (h:j≠k):((w.setCell ⟨k,0,none⟩ x).setCell ⟨k,1,none⟩ y).heap[j]? = w.heap[j]?:=by rw [za5 _ _ _ h,za5 _ _ _ h]
theorem z8 (w:World) {k j:Nat} (x y z u:Value) (h:j≠k):((((w.setCell ⟨k,0,none⟩ x).setCell ⟨k,1,none⟩ y).setCell ⟨k,2,none⟩ z).setCell ⟨k,3,none⟩ u).heap[j]? = w.heap[j]?:=by rw [za5 _ _ _ h,za5 _ _ _ h,za5 _ _ _ h,za5 _ _ _ h]
theorem heap4of (w:World) (o o' o'' o3:Obj):Below w.heap.size w ((((w.alloc o).alloc o').alloc o'').alloc o3)/\((((w.alloc o).alloc o').alloc o'').alloc o3).heap.size=w.heap.size+4/\((((w.alloc o).alloc o').alloc o'').alloc o3).heap[w.heap.size]? = some o/\((((w.alloc o).alloc o').alloc o'').alloc o3).heap[w.heap.size+1]? = some o'/\((((w.alloc o).alloc o').alloc o'').alloc o3).heap[w.heap.size+1+1]? = some o''/\((((w.alloc o).alloc o').alloc o'').alloc o3).heap[w.heap.size+1+1+1]? = some o3:=by
 refine ⟨(((Below.refl _ w).alloc (Nat.le_refl _) _).alloc (by simp) _ |>.alloc (by simp;omega) _).alloc (by simp;omega) _,by simp,?_,?_,?_,?_⟩
 · rw [heap_alloc_old _ _ (by simp;omega),heap_alloc_old _ _ (by simp;omega),heap_alloc_old _ _ (by simp)];exact heap_alloc_new w _
 · rw [heap_alloc_old _ _ (by simp),heap_alloc_old _ _ (by simp)];exact zas _ _ _
 · rw [heap_alloc_old _ _ (by simp)];exact zjg _ _ _ _
 · exact zjh _ _ _ _ _
theorem PA.pb {w:World} {b:Nat} {vg vu vf:Value} {g cc:Nat} {p:Pl} (h:PA w b vg vu vf (.slice (some ⟨g,0,none⟩) p.ch.length cc) p):PB (w.alloc (.cells #[vg,vu,vf,.slice (some ⟨g,0,none⟩) p.ch.length cc] 34)) w.heap.size g b cc vg vu vf p :=
 ⟨heap_alloc_new _ _,h.below ((Below.refl _ _).alloc (Nat.le_refl _) _)⟩
theorem zqm (root:Int) (size:Nat) (items:List Int) (pi:Option Addr) (ci:Nat) (vg vu vf vc:Value) (p:Pl) (b n:Nat) (G:Int) (w:World) (hA:PA w b vg vu vf vc p) (hP:PK n G p) (hI:RL w pi items) (hci:items.length<=ci) (hcm:ci<=9223372036854775807) (hil:items.length<=200) (hiU:U64 items) (h0:0<=root) (h1:root<=18446744073709551615) (hs:size<=256) (hG:G<=1099511627775) (hn0:0<n) :
 Calls Tryz.prog 73 #[.agg #[vg,vu,vf,vc],.agg #[.int .u64 root,.int .i64 size],.slice pi items.length ci] w (GivesC (p.change ⟨root,size⟩ items) w):=by
 obtain ⟨T,hT⟩:∃ T,p.change ⟨root,size⟩ items=T:=⟨_,rfl⟩;rw [hT];have HT:=Lib.hid hT;clear hT;have HA:=Lib.hid hA;have HP:=Lib.hid hP;have HI:=Lib.hid hI;have HIU:=Lib.hid hiU;clear hA hP hI hiU;have hsm:=HP.out.ok.small;obtain ⟨W,hW⟩:∃ W,W=(((w.alloc (.cells #[vg,vu,vf,vc] 34)).alloc (.cells #[.int .u64 root,.int .i64 size] 39)).alloc (.cells #[.slice none 0 0,.slice none 0 0,.slice none 0 0,.slice none 0 0] 34)).alloc (.cells #[.int .u64 0,.int .i64 0] 39):=⟨_,rfl⟩;have HW:Hid (Below w.heap.size w W/\W.heap.size=w.heap.size+4/\W.heap[w.heap.size]? = some (.cells #[vg,vu,vf,vc] 34 (0,0))/\W.heap[w.heap.size+1]? = some (.cells #[.int .u64 root,.int .i64 size] 39 (0,0))/\W.heap[w.heap.size+1+1]? = some (.cells #[.slice none 0 0,.slice none 0 0,.slice none 0 0,.slice none 0 0] 34 (0,0))/\W.heap[w.heap.size+1+1+1]? = some (.cells #[.int .u64 0,.int .i64 0] 39 (0,0))):=Lib.hid (by
  subst hW;exact heap4of w _ _ _ _)
 have HWE:=Lib.hid hW;clear hW;have HB0:Hid (Below (w.heap.size+4) W W):=Lib.hid (Below.refl _ _);have HCV:Hid (∀ w':World,w'.heap[w.heap.size]? = some (.cells #[vg,vu,vf,vc] 34 (0,0))->w'.heap[w.heap.size+1]? = some (.cells #[.int .u64 root,.int .i64 size] 39 (0,0))->w'.cell? ⟨w.heap.size,0,none⟩=some vg/\w'.cell? ⟨w.heap.size,1,none⟩=some vu/\w'.cell? ⟨w.heap.size,2,none⟩=some vf/\w'.cell? ⟨w.heap.size,3,none⟩=some vc/\w'.cell? ⟨w.heap.size+1,0,none⟩=some (.int .u64 root)/\w'.cell? ⟨w.heap.size+1,1,none⟩=some (.int .i64 size)):=Lib.hid (fun w' h1 h2=>by
  obtain ⟨a,b,c,d,-⟩:=block4 h1;obtain ⟨e,f⟩:=block2 h2;exact ⟨a,b,c,d,e,f⟩)
 have hni:¬ (200:Int)<(items.length:Int):=by omega
 go_enter Tryz.func73,Tryz.ntmps73;go_upto_region 3 with fail
 rw [<- HWE.out];clear HWE;obtain ⟨x0,x1,x2,x3,-⟩:=block4 HW.out.2.2.1;obtain ⟨u0,u1⟩:=block2 HW.out.2.2.2.1;go_wp2_with fail;refine (zfg root size vg vu vf vc p b n G W (HA.out.below HW.out.1) HP.out h0 h1 hs).mono ?_;show ∀ e w',GivesH (p.down (lvs size) [root]) W e w'->_;rintro e w1 ⟨⟨hd,rfl⟩|⟨old,vo,hd,rfl,hro⟩,hb1⟩
 · have HD:=Lib.hid hd;have HB1:Hid (Below (w.heap.size+4) W w1):=Lib.hid (hb1.mono (by have:=HW.out.2.1;omega));clear hd hb1 x0 x1 x2 x3 u0 u1;obtain rfl:T=⟨p,⟨root,size⟩,[],30⟩:=by
    rw [<- HT.out,Pl.change,if_neg (by omega)];rw [show p.down (lvs (Vc.mk root size).size) [(Vc.mk root size).root]=none from HD.out]
   have hs1:=HB1.out.size;have hs0:=HW.out.2.1;go_wp2_with fail;obtain ⟨X,hX⟩:∃ X,X=w1.alloc (.cells #[.slice none 0 0] 130):=⟨_,rfl⟩;have HBq:Hid (Below (w.heap.size+4) W X):=Lib.hid (by rw [hX];exact HB1.out.alloc (by omega) _);rw [<- hX];clear hX hs1 hs0;have HE0:Hid (X.heap[w.heap.size]? = some (.cells #[vg,vu,vf,vc] 34 (0,0))):=Lib.hid ((HBq.out.block _ (by omega)).trans HW.out.2.2.1);have HE1:Hid (X.heap[w.heap.size+1]? = some (.cells #[.int .u64 root,.int .i64 size] 39 (0,0))):=Lib.hid ((HBq.out.block _ (by omega)).trans HW.out.2.2.2.1);have HE2:Hid (X.heap[w.heap.size+1+1]? = some (.cells #[.slice none 0 0,.slice none 0 0,.slice none 0 0,.slice none 0 0] 34 (0,0))):=Lib.hid ((HBq.out.block _ (by omega)).trans HW.out.2.2.2.2.1);have HE3:Hid (X.heap[w.heap.size+1+1+1]? = some (.cells #[.int .u64 0,.int .i64 0] 39 (0,0))):=Lib.hid ((HBq.out.block _ (by omega)).trans HW.out.2.2.2.2.2);have HBX:Hid (Below w.heap.size w X):=Lib.hid (HW.out.1.trans (HBq.out.mono (by omega)));have hsX:w.heap.size+4<=X.heap.size:=by have:=HBq.out.size;have:=HW.out.2.1;omega
   have HE0d:Hid (X.drew.heap[w.heap.size]? = some (.cells #[vg,vu,vf,vc] 34 (0,0))):=Lib.hid HE0.out;have HE1d:Hid (X.drew.heap[w.heap.size+1]? = some (.cells #[.int .u64 root,.int .i64 size] 39 (0,0))):=Lib.hid HE1.out;obtain ⟨x0,x1,x2,x3,-⟩:=block4 HE0.out;obtain ⟨u0,u1⟩:=block2 HE1.out
   go_region_held3 (fun w'=>w'.cell? ⟨w.heap.size,0,none⟩=some vg/\w'.cell? ⟨w.heap.size,1,none⟩=some vu/\w'.cell? ⟨w.heap.size,2,none⟩=some vf/\w'.cell? ⟨w.heap.size,3,none⟩=some vc/\w'.cell? ⟨w.heap.size+1,0,none⟩=some (.int .u64 root)/\w'.cell? ⟨w.heap.size+1,1,none⟩=some (.int .i64 size))
    (first
      | with_reducible exact HCV.out _ HE0.out HE1.out
      | with_reducible exact HCV.out _ HE0d.out HE1d.out
      | with_reducible exact HCV.out _ HF0.out HF1.out
      | with_reducible exact HCV.out _ ((z8 _ _ _ _ _ (by omega)).trans HF0.out) ((z8 _ _ _ _ _ (by omega)).trans HF1.out)
      | with_reducible exact HCV.out _ ((zz _ _ _ (by omega)).trans HF0.out) ((zz _ _ _ (by omega)).trans HF1.out)
      | with_reducible exact HCV.out _ ((zz _ _ _ (by omega)).trans ((z8 _ _ _ _ _ (by omega)).trans HF0.out)) ((zz _ _ _ (by omega)).trans ((z8 _ _ _ _ _ (by omega)).trans HF1.out))
      | with_reducible exact HCV.out _ ((z8 _ _ _ _ _ (by omega)).trans ((zz _ _ _ (by omega)).trans HF0.out)) ((z8 _ _ _ _ _ (by omega)).trans ((zz _ _ _ (by omega)).trans HF1.out)))
    (first
      | (go_at_call 52
         refine (zd5 vg vu vf vc p b _ (HA.out.below HBX.out.drew) (by have:=HP.out.ok.gens;omega) (by have:=HP.out.ok.used;omega) (by have:=HP.out.ok.free_le;omega) (by have:=HP.out.len;omega)).mono ?_;rintro e w7 ⟨v1,v2,v3,v4,rfl,hpa7,hb7⟩;obtain ⟨pg7,cg7,pu7,cu7,pf7,cf7,pc7,cc7,rfl,rfl,rfl,rfl⟩:=hpa7.form;have HPA7:=Lib.hid hpa7;have HB7:=Lib.hid hb7;have HF0:=Lib.hid ((hb7.block _ (by show w.heap.size<X.heap.size;omega)).trans HE0.out);have HF1:=Lib.hid ((hb7.block _ (by show w.heap.size+1<X.heap.size;omega)).trans HE1.out);have HF2:=Lib.hid ((hb7.block _ (by show w.heap.size+1+1<X.heap.size;omega)).trans HE2.out);have HF3:=Lib.hid ((hb7.block _ (by show w.heap.size+1+1+1<X.heap.size;omega)).trans HE3.out);obtain ⟨d0,d1,d2,d3,y0,y1,y2,y3⟩:=block4 HF2.out;obtain ⟨g0,g1,z0,z1⟩:=block2f HF3.out;clear hpa7 hb7))
   all_goals
    go_wp2;have hB7s:w.heap.size+4<=w7.heap.size:=by have:=HB7.out.size;have h2:X.drew.heap.size=X.heap.size:=rfl;omega
    refine bodyPost_ret (v:=.tuple #[.agg #[.slice pg7 p.st.gens.length cg7,.slice pu7 p.st.used.length cu7,.slice pf7 p.st.free.length cf7,.slice pc7 p.ch.length cc7],.agg #[.int .u64 root,.int .i64 size],.slice none 0 0,.int .i64 30]) (by simp [results,Tryz.results73,go_sem,d0,d1,d2,d3,g0,g1]) rfl ⟨_,_,_,_,_,rfl,?_,World.ownsRow_nil _ _ _ _,?_⟩
    · exact PA.drop ((PA.set4 HPA7.out (by show w.heap.size+1+1<X.heap.size;omega) _ _ _ _).set2 (by show w.heap.size+1+1+1<X.heap.size;omega) _ _) (by show w.heap.size<=X.heap.size;omega)
    · exact zfi (zbx (HBX.out.trans ((Below.refl _ X).drew.trans HB7.out |>.mono (show w.heap.size<=X.heap.size by omega))) (by omega) _ _ _ _) (by omega) _ _
 · have HD:=Lib.hid hd;have HB1:Hid (Below (w.heap.size+4) W w1):=Lib.hid (hb1.mono (by have:=HW.out.2.1;omega));have HRO:=Lib.hid hro;clear hd hb1 hro x0 x1 x2 x3 u0 u1;obtain ⟨ol,orow,ou,oix⟩:=zdm HP.out HD.out (fun x hx=>by simp at hx;subst hx;exact ⟨h0,h1⟩) (by
    have:4 ^ lvs size<=4 ^ 4:=Nat.pow_le_pow_right (by decide) (zbl size);simp;omega)
   have HOO:Hid (OldOk n old):=Lib.hid ⟨by rw [ol];exact zbl size,orow,ou,fun r hr h hh=>(oix r hr h hh).1⟩;clear ol orow ou oix;obtain ⟨po,co,rfl,-,-⟩:=HRO.out.form;have hs1:=HB1.out.size;have hs0:=HW.out.2.1;go_upto_region 6 with fail
   obtain ⟨X,hX⟩:∃ X,X=w1.alloc (.cells #[.slice po old.length co] 130):=⟨_,rfl⟩;have HBX:Hid (Below (w.heap.size+4) W X):=Lib.hid (by rw [hX];exact HB1.out.alloc (by omega) _);have HXO:Hid (X.heap[w1.heap.size]? = some (.cells #[.slice po old.length co] 130 (0,0))):=Lib.hid (by rw [hX];exact heap_alloc_new _ _);have HXR:Hid (RR X 0 (.slice po old.length co) old):=Lib.hid (by rw [hX];exact (HRO.out.drop (Nat.zero_le _)).below ((Below.refl _ _).alloc (Nat.le_refl _) _));have HXs:Hid (X.heap.size=w1.heap.size+1):=Lib.hid (by rw [hX];simp);rw [<- hX];clear hX;obtain ⟨x0,x1,x2,x3,-⟩:=block4 ((HBX.out.block w.heap.size (by omega)).trans HW.out.2.2.1);go_wp2_with fail;refine (zd5 vg vu vf vc p b X (HA.out.below (HW.out.1.trans (HBX.out.mono (by omega)))) (by have:=HP.out.ok.gens;omega) (by have:=HP.out.ok.used;omega) (by have:=HP.out.ok.free_le;omega) (by have:=HP.out.len;omega)).mono ?_;rintro e w2 ⟨v1,v2,v3,v4,rfl,hpa2,hb2⟩;obtain ⟨pg2,cg2,pu2,cu2,pf2,cf2,pc2,cc2,rfl,rfl,rfl,rfl⟩:=hpa2.form;obtain ⟨g2,hpc,hg2a,hg2b⟩:=zab hpa2.cs (by have:=HP.out.len;omega);subst hpc;have HPA2:=Lib.hid hpa2;have HB2:=Lib.hid hb2;have hs2:=hb2.size;clear hpa2 hb2;have hX1:=HXs.out;go_upto_region 7 with fail
   obtain ⟨V,hV⟩:∃ V,V=w2.alloc (.cells #[.slice pg2 p.st.gens.length cg2,.slice pu2 p.st.used.length cu2,.slice pf2 p.st.free.length cf2,.slice (some ⟨g2,0,none⟩) p.ch.length cc2] 34):=⟨_,rfl⟩;have HPV:Hid (PB V w2.heap.size g2 X.heap.size cc2 (.slice pg2 p.st.gens.length cg2) (.slice pu2 p.st.used.length cu2) (.slice pf2 p.st.free.length cf2) p):=Lib.hid (by rw [hV];exact HPA2.out.pb);have HBV:Hid (Below X.heap.size X V):=Lib.hid (by rw [hV];exact HB2.out.alloc hs2 _);have hVs:V.heap.size=w2.heap.size+1:=by rw [hV];simp
   rw [<- hV];clear hV;have HBVW:Hid (Below (w.heap.size+4) W V):=Lib.hid (HBX.out.trans (HBV.out.mono (by omega)));have HVO:Hid (V.heap[w1.heap.size]? = some (.cells #[.slice po old.length co] 130 (0,0))):=Lib.hid ((HBV.out.block _ (by omega)).trans HXO.out);have HVR:=Lib.hid (HXR.out.below HBV.out);have HIV:Hid (∀ w',But w2.heap.size g2 V w'->RL w' pi items):=Lib.hid (fun w' hb=>HI.out.below ((HW.out.1.trans (HBVW.out.mono (by omega))).trans ((hb.below (B:=X.heap.size) (by omega) hs2 hg2a).mono (by omega))));have HRA:=Lib.hid (zsh items pi ci w1.heap.size w2.heap.size g2 X.heap.size cc2 0 old _ _ _ _ p n G V HIV.out hci hcm hil HIU.out HVO.out HVR.out HOO.out HPV.out HP.out hG hs2);unfold placeF at HRA;go_wp2_with fail;refine HRA.out.mono ?_;show ∀ e w',GivesR w2.heap.size g2 X.heap.size cc2 (p.raise old (lvs items.length) items) V e w'->_;rintro e w3 ⟨⟨hd3,rfl⟩|⟨q,rows,vr,vg3,vu3,vf3,hd3,rfl,hrr,hpb⟩,hbut⟩
   · have HD3:=Lib.hid hd3;have HB3:Hid (Below (w.heap.size+4) W w3):=Lib.hid (HBVW.out.trans ((hbut.below (B:=X.heap.size) (by omega) hs2 hg2a).mono (by omega)));clear hd3 hbut x0 x1 x2 x3;obtain rfl:T=⟨p,⟨root,size⟩,[],2⟩:=by
      rw [<- HT.out,Pl.change,if_neg (by omega)];rw [show p.down (lvs (Vc.mk root size).size) [(Vc.mk root size).root]=some old from HD.out];simp only [HD3.out]
     clear HRO HXO HXR HVO HVR HRA HPV HIV hs1 hs2;go_wp2_with fail;have HE0:Hid (w3.heap[w.heap.size]? = some (.cells #[vg,vu,vf,vc] 34 (0,0))):=Lib.hid ((HB3.out.block _ (by omega)).trans HW.out.2.2.1);have HE1:Hid (w3.heap[w.heap.size+1]? = some (.cells #[.int .u64 root,.int .i64 size] 39 (0,0))):=Lib.hid ((HB3.out.block _ (by omega)).trans HW.out.2.2.2.1);have HE2:Hid (w3.heap[w.heap.size+1+1]? = some (.cells #[.slice none 0 0,.slice none 0 0,.slice none 0 0,.slice none 0 0] 34 (0,0))):=Lib.hid ((HB3.out.block _ (by omega)).trans HW.out.2.2.2.2.1);have HE3:Hid (w3.heap[w.heap.size+1+1+1]? = some (.cells #[.int .u64 0,.int .i64 0] 39 (0,0))):=Lib.hid ((HB3.out.block _ (by omega)).trans HW.out.2.2.2.2.2);have HBX:Hid (Below w.heap.size w w3):=Lib.hid (HW.out.1.trans (HB3.out.mono (by omega)));have hsX:w.heap.size+4<=w3.heap.size:=by have:=HB3.out.size;have:=HW.out.2.1;omega
     have HE0d:Hid (w3.drew.heap[w.heap.size]? = some (.cells #[vg,vu,vf,vc] 34 (0,0))):=Lib.hid HE0.out;have HE1d:Hid (w3.drew.heap[w.heap.size+1]? = some (.cells #[.int .u64 root,.int .i64 size] 39 (0,0))):=Lib.hid HE1.out;obtain ⟨x0,x1,x2,x3,-⟩:=block4 HE0.out;obtain ⟨u0,u1⟩:=block2 HE1.out
     go_region_held3 (fun w'=>w'.cell? ⟨w.heap.size,0,none⟩=some vg/\w'.cell? ⟨w.heap.size,1,none⟩=some vu/\w'.cell? ⟨w.heap.size,2,none⟩=some vf/\w'.cell? ⟨w.heap.size,3,none⟩=some vc/\w'.cell? ⟨w.heap.size+1,0,none⟩=some (.int .u64 root)/\w'.cell? ⟨w.heap.size+1,1,none⟩=some (.int .i64 size))
      (first
        | with_reducible exact HCV.out _ HE0.out HE1.out
        | with_reducible exact HCV.out _ HE0d.out HE1d.out
        | with_reducible exact HCV.out _ HF0.out HF1.out
        | with_reducible exact HCV.out _ ((z8 _ _ _ _ _ (by omega)).trans HF0.out) ((z8 _ _ _ _ _ (by omega)).trans HF1.out)
        | with_reducible exact HCV.out _ ((zz _ _ _ (by omega)).trans HF0.out) ((zz _ _ _ (by omega)).trans HF1.out)
        | with_reducible exact HCV.out _ ((zz _ _ _ (by omega)).trans ((z8 _ _ _ _ _ (by omega)).trans HF0.out)) ((zz _ _ _ (by omega)).trans ((z8 _ _ _ _ _ (by omega)).trans HF1.out))
        | with_reducible exact HCV.out _ ((z8 _ _ _ _ _ (by omega)).trans ((zz _ _ _ (by omega)).trans HF0.out)) ((z8 _ _ _ _ _ (by omega)).trans ((zz _ _ _ (by omega)).trans HF1.out)))
      (first
        | (go_at_call 52
           refine (zd5 vg vu vf vc p b _ (HA.out.below HBX.out.drew) (by have:=HP.out.ok.gens;omega) (by have:=HP.out.ok.used;omega) (by have:=HP.out.ok.free_le;omega) (by have:=HP.out.len;omega)).mono ?_;rintro e w7 ⟨v1,v2,v3,v4,rfl,hpa7,hb7⟩;obtain ⟨pg7,cg7,pu7,cu7,pf7,cf7,pc7,cc7,rfl,rfl,rfl,rfl⟩:=hpa7.form;have HPA7:=Lib.hid hpa7;have HB7:=Lib.hid hb7;have HF0:=Lib.hid ((hb7.block _ (by show w.heap.size<w3.heap.size;omega)).trans HE0.out);have HF1:=Lib.hid ((hb7.block _ (by show w.heap.size+1<w3.heap.size;omega)).trans HE1.out);have HF2:=Lib.hid ((hb7.block _ (by show w.heap.size+1+1<w3.heap.size;omega)).trans HE2.out);have HF3:=Lib.hid ((hb7.block _ (by show w.heap.size+1+1+1<w3.heap.size;omega)).trans HE3.out);obtain ⟨d0,d1,d2,d3,y0,y1,y2,y3⟩:=block4 HF2.out;obtain ⟨g0,g1,z0,z1⟩:=block2f HF3.out;clear hpa7 hb7))
     all_goals
      go_wp2;have hB7s:w.heap.size+4<=w7.heap.size:=by have:=HB7.out.size;have h2:w3.drew.heap.size=w3.heap.size:=rfl;omega
      refine bodyPost_ret (v:=.tuple #[.agg #[.slice pg7 p.st.gens.length cg7,.slice pu7 p.st.used.length cu7,.slice pf7 p.st.free.length cf7,.slice pc7 p.ch.length cc7],.agg #[.int .u64 root,.int .i64 size],.slice none 0 0,.int .i64 2]) (by simp [results,Tryz.results73,go_sem,d0,d1,d2,d3,g0,g1]) rfl ⟨_,_,_,_,_,rfl,?_,World.ownsRow_nil _ _ _ _,?_⟩
      · exact PA.drop ((PA.set4 HPA7.out (by show w.heap.size+1+1<w3.heap.size;omega) _ _ _ _).set2 (by show w.heap.size+1+1+1<w3.heap.size;omega) _ _) (by show w.heap.size<=w3.heap.size;omega)
      · exact zfi (zbx (HBX.out.trans ((Below.refl _ w3).drew.trans HB7.out |>.mono (show w.heap.size<=w3.heap.size by omega))) (by omega) _ _ _ _) (by omega) _ _
   · have HD3:=Lib.hid hd3;have hbl:=hbut.below (B:=X.heap.size) (by omega) hs2 hg2a;have HB3:Hid (Below (w.heap.size+4) W w3):=Lib.hid (HBVW.out.trans (hbl.mono (by omega)));have HVO3:Hid (w3.heap[w1.heap.size]? = some (.cells #[.slice po old.length co] 130 (0,0))):=Lib.hid ((hbl.block _ (by omega)).trans HVO.out);have HVR3:=Lib.hid (RR.keeps HPV.out hbut HVR.out);have HRR3:=Lib.hid hrr;have HPB3:=Lib.hid hpb;clear hd3 hbut hbl hrr hpb x0 x1 x2 x3;obtain ⟨hrl,hrw⟩:=zji HD3.out (by omega);have hr4:rows.length<=4:=by rw [hrl];exact zbl _
     have HRW:=Lib.hid hrw;clear hrl hrw;obtain rfl:T=⟨q,⟨atR rows (rows.length - 1) 0,items.length⟩,left rows 0 old,0⟩:=by
      rw [<- HT.out,Pl.change,if_neg (by omega)];rw [show p.down (lvs (Vc.mk root size).size) [(Vc.mk root size).root]=some old from HD.out];simp only [HD3.out]
     clear HRO HXO HXR HVO HVR HRA HPV HIV;obtain ⟨pr,cr,rfl,-,-⟩:=HRR3.out.form;obtain ⟨pg3,cg3,pu3,cu3,pf3,cf3,pc3,cc3,e1,e2,e3,-⟩:=HPB3.out.pa.form;subst e1 e2 e3;have HAT3:Hid (∀ w':World,Below w3.heap.size w3 w'->Calls Tryz.prog 129 #[.slice pr rows.length cr,.int .i64 ((rows.length:Int) - 1),.int .i64 0] w' fun e w''=>e = .returned (.int .u64 (atR rows (rows.length - 1) 0))/\w'=w''):=Lib.hid (fun w' hb=>by
      by_cases hz:rows.length=0
      · have:rows=[]:=List.eq_nil_of_length_eq_zero hz;subst this;exact zvb _ _
      · have e:((rows.length:Int) - 1)=((rows.length - 1:Nat):Int):=by omega
        rw [e];exact at_in (rows.length - 1) 0 rows _ _ w' (HRR3.out.below hb) (by omega) (by omega) (by omega) (fun r hr=>by have:=HRW.out r hr;omega))
     have HLF:=Lib.hid (fun (w':World) (hb:Below w3.heap.size w3 w')=>zt9 old rows _ _ 0 V.heap.size w' (HVR3.out.below hb) (HRR3.out.below hb) HOO.out.len hr4 HOO.out.row HRW.out);generalize hrt:atR rows (rows.length - 1) 0=rt at *;have hgl:=HPB3.out.pa;have HE2:Hid (w3.heap[w.heap.size+1+1]? = some (.cells #[.slice none 0 0,.slice none 0 0,.slice none 0 0,.slice none 0 0] 34 (0,0))):=Lib.hid ((HB3.out.block _ (by omega)).trans HW.out.2.2.2.2.1);have HE3:Hid (w3.heap[w.heap.size+1+1+1]? = some (.cells #[.int .u64 0,.int .i64 0] 39 (0,0))):=Lib.hid ((HB3.out.block _ (by omega)).trans HW.out.2.2.2.2.2);have hs3:=HB3.out.size;have hk3:=lt_of_block HPB3.out.blk;have hko3:=lt_of_block HVO3.out;obtain ⟨x0,x1,x2,x3,-⟩:=block4 HPB3.out.blk;have o0:w3.cell? ⟨w1.heap.size,0,none⟩=some (.slice po old.length co):=by have:=HVO3.out;simp [World.cell?,this]
     have HC10:Hid (∀ w':World,w'.heap[w2.heap.size]? = some (.cells #[.slice pg3 q.st.gens.length cg3,.slice pu3 q.st.used.length cu3,.slice pf3 q.st.free.length cf3,.slice (some ⟨g2,0,none⟩) q.ch.length cc2] 34 (0,0))->w'.heap[w1.heap.size]? = some (.cells #[.slice po old.length co] 130 (0,0))->w'.cell? ⟨w2.heap.size,0,none⟩=some (.slice pg3 q.st.gens.length cg3)/\w'.cell? ⟨w2.heap.size,1,none⟩=some (.slice pu3 q.st.used.length cu3)/\w'.cell? ⟨w2.heap.size,2,none⟩=some (.slice pf3 q.st.free.length cf3)/\w'.cell? ⟨w2.heap.size,3,none⟩=some (.slice (some ⟨g2,0,none⟩) q.ch.length cc2)/\w'.cell? ⟨w1.heap.size,0,none⟩=some (.slice po old.length co)):=Lib.hid (fun w' h1 h2=>by
      obtain ⟨a,b,c,d,-⟩:=block4 h1;exact ⟨a,b,c,d,by simp [World.cell?,h2]⟩)
     have HG0:=Lib.hid HPB3.out.blk;have HG0d:Hid (w3.drew.heap[w2.heap.size]? = some (.cells #[.slice pg3 q.st.gens.length cg3,.slice pu3 q.st.used.length cu3,.slice pf3 q.st.free.length cf3,.slice (some ⟨g2,0,none⟩) q.ch.length cc2] 34 (0,0))):=Lib.hid HPB3.out.blk;have HG1d:Hid (w3.drew.heap[w1.heap.size]? = some (.cells #[.slice po old.length co] 130 (0,0))):=Lib.hid HVO3.out;have HWR:Hid (IntKind.i64.wrap ((rows.length:Int) - 1)=(rows.length:Int) - 1):=Lib.hid (by rw [IntKind.wrap_i64];omega);have n1:w2.heap.size≠w.heap.size+1+1:=by omega
     have n2:w2.heap.size≠w.heap.size+1+1+1:=by omega
     have n3:w1.heap.size≠w.heap.size+1+1:=by omega
     have n4:w1.heap.size≠w.heap.size+1+1+1:=by omega
     go_upto_region 10 with fail
     go_region_held3 (fun w'=>w'.cell? ⟨w2.heap.size,0,none⟩=some (.slice pg3 q.st.gens.length cg3)/\w'.cell? ⟨w2.heap.size,1,none⟩=some (.slice pu3 q.st.used.length cu3)/\w'.cell? ⟨w2.heap.size,2,none⟩=some (.slice pf3 q.st.free.length cf3)/\w'.cell? ⟨w2.heap.size,3,none⟩=some (.slice (some ⟨g2,0,none⟩) q.ch.length cc2)/\w'.cell? ⟨w1.heap.size,0,none⟩=some (.slice po old.length co))
      (first
        | with_reducible exact HC10.out _ HG0.out HVO3.out
        | with_reducible exact HC10.out _ HG0d.out HG1d.out
        | with_reducible exact HC10.out _ HF0.out HF1.out
        | with_reducible exact HC10.out _ ((z8 _ _ _ _ _ n1).trans HF0.out) ((z8 _ _ _ _ _ n3).trans HF1.out)
        | with_reducible exact HC10.out _ ((zz _ _ _ n2).trans HF0.out) ((zz _ _ _ n4).trans HF1.out)
        | with_reducible exact HC10.out _ ((zz _ _ _ n2).trans ((z8 _ _ _ _ _ n1).trans HF0.out)) ((zz _ _ _ n4).trans ((z8 _ _ _ _ _ n3).trans HF1.out))
        | with_reducible exact HC10.out _ ((z8 _ _ _ _ _ n1).trans ((zz _ _ _ n2).trans HF0.out)) ((z8 _ _ _ _ _ n3).trans ((zz _ _ _ n4).trans HF1.out)))
      (first
        | (go_at_call 129
           rw [HWR.out];refine (HAT3.out _ (Below.refl _ _).drew).mono ?_;rintro e w6 ⟨rfl,rfl⟩)
        | (go_at_call 132
           refine (HLF.out _ (Below.refl _ _).drew).mono ?_;rintro e w8 ⟨v8,rfl,ho8,hb8⟩;rw [zac] at ho8;obtain ⟨p8,c8,rfl,-,-,-⟩:=zh ho8;have HO8:=Lib.hid ho8;have HB8:=Lib.hid hb8;have HF0:=Lib.hid ((hb8.block _ (show w2.heap.size<w3.heap.size from hk3)).trans HG0.out);have HF1:=Lib.hid ((hb8.block _ (show w1.heap.size<w3.heap.size from hko3)).trans HVO3.out);have HF2:=Lib.hid ((hb8.block _ (show w.heap.size+1+1<w3.heap.size by omega)).trans HE2.out);have HF3:=Lib.hid ((hb8.block _ (show w.heap.size+1+1+1<w3.heap.size by omega)).trans HE3.out);obtain ⟨d0,d1,d2,d3,y0,y1,y2,y3⟩:=block4 HF2.out;obtain ⟨g0,g1,z0,z1⟩:=block2f HF3.out;clear ho8 hb8))
     all_goals
      go_wp2;refine bodyPost_ret (v:=.tuple #[.agg #[.slice pg3 q.st.gens.length cg3,.slice pu3 q.st.used.length cu3,.slice pf3 q.st.free.length cf3,.slice (some ⟨g2,0,none⟩) q.ch.length cc2],.agg #[.int .u64 rt,.int .i64 items.length],.slice p8 (left rows 0 old).length c8,.int .i64 0]) (by simp [results,Tryz.results73,go_sem,d0,d1,d2,d3,g0,g1]) rfl ⟨_,_,_,_,_,rfl,?_,?_,?_⟩
      · exact PA.drop ((PA.set4 (HPB3.out.pa.below ((Below.refl _ w3).drew.trans HB8.out)) (by omega) _ _ _ _).set2 (by omega) _ _) (by omega)
      · exact zo (zdr (zcv HO8.out (show w.heap.size+1+1<w3.heap.size by omega) _ _ _ _) (show w.heap.size+1+1+1<w3.heap.size by omega) _ _) (show w.heap.size<=w3.heap.size by omega)
      · exact zfi (zbx ((HW.out.1.trans (HB3.out.mono (by omega))).trans ((Below.refl _ w3).drew.trans HB8.out |>.mono (show w.heap.size<=w3.heap.size by omega))) (by omega) _ _ _ _) (by omega) _ _
end Go.Proofs.YtdmecdjfbpblgaaGreatDoor.V
