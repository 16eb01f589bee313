/-
  Which handles are live when a list is turned, and what it leaves is freed. No program here.
-/
import Derived.Test.YtdmecdjfbpblgaaGreatDoorQH05
namespace Go.Proofs.YtdmecdjfbpblgaaGreatDoor.V
set_option maxRecDepth 100000
set_option maxHeartbeats 32000000
set_option linter.unusedVariables false
set_option linter.unusedSimpArgs false
def keptRow (new:List Int):Nat->List Int->List Int
 | _,[]=>[]
 | k,h::t=>if new.getD k 0=h then h::keptRow new (k+1) t else keptRow new (k+1) t
theorem zgh (new:List Int):∀ (old:List Int) (k:Nat),old.Perm (keptRow new k old++leftRow new k old)
 | [],k=>by simp [keptRow,leftRow]
 | h::t,k=>by
   rw [keptRow,leftRow]
   split
   · exact (zgh new t (k+1)).cons h
   · exact ((zgh new t (k+1)).cons h).trans List.perm_middle.symm
def keptAll (rows:List (List Int)):Nat->List (List Int)->List Int
 | _,[]=>[]
 | l,row::t=>keptRow (rows.getD l []) 0 row++keptAll rows (l+1) t
theorem zcw (rows:List (List Int)):∀ (old:List (List Int)) (l:Nat),old.flatten.Perm (keptAll rows l old++left rows l old)
 | [],l=>by simp [keptAll,left]
 | row::t,l=>by
   rw [keptAll,left,List.flatten_cons];refine ((zgh (rows.getD l []) row 0).append (zcw rows t (l+1))).trans ?_;rw [List.append_assoc,List.append_assoc];refine List.Perm.append_left _ ?_;rw [<- List.append_assoc,<- List.append_assoc];exact List.perm_append_comm.append_right _
theorem zgi:∀ {old:List Int} {k:Nat},(∀ h∈old,h≠0)->keptRow [] k old=[]
 | [],k,_=>rfl
 | h::t,k,hz=>by
   rw [keptRow,if_neg (fun e=>hz h (by simp) (by simpa using e.symm)),zgi (fun x hx=>hz x (by simp [hx]))]
theorem zgj {rows:List (List Int)}:∀ {old:List (List Int)} {l:Nat},rows.length<=l->(∀ r∈old,∀ h∈r,h≠0)->keptAll rows l old=[]
 | [],l,_,_=>rfl
 | row::t,l,hl,hz=>by
   have e:rows.getD l []=[]:=by rw [List.getD,List.getElem?_eq_none hl];rfl
   rw [keptAll,e,zgi (hz row (by simp)),zgj (by omega) (fun r hr=>hz r (by simp [hr]))];rfl
theorem zgk {n:Nat} {G:Int} {s:St} (ho:Ok n G s) {fr:List Int} {i:Nat} (hfr:s.free=fr++[(i:Int)]) (hi:i<n) (h:Int):(s.tk i).lv h=true ↔ s.lv h=true\/h=hd i (s.gens.getD i 0):=by
 have hs:=ho.small;refine ⟨fun hl=>?_,fun hl=>?_⟩
 · obtain ⟨i',h1,h2,h3,h4⟩:=(ho.tk hfr).live hl
   by_cases e:i=i'
   · right
     subst e;have h4':s.gens.getD i 0=h / 16777216:=h4;rw [h4'];unfold hd;omega
   · left
     have h3':(s.used.set i true).getD i' false=true:=h3;rw [zad,if_neg (fun hc=>e hc.1)] at h3';exact lv_of h1 h3' h4
 · rcases hl with hl|rfl
   · exact zc2 hl
   · exact zd3 (by rw [ho.used];exact hi) (by omega)
theorem zfk {n:Nat} {G:Int} {s:St} (ho:Ok n G s) {fr:List Int} {i:Nat} (hfr:s.free=fr++[(i:Int)]) (hi:i<n):s.lv (hd i (s.gens.getD i 0))=false:=by
 have hs:=ho.small;cases hl:s.lv (hd i (s.gens.getD i 0)) with
 | false=>rfl
 | true =>
   obtain ⟨i',h1,h2,h3,h4⟩:=ho.live hl;rw [zdq (by omega)] at h1;have:i'=i:=by omega
   rw [this,ho.free i (by rw [hfr];simp)] at h3;cases h3
structure Laid (p q:Pl) (N:List Int):Prop where
 nd:N.Nodup
 dead:∀ h∈N,p.st.lv h=false
 lv:∀ h,q.st.lv h=true ↔ p.st.lv h=true\/h∈N
theorem Laid.refl (p:Pl):Laid p p []:=⟨List.nodup_nil,fun h hh=>by simp at hh,fun h=>by simp⟩
theorem Laid.trans {p q r:Pl} {N M:List Int} (a:Laid p q N) (b:Laid q r M):Laid p r (N++M):=by
 refine ⟨List.nodup_append.2 ⟨a.nd,b.nd,fun x hx y hy e=>?_⟩,fun h hh=>?_,fun h=>?_⟩
 · subst e;have:=b.dead x hy;rw [(a.lv x).2 (.inr hx)] at this;cases this
 · rcases List.mem_append.1 hh with hh|hh
   · exact a.dead h hh
   · cases hl:p.st.lv h with
     | false=>rfl
     | true =>
       have:=b.dead h hh;rw [(a.lv h).2 (.inl hl)] at this;cases this
 · rw [b.lv,a.lv,List.mem_append,or_assoc]
theorem zjn {n:Nat} {G:Int} (hG:G<=1099511627775):∀ {cs:List (List Int)} {p q:Pl} {old row:List Int},PK n G p->CsOk cs->Lv p old->p.lays old cs=some (q,row)->∃ N,Laid p q N/\∀ pre,row.Perm (keptRow (pre++row) pre.length old++N)
 | [],p,q,old,row,hP,hc,hl,he=>by
   cases he;refine ⟨[],Laid.refl _,fun pre=>?_⟩;have:∀ {old:List Int} {k:Nat},pre.length<=k->(∀ h∈old,h≠0)->keptRow (pre++[]) k old=[]:=by
    intro old
    induction old with
    | nil=>intro k _ _;rfl
    | cons h t ih =>
      intro k hk hz;rw [keptRow,if_neg (fun e=>hz h (by simp) (by rw [List.append_nil,List.getD,List.getElem?_eq_none hk] at e;simpa using e.symm)),ih (by omega) (fun x hx=>hz x (by simp [hx]))]
   rw [this (Nat.le_refl _) (fun h hh=>(hl h hh).2.2)];exact List.Perm.refl _
 | c::cs,p,q,old,row,hP,hc,hl,he=>by
   rw [za6] at he
   split at he
   · cases he
   · rename_i q1 y hp
     obtain ⟨r,h1,h2⟩:=Option.map_eq_some_iff.1 he;cases h2;have hsp:=zih hP hG (hc c (by simp)).1 (hc c (by simp)).2 (fun hx=>⟨(hl _ (zgf hx)).1,(hl _ (zgf hx)).2.1⟩) hp;have hct:CsOk cs:=fun d hd=>hc d (by simp [hd])
     have hlt:Lv p old.tail:=fun x hx=>hl x (List.mem_of_mem_tail hx)
     obtain ⟨N,hL,hN⟩:=zjn hG hsp.pk hct (hlt.ext hsp.ext) h1;unfold Pl.place at hp
     split at hp
     · rename_i hk
       cases hp
       match old,hl,hk,hN with
       | h::t,hl,hk,hN =>
         simp only [List.headD_cons,List.tail_cons] at *;refine ⟨N,hL,fun pre=>?_⟩;have:=hN (pre++[h]);rw [List.append_assoc,List.singleton_append,List.length_append,List.length_singleton] at this;rw [keptRow,if_pos (by rw [zdb _ (Nat.le_refl _),Nat.sub_self];rfl)];exact this.cons h
     · by_cases hf:p.st.free=[]
       · rw [hf] at hp;cases hp
       · obtain ⟨fr,i,hfr,hi⟩:=hP.ok.last hf;rw [hfr,List.getLast?_concat] at hp;simp only [Int.toNat_natCast] at hp;cases hp;have hT:Laid p (p.tk i c) [hd i (p.st.gens.getD i 0)]:=⟨by simp,fun h hh=>by rw [List.mem_singleton.1 hh];exact zfk hP.ok hfr hi,fun h=>by rw [List.mem_singleton];exact zgk hP.ok hfr hi h⟩;refine ⟨_,hT.trans hL,fun pre=>?_⟩;have:=hN (pre++[hd i (p.st.gens.getD i 0)]);rw [List.append_assoc,List.singleton_append,List.length_append,List.length_singleton] at this;have hkr:keptRow (pre++hd i (p.st.gens.getD i 0)::r.2) pre.length old=keptRow (pre++hd i (p.st.gens.getD i 0)::r.2) (pre.length+1) old.tail:=by
          match old,hl with
          | [],_=>rfl
          | h::t,hl =>
            rw [keptRow,if_neg ?_]
            · rfl
            · rw [zdb _ (Nat.le_refl _),Nat.sub_self,List.getD_cons_zero];intro e;have h1:=zfk hP.ok hfr hi;rw [e,(hl h (by simp)).1] at h1;cases h1
         rw [hkr,List.singleton_append];exact (this.cons _).trans List.perm_middle.symm
theorem zcn {n:Nat} {G:Int} (hG:G<=1099511627775):∀ {L:Nat} {p q:Pl} {old rows:List (List Int)} {below:List Int},PK n G p->U64 below->(∀ r∈old,Lv p r)->p.raise old L below=some (q,rows)->∃ N,Laid p q N/\∀ pre,rows.flatten.Perm (keptAll (pre++rows) pre.length old++N)
 | 0,p,q,old,rows,below,hP,hU,hl,he=>by
   cases he;refine ⟨[],Laid.refl _,fun pre=>?_⟩;rw [zgj (rows:=pre++[]) (by simp) (fun r hr h hh=>(hl r hr h hh).2.2)];exact List.Perm.refl _
 | L+1,p,q,old,rows,below,hP,hU,hl,he=>by
   rw [zaw] at he
   split at he
   · cases he
   · rename_i q1 row hp
     obtain ⟨r,h1,h2⟩:=Option.map_eq_some_iff.1 he;cases h2;have hlh:Lv p (old.headD []):=by
      cases old with
      | nil=>intro x hx;simp at hx
      | cons a t=>exact hl a (by simp)
     obtain ⟨a1,a2,a3,a4⟩:=zgg hG hP (zfj _ hU) (fun x hx _=>⟨(hlh x hx).1,(hlh x hx).2.1⟩) hp;obtain ⟨N,hN,hNp⟩:=zjn hG hP (zfj _ hU) hlh hp;obtain ⟨M,hM,hMp⟩:=zcn hG a1 a4.u64 (fun r hr=>(hl r (List.mem_of_mem_tail hr)).ext a2) h1;refine ⟨_,hN.trans hM,fun pre=>?_⟩;have e1:=hNp [];have e2:=hMp (pre++[row]);rw [List.append_assoc,List.singleton_append,List.length_append,List.length_singleton] at e2;simp only [List.nil_append,List.length_nil] at e1;have hka:keptAll (pre++row::r.2) pre.length old=keptRow row 0 (old.headD [])++keptAll (pre++row::r.2) (pre.length+1) old.tail:=by
      cases old with
      | nil=>rfl
      | cons a t=>rw [keptAll,zdb _ (Nat.le_refl _),Nat.sub_self];rfl
     rw [hka,List.flatten_cons];refine (e1.append e2).trans ?_;rw [List.append_assoc,List.append_assoc];refine List.Perm.append_left _ ?_;rw [<- List.append_assoc,<- List.append_assoc];exact List.perm_append_comm.append_right _
structure Just (p:Pl) (L:List Int):Prop where
 nd:L.Nodup
 mem:∀ h,p.st.lv h=true ↔ h∈L
def Pl.freeL (p:Pl):List Int->Option Pl
 | []=>some p
 | h::t=>if p.st.lv h then (p.gb (ix h) (h / 16777216+1)).freeL t else none
theorem PK.gb {n:Nat} {G:Int} {p:Pl} (hP:PK n G p) {h:Int} (hl:p.st.lv h=true):PK n (G+1) (p.gb (ix h) (h / 16777216+1)):=by
 obtain ⟨i,h1,h2,h3,h4⟩:=hP.ok.live hl;have e:ix h=i:=by unfold ix;omega
 have hg:=hP.ok.gen h2;rw [e];refine ⟨hP.ok.gb h2 h3 (by omega) (by omega) (by omega),by show (p.ch.set i []).length=n;rw [List.length_set,hP.len],fun c hc=>?_,fun c hc=>?_⟩
 · rcases List.mem_or_eq_of_mem_set hc with hc|rfl
   · exact hP.four c hc
   · simp
 · rcases List.mem_or_eq_of_mem_set hc with hc|rfl
   · exact hP.u64 c hc
   · intro x hx;simp at hx
theorem gb_lv {p:Pl} {h x:Int} (hl:p.st.lv h=true):(p.gb (ix h) (h / 16777216+1)).st.lv x=true ↔ p.st.lv x=true/\x≠h:=by
 have e:((ix h:Nat):Int)=h % 16777216:=by unfold ix;omega
 by_cases hx:x % 16777216=h % 16777216
 · refine ⟨fun hc=>?_,fun ⟨h1,h2⟩=>absurd (zdk h1 hl hx) h2⟩;have:(p.st.gb (ix h) (h / 16777216+1)).lv x=false:=lv_gb (by omega);exact absurd hc (by show ¬ (p.st.gb (ix h) (h / 16777216+1)).lv x=true;rw [this];decide)
 · have:(p.st.gb (ix h) (h / 16777216+1)).lv x=p.st.lv x:=zei (by omega) (by omega);show (p.st.gb (ix h) (h / 16777216+1)).lv x=true ↔ _;rw [this];exact ⟨fun hc=>⟨hc,fun e=>hx (by rw [e])⟩,fun hc=>hc.1⟩
theorem gb_at {p:Pl} {h x:Int} (hl:p.st.lv h=true) (hx:p.st.lv x=true) (hne:x≠h):(p.gb (ix h) (h / 16777216+1)).at x=p.at x:=by
 have:ix h≠ix x:=fun e=>hne (zdk hx hl (by unfold ix at e;omega))
 show (p.ch.set (ix h) []).getD (ix x) []=p.ch.getD (ix x) [];rw [zad,if_neg (fun hc=>this hc.1)]
theorem zho {n:Nat}:∀ {l:List Int} {G:Int} {p:Pl},PK n G p->l.Nodup->(∀ h∈l,p.st.lv h=true)->∃ q,p.freeL l=some q/\PK n (G+l.length) q/\(∀ h,q.st.lv h=true ↔ p.st.lv h=true/\h ∉ l)/\∀ h,q.st.lv h=true->q.at h=p.at h
 | [],G,p,hP,_,_=>⟨p,rfl,by simpa using hP,fun h=>by simp,fun h _=>rfl⟩
 | x::t,G,p,hP,hn,hl=>by
   have hlx:=hl x (by simp);obtain ⟨hx,hnt⟩:=List.nodup_cons.1 hn;obtain ⟨q,h1,h2,h3,h4⟩:=zho (hP.gb hlx) hnt (fun h hh=>(gb_lv hlx).2 ⟨hl h (by simp [hh]),fun e=>hx (by rw [<- e];exact hh)⟩);refine ⟨q,by rw [Pl.freeL,if_pos hlx];exact h1,?_,fun h=>?_,fun h hh=>?_⟩
   · have e:G+1+(t.length:Int)=G+((x::t).length:Int):=by simp;omega
     rw [<- e];exact h2
   · rw [h3,gb_lv hlx,List.mem_cons,not_or,and_assoc]
   · have:=(gb_lv hlx).1 ((h3 h).1 hh).1;rw [h4 h hh,gb_at hlx this.1 this.2]
theorem Tr.keep {p q:Pl}:∀ {rows:List (List Int)} {below:List Int},(∀ h∈rows.flatten,q.st.lv h=true/\q.at h=p.at h)->Tr p rows below->Tr q rows below
 | [],_,_,_=>trivial
 | row::rows,below,hk,ht=>by
   refine ⟨?_,fun x hx=>⟨(hk x (by simp [hx])).1,(ht.2.1 x hx).2⟩,Tr.keep (fun h hh=>hk h (by rw [List.flatten_cons];exact List.mem_append.2 (.inr hh))) ht.2.2⟩;rw [<- ht.1];exact List.map_congr_left fun x hx=>(hk x (by simp [hx])).2
theorem WF.keep {p q:Pl} {v:Vc} {l:List Int} {rows:List (List Int)} (h:WF p v l rows) (hk:∀ h∈rows.flatten,q.st.lv h=true/\q.at h=p.at h):WF q v l rows:=⟨h.size,h.small,h.u64,h.len,h.tr.keep hk,h.root⟩
open Go.ChangeShapes Go.WideShapes Go.ChangeAt Go.RowKit
theorem zve (k:Nat):it [] k=0:=by simp [it]
theorem zuf (l:List Int) (pi:Option Addr) (ci:Nat) (vg vu vf vc:Value) (p q:Pl) (b n:Nat) (G:Int) (w:World) (hA:PA w b vg vu vf vc p) (hP:PK n G p) (hI:RL w pi l) (hci:l.length<=ci) (hcm:ci<=9223372036854775807) (hl:l.length<=1000) (hU:∀ x∈l,B64 x) (hG:G<=1099511620000) (hn0:0<n) (hq:p.freeL l=some q) :
 Calls Tryz.prog 22 #[.agg #[vg,vu,vf,vc],.slice pi l.length ci] w (GivesN q 0 w):=by
 have hsm:=hP.ok.small;have g1:=hP.ok.gens;have g2:=hP.ok.used;have g4:=hP.ok.free_le;have g5:=hP.len;have HCo:=Lib.hid (fun (W:World) (hA:PA W b vg vu vf vc p)=>zd5 vg vu vf vc p b W hA (by omega) (by omega) (by omega) (by omega));have HA:=Lib.hid hA;have HP:=Lib.hid hP;have HI:=Lib.hid hI;have HU:=Lib.hid hU;have HQ:=Lib.hid hq;have HG5:=Lib.hid g5;clear hA hP hI hU hq g1 g2 g4 g5;obtain ⟨W,hW⟩:∃ W,W=(w.alloc (.cells #[vg,vu,vf,vc] 34)).alloc (.cells #[.slice none 0 0,.slice none 0 0,.slice none 0 0,.slice none 0 0] 34):=⟨_,rfl⟩;have HW:Hid (Below w.heap.size w W/\W.heap.size=w.heap.size+2/\W.heap[w.heap.size]? = some (.cells #[vg,vu,vf,vc] 34 (0,0))/\W.heap[w.heap.size+1]? = some (.cells #[.slice none 0 0,.slice none 0 0,.slice none 0 0,.slice none 0 0] 34 (0,0))):=Lib.hid (by
  subst hW;refine ⟨((Below.refl _ w).alloc (Nat.le_refl _) _).alloc (by simp) _,by simp,?_,heap_alloc2_new _ _ _⟩;rw [heap_alloc_old _ _ (by simp)];exact heap_alloc_new w _)
 obtain ⟨x0,x1,x2,x3,-⟩:=block4 HW.out.2.2.1;go_enter Tryz.func22,Tryz.ntmps22;go_upto_region 1 with fail
 rw [<- hW];clear hW;go_wp2_with fail;refine (HCo.out W (HA.out.below HW.out.1)).mono ?_;rintro e w1 ⟨v1,v2,v3,v4,rfl,hpa,hb⟩;obtain ⟨pg1,cg1,pu1,cu1,pf1,cf1,pc1,cc1,rfl,rfl,rfl,rfl⟩:=hpa.form;obtain ⟨gc,rfl,-,-⟩:=zab hpa.cs (by have:=HG5.out;omega);have hs1:w.heap.size+2<=w1.heap.size:=by have:=hb.size;have:=HW.out.2.1;omega
 have HB1:Hid (Below w.heap.size w w1):=Lib.hid (HW.out.1.trans (hb.mono HW.out.1.size));have HR1:Hid (w1.heap[w.heap.size+1]? = some (.cells #[.slice none 0 0,.slice none 0 0,.slice none 0 0,.slice none 0 0] 34 (0,0))):=Lib.hid ((hb.block _ (by have:=HW.out.2.1;omega)).trans HW.out.2.2.2);have HPB:Hid (PB (w1.alloc (.cells #[.slice pg1 p.st.gens.length cg1,.slice pu1 p.st.used.length cu1,.slice pf1 p.st.free.length cf1,.slice (some ⟨gc,0,none⟩) p.ch.length cc1] 34)) w1.heap.size gc (w.heap.size+2) cc1 (.slice pg1 p.st.gens.length cg1) (.slice pu1 p.st.used.length cu1) (.slice pf1 p.st.free.length cf1) p):=Lib.hid ⟨heap_alloc_new _ _,(hpa.drop (by have:=HW.out.2.1;omega)).below ((Below.refl _ _).alloc (Nat.le_refl _) _)⟩;have HBV:Hid (Below w.heap.size w (w1.alloc (.cells #[.slice pg1 p.st.gens.length cg1,.slice pu1 p.st.used.length cu1,.slice pf1 p.st.free.length cf1,.slice (some ⟨gc,0,none⟩) p.ch.length cc1] 34))):=Lib.hid (HB1.out.alloc HB1.out.size _);have HRV:Hid ((w1.alloc (.cells #[.slice pg1 p.st.gens.length cg1,.slice pu1 p.st.used.length cu1,.slice pf1 p.st.free.length cf1,.slice (some ⟨gc,0,none⟩) p.ch.length cc1] 34)).heap[w.heap.size+1]? = some (.cells #[.slice none 0 0,.slice none 0 0,.slice none 0 0,.slice none 0 0] 34 (0,0))):=Lib.hid ((heap_alloc_old _ _ (by omega)).trans HR1.out);clear hpa hb x0 x1 x2 x3;go_wp2_with fail;generalize w1.alloc (.cells #[.slice pg1 p.st.gens.length cg1,.slice pu1 p.st.used.length cu1,.slice pf1 p.st.free.length cf1,.slice (some ⟨gc,0,none⟩) p.ch.length cc1] 34)=V1 at *;obtain ⟨N,hN⟩:∃ N,l.length=N:=⟨_,rfl⟩;have HN:=Lib.hid hN;rw [hN] at hl hci ⊢;clear hN;generalize hk6:w1.heap.size=k6 at *
 go_loopw [15] (fun i wr=>∃ (j:Nat) (pj:Pl) (cc:Nat),j<=N/\i = .int .i64 j/\Hid (PK n (G+j) pj)/\Hid (pj.freeL (l.drop j)=some q)/\Hid (∃ vg vu vf,PB wr k6 gc (w.heap.size+2) cc vg vu vf pj)/\Hid (Below w.heap.size w wr)/\Hid (wr.heap[w.heap.size+1]? = some (.cells #[.slice none 0 0,.slice none 0 0,.slice none 0 0,.slice none 0 0] 34 (0,0)))) (fun i _=>N - (intOf i).toNat)
 case atStart => exact ⟨0,p,cc1,Nat.zero_le _,rfl,Lib.hid (by simpa using HP.out),Lib.hid (by simpa using HQ.out),Lib.hid ⟨_,_,_,HPB.out⟩,HBV,HRV⟩
 case round =>
  obtain ⟨j,pj,cc,hj,rfl,HK,HF,HX,HB,HRr⟩:=hrel;obtain ⟨ug,uu,uf,hpb⟩:=HX.out;obtain ⟨pg,cg,pu,cu,pf,cf,pc',cc',rfl,rfl,rfl,hce⟩:=hpb.pa.form;clear hce pc' cc';have HX2:=Lib.hid hpb;clear hpb HX;have hsm2:=HK.out.ok.small;have HCH:=Lib.hid HK.out.len;obtain ⟨q0,q1,q2,q3,r0,r1,r2,r3⟩:=block4 HX2.out.blk;obtain ⟨cur,hgb,hBg⟩:=zaq HX2.out.pa.cs;have HGB:=Lib.hid hgb;have hk6lt:=lt_of_block HX2.out.blk;have hglt:=lt_of_block hgb;have hkg:k6≠gc:=fun e=>by
   have:=HX2.out.blk;rw [e,hgb] at this;cases this
  clear hgb
  by_cases hlt:j<N
  · have j0:(0:Int)<=(j:Int):=by omega
    have j1:(j:Int)<(N:Int):=by omega
    have hjl:j<l.length:=by rw [HN.out];exact hlt
    obtain ⟨gl,offl,hpe,hgl,hcell⟩:=(HI.out.below HB.out) (by omega);subst hpe;have cz:=RL.at_ hcell hjl;clear hcell;have hB64:=HU.out (l.getD j 0) (by rw [getD_at 0 hjl];exact List.getElem_mem _);have hd:l.drop j=l.getD j 0::l.drop (j+1):=by rw [List.drop_eq_getElem_cons hjl,getD_at 0 hjl]
    have hF:=HF.out;rw [hd,Pl.freeL] at hF;have hlv:pj.st.lv (l.getD j 0)=true:=by
     cases h:pj.st.lv (l.getD j 0) with
     | true=>rfl
     | false=>rw [h] at hF;simp at hF
    rw [if_pos hlv] at hF;clear hd;generalize l.getD j 0=h at *;obtain ⟨i,hi1,hi2,hi3,hi4⟩:=HK.out.ok.live hlv;have hix:ix h=i:=by unfold ix;omega
    have HF2:=Lib.hid hF;have HK2:=Lib.hid (HK.out.gb hlv);rw [hix] at HF2 HK2;have HIX:=Lib.hid hi1;have hh0:=hB64.1;have hh1:=hB64.2;have HGi:=Lib.hid (fun (W:World) (hA:Ar W (w.heap.size+2) (.slice pg pj.st.gens.length cg) (.slice pu pj.st.used.length cu) (.slice pf pj.st.free.length cf) pj.st)=>giveO HK.out.ok (by omega) hA hh0 hh1 hlv hi1);clear hF hlv hi1 hi3 hi4 hix hB64;go_wp2_with fail;refine (HGi.out wr HX2.out.pa.ar).mono ?_;rintro e w2 ⟨v1,v2,v3,rfl,hA,hb⟩;obtain ⟨pg2,cg2,pu2,cu2,pf2,cf2,rfl,rfl,rfl⟩:=hA.form;have HA2:Hid (Ar w2 wr.heap.size _ _ _ _):=Lib.hid hA;have hs2:=hb.size;have HB2:=Lib.hid hb;clear hA hb q0 q1 q2 q3 r0 r1 r2 r3 cz;generalize hs1':(pj.st.gb i (h / 16777216+1)).gens.length=l1 at *;generalize hs2':(pj.st.gb i (h / 16777216+1)).used.length=l2 at *;generalize hs3':(pj.st.gb i (h / 16777216+1)).free.length=l3 at *;obtain ⟨q0,q1,q2,q3,r0,r1,r2,r3⟩:=block4 ((HB2.out.block k6 hk6lt).trans HX2.out.blk);have ne3:k6≠w2.heap.size:=by omega
    have ne4:gc≠w2.heap.size:=by omega
    have ne5:k6<w2.heap.size:=by omega
    have ne6:w2.heap.size≠k6:=by omega
    go_upto_region 9 with fail
    obtain ⟨V,hV⟩:∃ V,V=(s3 w2 k6 (.slice pg2 l1 cg2) (.slice pu2 l2 cu2) (.slice pf2 l3 cf2)).alloc (.cells #[.slice pg2 l1 cg2,.slice pu2 l2 cu2,.slice pf2 l3 cf2] 30):=⟨_,rfl⟩;have e0:(s3 w2 k6 (.slice pg2 l1 cg2) (.slice pu2 l2 cu2) (.slice pf2 l3 cf2)).alloc (.cells #[.slice pg2 l1 cg2,.slice pu2 l2 cu2,.slice pf2 l3 cf2] 30)=V:=hV.symm;have hVj:∀ j,j<w2.heap.size->j≠k6->V.heap[j]? = w2.heap[j]?:=fun j h1 h2=>by
     rw [hV];exact (heap_alloc_old _ _ (by rw [zdl];exact h1)).trans (zk5 _ _ _ _ h2)
    have HVs:Hid (V.heap.size=w2.heap.size+1):=Lib.hid (by rw [hV,World.size_alloc,zdl]);have hVk:V.heap[k6]? = some (.cells #[.slice pg2 l1 cg2,.slice pu2 l2 cu2,.slice pf2 l3 cf2,.slice (some ⟨gc,0,none⟩) pj.ch.length cc] 34 (0,0)):=by
     rw [hV];refine (heap_alloc_old _ _ (by rw [zdl];omega)).trans ?_;have h0:w2.heap[k6]? = some (.cells #[.slice pg pj.st.gens.length cg,.slice pu pj.st.used.length cu,.slice pf pj.st.free.length cf,.slice (some ⟨gc,0,none⟩) pj.ch.length cc] 34 (0,0)):=(HB2.out.block k6 hk6lt).trans HX2.out.blk;simp [s3,World.setCell,Array.getElem?_modify,h0]
    have HVA:Hid (Ar V wr.heap.size (.slice pg2 l1 cg2) (.slice pu2 l2 cu2) (.slice pf2 l3 cf2) (pj.st.gb i (h / 16777216+1))):=Lib.hid (by
     have h0:∀ (e:TypeId) (v:Value) (m:Nat) (xs:List Value),w2.ownsRow wr.heap.size e 1 v m xs->V.ownsRow wr.heap.size e 1 v m xs:=fun e v m xs ho=>zer ho (fun j hj=>hVj j (ho.lt j hj).2 (by have:=(ho.lt j hj).1;omega))
     exact ⟨by have:=h0 _ _ _ _ HA2.out.g;rw [hs1'] at this;rw [hs1'];exact this,by have:=h0 _ _ _ _ HA2.out.u;rw [hs2'] at this;rw [hs2'];exact this,by have:=h0 _ _ _ _ HA2.out.f;rw [hs3'] at this;rw [hs3'];exact this⟩)
    have HVC:Hid (V.ownsRow (w.heap.size+2) 119 5 (.slice (some ⟨gc,0,none⟩) pj.ch.length cc) pj.ch.length (cvs pj.ch)):=Lib.hid (zer (own_below HX2.out.pa.cs HB2.out) (fun j hj=>by
     obtain rfl:gc=j:=by simpa [Value.ownBlock] using hj
     exact hVj gc (by omega) (Ne.symm hkg)))
    have HVK:=Lib.hid hVk;have HVo:Hid (V.os=wr.os/\V.tape=wr.tape/\V.output=wr.output/\∀ j,j<wr.heap.size->j≠k6->V.heap[j]? = wr.heap[j]?):=Lib.hid ⟨by rw [hV];exact HB2.out.os,by rw [hV];exact HB2.out.tape,by rw [hV];exact HB2.out.output,fun j h1 h2=>(hVj j (by omega) h2).trans (HB2.out.block j h1)⟩;unfold s3 at e0;rw [e0];clear e0 hV hVj hVk;clear q0 q1 q2 q3 r0 r1 r2 r3;obtain ⟨q0,q1,q2,q3,-⟩:=block4 HVK.out;obtain ⟨m0,m1,m2,m3,m4⟩:=zgc (i:=i) HVC.out (by have:=HCH.out;omega);have f0:=zal HVC.out (i*5);have f1:=zal HVC.out (i*5+1);have f2:=zal HVC.out (i*5+2);have f3:=zal HVC.out (i*5+3);have f4:=zal HVC.out (i*5+4);have i0:(0:Int)<=(i:Int):=by omega
    have i1:(i:Int)<(pj.ch.length:Int):=by have:=HCH.out;omega
    have hgk:gc≠k6:=Ne.symm hkg
    go_region_held3 (fun w'=>w'.cell? ⟨k6,3,none⟩=some (.slice (some ⟨gc,0,none⟩) pj.ch.length cc))
     (go_keep)
     (first
       | (go_at_call 21;refine (zap h _ hh0 hh1).mono ?_;rw [HIX.out];rintro e w' ⟨rfl,rfl⟩))
    go_wp2;obtain ⟨V5,hV5⟩:∃ V5,V5=s5 V gc (i*5) (.int .i64 ([]:List Int).length) (.int .u64 (it [] 0)) (.int .u64 (it [] 1)) (.int .u64 (it [] 2)) (.int .u64 (it [] 3)):=⟨_,rfl⟩;have hc:=zqh (i:=i) [] HVC.out (by have:=HCH.out;omega);have hjj:∀ j,j≠gc->V5.heap[j]? = V.heap[j]?:=fun j h=>by rw [hV5];exact zk6 _ _ _ _ _ _ _ h
    have hsz:V5.heap.size=V.heap.size:=by rw [hV5];exact zna _ _ _ _ _ _ _ _
    have hfin:PB V5 k6 gc (w.heap.size+2) cc (.slice pg2 l1 cg2) (.slice pu2 l2 cu2) (.slice pf2 l3 cf2) (pj.gb i (h / 16777216+1))/\Below w.heap.size w V5/\V5.heap[w.heap.size+1]? = some (.cells #[.slice none 0 0,.slice none 0 0,.slice none 0 0,.slice none 0 0] 34 (0,0)):=by
     have hszr:=HB.out.size;have hvs:=HVs.out;refine ⟨⟨?_,⟨?_,?_⟩⟩,⟨?_,?_,?_,?_,?_⟩,?_⟩
     · rw [hjj k6 hkg];simpa [Pl.gb] using HVK.out
     · have h0:∀ (e:TypeId) (v:Value) (m:Nat) (xs:List Value),V.ownsRow wr.heap.size e 1 v m xs->V5.ownsRow (w.heap.size+2) e 1 v m xs:=fun e v m xs ho=>zo (zer ho (fun j e=>hjj j (by have:=(ho.lt j e).1;omega))) (by omega)
       exact ⟨h0 _ _ _ _ HVA.out.g,h0 _ _ _ _ HVA.out.u,h0 _ _ _ _ HVA.out.f⟩
     · rw [<- hV5] at hc;simpa [Pl.gb] using hc
     · rw [hV5];exact HVo.out.1.trans HB.out.os
     · rw [hV5];exact HVo.out.2.1.trans HB.out.tape
     · rw [hV5];exact HVo.out.2.2.1.trans HB.out.output
     · omega
     · intro r hr;exact (hjj r (by omega)).trans ((HVo.out.2.2.2 r (by omega) (by omega)).trans (HB.out.block r hr))
     · exact (hjj _ (by omega)).trans ((HVo.out.2.2.2 _ (by omega) (by omega)).trans HRr.out)
    have hfin':PB V5.drew k6 gc (w.heap.size+2) cc (.slice pg2 l1 cg2) (.slice pu2 l2 cu2) (.slice pf2 l3 cf2) (pj.gb i (h / 16777216+1))/\Below w.heap.size w V5.drew/\V5.drew.heap[w.heap.size+1]? = some (.cells #[.slice none 0 0,.slice none 0 0,.slice none 0 0,.slice none 0 0] 34 (0,0)):=⟨⟨hfin.1.blk,hfin.1.pa.below (Below.refl _ _).drew⟩,hfin.2.1.drew,hfin.2.2⟩;clear hfin hc hjj hsz;subst hV5;simp only [s5,zve,List.length_nil] at hfin';have HFin:=Lib.hid hfin';clear hfin';have HK3:Hid (PK n (G+((j+1:Nat):Int)) (pj.gb i (h / 16777216+1))):=Lib.hid (by have:=HK2.out;rw [show G+(j:Int)+1=G+((j+1:Nat):Int) by omega] at this;exact this);go_roundw
    case rel => exact ⟨j+1,pj.gb i (h / 16777216+1),cc,by omega,by go_num,HK3,HF2,Lib.hid ⟨_,_,_,HFin.out.1⟩,Lib.hid HFin.out.2.1,Lib.hid HFin.out.2.2⟩
    case measure => simp [intOf]<;>omega
  · obtain rfl:j=N:=by omega
    have hF:=HF.out;rw [List.drop_eq_nil_of_le (by rw [HN.out];exact Nat.le_refl _)] at hF;obtain rfl:pj=q:=by cases hF;rfl
    obtain ⟨d0,d1,d2,d3,y0,y1,y2,y3⟩:=block4 HRr.out;have hszr:=HB.out.size;go_wp2;refine bodyPost_ret (v:=.tuple #[.agg #[.slice pg pj.st.gens.length cg,.slice pu pj.st.used.length cu,.slice pf pj.st.free.length cf,.slice (some ⟨gc,0,none⟩) pj.ch.length cc],.int .i64 0]) (by simp [results,Tryz.results22,go_sem,d0,d1,d2,d3]) rfl ⟨_,_,_,_,rfl,?_,?_⟩
    · exact (HX2.out.pa.set4 (by omega) _ _ _ _).drop (by omega)
    · exact zbx HB.out (by omega) _ _ _ _
end Go.Proofs.YtdmecdjfbpblgaaGreatDoor.V
