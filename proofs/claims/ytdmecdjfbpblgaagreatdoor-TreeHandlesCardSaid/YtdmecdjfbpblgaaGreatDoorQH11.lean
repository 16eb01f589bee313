/-
  Forests in arenas, version beside version: plain mathematics of no program.
-/
import Derived.Test.YtdmecdjfbpblgaaGreatDoorQH06
import Derived.Test.YtdmecdjfbpblgaaGreatDoorQG12
namespace Go.Proofs.YtdmecdjfbpblgaaGreatDoor
set_option maxRecDepth 100000
set_option maxHeartbeats 32000000
set_option linter.unusedVariables false
set_option linter.unusedSimpArgs false
open V (St Pl Vc Told WF Ok PK Ext Laid Just Lv left keptAll zcw zcn zcm zcd zds B64 ix hd lvs atR zho zc2 zd3 zfk zgk zdk lv_gb zei zad U64)
structure Rk where
 kind:Int
 par:Int
 name:ByteArray
 text:ByteArray
 attrs:List ByteArray
 kids:Vc
def zRk:Rk:=⟨0,0,⟨#[]⟩,⟨#[]⟩,[],⟨0,0⟩⟩
def flatA (l:List At2):List ByteArray:=l.flatMap fun a=>[a.1,a.2]
theorem zbt (l:List At2):(flatA l).length=2*l.length:=by
 induction l with
 | nil=>rfl
 | cons a l ih =>
   have e:flatA (a::l)=a.1::a.2::flatA l:=rfl;rw [e,List.length_cons,List.length_cons,List.length_cons,ih];omega
def recP (m:Mn) (v:Vc):Rk:=⟨m.kind,m.parent,m.name,m.text,flatA m.attrs,v⟩
theorem zjo {m n:Mn} (h:core m=core n) (v:Vc):recP m v=recP n v:=by
 have h1:m.kind=n.kind:=show (core m).kind=(core n).kind by rw [h]
 have h2:m.parent=n.parent:=show (core m).parent=(core n).parent by rw [h]
 have h3:m.name=n.name:=show (core m).name=(core n).name by rw [h]
 have h4:m.text=n.text:=show (core m).text=(core n).text by rw [h]
 have h5:m.attrs=n.attrs:=show (core m).attrs=(core n).attrs by rw [h]
 unfold recP;rw [h1,h2,h3,h4,h5]
structure Tm where
 st:St
 recs:List Rk
 pl:Pl
def Tm.rc (t:Tm) (h:Int):Rk:=t.recs.getD (ix h) zRk
structure TK (n m:Nat) (G:Int) (t:Tm):Prop where
 ok:Ok n G t.st
 len:t.recs.length=n
 pk:PK m G t.pl
structure NodeOk (t:Tm) (h:Int) (m:Mn) (v:Vc) (rows:List (List Int)):Prop where
 lv:t.st.lv h=true
 b64:B64 h
 rc:t.rc h=recP m v
 wf:WF t.pl v m.kids rows
structure Ver (t:Tm) (v:Vc) (F:List Mn) (hs:List Int) (vs:List Vc) (ks:List (List (List Int))) (rows:List (List Int)):Prop where
 ixw:WF t.pl v hs rows
 len:hs.length=F.length
 vl:vs.length=F.length
 kl:ks.length=F.length
 at_:∀ i (m:Mn) h,F[i]? = some m->hs[i]? = some h->NodeOk t h m (vs.getD i ⟨0,0⟩) (ks.getD i [])
structure TE (t u:Tm):Prop where
 st:∀ h,t.st.lv h=true->u.st.lv h=true/\u.rc h=t.rc h
 pl:Ext t.pl u.pl
theorem TE.refl (t:Tm):TE t t:=⟨fun h hl=>⟨hl,rfl⟩,V.Ext.refl _⟩
theorem TE.trans {a b c:Tm} (h:TE a b) (k:TE b c):TE a c :=
 ⟨fun x hl=>⟨(k.st x (h.st x hl).1).1,(k.st x (h.st x hl).1).2.trans (h.st x hl).2⟩,h.pl.trans k.pl⟩
theorem NodeOk.ext {t u:Tm} {h:Int} {m:Mn} {v:Vc} {rows:List (List Int)} (h1:NodeOk t h m v rows) (e:TE t u):NodeOk u h m v rows :=
 ⟨(e.st h h1.lv).1,h1.b64,(e.st h h1.lv).2.trans h1.rc,h1.wf.ext e.pl⟩
theorem NodeOk.like {t:Tm} {h:Int} {m n:Mn} {v:Vc} {rows:List (List Int)} (h1:NodeOk t h m v rows) (e:core m=core n):NodeOk t h n v rows:=by
 have e2:m.kids=n.kids:=show (core m).kids=(core n).kids by rw [e]
 exact ⟨h1.lv,h1.b64,h1.rc.trans (zjo e v),e2 ▸ h1.wf⟩
theorem Ver.ext {t u:Tm} {v:Vc} {F:List Mn} {hs:List Int} {vs:List Vc} {ks:List (List (List Int))} {rows:List (List Int)} (h:Ver t v F hs vs ks rows) (e:TE t u):Ver u v F hs vs ks rows :=
 ⟨h.ixw.ext e.pl,h.len,h.vl,h.kl,fun i m x h1 h2=>(h.at_ i m x h1 h2).ext e⟩
theorem zde {m:Nat} {G:Int} {p:Pl} {v:Vc} {l items:List Int} {old:List (List Int)} (hP:PK m G p) (hG:G<=1099511627775) (hv:WF p v l old) (hi:items.length<=200) (hU:U64 items) :
 (p.change v items).e=2/\(p.change v items).p=p/\(p.change v items).v=v/\(p.change v items).gone=[] \/
 ((p.change v items).e=0/\(p.change v items).v.size=items.length/\∃ rows N,WF (p.change v items).p (p.change v items).v items rows/\PK m G (p.change v items).p/\Ext p (p.change v items).p/\Laid p (p.change v items).p N/\(rows.flatten++(p.change v items).gone).Perm (old.flatten++N)):=by
 cases hr:p.raise old (lvs items.length) items with
 | none =>
   left
   have:p.change v items=⟨p,v,[],2⟩:=by
    rw [V.Pl.change,if_neg (by omega),hv.down];simp only [hr]
   rw [this];exact ⟨rfl,rfl,rfl,rfl⟩
 | some r =>
   right
   obtain ⟨q,rows⟩:=r;obtain ⟨e,h1,h2,h3⟩:=zcd hP hG hv hi hU hr;obtain ⟨N,hN,hp⟩:=zcn hG hP hU (zds hv.tr) hr;have e1:=hp [];simp only [List.nil_append,List.length_nil] at e1;have e2:=zcw rows old 0;rw [e];refine ⟨rfl,rfl,rows,N,h3,h1,h2,hN,?_⟩;show (rows.flatten++left rows 0 old).Perm (old.flatten++N);generalize keptAll rows 0 old=K at *;refine (e1.append_right _).trans ?_;refine List.Perm.trans ?_ (e2.symm.append_right N);rw [List.append_assoc,List.append_assoc];exact List.Perm.append_left _ List.perm_append_comm
structure LaidS (s u:St) (N:List Int):Prop where
 nd:N.Nodup
 dead:∀ h∈N,s.lv h=false
 lv:∀ h,u.lv h=true ↔ s.lv h=true\/h∈N
theorem LaidS.refl (s:St):LaidS s s []:=⟨List.nodup_nil,fun h hh=>by simp at hh,fun h=>by simp⟩
theorem LaidS.snoc {s u r:St} {N:List Int} {x:Int} (a:LaidS s u N) (hx:u.lv x=false) (hr:∀ h,r.lv h=true ↔ u.lv h=true\/h=x):LaidS s r (N++[x]):=by
 have hxs:s.lv x=false:=by
  cases hl:s.lv x with
  | false=>rfl
  | true=>rw [(a.lv x).2 (.inl hl)] at hx;cases hx
 refine ⟨List.nodup_append.2 ⟨a.nd,by simp,fun y hy z hz e=>?_⟩,fun h hh=>?_,fun h=>?_⟩
 · rw [List.mem_singleton] at hz;subst e hz;rw [(a.lv y).2 (.inr hy)] at hx;cases hx
 · rcases List.mem_append.1 hh with hh|hh
   · exact a.dead h hh
   · rw [List.mem_singleton.1 hh];exact hxs
 · rw [hr,a.lv,List.mem_append,List.mem_singleton,or_assoc]
def Tm.tk (t:Tm) (i:Nat) (r:Rk):Tm:=⟨t.st.tk i,t.recs.set i r,t.pl⟩
def Tm.hd (t:Tm) (i:Nat):Int:=V.hd i (t.st.gens.getD i 0)
theorem znd {n m:Nat} {G:Int} {t:Tm} (hT:TK n m G t) (hG:G<=1099511627775) {fr:List Int} {i:Nat} (hfr:t.st.free=fr++[(i:Int)]) (hi:i<n) (r:Rk) :
 TK n m G (t.tk i r)/\TE t (t.tk i r)/\(t.tk i r).st.lv (t.hd i)=true/\B64 (t.hd i)/\(t.tk i r).rc (t.hd i)=r/\t.st.lv (t.hd i)=false/\(∀ h,(t.tk i r).st.lv h=true ↔ t.st.lv h=true\/h=t.hd i)/\t.hd i≠0:=by
 have hs:=hT.ok.small;have hg:=hT.ok.gen hi;have hix:ix (t.hd i)=i:=by unfold ix Tm.hd;rw [V.zdq (by omega)];simp
 refine ⟨⟨hT.ok.tk hfr,by show (t.recs.set i r).length=n;rw [List.length_set,hT.len],hT.pk⟩,⟨fun h hl=>⟨zc2 hl,?_⟩,V.Ext.refl _⟩,zd3 (by rw [hT.ok.used];exact hi) (by omega),?_,?_,zfk hT.ok hfr hi,fun h=>zgk hT.ok hfr hi h,?_⟩
 · obtain ⟨j,hj,hjn,hu,-⟩:=hT.ok.live hl;have hf:t.st.used.getD i false=false:=hT.ok.free i (by rw [hfr];simp);have hne:i≠ix h:=by
    unfold ix;intro e;have:j=i:=by omega
    rw [this,hf] at hu;cases hu
   show (t.recs.set i r).getD (ix h) zRk=t.recs.getD (ix h) zRk;rw [zad,if_neg (fun hc=>hne hc.1)]
 · unfold B64 Tm.hd V.hd;omega
 · show (t.recs.set i r).getD (ix (t.hd i)) zRk=r;rw [hix,zad,if_pos ⟨rfl,by rw [hT.len];exact hi⟩]
 · unfold Tm.hd V.hd;omega
def Sm (F F':List Mn) (i:Nat):Prop:=i<F.length/\(F[i]?).map core=(F'[i]?).map core
def goneR (F F':List Mn) (hs:List Int) (P:Nat->Bool) (k:Nat):List Int:=(List.range k).filterMap fun i=>if i<F.length/\P i=false then hs[i]? else none
theorem zdf (F F':List Mn) (hs:List Int) (P:Nat->Bool) (k:Nat):goneR F F' hs P (k+1)=goneR F F' hs P k++(if k<F.length/\P k=false then (hs[k]?).toList else []):=by
 unfold goneR;rw [List.range_succ,List.filterMap_append];congr 1
 by_cases h:k<F.length/\P k=false
 · rw [if_pos h];cases hx:hs[k]? <;> simp [h.1,h.2,hx]
 · rw [if_neg h];simp [h]
structure Grow (n m:Nat) (G:Int) (t:Tm) (F F':List Mn) (hs:List Int) (vs:List Vc) (ks:List (List (List Int))) (P:Nat->Bool) (k:Nat) (u:Tm) (hk:List Int) (vk:List Vc) (kk:List (List (List Int))) (gc Nr Nc:List Int):Prop where
 tk:TK n m G u
 te:TE t u
 hl:hk.length=k
 vl:vk.length=k
 kl:kk.length=k
 at_:∀ i (x:Mn) h,i<k->F'[i]? = some x->hk[i]? = some h->NodeOk u h x (vk.getD i ⟨0,0⟩) (kk.getD i [])
 same:∀ i,i<k->P i=true->hk[i]? = hs[i]?
 new:∀ i h,i<k->P i=false->hk[i]? = some h->t.st.lv h=false
 lr:LaidS t.st u.st Nr
 lc:Laid t.pl u.pl Nc
 pr:(hk++goneR F F' hs P k).Perm (hs.take k++Nr)
 pc:(kk.flatten.flatten++gc).Perm ((ks.take k).flatten.flatten++Nc)
 none:(∀ i,i<k->P i=true)->u=t/\goneR F F' hs P k=[]/\gc=[]/\hk=hs.take k
theorem Grow.start {n m:Nat} {G:Int} {t:Tm} (F F':List Mn) (hs:List Int) (vs:List Vc) (ks:List (List (List Int))) (P:Nat->Bool) (hT:TK n m G t):Grow n m G t F F' hs vs ks P 0 t [] [] [] [] [] [] :=
 ⟨hT,TE.refl t,rfl,rfl,rfl,fun i x h hi=>absurd hi (by omega),fun i hi=>absurd hi (by omega),fun i h hi=>absurd hi (by omega),LaidS.refl _,V.Laid.refl _,by simp [goneR],by simp,fun _=>⟨rfl,rfl,rfl,by simp⟩⟩
theorem za7 {α:Type} {l:List α} {k:Nat} {x:α} (h:l[k]? = some x):l.take (k+1)=l.take k++[x]:=by
 rw [List.take_add_one,h];rfl
theorem zd6 {α:Type} {l:List α} {k i:Nat} {x d:α} (hl:l.length=k) (hi:i<=k):(l++[x]).getD i d=if i=k then x else l.getD i d:=by
 rw [List.getD,List.getD]
 by_cases h:i=k
 · rw [if_pos h,List.getElem?_append_right (by omega),h,hl];simp
 · rw [if_neg h,List.getElem?_append_left (by omega)]
theorem zfl {α:Type} {l:List α} {k i:Nat} {x y:α} (hl:l.length=k) (h:(l++[x])[i]? = some y) (hi:i<=k):(i<k/\l[i]? = some y)\/(i=k/\y=x):=by
 by_cases hik:i=k
 · right
   rw [List.getElem?_append_right (by omega),hik,hl] at h;simp at h;exact ⟨hik,h.symm⟩
 · left
   rw [List.getElem?_append_left (by omega)] at h;exact ⟨by omega,h⟩
theorem Grow.keep {n m:Nat} {G:Int} {t u:Tm} {v:Vc} {F F':List Mn} {hs:List Int} {vs:List Vc} {ks:List (List (List Int))} {rows:List (List Int)} {P:Nat->Bool} {k:Nat} {hk:List Int} {vk:List Vc} {kk:List (List (List Int))} {gc Nr Nc:List Int}
 (h:Grow n m G t F F' hs vs ks P k u hk vk kk gc Nr Nc) (hv:Ver t v F hs vs ks rows) (hP:P k=true) (hS:Sm F F' k) {x:Int} (hx:hs[k]? = some x) {y:Vc} (hy:vs[k]? = some y) {z:List (List Int)} (hz:ks[k]? = some z) :
 Grow n m G t F F' hs vs ks P (k+1) u (hk++[x]) (vk++[y]) (kk++[z]) gc Nr Nc:=by
 have hg:goneR F F' hs P (k+1)=goneR F F' hs P k:=by rw [zdf,if_neg (by rw [hP];simp),List.append_nil]
 refine ⟨h.tk,h.te,by simp [h.hl],by simp [h.vl],by simp [h.kl],fun i a b hi ha hb=>?_,fun i hi hp=>?_,fun i b hi hp hb=>?_,h.lr,h.lc,?_,?_,fun hall=>?_⟩
 · rw [zd6 h.vl (by omega),zd6 h.kl (by omega)]
   rcases zfl h.hl hb (by omega) with ⟨h1,h2⟩|⟨h1,h2⟩
   · rw [if_neg (by omega),if_neg (by omega)];exact h.at_ i a b h1 ha h2
   · subst h1 h2;rw [if_pos rfl,if_pos rfl];obtain ⟨hl,hc⟩:=hS;rw [ha,List.getElem?_eq_getElem hl] at hc;have:=hv.at_ i F[i] b (List.getElem?_eq_getElem hl) hx;rw [List.getD,List.getD,hy,hz] at this;exact (this.ext h.te).like (Option.some.inj hc)
 · by_cases hik:i=k
   · rw [hik,hx,List.getElem?_append_right (by rw [h.hl];exact Nat.le_refl _),h.hl];simp
   · rw [List.getElem?_append_left (by rw [h.hl];omega)];exact h.same i (by omega) hp
 · rcases zfl h.hl hb (by omega) with ⟨h1,h2⟩|⟨h1,h2⟩
   · exact h.new i b h1 hp h2
   · rw [h1,hP] at hp;cases hp
 · rw [hg,za7 hx];have e1:(hk++[x]++goneR F F' hs P k).Perm (x::(hk++goneR F F' hs P k)):=by
    rw [List.append_assoc];exact List.perm_middle
   have e2:(hs.take k++[x]++Nr).Perm (x::(hs.take k++Nr)):=by
    rw [List.append_assoc];exact List.perm_middle
   exact e1.trans ((h.pr.cons x).trans e2.symm)
 · rw [za7 hz];simp only [List.flatten_append,List.flatten_cons,List.flatten_nil,List.append_nil];have e1:(kk.flatten.flatten++z.flatten++gc).Perm (z.flatten++(kk.flatten.flatten++gc)):=by
    rw [<- List.append_assoc];exact List.perm_append_comm.append_right gc
   have e2:((ks.take k).flatten.flatten++z.flatten++Nc).Perm (z.flatten++((ks.take k).flatten.flatten++Nc)):=by
    rw [<- List.append_assoc];exact List.perm_append_comm.append_right Nc
   exact e1.trans ((h.pc.append_left z.flatten).trans e2.symm)
 · obtain ⟨a,b,c,d⟩:=h.none (fun i hi=>hall i (by omega));exact ⟨a,by rw [hg];exact b,c,by rw [za7 hx,d]⟩
theorem Grow.make {n m:Nat} {G:Int} {t u:Tm} {v:Vc} {F F':List Mn} {hs:List Int} {vs:List Vc} {ks:List (List (List Int))} {rows:List (List Int)} {P:Nat->Bool} {k:Nat} {hk:List Int} {vk:List Vc} {kk:List (List (List Int))} {gc Nr Nc:List Int}
 (h:Grow n m G t F F' hs vs ks P k u hk vk kk gc Nr Nc) (hG:G<=1099511627775) (hv:Ver t v F hs vs ks rows) (hP:P k=false) {x:Mn} (hx:F'[k]? = some x)
 {pl:Pl} {kv:Vc} {g2:List Int} {rw':List (List Int)} {N old:List Int} (hpk:PK m G pl) (hext:Ext u.pl pl) (hwf:WF pl kv x.kids rw') (hlaid:Laid u.pl pl N) (hperm:(rw'.flatten++g2).Perm (old++N)) (hold:(ks[k]?.getD []).flatten=old)
 {fr:List Int} {i:Nat} (hfr:u.st.free=fr++[(i:Int)]) (hi:i<n) :
 Grow n m G t F F' hs vs ks P (k+1) ((⟨u.st,u.recs,pl⟩:Tm).tk i (recP x kv)) (hk++[u.hd i]) (vk++[kv]) (kk++[rw']) (gc++g2) (Nr++[u.hd i]) (Nc++N):=by
 have hT1:TK n m G ⟨u.st,u.recs,pl⟩:=⟨h.tk.ok,h.tk.len,hpk⟩;have hE1:TE u ⟨u.st,u.recs,pl⟩:=⟨fun a ha=>⟨ha,rfl⟩,hext⟩;obtain ⟨s1,s2,s3,s4,s5,s6,s7,s8⟩:=znd hT1 hG hfr hi (recP x kv);have hE2:=hE1.trans s2;have hd:(⟨u.st,u.recs,pl⟩:Tm).hd i=u.hd i:=rfl;rw [hd] at s3 s4 s5 s6 s7 s8;have hdt:t.st.lv (u.hd i)=false:=by
  cases hl:t.st.lv (u.hd i) with
  | false=>rfl
  | true =>
    have:=(h.te.st _ hl).1;have s6':u.st.lv (u.hd i)=false:=s6;rw [s6'] at this;cases this
 have hgr:goneR F F' hs P (k+1)=goneR F F' hs P k++(if k<F.length then (hs[k]?).toList else []):=by
  rw [zdf];simp [hP]
 have hht:hs.take (k+1)=hs.take k++(if k<F.length then (hs[k]?).toList else []):=by
  rw [List.take_add_one]
  by_cases hk2:k<F.length
  · rw [if_pos hk2]
  · rw [if_neg hk2,List.getElem?_eq_none (by rw [hv.len];omega)];rfl
 have hkt:(ks.take (k+1)).flatten.flatten=(ks.take k).flatten.flatten++old:=by
  rw [List.take_add_one,List.flatten_append,List.flatten_append,<- hold];cases ks[k]? <;> simp
 refine ⟨s1,h.te.trans hE2,by simp [h.hl],by simp [h.vl],by simp [h.kl],fun j a b hj ha hb=>?_,fun j hj hp=>?_,fun j b hj hp hb=>?_,h.lr.snoc s6 s7,h.lc.trans hlaid,?_,?_,fun hall=>?_⟩
 · rw [zd6 h.vl (by omega),zd6 h.kl (by omega)]
   rcases zfl h.hl hb (by omega) with ⟨h1,h2⟩|⟨h1,h2⟩
   · rw [if_neg (by omega),if_neg (by omega)];exact (h.at_ j a b h1 ha h2).ext hE2
   · subst h1 h2;rw [if_pos rfl,if_pos rfl];rw [hx] at ha;cases ha;exact ⟨s3,s4,s5,hwf.ext s2.pl⟩
 · by_cases hjk:j=k
   · rw [hjk,hP] at hp;cases hp
   · rw [List.getElem?_append_left (by rw [h.hl];omega)];exact h.same j (by omega) hp
 · rcases zfl h.hl hb (by omega) with ⟨h1,h2⟩|⟨h1,h2⟩
   · exact h.new j b h1 hp h2
   · rw [h2];exact hdt
 · rw [hgr,hht];generalize (if k<F.length then (hs[k]?).toList else [])=q;have e1:(hk++[u.hd i]++(goneR F F' hs P k++q)).Perm ((hk++goneR F F' hs P k)++(q++[u.hd i])):=by
    rw [List.append_assoc,List.append_assoc];refine List.Perm.append_left _ ?_;rw [<- List.append_assoc (goneR F F' hs P k) q [u.hd i]];exact List.perm_append_comm
   have e2:(hs.take k++q++(Nr++[u.hd i])).Perm ((hs.take k++Nr)++(q++[u.hd i])):=by
    rw [List.append_assoc,List.append_assoc];refine List.Perm.append_left _ ?_;rw [<- List.append_assoc,<- List.append_assoc];exact List.perm_append_comm.append_right _
   exact e1.trans ((h.pr.append_right _).trans e2.symm)
 · rw [hkt];simp only [List.flatten_append,List.flatten_cons,List.flatten_nil,List.append_nil];have e1:(kk.flatten.flatten++rw'.flatten++(gc++g2)).Perm ((kk.flatten.flatten++gc)++(rw'.flatten++g2)):=by
    rw [List.append_assoc,List.append_assoc];refine List.Perm.append_left _ ?_;rw [<- List.append_assoc,<- List.append_assoc];exact List.perm_append_comm.append_right _
   have e2:((ks.take k).flatten.flatten++old++(Nc++N)).Perm (((ks.take k).flatten.flatten++Nc)++(old++N)):=by
    rw [List.append_assoc,List.append_assoc];refine List.Perm.append_left _ ?_;rw [<- List.append_assoc,<- List.append_assoc];exact List.perm_append_comm.append_right _
   exact e1.trans ((h.pc.append hperm).trans e2.symm)
 · have:=hall k (by omega);rw [hP] at this;cases this
def Tm.gb (t:Tm) (h:Int):Tm:=⟨t.st.gb (ix h) (h / 16777216+1),t.recs.set (ix h) zRk,t.pl⟩
def Tm.freeR (t:Tm):List Int->Option Tm
 | []=>some t
 | h::l=>if t.st.lv h then (t.gb h).freeR l else none
theorem zik {s:St} {h x:Int} (hl:s.lv h=true):(s.gb (ix h) (h / 16777216+1)).lv x=true ↔ s.lv x=true/\x≠h:=by
 have e:((ix h:Nat):Int)=h % 16777216:=by unfold ix;omega
 by_cases hx:x % 16777216=h % 16777216
 · refine ⟨fun hc=>?_,fun ⟨h1,h2⟩=>absurd (zdk h1 hl hx) h2⟩;have:(s.gb (ix h) (h / 16777216+1)).lv x=false:=lv_gb (by omega);rw [this] at hc;cases hc
 · have:(s.gb (ix h) (h / 16777216+1)).lv x=s.lv x:=zei (by omega) (by omega);rw [this];exact ⟨fun hc=>⟨hc,fun e=>hx (by rw [e])⟩,fun hc=>hc.1⟩
theorem TK.gb {n m:Nat} {G:Int} {t:Tm} (hT:TK n m G t) {h:Int} (hl:t.st.lv h=true):TK n m (G+1) (t.gb h):=by
 obtain ⟨i,h1,h2,h3,h4⟩:=hT.ok.live hl;have e:ix h=i:=by unfold ix;omega
 have hg:=hT.ok.gen h2;refine ⟨?_,by show (t.recs.set (ix h) zRk).length=n;rw [List.length_set,hT.len],?_⟩
 · show Ok n (G+1) (t.st.gb (ix h) (h / 16777216+1));rw [e];exact hT.ok.gb h2 h3 (by omega) (by omega) (by omega)
 · exact ⟨hT.pk.ok.mono (by omega),hT.pk.len,hT.pk.four,hT.pk.u64⟩
theorem zgl {n m:Nat}:∀ {l:List Int} {G:Int} {t:Tm},TK n m G t->l.Nodup->(∀ h∈l,t.st.lv h=true)->∃ u,t.freeR l=some u/\TK n m (G+l.length) u/\(∀ h,u.st.lv h=true ↔ t.st.lv h=true/\h ∉ l)/\(∀ h,u.st.lv h=true->u.rc h=t.rc h)/\u.pl=t.pl
 | [],G,t,hT,_,_=>⟨t,rfl,by simpa using hT,fun h=>by simp,fun h _=>rfl,rfl⟩
 | x::l,G,t,hT,hn,hl=>by
   have hlx:=hl x (by simp);obtain ⟨hx,hnt⟩:=List.nodup_cons.1 hn;obtain ⟨u,h1,h2,h3,h4,h5⟩:=zgl (hT.gb hlx) hnt (fun h hh=>(zik hlx).2 ⟨hl h (by simp [hh]),fun e=>hx (by rw [<- e];exact hh)⟩);refine ⟨u,by rw [Tm.freeR,if_pos hlx];exact h1,?_,fun h=>?_,fun h hh=>?_,h5⟩
   · have e:G+1+(l.length:Int)=G+((x::l).length:Int):=by simp;omega
     rw [<- e];exact h2
   · rw [h3,List.mem_cons,not_or];show (t.st.gb (ix x) (x / 16777216+1)).lv h=true/\h ∉ l ↔ _;rw [zik hlx,and_assoc]
   · have hq:=((h3 h).1 hh).1;have hq2:(t.st.gb (ix x) (x / 16777216+1)).lv h=true:=hq;have:=(zik hlx).1 hq2;rw [h4 h hh];have hne:ix x≠ix h:=fun e=>this.2 (zdk this.1 hlx (by unfold ix at e;omega))
     show (t.recs.set (ix x) zRk).getD (ix h) zRk=t.recs.getD (ix h) zRk;rw [zad,if_neg (fun hc=>hne hc.1)]
open Go.ChangeShapes Go.WideShapes Go.ChangeAt Go.RowKit
structure Rm where
 k:Rk
 aA:Option Addr
 aC:Nat
def bsv (l:List ByteArray):List Value:=l.map Value.string
theorem zug (l:List ByteArray):∀ u∈bsv l,u.oneCell'=true:=by
 intro u hu;simp only [bsv,List.mem_map] at hu;obtain ⟨x,_,rfl⟩:=hu;rfl
def rmc (x:Rm):List Value:=[.int .i64 x.k.kind,.int .i64 x.k.par,.string x.k.name,.string x.k.text,.slice x.aA x.k.attrs.length x.aC,.int .u64 x.k.kids.root,.int .i64 x.k.kids.size]
def rmcs (l:List Rm):List Value:=l.flatMap rmc
theorem zc4:∀ l:List Rm,(rmcs l).length=l.length*7
 | []=>rfl
 | x::l=>by
   have e:rmcs (x::l)=rmc x++rmcs l:=by simp [rmcs]
   rw [e,List.length_append,zc4 l,List.length_cons];show 7+_=_;omega
theorem zsm (l:List Rm):∀ u∈rmcs l,u.oneCell'=true:=by
 intro u hu;obtain ⟨x,-,hx⟩:=List.mem_flatMap.1 hu;simp only [rmc,List.mem_cons,List.not_mem_nil,or_false] at hx
 rcases hx with rfl|rfl|rfl|rfl|rfl|rfl|rfl<;>rfl
theorem zgu:∀ {l:List Rm} {i:Nat} (h:i<l.length) {d:Nat},d<7->(rmcs l)[i*7+d]? = (rmc l[i])[d]?
 | x::l,0,_,d,hd=>by
   have e:rmcs (x::l)=rmc x++rmcs l:=by simp [rmcs]
   rw [e,Nat.zero_mul,Nat.zero_add,List.getElem?_append_left (by simp [rmc];omega)];rfl
 | x::l,i+1,h,d,hd=>by
   have e:rmcs (x::l)=rmc x++rmcs l:=by simp [rmcs]
   have hl:(rmc x).length=7:=rfl;rw [e,List.getElem?_append_right (by rw [hl];omega),hl,show (i+1)*7+d - 7=i*7+d by omega];exact zgu (l:=l) (by simpa using h) hd
structure TA (w:World) (b:Nat) (g u f r pg pu pf pc:Value) (L:List Rm) (t:Tm):Prop where
 ar:V.Ar w b g u f t.st
 pa:V.PA w b pg pu pf pc t.pl
 row:w.ownsRow b 80 7 r L.length (rmcs L)
 like:L.map Rm.k=t.recs
 att:∀ x∈L,w.ownsRow b 9 1 (.slice x.aA x.k.attrs.length x.aC) x.k.attrs.length (bsv x.k.attrs)
theorem TA.below {w w':World} {b:Nat} {g u f r pg pu pf pc:Value} {L:List Rm} {t:Tm} (h:TA w b g u f r pg pu pf pc L t) (hb:Below w.heap.size w w'):TA w' b g u f r pg pu pf pc L t :=
 ⟨h.ar.below hb,h.pa.below hb,own_below h.row hb,h.like,fun x hx=>own_below (h.att x hx) hb⟩
theorem TA.drop {w:World} {b b':Nat} {g u f r pg pu pf pc:Value} {L:List Rm} {t:Tm} (h:TA w b g u f r pg pu pf pc L t) (hb:b'<=b):TA w b' g u f r pg pu pf pc L t :=
 ⟨h.ar.drop hb,h.pa.drop hb,zq h.row hb,h.like,fun x hx=>zq (h.att x hx) hb⟩
theorem TA.form {w:World} {b:Nat} {g u f r pg pu pf pc:Value} {L:List Rm} {t:Tm} (h:TA w b g u f r pg pu pf pc L t):∃ ag cg au cu af cf ar cr agp cgp aup cup afp cfp acp ccp,
 g = .slice ag t.st.gens.length cg/\u = .slice au t.st.used.length cu/\f = .slice af t.st.free.length cf/\r = .slice ar L.length cr /\
 pg = .slice agp t.pl.st.gens.length cgp/\pu = .slice aup t.pl.st.used.length cup/\pf = .slice afp t.pl.st.free.length cfp/\pc = .slice acp t.pl.ch.length ccp:=by
 obtain ⟨ag,cg,au,cu,af,cf,rfl,rfl,rfl⟩:=h.ar.form;obtain ⟨agp,cgp,aup,cup,afp,cfp,acp,ccp,rfl,rfl,rfl,rfl⟩:=h.pa.form;obtain ⟨ar,cr,rfl,-,-⟩:=zj h.row;exact ⟨ag,cg,au,cu,af,cf,ar,cr,agp,cgp,aup,cup,afp,cfp,acp,ccp,rfl,rfl,rfl,rfl,rfl,rfl,rfl,rfl⟩
abbrev tval (g u f r pg pu pf pc:Value):Value:=.agg #[g,u,f,r,pg,pu,pf,pc]
def GivesTm (t:Tm) (w:World) (en:Ending) (w':World):Prop :=
 ∃ g u f r pg pu pf pc L,en = .returned (tval g u f r pg pu pf pc)/\TA w' w.heap.size g u f r pg pu pf pc L t/\Below w.heap.size w w'
theorem TA.cells {w:World} {b:Nat} {g u f pg pu pf pc:Value} {L:List Rm} {t:Tm} {k n cr:Nat} (h:TA w b g u f (.slice (some ⟨k,0,none⟩) n cr) pg pu pf pc L t) {i:Nat} (hi:i<L.length) :
 w.cell? ⟨k,i*7,none⟩=some (.int .i64 L[i].k.kind)/\w.cell? ⟨k,i*7+1,none⟩=some (.int .i64 L[i].k.par)/\w.cell? ⟨k,i*7+2,none⟩=some (.string L[i].k.name)/\w.cell? ⟨k,i*7+3,none⟩=some (.string L[i].k.text) /\
 w.cell? ⟨k,i*7+4,none⟩=some (.slice L[i].aA L[i].k.attrs.length L[i].aC)/\w.cell? ⟨k,i*7+5,none⟩=some (.int .u64 L[i].k.kids.root)/\w.cell? ⟨k,i*7+6,none⟩=some (.int .i64 L[i].k.kids.size):=by
 have hc:∀ d,d<7->w.cell? ⟨k,i*7+d,none⟩=(rmc L[i])[d]?:=fun d hd=>by
  have e:=zgu hi hd;have hd':d<(rmc L[i]).length:=hd;rw [List.getElem?_eq_getElem hd'] at e ⊢;have h2:=h.row.cells rfl (i*7+d) _ e;rw [show (⟨k,0,none⟩:Addr).add (i*7+d)=⟨k,0+(i*7+d),none⟩ by unfold Addr.add;split<;>simp_all,Nat.zero_add] at h2;exact h2
 exact ⟨hc 0 (by omega),hc 1 (by omega),hc 2 (by omega),hc 3 (by omega),hc 4 (by omega),hc 5 (by omega),hc 6 (by omega)⟩
theorem TA.rc {w:World} {b:Nat} {g u f r pg pu pf pc:Value} {L:List Rm} {t:Tm} (h:TA w b g u f r pg pu pf pc L t) {i:Nat} (hi:i<L.length):t.recs.getD i zRk=L[i].k:=by
 rw [<- h.like,List.getD,List.getElem?_map,List.getElem?_eq_getElem hi];rfl
end Go.Proofs.YtdmecdjfbpblgaaGreatDoor
namespace Go.Proofs.YtdmecdjfbpblgaaGreatDoor.V
open Go.ChangeShapes Go.WideShapes Go.ChangeAt Go.RowKit
set_option linter.unusedVariables false
set_option linter.unusedSimpArgs false
theorem zd7 (vg vu vf:Value) (s:St) (b:Nat) (w:World) (h:Ar w b vg vu vf s) (hg:s.gens.length<=1000) (hu:s.used.length<=1000) (hf:s.free.length<=1000) :
 Calls Tryz.prog 43 #[.agg #[vg,vu,vf]] w (GivesSt s w):=by
 obtain ⟨pg,cg,rfl,_,_,_⟩:=zh h.g;obtain ⟨pu,cu,rfl,_,_,_⟩:=zh h.u;obtain ⟨pf,cf,rfl,_,_,_⟩:=zh h.f;have HA:=Lib.hid h;clear h;go_enter Tryz.func43,Tryz.ntmps43;go_wp2_with fail;obtain ⟨W,hW⟩:∃ W,W=(w.alloc (.cells #[.slice pg s.gens.length cg,.slice pu s.used.length cu,.slice pf s.free.length cf] 30)).alloc (.cells #[.slice none 0 0,.slice none 0 0,.slice none 0 0] 30):=⟨_,rfl⟩;have HW:Hid (Below w.heap.size w W/\W.heap.size=w.heap.size+2/\W.heap[w.heap.size]? = some (.cells #[.slice pg s.gens.length cg,.slice pu s.used.length cu,.slice pf s.free.length cf] 30 (0,0))/\W.heap[w.heap.size+1]? = some (.cells #[.slice none 0 0,.slice none 0 0,.slice none 0 0] 30 (0,0))):=Lib.hid (by
  subst hW;refine ⟨((Below.refl _ w).alloc (Nat.le_refl _) _).alloc (by simp) _,by simp,?_,?_⟩
  · rw [heap_alloc_old _ _ (by simp)];exact heap_alloc_new w _
  · exact (show (w.alloc (.cells #[.slice pg s.gens.length cg,.slice pu s.used.length cu,.slice pf s.free.length cf] 30)).heap.size=w.heap.size+1 by simp) ▸ heap_alloc_new _ _)
 rw [<- hW];clear hW;obtain ⟨c0,c1,c2,_,_,_⟩:=block3 HW.out.2.2.1;have hBW:Below (w.heap.size+1) W W.drew:=(Below.refl _ _).drew;have HBW:=Lib.hid hBW;have HC:=Lib.hid (And.intro c0 (And.intro c1 c2));clear hBW c0 c1 c2;have HS:=Lib.hid HW.out.2.1;have HT0:=Lib.hid HW.out.2.2.2
 go_region_held3 (fun w'=>w'.cell? ⟨w.heap.size,0,none⟩=some (.slice pg s.gens.length cg)/\w'.cell? ⟨w.heap.size,1,none⟩=some (.slice pu s.used.length cu)/\w'.cell? ⟨w.heap.size,2,none⟩=some (.slice pf s.free.length cf)/\Hid (Below (w.heap.size+1) W w'))
  (first
    | exact keep3 HC.out.1 HC.out.2.1 HC.out.2.2 (by omega) HBW.out
    | exact keep3 HC.out.1 HC.out.2.1 HC.out.2.2 (by omega) HB1.out
    | exact keep3 HC.out.1 HC.out.2.1 HC.out.2.2 (by omega) HB2.out
    | exact keep3 HC.out.1 HC.out.2.1 HC.out.2.2 (by omega) HB3.out
    | exact keep3 HC.out.1 HC.out.2.1 HC.out.2.2 (by omega) (((HB3.out.setCell (by simp) _).setCell (by simp) _).setCell (by simp) _))
  (first
    | (go_at_call 74
       refine (cloneG _ _ _ b _ (own_below HA.out.g (HW.out.1.trans (HBW.out.mono (by omega)))) (zcc _) (by omega)).mono ?_;rintro e w1 ⟨v1,rfl,ho1,hb1⟩;obtain ⟨p1,k1,rfl,-,-,-⟩:=zh ho1;have HO1:=Lib.hid ho1;have HB1:Hid (Below (w.heap.size+1) W w1):=Lib.hid (HBW.out.trans (hb1.mono (by have:=HS.out;simp;omega)));have HT1:Hid (w1.heap[w.heap.size+1]? = some (.cells #[.slice none 0 0,.slice none 0 0,.slice none 0 0] 30 (0,0))):=Lib.hid ((hb1.block _ (by have:=HS.out;simp;omega)).trans HT0.out);clear hb1 ho1)
    | (go_at_call 75
       refine (cloneU _ _ _ b _ (own_below HA.out.u (HW.out.1.trans (HB1.out.mono (by omega)))) (ziz _) (by omega)).mono ?_;rintro e w2 ⟨v2,rfl,ho2,hb2⟩;obtain ⟨p2,k2,rfl,-,-,-⟩:=zh ho2;have HO2:=Lib.hid ho2;have HO12:=Lib.hid (own_below HO1.out hb2);have HB2:Hid (Below (w.heap.size+1) W w2):=Lib.hid (HB1.out.trans (hb2.mono (by have:=HS.out;have:=HB1.out.size;omega)));have HT2:Hid (w2.heap[w.heap.size+1]? = some (.cells #[.slice none 0 0,.slice none 0 0,.slice none 0 0] 30 (0,0))):=Lib.hid ((hb2.block _ (by have:=HS.out;have:=HB1.out.size;omega)).trans HT1.out);clear hb2 ho2)
    | (go_at_call 76
       refine (cloneF _ _ _ b _ (own_below HA.out.f (HW.out.1.trans (HB2.out.mono (by omega)))) (zcs _) (by omega)).mono ?_;rintro e w3 ⟨v3,rfl,ho3,hb3⟩;obtain ⟨p3,k3,rfl,-,-,-⟩:=zh ho3;have HO3:=Lib.hid ho3;have HO13:=Lib.hid (own_below HO12.out hb3);have HO23:=Lib.hid (own_below HO2.out hb3);have HB3:Hid (Below (w.heap.size+1) W w3):=Lib.hid (HB2.out.trans (hb3.mono (by have:=HS.out;have:=HB2.out.size;omega)));have HT3:Hid (w3.heap[w.heap.size+1]? = some (.cells #[.slice none 0 0,.slice none 0 0,.slice none 0 0] 30 (0,0))):=Lib.hid ((hb3.block _ (by have:=HS.out;have:=HB2.out.size;omega)).trans HT2.out);obtain ⟨d0,d1,d2,z0,z1,z2⟩:=block3 HT3.out;clear hb3 ho3))
 go_wp2;have hs:=HS.out;have h1:=HB1.out.size;have h2:=HB2.out.size;refine bodyPost_ret (v:=.agg #[.slice p1 s.gens.length k1,.slice p2 s.used.length k2,.slice p3 s.free.length k3]) (by simp [results,Tryz.results43,go_sem,d0,d1,d2]) rfl ⟨_,_,_,rfl,⟨?_,?_,?_⟩,?_⟩
 · have:=HO13.out;exact zo (ownsRow_setCell_below (ownsRow_setCell_below (ownsRow_setCell_below this (by simp;omega) _) (by simp;omega) _) (by simp;omega) _) (by simp;omega)
 · have:=HO23.out;exact zo (ownsRow_setCell_below (ownsRow_setCell_below (ownsRow_setCell_below this (by simp;omega) _) (by simp;omega) _) (by simp;omega) _) (by omega)
 · have:=HO3.out;exact zo (ownsRow_setCell_below (ownsRow_setCell_below (ownsRow_setCell_below this (by simp;omega) _) (by simp;omega) _) (by simp;omega) _) (by omega)
 · exact (((HW.out.1.trans (HB3.out.mono (by omega))).setCell (by simp) _).setCell (by simp) _).setCell (by simp) _
theorem zne:(Tryz.prog.info? 80).map (fun i=>(i.zero,i.size,i.bytes))=some (some (.agg #[.int .i64 0,.int .i64 0,.string ⟨#[]⟩,.string ⟨#[]⟩,.slice none 0 0,.int .u64 0,.int .i64 0]),7,88):=by kernel_rfl
theorem zuh:(Tryz.prog.info? 9).map (fun i=>(i.zero,i.size,i.bytes))=some (some (.string ⟨#[]⟩),1,16):=by kernel_rfl
theorem cloneR (v:Value) (n:Nat) (xs:List Value) (b:Nat) (w:World) (h:w.ownsRow b 80 7 v n xs) (h1:∀ u∈xs,u.oneCell'=true) (hl:n<=1000) :
 Calls Tryz.prog 41 #[v] w (GivesCl 80 7 n xs w):=by
 obtain ⟨i0',hi0,hz0,hz1,hz2⟩:=info_parts zne;have hI:=Lib.hid hi0;have hZ0:=Lib.hid hz0;have hZ1:=Lib.hid hz1;have hZ2:=Lib.hid hz2;clear hi0 hz0 hz1 hz2;have qE:∀ (w:World) (a:Option Addr) (n c n' c':Nat),(binOp .eql 31 (.slice a n c) (.slice none n' c')).run Tryz.prog w = .ok (.bool a.isNone) w:=fun w a n c n' c'=>Lib.run_eql_slice_nil w _ 80 a n c n' c' Tryz.underlying31
 rcases h.2 with ⟨rfl,rfl⟩|⟨g,cap,cur,rfl,hbg,hg,hnc,hcm,hcs,hct⟩
 · have hx:xs=[]:=List.eq_nil_of_length_eq_zero (h.1.trans (Nat.zero_mul _));subst hx;go_enter Tryz.func41,Tryz.ntmps41;go_wp2;go_ret;exact ⟨_,rfl,World.ownsRow_nil _ _ _ _,Below.refl _ _⟩
 · have HO:=Lib.hid h;have hgl:=(Array.getElem?_eq_some_iff.1 hg).1;clear h hg hct hcs;have HC:Hid (∀ j u,xs[j]? = some u->(w.alloc (.cells #[] 80)).cell? ((⟨g,0,none⟩:Addr).add j)=some u):=Lib.hid (fun j u hu=>by
    rw [World.cell?_alloc_lt _ _ _ (by rw [add_plain];exact hgl)];exact HO.out.cells rfl j u hu)
   have HN:Hid ((w.alloc (.cells #[] 80)).ownsRow w.heap.size 80 7 (.slice (some ⟨w.heap.size,0,none⟩) 0 0) 0 []):=Lib.hid ⟨by simp,.inr ⟨w.heap.size,0,#[],rfl,Nat.le_refl _,heap_alloc_new _ _,Nat.le_refl _,by simp [maxLen],by simp,by simp⟩⟩;go_enter Tryz.func41,Tryz.ntmps41
   go_wp2_with (at_builtin; refine wpList_append_own_at _ rfl _ _ 31 rfl w.heap.size 80 i0' (.agg #[.int .i64 0, .int .i64 0, .string ⟨#[]⟩, .string ⟨#[]⟩, .slice none 0 0, .int .u64 0, .int .i64 0]) 7 88 Tryz.underlying31 hI.out hZ0.out hZ1.out hZ2.out rfl (by decide) _ _ _ rfl HN.out ⟨g, 0, none⟩ n cap xs rfl HO.out.1 HC.out h1 (by unfold maxLen; omega) (by omega) (by simp) ?_; intro v' w5 hown' hgrow _ hat; obtain ⟨q', cap', rfl, -, -⟩ := za0 hown'
                have HO':=Lib.hid hown';have HGR:=Lib.hid hgrow;clear hown' hgrow hat)
   go_ret;refine ⟨_,rfl,?_,?_⟩
   · have:=HO'.out;rw [List.nil_append] at this;simpa using this
   · exact ((Below.refl _ w).alloc (Nat.le_refl _) _).grown HGR.out (by simp) (fun q e=>(HN.out.lt q e).1)
theorem cloneS (v:Value) (n:Nat) (xs:List Value) (b:Nat) (w:World) (h:w.ownsRow b 9 1 v n xs) (h1:∀ u∈xs,u.oneCell'=true) (hl:n<=1000) :
 Calls Tryz.prog 42 #[v] w (GivesCl 9 1 n xs w):=by
 obtain ⟨i0',hi0,hz0,hz1,hz2⟩:=info_parts zuh;have hI:=Lib.hid hi0;have hZ0:=Lib.hid hz0;have hZ1:=Lib.hid hz1;have hZ2:=Lib.hid hz2;clear hi0 hz0 hz1 hz2;have qE:∀ (w:World) (a:Option Addr) (n c n' c':Nat),(binOp .eql 78 (.slice a n c) (.slice none n' c')).run Tryz.prog w = .ok (.bool a.isNone) w:=fun w a n c n' c'=>Lib.run_eql_slice_nil w _ 9 a n c n' c' Tryz.underlying78
 rcases h.2 with ⟨rfl,rfl⟩|⟨g,cap,cur,rfl,hbg,hg,hnc,hcm,hcs,hct⟩
 · have hx:xs=[]:=List.eq_nil_of_length_eq_zero (h.1.trans (Nat.zero_mul _));subst hx;go_enter Tryz.func42,Tryz.ntmps42;go_wp2;go_ret;exact ⟨_,rfl,World.ownsRow_nil _ _ _ _,Below.refl _ _⟩
 · have HO:=Lib.hid h;have hgl:=(Array.getElem?_eq_some_iff.1 hg).1;clear h hg hct hcs;have HC:Hid (∀ j u,xs[j]? = some u->(w.alloc (.cells #[] 9)).cell? ((⟨g,0,none⟩:Addr).add j)=some u):=Lib.hid (fun j u hu=>by
    rw [World.cell?_alloc_lt _ _ _ (by rw [add_plain];exact hgl)];exact HO.out.cells rfl j u hu)
   have HN:Hid ((w.alloc (.cells #[] 9)).ownsRow w.heap.size 9 1 (.slice (some ⟨w.heap.size,0,none⟩) 0 0) 0 []):=Lib.hid ⟨by simp,.inr ⟨w.heap.size,0,#[],rfl,Nat.le_refl _,heap_alloc_new _ _,Nat.le_refl _,by simp [maxLen],by simp,by simp⟩⟩;go_enter Tryz.func42,Tryz.ntmps42
   go_wp2_with (at_builtin; refine wpList_append_own_at _ rfl _ _ 78 rfl w.heap.size 9 i0' (.string ⟨#[]⟩) 1 16 Tryz.underlying78 hI.out hZ0.out hZ1.out hZ2.out rfl (by decide) _ _ _ rfl HN.out ⟨g, 0, none⟩ n cap xs rfl HO.out.1 HC.out h1 (by unfold maxLen; omega) (by omega) (by simp) ?_; intro v' w5 hown' hgrow _ hat; obtain ⟨q', cap', rfl, -, -⟩ := za0 hown'
                have HO':=Lib.hid hown';have HGR:=Lib.hid hgrow;clear hown' hgrow hat)
   go_ret;refine ⟨_,rfl,?_,?_⟩
   · have:=HO'.out;rw [List.nil_append] at this;simpa using this
   · exact ((Below.refl _ w).alloc (Nat.le_refl _) _).grown HGR.out (by simp) (fun q e=>(HN.out.lt q e).1)
end Go.Proofs.YtdmecdjfbpblgaaGreatDoor.V
namespace Go.Proofs.YtdmecdjfbpblgaaGreatDoor
open Go.ChangeShapes Go.WideShapes Go.ChangeAt Go.RowKit
set_option linter.unusedVariables false
set_option linter.unusedSimpArgs false
theorem zsn:(Tryz.prog.info? 9).map (fun i=>(i.zero,i.size,i.bytes))=some (some (.string ⟨#[]⟩),1,16):=by kernel_rfl
abbrev zrecT:Array Value:=#[.int .i64 0,.int .i64 0,.string ⟨#[]⟩,.string ⟨#[]⟩,.slice none 0 0,.int .u64 0,.int .i64 0]
theorem block7 {w:World} {k:Nat} {t:TypeId} {a0 a1 a2 a3 a4 a5 a6:Value} (h:w.heap[k]? = some (.cells #[a0,a1,a2,a3,a4,a5,a6] t (0,0))) :
 w.cell? ⟨k,0,none⟩=some a0/\w.cell? ⟨k,1,none⟩=some a1/\w.cell? ⟨k,2,none⟩=some a2/\w.cell? ⟨k,3,none⟩=some a3/\w.cell? ⟨k,4,none⟩=some a4/\w.cell? ⟨k,5,none⟩=some a5/\w.cell? ⟨k,6,none⟩=some a6:=by
 simp [World.cell?,h]
theorem hnew (w:World) (o:Obj):(w.alloc o).heap[w.heap.size]? = some o:=heap_alloc_new w o
theorem hold (w:World) (o:Obj) {k:Nat} (h:k<w.heap.size):(w.alloc o).heap[k]? = w.heap[k]?:=((Below.refl w.heap.size w).alloc (Nat.le_refl _) o).block k h
theorem za {w:World} {k:Nat} {cs:Array Value} {t:TypeId} (h:w.heap[k]? = some (.cells cs t (0,0))) (j:Nat):w.frozen? ⟨k,j,none⟩=false:=by
 simp [World.frozen?,h]
theorem zb {w:World} {k:Nat} {cs:Array Value} {t:TypeId} (h:w.heap[k]? = some (.cells cs t (0,0))) (j:Nat) (x:Value):(w.setCell ⟨k,j,none⟩ x).heap[k]? = some (.cells (cs.setIfInBounds j x) t (0,0)):=by
 simp [World.setCell,Array.getElem?_modify,h]
theorem zoo {b k:Nat} {w X:World} (h:Below b w X) (hk:b<=k) (v0 v1 v2 v3 v4 v5 v6:Value):Below b w (((((((X.setCell ⟨k,0,none⟩ v0).setCell ⟨k,1,none⟩ v1).setCell ⟨k,2,none⟩ v2).setCell ⟨k,3,none⟩ v3).setCell ⟨k,4,none⟩ v4).setCell ⟨k,5,none⟩ v5).setCell ⟨k,6,none⟩ v6) :=
 ((((((h.setCell (p:=⟨k,0,none⟩) hk _).setCell (p:=⟨k,1,none⟩) hk _).setCell (p:=⟨k,2,none⟩) hk _).setCell (p:=⟨k,3,none⟩) hk _).setCell (p:=⟨k,4,none⟩) hk _).setCell (p:=⟨k,5,none⟩) hk _).setCell (p:=⟨k,6,none⟩) hk _
structure RO (w X:World) (j k:Nat) (cs:Array Value):Prop where
 rs:X.heap[j]? = some (.cells zrecT 80 (0,0))
 r:X.heap[k]? = some (.cells cs 80 (0,0))
 lo:w.heap.size<=j
 lt:j<k
 be:Below w.heap.size w X
theorem RO.sz {w X:World} {j k:Nat} {cs:Array Value} (h:RO w X j k cs):k<X.heap.size:=lt_of_block h.r
theorem RO.step {w X Y:World} {j k B:Nat} {cs:Array Value} (h:RO w X j k cs) (hb:Below B X Y) (hB:k<B):RO w Y j k cs:=by
 have:=h.lt;have:=h.lo;exact ⟨(hb.block _ (by omega)).trans h.rs,(hb.block _ hB).trans h.r,h.lo,h.lt,h.be.trans (hb.mono (by omega))⟩
theorem RO.set {w X:World} {j k:Nat} {cs cs':Array Value} (h:RO w X j k cs) (d:Nat) (v:Value) (hc:cs.setIfInBounds d v=cs'):RO w (X.setCell ⟨k,d,none⟩ v) j k cs':=by
 have:=h.lt;have:=h.lo;have hb:Below k X (X.setCell ⟨k,d,none⟩ v):=(Below.refl _ X).setCell (p:=⟨k,d,none⟩) (Nat.le_refl _) v;refine ⟨(hb.block _ h.lt).trans h.rs,?_,h.lo,h.lt,h.be.trans (hb.mono (by omega))⟩;rw [zb h.r,hc]
theorem zop {l:List At2} {k:Nat} (h:k<l.length):flatA (l.take (k+1))=flatA (l.take k)++[(l.getD k default).1,(l.getD k default).2]:=by
 rw [zaa h,flatA,flatA,List.flatMap_append,getD_at default h];simp
def GivesRk (r:Rk) (w:World) (en:Ending) (w':World):Prop :=
 ∃ A c,en = .returned (.agg (rmc ⟨r,A,c⟩).toArray)/\w'.ownsRow w.heap.size 9 1 (.slice A r.attrs.length c) r.attrs.length (bsv r.attrs)/\Below w.heap.size w w'
theorem zqs (m:Mn) (v:V.Vc) (w:World) (hA:AR w m.aA m.attrs) (hl:m.attrs.length<=1000) :
 Calls Tryz.prog 72 #[nval m,.agg #[.int .u64 v.root,.int .i64 v.size]] w (GivesRk (recP m v) w):=by
 obtain ⟨i0,hi,hz0,hz1,hz2⟩:=info_parts zsn;have HI:=Hq (And.intro hi (And.intro hz0 (And.intro hz1 hz2)));have HA:=Hq hA;obtain ⟨rt,sz⟩:=v;obtain ⟨n,hn⟩:∃ n,m.attrs.length=n:=⟨_,rfl⟩;have HNn:=Hq hn;rw [hn] at hl;obtain ⟨W,hW⟩:∃ W,W=((w.alloc (.cells #[.int .i64 m.kind,.string m.name,.string m.text,.slice m.aA n m.aC,.int .i64 m.parent,.slice m.kA m.kids.length m.kC] 90)).alloc (.cells #[.int .u64 rt,.int .i64 sz] 39)).alloc (.cells zrecT 80):=⟨_,rfl⟩;have HW:Hid (Below w.heap.size w W/\W.heap.size=w.heap.size+3/\W.heap[w.heap.size]? = some (.cells #[.int .i64 m.kind,.string m.name,.string m.text,.slice m.aA n m.aC,.int .i64 m.parent,.slice m.kA m.kids.length m.kC] 90 (0,0))/\W.heap[w.heap.size+1]? = some (.cells #[.int .u64 rt,.int .i64 sz] 39 (0,0))/\W.heap[w.heap.size+2]? = some (.cells zrecT 80 (0,0))):=Hq (by
  have s1:(w.alloc (.cells #[.int .i64 m.kind,.string m.name,.string m.text,.slice m.aA n m.aC,.int .i64 m.parent,.slice m.kA m.kids.length m.kC] 90)).heap.size=w.heap.size+1:=by simp
  have s2:((w.alloc (.cells #[.int .i64 m.kind,.string m.name,.string m.text,.slice m.aA n m.aC,.int .i64 m.parent,.slice m.kA m.kids.length m.kC] 90)).alloc (.cells #[.int .u64 rt,.int .i64 sz] 39)).heap.size=w.heap.size+2:=by simp
  subst hW;refine ⟨(((Below.refl _ w).alloc (Nat.le_refl _) _).alloc (by simp) _).alloc (by simp;omega) _,by simp,?_,?_,?_⟩
  · rw [hold _ _ (by simp;omega),hold _ _ (by simp)];exact hnew w _
  · rw [hold _ _ (by simp)];exact s1 ▸ hnew _ _
  · exact s2 ▸ hnew _ _)
 unfold nval;rw [hn];clear hn;clear hA;go_enter Tryz.func72,Tryz.ntmps72;go_upto_region 1 with fail
 rw [<- hW];clear hW;obtain ⟨x0,x1,x2,x3,x4,x5⟩:=block6 HW.out.2.2.1;obtain ⟨y0,y1⟩:=block2 HW.out.2.2.2.1;go_upto_region 2 with fail
 obtain ⟨X,hX⟩:∃ X,X=W.alloc (.cells #[.int .i64 m.kind,.int .i64 m.parent,.string m.name,.string m.text,.slice none 0 0,.int .u64 rt,.int .i64 sz] 80):=⟨_,rfl⟩;rw [<- hX];have hsW:=HW.out.2.1;have HR0:Hid (RO w X (w.heap.size+2) W.heap.size #[.int .i64 m.kind,.int .i64 m.parent,.string m.name,.string m.text,.slice none 0 0,.int .u64 rt,.int .i64 sz]):=Hq (by
  refine ⟨?_,by rw [hX];exact hnew _ _,by omega,by omega,by rw [hX];exact HW.out.1.alloc (by omega) _⟩;rw [hX,hold _ _ (by omega)];exact HW.out.2.2.2.2)
 have x3':X.cell? ⟨w.heap.size,3,none⟩=some (.slice m.aA n m.aC):=by
  rw [hX];obtain ⟨-,-,-,c3,-,-⟩:=block6 ((hold W (.cells #[.int .i64 m.kind,.int .i64 m.parent,.string m.name,.string m.text,.slice none 0 0,.int .u64 rt,.int .i64 sz] 80) (show w.heap.size<W.heap.size by omega)).trans HW.out.2.2.1);exact c3
 clear hX x0 x1 x2 x3 x4 x5 y0 y1;generalize hk3:W.heap.size=k3 at *;have HKs:Hid (k3=w.heap.size+3):=Hq (by omega);clear hk3 HW hsW;go_wp2_with fail;clear x3'
 go_loopw [7,21] (fun a i Y=>∃ (k:Nat) (pa:Option Addr) (ca:Nat),k<=n/\i = .int .i64 k/\Hid (RO w Y (w.heap.size+2) k3 #[.int .i64 m.kind,.int .i64 m.parent,.string m.name,.string m.text,.slice pa (2*k) ca,.int .u64 rt,.int .i64 sz])/\Hid (Y.ownsRow (k3+1) 9 1 (.slice pa (2*k) ca) (2*k) (bsv (flatA (m.attrs.take k))))) (fun _ i _=>n - (intOf i).toNat)
 case atStart => exact ⟨0,none,0,Nat.zero_le _,rfl,HR0,Hq ⟨rfl,.inl ⟨rfl,rfl⟩⟩⟩
 case round =>
  obtain ⟨k,pa,ca,hk,rfl,HR,HO⟩:=hrel;have hks:=HR.out.sz
  by_cases hlt:k<n
  · have k0:(0:Int)<=(k:Int):=by omega
    have k1:(k:Int)<(n:Int):=by omega
    have hkl:k<m.attrs.length:=by rw [HNn.out];exact hlt
    obtain ⟨ga,oa,hAa,hga,d0,d1⟩:=(HA.out.below HR.out.be) k hkl;have HT:Hid (bsv (flatA (m.attrs.take (k+1)))=bsv (flatA (m.attrs.take k))++[.string (m.attrs.getD k default).1,.string (m.attrs.getD k default).2]):=Hq (by rw [zop hkl,bsv,List.map_append];rfl);generalize m.attrs.getD k default=y at *;obtain ⟨ya,yb⟩:=y;have hslot:Value.slice m.aA n m.aC=Value.slice (some ⟨ga,oa,none⟩) n m.aC:=by rw [hAa]
    rw [hslot];clear hslot;simp only [] at d0 d1;go_upto_region 5 with fail
    obtain ⟨Y,hY⟩:∃ Y,Y=wr.alloc (.cells #[.string ya,.string yb] 140):=⟨_,rfl⟩;rw [<- hY];have HRy:Hid (RO w Y (w.heap.size+2) k3 #[.int .i64 m.kind,.int .i64 m.parent,.string m.name,.string m.text,.slice pa (2*k) ca,.int .u64 rt,.int .i64 sz]):=Hq (HR.out.step (B:=k3+1) (by rw [hY];exact (Below.refl _ _).alloc (by omega) _) (Nat.lt_succ_self _));have HOy:Hid (Y.ownsRow (k3+1) 9 1 (.slice pa (2*k) ca) (2*k) (bsv (flatA (m.attrs.take k)))):=Hq (by rw [hY];exact HO.out.alloc _);have HAt:Hid (Y.heap[wr.heap.size]? = some (.cells #[.string ya,.string yb] 140 (0,0))):=Hq (by rw [hY];exact hnew _ _);have hys:Y.heap.size=wr.heap.size+1:=by rw [hY];simp
    clear hY d0 d1 hAa;obtain ⟨a0,a1⟩:=block2 HAt.out;have x4:=(block7 HRy.out.r).2.2.2.2.1;have hYk:k3+1<=Y.heap.size:=by omega
    have H2:=Hq hys;clear hys
    go_wp2_with (at_builtin;refine wpList_append_own_at _ rfl _ _ 78 rfl (k3+1) 9 i0 (.string ⟨#[]⟩) 1 16 Tryz.underlying78 HI.out.1 HI.out.2.1 HI.out.2.2.1 HI.out.2.2.2 rfl (by decide) _ _ _ rfl (HOy.out.alloc _) ⟨_,0,none⟩ 2 2 [.string ya,.string yb] rfl rfl (ziq Y (ya,yb) _) (by simp [Value.oneCell']) (by unfold maxLen;omega) (by omega) (by simp;omega) ?_;intro v' Z hown' hgrow _ hat;obtain ⟨q',c',rfl,-,-⟩:=zj hown';have HO':=Hq hown';have HBz:Hid (Below (k3+1) Y Z):=Hq (((Below.refl (k3+1) Y).alloc (by omega) _).grown hgrow (by simp;omega) (fun r e=>(HOy.out.lt r e).1));have HRz:=Hq (HRy.out.step HBz.out (Nat.lt_succ_self _));have z4:=za HRz.out.r 4;have q4:=(block7 HRz.out.r).2.2.2.2.1;clear hown' hgrow hat)
    go_roundw
    case rel =>
     refine ⟨k+1,q',c',by omega,by go_num,Hq (HRz.out.set 4 _ (by rfl)),Hq ?_⟩;rw [HT.out];exact ownsRow_setCell_other HO'.out (a:=⟨k3,4,none⟩) (fun e=>by have h:k3+1<=k3:=(HO'.out.lt _ e).1;omega) _
    case measure => simp [intOf]<;>omega
  · obtain rfl:k=n:=by omega
    have e:m.attrs.take k=m.attrs:=List.take_of_length_le (by rw [HNn.out];exact Nat.le_refl _);rw [e] at HO;clear e;obtain ⟨x0,x1,x2,x3,x4,x5,x6⟩:=block7 HR.out.r;obtain ⟨u0,u1,u2,u3,u4,u5,u6⟩:=block7 HR.out.rs;have z0:=za HR.out.rs 0;have z1:=za HR.out.rs 1;have z2:=za HR.out.rs 2;have z3:=za HR.out.rs 3;have z4:=za HR.out.rs 4;have z5:=za HR.out.rs 5;have z6:=za HR.out.rs 6;go_wp2_with fail;refine bodyPost_ret (v:=.agg #[.int .i64 m.kind,.int .i64 m.parent,.string m.name,.string m.text,.slice pa (2*k) ca,.int .u64 rt,.int .i64 sz]) (by simp [results,Tryz.results72,go_sem,u0,u1,u2,u3,u4,u5,u6]) rfl ?_;have hfl:(recP m ⟨rt,sz⟩).attrs.length=2*k:=by show (flatA m.attrs).length=2*k;rw [zbt,HNn.out]
    have hne:∀ d:Nat,(Value.slice pa (2*k) ca).ownBlock≠some (⟨w.heap.size+2,d,none⟩:Addr).block:=fun d e=>by
     have h:k3+1<=w.heap.size+2:=(HO.out.lt _ e).1;have:=HKs.out;omega
    refine ⟨pa,ca,?_,?_,zoo HR.out.be (by omega) _ _ _ _ _ _ _⟩
    · show _=Ending.returned (.agg (rmc ⟨recP m ⟨rt,sz⟩,pa,ca⟩).toArray);unfold rmc;simp only [];rw [hfl];rfl
    · rw [hfl];exact zq (ownsRow_setCell_other (ownsRow_setCell_other (ownsRow_setCell_other (ownsRow_setCell_other (ownsRow_setCell_other (ownsRow_setCell_other (ownsRow_setCell_other HO.out (hne 0) _) (hne 1) _) (hne 2) _) (hne 3) _) (hne 4) _) (hne 5) _) (hne 6) _) (by have:=HKs.out;omega)
theorem zle:∀ {L:List Rm} {i:Nat} (h:i<L.length) {p:Option Addr} {n c:Nat},L[i].k.attrs.length=n->(rmcs L).set (i*7+4) (.slice p n c)=rmcs (L.set i ⟨L[i].k,p,c⟩)
 | x::L,0,_,p,n,c,hn=>by
   subst hn;have e:rmcs (x::L)=rmc x++rmcs L:=by simp [rmcs]
   have e2:rmcs ((x::L).set 0 ⟨x.k,p,c⟩)=rmc ⟨x.k,p,c⟩++rmcs L:=by simp [rmcs]
   show (rmcs (x::L)).set (0*7+4) _=rmcs ((x::L).set 0 ⟨x.k,p,c⟩);rw [e,e2,List.set_append_left _ _ (by simp [rmc])];rfl
 | x::L,i+1,h,p,n,c,hn=>by
   have e:rmcs (x::L)=rmc x++rmcs L:=by simp [rmcs]
   have hl:(rmc x).length=7:=rfl;have e2:rmcs ((x::L).set (i+1) ⟨(x::L)[i+1].k,p,c⟩)=rmc x++rmcs (L.set i ⟨L[i]'(by simpa using h) |>.k,p,c⟩):=by simp [rmcs]
   rw [e2,e,List.set_append_right _ _ (by rw [hl];omega),hl,show (i+1)*7+4 - 7=i*7+4 by omega];congr 1;exact zle (L:=L) (by simpa using h) (by simpa using hn)
theorem block8 {w:World} {k:Nat} {t:TypeId} {a0 a1 a2 a3 a4 a5 a6 a7:Value} (h:w.heap[k]? = some (.cells #[a0,a1,a2,a3,a4,a5,a6,a7] t (0,0))) :
 w.cell? ⟨k,0,none⟩=some a0/\w.cell? ⟨k,1,none⟩=some a1/\w.cell? ⟨k,2,none⟩=some a2/\w.cell? ⟨k,3,none⟩=some a3/\w.cell? ⟨k,4,none⟩=some a4/\w.cell? ⟨k,5,none⟩=some a5/\w.cell? ⟨k,6,none⟩=some a6/\w.cell? ⟨k,7,none⟩=some a7:=by
 simp [World.cell?,h]
abbrev zT8:Array Value:=#[.slice none 0 0,.slice none 0 0,.slice none 0 0,.slice none 0 0,.slice none 0 0,.slice none 0 0,.slice none 0 0,.slice none 0 0]
structure CW (w X:World) (b g n c k:Nat) (L:List Rm) (t:Tm) (L':List Rm):Prop where
 row:X.ownsRow b 80 7 (.slice (some ⟨g,0,none⟩) n c) n (rmcs L')
 len:L'.length=n
 like:L'.map Rm.k=t.recs
 att:∀ j x,L'[j]? = some x->j<k->X.ownsRow b 9 1 (.slice x.aA x.k.attrs.length x.aC) x.k.attrs.length (bsv x.k.attrs)
theorem CW.below {w X Y:World} {b g n c k:Nat} {L:List Rm} {t:Tm} {L':List Rm} (h:CW w X b g n c k L t L') (hb:Below X.heap.size X Y):CW w Y b g n c k L t L' :=
 ⟨own_below h.row hb,h.len,h.like,fun j x hx hj=>own_below (h.att j x hx hj) hb⟩
theorem CW.step {w X:World} {b g n c k:Nat} {L:List Rm} {t:Tm} {L':List Rm} (h:CW w X b g n c k L t L') (hk:k<L'.length) {p:Option Addr} {cp m:Nat} (hm:L'[k].k.attrs.length=m) (hr:X.ownsRow b 9 1 (.slice p m cp) m (bsv L'[k].k.attrs)) :
 CW w (X.setCell ⟨g,k*7+4,none⟩ (.slice p m cp)) b g n c (k+1) L t (L'.set k ⟨L'[k].k,p,cp⟩):=by
 have ne:∀ {s:Nat} {v:Value} {i:Nat} {ys:List Value},X.ownsRow b 9 s v i ys->v.ownBlock≠some g:=fun {s v i ys} h'=>by
  rcases zp h' h.row (by decide) with h''|h''
  · rw [h''];simp
  · simpa [Value.ownBlock] using h''
 have hst:=h.row.stored (k*7+4) (.slice p m cp);rw [zle hk hm] at hst;refine ⟨hst.1,by rw [List.length_set];exact h.len,?_,fun j x hx hj=>?_⟩
 · rw [<- h.like];apply List.ext_getElem?;intro i;rw [List.getElem?_map,List.getElem?_map,List.getElem?_set]
   split
   · rename_i hi
     subst hi;simp [hk]
   · rfl
 · rw [List.getElem?_set] at hx
   split at hx
   · rename_i hi
     subst hi;cases hx;show (X.setCell _ _).ownsRow b _ 1 (.slice p L'[k].k.attrs.length cp) L'[k].k.attrs.length _;rw [hm];exact ownsRow_setCell_other hr (a:=⟨g,k*7+4,none⟩) (ne hr) _
   · have:=h.att j x hx (by omega);exact ownsRow_setCell_other this (a:=⟨g,k*7+4,none⟩) (ne this) _
end Go.Proofs.YtdmecdjfbpblgaaGreatDoor
