/-
  A region that draws its order, whose last operation waits for all others: the others in whatever order, then the last one. No program here.
-/
import Derived.Test.YtdmecdjfbpblgaaGreatDoorQG13
import Derived.StillTail
namespace Go.Proofs.YtdmecdjfbpblgaaGreatDoor
set_option maxRecDepth 100000
set_option maxHeartbeats 32000000
open Go
set_option linter.unusedVariables false
def peelB (ops:Array Oper) (n:Nat):Bool :=
 (List.range (n+1)).all (fun i=>match ops[i]? with|some o=>o.guard.isNone && o.after.all (fun e=>decide (e.on<i))|none=>false) &&
 (List.range n).all (fun i=>(List.range (n+1)).any fun j=>decide (i<j) && Region.waitsFor .any ops j i)
def peelQ (P:Program) (ops:Array Oper) (Q:Exit->Act->World->Prop) (oL:Oper):Exit->Act->World->Prop
 | .normal,a,w=>wpList P ops Q [oL] a w
 | e,a,w=>Q e a w
section
variable {P:Program} {Q:Exit->Act->World->Prop} {l:List Oper} {oL:Oper}
theorem zpx (ops:Array Oper) (o:Oper) (a:Act) (K:Act->World->Prop) (r:Result Next):o.upon P a K (peelQ P ops Q oL) r=o.upon P a K Q r:=by
 cases r with
 | ok n w'=>cases n<;>rfl
 | halt x w'=>cases x<;>rfl
theorem zem {i:Nat} (h:i<l.length):(l++[oL]).toArray[i]? = l.toArray[i]?:=by
 simp [List.getElem?_append_left h]
theorem zf9:(l++[oL]).toArray[l.length]? = some oL:=by simp
theorem zct {x:Array Bool} {n i:Nat} (hx:x.size=n) (d:Bool) (h:i<n):(x.push false).getD i d=x.getD i d:=by
 subst hx;simp [Array.getElem_push_lt,h,Nat.lt_succ_of_lt h]
theorem zpy {x:Array Bool} {n:Nat} (hx:x.size=n) (d:Bool):(x.push false).getD n d=false:=by
 subst hx;simp
theorem zrx (hB:peelB (l++[oL]).toArray l.length=true):∀ (fuel:Nat) (x:Array Bool) (a:Act) (w:World),x.size=l.length ->
 (∀ j oj,l.toArray[j]? = some oj->x.getD j false=true->∀ e∈oj.after,Region.binds .any e=true->x.getD e.on false=true) ->
 wpAny P .any l.toArray (peelQ P (l++[oL]).toArray Q oL) fuel x a w->wpAny P .any (l++[oL]).toArray Q (fuel+1) (x.push false) a w:=by
 have hB':=hB;simp only [peelB,Bool.and_eq_true] at hB';obtain ⟨h1,h2⟩:=hB';have low:∀ (i:Nat) (o:Oper),(l++[oL]).toArray[i]? = some o->o.guard=none/\∀ e∈o.after,e.on<i:=fun i o ho=>by
  have hi:i<l.length+1:=by
   have:=(Array.getElem?_eq_some_iff.1 ho).1;simpa using this
  have:=List.all_eq_true.1 h1 i (List.mem_range.2 hi);rw [ho] at this;simp only [Bool.and_eq_true,Option.isNone_iff_eq_none] at this;refine ⟨this.1,fun e he=>?_⟩;have h3:=this.2;rw [Array.all_eq_true'] at h3;simpa using h3 e he
 have up:∀ (i:Nat),i<l.length->∃ j,i<j/\j<=l.length/\Region.waitsFor .any (l++[oL]).toArray j i=true:=fun i hi=>by
  have:=List.all_eq_true.1 h2 i (List.mem_range.2 hi);obtain ⟨j,hj,h⟩:=List.any_eq_true.1 this;rw [Bool.and_eq_true,decide_eq_true_eq] at h;exact ⟨j,h.1,by have:=List.mem_range.1 hj;omega,h.2⟩
 have rdy:∀ (x:Array Bool),x.size=l.length->∀ i,i<l.length->(i∈Region.ready .any (l++[oL]).toArray (x.push false) ↔ i∈Region.ready .any l.toArray x):=fun x hx i hi=>by
  rw [mem_ready,mem_ready,zem hi,zct hx _ hi];refine and_congr Iff.rfl (exists_congr fun o=>and_congr_right fun ho=>?_);have ho':(l++[oL]).toArray[i]? = some o:=by rw [zem hi];exact ho
  refine forall_congr' fun e=>forall_congr' fun he=>forall_congr' fun hb=>?_
  rw [zct hx _ (Nat.lt_trans ((low i o ho').2 e he) hi)]
 have all0:∀ (x:Array Bool),x.size=l.length->Region.ready .any l.toArray x=[]->∀ i,i<l.length->x.getD i false=true:=fun x hx h0 i=>by
  induction i using Nat.strongRecOn with
  | _ i ih =>
    intro hi;cases hg:x.getD i false with
    | true=>rfl
    | false =>
      exfalso
      have hm:i∈Region.ready .any l.toArray x:=by
       rw [mem_ready];refine ⟨by simp only [Array.getD_eq_getD_getElem?] at hg ⊢;rw [Array.getElem?_eq_getElem (by omega)] at hg ⊢;exact hg,l[i],by simp [hi],fun e he _=>?_⟩;have:=(low i l[i] (by rw [zem hi];simp [hi])).2 e he;exact ih e.on this (by omega)
      rw [h0] at hm;cases hm
 have hLast:∀ (x:Array Bool),x.size=l.length->(∀ i,i<l.length->x.getD i false=true)->l.length∈Region.ready .any (l++[oL]).toArray (x.push false):=fun x hx h=>by
  rw [mem_ready];refine ⟨zpy hx _,oL,zf9,fun e he _=>?_⟩;have:=(low _ oL zf9).2 e he;rw [zct hx _ this];exact h _ this
 have gate:∀ (x:Array Bool),x.size=l.length->(∀ j oj,l.toArray[j]? = some oj->x.getD j false=true->∀ e∈oj.after,Region.binds .any e=true->x.getD e.on false=true)->l.length∈Region.ready .any (l++[oL]).toArray (x.push false)->∀ d i,l.length - i=d->i<l.length->x.getD i false=true:=fun x hx hc hr d=>by
  induction d using Nat.strongRecOn with
  | _ d ih =>
    intro i hd hi;obtain ⟨j,hij,hj,hw⟩:=up i hi;obtain ⟨o,ho,e,he,hb,hon⟩:=Region.waitsFor_spec hw
    rcases Nat.lt_or_ge j l.length with hjl|hjl
    · have:=ih (l.length - j) (by omega) j rfl hjl;have h3:=hc j o (by rw [<- zem hjl];exact ho) this e he hb;rw [hon] at h3;exact h3
    · obtain rfl:j=l.length:=by omega
      rw [mem_ready] at hr;obtain ⟨-,o',ho',hall⟩:=hr;rw [ho] at ho';cases ho';have h3:=hall e he hb;rw [hon,zct hx _ hi] at h3;exact h3
 have fin:∀ (fuel:Nat) (x:Array Bool) (a:Act) (w:World),x.size=l.length->(∀ i,i<l.length->x.getD i false=true)->wpList P (l++[oL]).toArray Q [oL] a w->wpAny P .any (l++[oL]).toArray Q (fuel+1) (x.push false) a w:=fun fuel x a w hx h hq=>by
  have hr:=hLast x hx h;refine ⟨fun h0=>(by rw [h0] at hr;cases hr),fun i hi=>?_⟩;have hil:i=l.length:=by
   have h3:=mem_ready.1 hi;obtain ⟨h4,o,ho,-⟩:=h3;have hlt:i<l.length+1:=by simpa using (Array.getElem?_eq_some_iff.1 ho).1
   rcases Nat.lt_or_ge i l.length with h5|h5
   · rw [zct hx _ h5] at h4;have:=h i h5;simp only [Array.getD_eq_getD_getElem?] at h4 this;rw [Array.getElem?_eq_getElem (by omega)] at h4 this;rw [Option.getD_some] at h4 this;rw [h4] at this;cases this
   · omega
  subst hil;have h0:Region.ready .any (l++[oL]).toArray ((x.push false).setIfInBounds l.length true)=[]:=by
   rw [List.eq_nil_iff_forall_not_mem];intro k hk;obtain ⟨h4,o,ho,-⟩:=mem_ready.1 hk;have hlt:k<l.length+1:=by simpa using (Array.getElem?_eq_some_iff.1 ho).1
   by_cases hkl:k=l.length
   · subst hkl;simp [hx] at h4
   · rw [getD_set_ne true (fun e=>hkl e.symm),zct hx _ (by omega)] at h4;have:=h k (by omega);simp only [Array.getD_eq_getD_getElem?] at h4 this;rw [Array.getElem?_eq_getElem (by omega)] at h4 this;rw [Option.getD_some] at h4 this;rw [h4] at this;cases this
  have hend:∀ (f:Nat) a' w',Q .normal a' w'->wpAny P .any (l++[oL]).toArray Q f ((x.push false).setIfInBounds l.length true) a' w':=fun f a' w' hq'=>by
   cases f with
   | zero=>exact ⟨h0,hq'⟩
   | succ f=>exact ⟨fun _=>hq',fun j hj=>by rw [h0] at hj;cases hj⟩
  have:wpOp P (l++[oL]).toArray Q l.length (fun a' w'=>Q .normal a' w') a w:=by
   unfold wpOp;rw [zf9];exact hq
  exact wpOp_mono (fun a' w' h'=>hend _ a' w' h') this
 intro fuel
 induction fuel with
 | zero =>
   intro x a w hx hc H;exact fin 0 x a w hx (all0 x hx H.1) H.2
 | succ fuel ih =>
   intro x a w hx hc H
   by_cases h0:Region.ready .any l.toArray x=[]
   · exact fin _ x a w hx (all0 x hx h0) (H.1 h0)
   · obtain ⟨k,hk⟩:=List.exists_mem_of_ne_nil _ h0;have hkl:k<l.length:=by
      obtain ⟨-,o,ho,-⟩:=mem_ready.1 hk;simpa using (Array.getElem?_eq_some_iff.1 ho).1
     refine ⟨fun h3=>(by have:=(rdy x hx k hkl).2 hk;rw [h3] at this;cases this),fun i hi=>?_⟩;have hil:i<l.length:=by
      have hlt:i<l.length+1:=by
       obtain ⟨-,o,ho,-⟩:=mem_ready.1 hi;simpa using (Array.getElem?_eq_some_iff.1 ho).1
      rcases Nat.lt_or_ge i l.length with h5|h5
      · exact h5
      · exfalso
        obtain rfl:i=l.length:=by omega
        have:=gate x hx hc hi _ k rfl hkl;have h4:=(mem_ready.1 hk).1;simp only [Array.getD_eq_getD_getElem?] at h4 this;rw [Array.getElem?_eq_getElem (by omega)] at h4 this;rw [Option.getD_some] at h4 this;rw [h4] at this;cases this
     have hi1:=(rdy x hx i hil).1 hi;have h3:=H.2 i hi1;obtain ⟨hun,o,ho,hall⟩:=mem_ready.1 hi1;have ho2:(l++[oL]).toArray[i]? = some o:=by rw [zem hil];exact ho
     have hg:=(low i o ho2).1;have hw:∀ y,Region.wanted o y=true:=fun y=>by simp [Region.wanted,hg]
     have hc2:∀ j oj,l.toArray[j]? = some oj->(x.setIfInBounds i true).getD j false=true->∀ e∈oj.after,Region.binds .any e=true->(x.setIfInBounds i true).getD e.on false=true:=fun j oj hj hgj e he hb=>by
      by_cases hji:j=i
      · subst hji;rw [ho] at hj;cases hj;exact getD_set_true (hall e he hb)
      · rw [getD_set_ne false (fun e=>hji e.symm)] at hgj;exact getD_set_true (hc j oj hj hgj e he hb)
     have hps:(x.push false).setIfInBounds i true=(x.setIfInBounds i true).push false:=by
      apply Array.ext_getElem?;intro k;simp only [Array.getElem?_setIfInBounds,Array.getElem?_push,Array.size_push,Array.size_setIfInBounds]
      by_cases hki:i=k
      · subst hki;simp [show i≠x.size by omega,show i<x.size by omega,show i<x.size+1 by omega]
      · simp [hki]
     rw [hps];unfold wpOp at h3 ⊢;rw [ho] at h3;rw [ho2];simp only [hw,if_true] at h3 ⊢;refine h3.imp (fun h4=>?_) (fun h4=>⟨h4.1,by obtain ⟨a',w',h5⟩:=h4.2;exact ⟨a',w',h5⟩⟩);unfold Oper.wp at h4 ⊢;rw [zpx] at h4;exact Oper.wp_mono (o:=o) (fun a' w' h5=>ih _ a' w' (by simp [hx]) hc2 h5) h4
theorem ziy {id:Nat} {a:Act} {w:World} {S:World->Prop} (hm:P.follows .mixedOrders=true) (hB:peelB (l++[oL]).toArray l.length=true) (hS:S w.drew)
 (h:S w.drew->wpAnyH P .any l.toArray (peelQ P (l++[oL]).toArray Q oL) S l.toArray.size (Array.replicate l.toArray.size false) a w.drew):(Code.region id (l++[oL]).toArray true).wp P Q a w:=by
 refine wp_region_any hm ?_;have h1:=wpAny_of_held _ _ _ _ (h hS);have h2:=zrx hB _ _ _ _ (by simp) (fun j oj _ hl=>by
  rw [getD_replicate_false] at hl;cases hl) h1
 have e:(Array.replicate l.toArray.size false).push false=Array.replicate (l++[oL]).toArray.size false:=by
  simp [Array.replicate_succ]
 rw [e] at h2;have e2:l.toArray.size+1=(l++[oL]).toArray.size:=by simp
 rw [e2] at h2;exact h2
theorem zat {L:List Oper} (n:Nat) {oL:Oper} (hL:L[n]? = some oL) (hn:L.length=n+1) {id:Nat} {a:Act} {w:World} (S:World->Prop) (hm:P.follows .mixedOrders=true) (hB:peelB L.toArray n=true) (hS:S w.drew)
 (h:S w.drew->wpAnyH P .any (L.take n).toArray (peelQ P L.toArray Q oL) S n (Array.replicate n false) a w.drew):(Code.region id L.toArray true).wp P Q a w:=by
 have hl:(L.take n).length=n:=by rw [List.length_take];omega
 have e:L=L.take n++[oL]:=by
  obtain ⟨hlt,hx⟩:=List.getElem?_eq_some_iff.1 hL;rw [<- hx];have:=(List.take_append_getElem hlt);rw [this,List.take_of_length_le (by omega)]
 have key:=ziy (P:=P) (Q:=Q) (l:=L.take n) (oL:=oL) (id:=id) (a:=a) (w:=w) (S:=S) hm;rw [<- e,hl] at key;refine key hB hS ?_;have e3:(L.take n).toArray.size=n:=by simp only [List.size_toArray];exact hl
 rw [e3];exact h
theorem zd {ops:Array Oper} {md:Region.Mode} {S:World->Prop} {i:Nat} {oi:Oper} {v:Value} {d:Option Tmp} {fuel:Nat} {listed:Array Bool} {a:Act} {w:World} (hi:ops[i]? = some oi) (hd:oi.dst=d)
 (hs:Region.noSelect ops=true) (hf:Region.free md ops listed i=true) (hr:(Region.ready md ops listed).contains i=true)
 (hQ:∀ c a w,Q (.panic c) (a.put d v) w->Q (.panic c) a w) (hw:Region.wanted oi (yielded ops a.tmps)=true) (hy:∀ w,S w->(execOp a.eval oi).run P w = .ok (.value v) w) (hS:S w)
 (h:wpAnyH P md ops Q S fuel (listed.setIfInBounds i true) (a.put d v) w):wpAnyH P md ops Q S (fuel+1) listed a w:=by
 subst hd;exact wpAnyH_take hi hs hf hr hQ (Or.inl ⟨hw,hy⟩) hS h
theorem ht {ops:Array Oper} {md:Region.Mode} {S:World->Prop} {i:Nat} {oi:Oper} {v:Value} {d:Option Tmp} {fuel:Nat} {listed:Array Bool} {a:Act} {w:World} (hy:∀ w,S w->(execOp a.eval oi).run P w = .ok (.value v) w)
 (h:wpAnyH P md ops Q S fuel (listed.setIfInBounds i true) (a.put d v) w) (hi:ops[i]? = some oi:=by exact rfl) (hd:oi.dst=d:=by exact rfl)
 (hs:Region.noSelect ops=true:=by kernel_rfl) (hf:Region.free md ops listed i=true:=by kernel_rfl) (hr:(Region.ready md ops listed).contains i=true:=by kernel_rfl)
 (hQ:∀ c a w,Q (.panic c) (a.put d v) w->Q (.panic c) a w:=by exact fun _ _ _ h=>h) (hw:Region.wanted oi (yielded ops a.tmps)=true:=by rfl) (hS:S w:=by assumption):wpAnyH P md ops Q S (fuel+1) listed a w :=
 zd hi hd hs hf hr hQ hw hy hS h
end
open Go.ChangeShapes Go.WideShapes Go.ChangeAt Go.RowKit
set_option linter.unusedSimpArgs false
theorem Chg.drew (w:World) (g:Nat) (G:List Mn):Chg w w.drew g G g G:=⟨rfl,rfl,rfl,Nat.le_refl _,fun k hk _=>rfl,fun k hk=>.inl hk⟩
theorem OF.chg {w V:World} {base g n cap g':Nat} {G G':List Mn} (h:OF w base (.slice (some ⟨g,0,none⟩) n cap) G) (hc:Chg w V g G g' G') {k:Nat} (hk:k<w.heap.size) (ho:¬ Own g G k):¬ Own g' G' k:=fun e=>(hc.new k e).elim ho (fun hh=>by omega)
theorem zm3 {x y:Int} {l:List Int} {k:Nat} (h:x∈l.insertIdx k y):x=y\/x∈l:=by
 rcases Nat.lt_or_ge l.length k with hk|hk
 · rw [List.insertIdx_of_length_lt hk] at h;exact .inr h
 · have:=(List.perm_insertIdx y l hk).mem_iff.1 h;exact List.mem_cons.1 this
theorem zky (base g cap:Nat) (G:List Mn) (o:Ops.Po) (w:World) (h:OF w base (.slice (some ⟨g,0,none⟩) G.length cap) G) (hn:G.length<=1000) (hks:∀ m∈G,m.kids.length<=1000) (i d q:Nat) (hi:o.id=i) (hd:o.dst=d) (hpq:o.pos=q) (hil:i<G.length) (hdl:d<G.length)
 (hp:par G i = -1\/∃ p:Nat,par G i=p/\p<G.length) (hks2:(kidsOf (outP G i) d).length<=900) (hq:q<=(kidsOf (outP G i) d).length) :
 Calls Tryz.prog 85 #[.slice (some ⟨g,0,none⟩) G.length cap,Ops.opv o] w fun e w'=>e = .returned (.slice (some ⟨g,0,none⟩) G.length cap) /\
  ∃ G',OF w' base (.slice (some ⟨g,0,none⟩) G.length cap) G'/\G'.map core=(insP G i d q).map core/\Chg w w' g G g G':=by
 have HREM:=Hq (fun (V:World) (hO:OF V base (.slice (some ⟨g,0,none⟩) G.length cap) G) (p:Nat) (hp:par G i=(p:Int)) (hpl:p<G.length)=>zg3 base g cap G o V hO hn hks i p hi hil hp hpl);have HHP:=Hq (fun (V:World) (hO:OF V base (.slice (some ⟨g,0,none⟩) G.length cap) G)=>zgy (some ⟨g,0,none⟩) G cap o V hO.fr hn i hi hil);obtain ⟨kd,id,dst,ps,nm0,tx⟩:=o;unfold Ops.opv at *;simp only [] at hi hd hpq HREM HHP ⊢;subst hi;subst hd;subst hpq;obtain ⟨W,hW⟩:∃ W,W=w.alloc (.cells #[.int .i64 kd,.int .i64 i,.int .i64 d,.int .i64 q,.string nm0,.string tx] 59):=⟨_,rfl⟩;have HOp:Hid (OpAt W w.heap.size ⟨kd,i,d,q,nm0,tx⟩):=Hq (by rw [hW];exact heap_alloc_new _ _);have HC0:Hid (Chg w W g G g G):=Hq (by rw [hW];exact Chg.alloc _ _ _ _);have HO:=Hq (h.below (by rw [hW];exact Bq _ _:Below w.heap.size w W));have hno:¬ Own g G w.heap.size:=fun e=>by have:=h.own e;omega
 have HNO:=Hq hno;obtain ⟨kb,hkb⟩:∃ k,k=w.heap.size:=⟨_,rfl⟩;rw [<- hkb] at HOp HNO;have HQ:=Hq hq;have HQ2:=Hq hks2;have HP:=Hq hp;have HLN:=Hq hn;clear h hno hq hks2 hp;obtain ⟨x0,x1,x2,x3,x4,x5⟩:=block6 HOp.out;have hl0:=lt_of_block HOp.out;have k0:(0:Int)<=(i:Int):=by omega
 have k1:(i:Int)<(G.length:Int):=by omega
 have k2:(0:Int)<=(d:Int):=by omega
 have k3:(d:Int)<(G.length:Int):=by omega
 obtain ⟨n,hnn⟩:∃ n,G.length=n:=⟨_,rfl⟩;have HNN:=Hq hnn;rw [hnn] at k1 k3 HREM HHP HO HP ⊢;clear hnn;go_enter Tryz.func85,Tryz.ntmps85;go_upto_region 1 with fail
 rw [<- hW,<- hkb];clear hW hkb;go_wp2_with fail;refine (HHP.out W HO.out).mono ?_;rintro e V ⟨rfl,hb⟩;have HO1:=Hq (HO.out.below hb);have HOp1:=Hq (HOp.out.below hb);have HC1:Hid (Chg w V g G g G):=Hq (HC0.out.trans ⟨hb.os,hb.tape,hb.output,hb.size,fun k hk _=>hb.block k hk,fun k hk=>.inl hk⟩);clear hb x0 x1 x2 x3 x4 x5 hl0;obtain ⟨x0,x1,x2,x3,x4,x5⟩:=block6 HOp1.out
 by_cases hp:par G i = -1
 · have hb:(par G i != -1)=false:=by simp [hp]
   have HE:Hid (G.map core=(outP G i).map core):=Hq (by unfold outP;rw [if_pos hp]);rw [hb];clear hb hp;obtain ⟨G1,hG1⟩:∃ G1,G1=G:=⟨_,rfl⟩;have HO2:Hid (OF V base (.slice (some ⟨g,0,none⟩) n cap) G1):=Hq (by rw [hG1];exact HO1.out);have HCt:Hid (Chg w V g G g G1):=Hq (by rw [hG1];exact HC1.out);have HE:Hid (G1.map core=(outP G i).map core):=Hq (by rw [hG1];exact HE.out);have HOp2:=HOp1;have HNO2:Hid (¬ Own g G1 kb):=Hq (by rw [hG1];exact HNO.out);clear hG1 HO1 HOp1;have HL1:Hid (G1.length=n):=Hq (by rw [zbp HE.out,zcr];exact HNN.out);have hi1:i<G1.length:=by rw [HL1.out];omega
   have hd1:d<G1.length:=by rw [HL1.out];omega
   obtain ⟨old4,z4⟩:∃ u,V.cell? ⟨g,i*6+4,none⟩=some u:=⟨_,(HO2.out.c6 HL1.out.symm hi1).c4⟩;have fz4:V.frozen? ⟨g,i*6+4,none⟩=false:=HO2.out.fz HL1.out.symm;obtain ⟨S,hS⟩:∃ S,S=V.setCell ⟨g,i*6+4,none⟩ (.int .i64 d):=⟨_,rfl⟩;obtain ⟨G2,hG2⟩:∃ G2,G2=G1.modify i fun m=>{ m with parent:=(d:Int) }:=⟨_,rfl⟩
   have HOS:Hid (OF S base (.slice (some ⟨g,0,none⟩) n cap) G2):=Hq (by
    have hO:=HO2.out;rw [<- HL1.out] at hO;have:=OF.mod (f:=fun m=>{ m with parent:=(d:Int) }) (d:=4) (u:=.int .i64 d) hO hi1 (by omega) rfl (fun m=>⟨rfl,rfl,rfl,rfl,rfl,rfl⟩) (hO.fit _ (List.getElem_mem hi1)).k64 (by simp [I64];omega);rw [List.length_modify,HL1.out] at this;rw [hS,hG2];exact this)
   have HCS:Hid (Chg V S g G1 g G2):=Hq (by
    rw [hS,hG2];exact Chg.store (zar _ none) (fun k e=>by cases e) _ _ (fun k hk=>.inl (zc0 (f:=fun m=>{ m with parent:=(d:Int) }) (fun m=>⟨rfl,rfl⟩) hk)))
   have HL2:Hid (G2.length=n):=Hq (by rw [hG2,List.length_modify];exact HL1.out);have hd2:d<G2.length:=by rw [HL2.out];omega
   have HE2:Hid (G2.map core=setPar ((outP G i).map core) i d):=Hq (by rw [hG2,<- HE.out];exact za8 _ _ _);have HK2:Hid (G2[d].kids=kidsOf (outP G i) d):=Hq (by
    rw [<- zae hd2,<- zax G2,HE2.out,zcy,zax])
   have HOpS:Hid (OpAt S kb ⟨kd,i,d,q,nm0,tx⟩):=Hq (HOp2.out.chg HCS.out HNO2.out);have hlt2:=HOpS.out;have hltS:=lt_of_block hlt2;clear hlt2 x0 x1 x2 x3 x4 x5;obtain ⟨x0,x1,x2,x3,x4,x5⟩:=block6 HOp2.out;go_upto_region 4 with fail
   rw [<- hS];have HSeq:=Hq hS;clear hS hG2 z4 fz4 x0 x1 x2 x3 x4 x5;obtain ⟨x0,x1,x2,x3,x4,x5⟩:=block6 HOpS.out;have y5:=(HOS.out.c6 HL2.out.symm hd2).c5;have hgS:g<S.heap.size:=(HOS.out.own (.inl rfl)).2;obtain ⟨X,hX⟩:∃ X,X=S.drew.alloc (.cells #[.int .i64 i] 3):=⟨_,rfl⟩;have HOX:Hid (OF X base (.slice (some ⟨g,0,none⟩) n cap) G2):=Hq (by rw [hX];exact HOS.out.below ((Below.refl _ S).drew.alloc (Nat.le_refl _) _));have HCX:Hid (Chg S X g G2 g G2):=Hq (by rw [hX];exact (Chg.drew _ _ _).trans (Chg.alloc _ _ _ _));have HXb:Hid (X.heap[S.heap.size]? = some (.cells #[.int .i64 i] 3 (0,0))):=Hq (by rw [hX];exact heap_alloc_new S.drew _);have hXs:X.heap.size=S.heap.size+1:=by rw [hX];simp
   have HINS:=Hq (zh8 q base S.heap.size (i:Int) G2[d].kids (.slice G2[d].kA G2[d].kids.length G2[d].kC) X (HOX.out.lst _ (List.getElem_mem hd2)).ki HXb.out (HOS.out.kb (List.getElem_mem hd2) (Nat.le_refl _)).1 (by rw [HK2.out];exact HQ.out) (by have:=HQ2.out;rw [HK2.out];omega) (by have:=HOX.out.size;omega));have HNO3:Hid (¬ Own g G2 kb):=Hq (fun e=>(HCS.out.new kb e).elim HNO2.out (fun hh=>by have:=lt_of_block HOp2.out;omega));have HKN:Hid (kB G2[d]≠some kb):=Hq (fun e=>HNO3.out (.inr ⟨_,List.getElem_mem hd2,.inr e⟩));have H64:Hid (∀ x∈G2[d].kids.insertIdx q (i:Int),I64 x):=Hq (fun x hx=>by
    rcases zm3 hx with rfl|hx
    · unfold I64;omega
    · exact (HOX.out.fit _ (List.getElem_mem hd2)).ks64 x hx)
   have HFIN:=Hq (fun (V:World) (p:Option Addr) (c:Nat) (hg:X.grownBy V (kB G2[d])) (hr:V.ownsRow base 3 1 (.slice p (G2[d].kids.insertIdx q (i:Int)).length c) (G2[d].kids.insertIdx q (i:Int)).length (ivs (G2[d].kids.insertIdx q (i:Int)))) (hb:(Value.slice p (G2[d].kids.insertIdx q (i:Int)).length c).ownBlock=kB G2[d]\/∀ k,(Value.slice p (G2[d].kids.insertIdx q (i:Int)).length c).ownBlock=some k->X.heap.size<=k) =>
    OF.kids (w:=X) (base:=base) (g:=g) (cap:=cap) (G:=G2) (by rw [HL2.out];exact HOX.out) hd2 hg hr hb H64.out)
   have HROW:=Hq (fun (V:World) (hg:X.grownBy V (kB G2[d]))=>zt (by have:=HOX.out.row;exact this) (HOX.out.lst _ (List.getElem_mem hd2)).ki (by decide) hg);have HC6:=Hq (fun (V:World) (h:V.ownsRow base 90 6 (.slice (some ⟨g,0,none⟩) G2.length cap) G2.length (fcells G2))=>zbk h hd2);have HB:Hid (kB G2[d]=(Value.slice G2[d].kA G2[d].kids.length G2[d].kC).ownBlock):=Hq rfl;have HIX:Hid (G2[d].kids.insertIdx q (i:Int)=(kidsOf (outP G i) d).insertIdx q (i:Int)):=Hq (by rw [HK2.out]);rw [hX] at HINS;have HXe:=Hq hX;have HXs:=Hq hXs;have mixed:Tryz.prog.follows Departure.mixedOrders=true:=by kernel_rfl
   have hne1:kb≠S.heap.size:=by omega
   have hne2:S.heap.size≠kb:=by omega
   have hne3:g≠S.heap.size:=by omega
   have hne4:S.heap.size≠g:=by omega
   clear hX hXs;obtain ⟨l2,hl2⟩:∃ l,G2[d].kids.insertIdx q (i:Int)=l:=⟨_,rfl⟩;rw [hl2] at HINS H64 HFIN HIX;clear hl2;have HY5:=Hq (fun (V:World) (h:V.ownsRow base 90 6 (.slice (some ⟨g,0,none⟩) G2.length cap) G2.length (fcells G2))=>(zbk h hd2).c5);generalize (G2[d]).kids.length=kl at *;generalize (G2[d]).kA=kA at *;generalize (G2[d]).kC=kC at *;have HS1:=Hq (show S.drew.cell? ⟨g,d*6+5,none⟩=some (.slice kA kl kC)/\S.drew.cell? ⟨kb,1,none⟩=some (.int .i64 i)/\S.drew.cell? ⟨kb,2,none⟩=some (.int .i64 d)/\S.drew.cell? ⟨kb,3,none⟩=some (.int .i64 q) from ⟨y5,x1,x2,x3⟩);have HS2:=Hq (show (S.drew.alloc (.cells #[.int .i64 i] 3)).cell? ⟨g,d*6+5,none⟩=some (.slice kA kl kC)/\(S.drew.alloc (.cells #[.int .i64 i] 3)).cell? ⟨kb,1,none⟩=some (.int .i64 i)/\(S.drew.alloc (.cells #[.int .i64 i] 3)).cell? ⟨kb,2,none⟩=some (.int .i64 d)/\(S.drew.alloc (.cells #[.int .i64 i] 3)).cell? ⟨kb,3,none⟩=some (.int .i64 q) from ⟨Lib.cell?_alloc_some _ y5,Lib.cell?_alloc_some _ x1,Lib.cell?_alloc_some _ x2,Lib.cell?_alloc_some _ x3⟩);have HOX2:Hid (OpAt X kb ⟨kd,i,d,q,nm0,tx⟩):=Hq (HOpS.out.chg HCX.out HNO3.out);clear x0 x1 x2 x3 x4 x5;refine zat 17 rfl rfl (fun Y:World=>Y.cell? ⟨g,d*6+5,none⟩=some (.slice kA kl kC)/\Y.cell? ⟨kb,1,none⟩=some (.int .i64 i)/\Y.cell? ⟨kb,2,none⟩=some (.int .i64 d)/\Y.cell? ⟨kb,3,none⟩=some (.int .i64 q)) (by kernel_rfl) (by kernel_rfl) (HS1.out) (fun hHeld=>?_);simp only [List.take_succ_cons,List.take_zero];refine ht (i:=0) (d:=some 18) (v:=?_) ?_ ?_;rotate_left
   · intro w hSw
     try dsimp only at hSw
     first|(go_simp;done)|(go_simp;with_reducible rfl)
   simp only [Act.put,List.setIfInBounds_toArray,List.set_cons_zero,List.set_cons_succ];refine ht (i:=1) (d:=some 19) (v:=?_) ?_ ?_;rotate_left
   · intro w hSw
     try dsimp only at hSw
     first|(go_simp;done)|(go_simp;with_reducible rfl)
   simp only [Act.put,List.setIfInBounds_toArray,List.set_cons_zero,List.set_cons_succ];refine ht (i:=2) (d:=some 20) (v:=?_) ?_ ?_;rotate_left
   · intro w hSw
     try dsimp only at hSw
     first|(go_simp;done)|(go_simp;with_reducible rfl)
   simp only [Act.put,List.setIfInBounds_toArray,List.set_cons_zero,List.set_cons_succ];refine ht (i:=3) (d:=some 21) (v:=?_) ?_ ?_;rotate_left
   · intro w hSw
     try dsimp only at hSw
     first|(go_simp;done)|(go_simp;with_reducible rfl)
   simp only [Act.put,List.setIfInBounds_toArray,List.set_cons_zero,List.set_cons_succ];refine ht (i:=4) (d:=some 22) (v:=?_) ?_ ?_;rotate_left
   · intro w hSw
     try dsimp only at hSw
     first|(go_simp;done)|(go_simp;with_reducible rfl)
   simp only [Act.put,List.setIfInBounds_toArray,List.set_cons_zero,List.set_cons_succ];refine ht (i:=5) (d:=some 23) (v:=?_) ?_ ?_;rotate_left
   · intro w hSw
     try dsimp only at hSw
     first|(go_simp;done)|(go_simp;with_reducible rfl)
   simp only [Act.put,List.setIfInBounds_toArray,List.set_cons_zero,List.set_cons_succ];refine ht (i:=6) (d:=some 24) (v:=?_) ?_ ?_;rotate_left
   · intro w hSw
     try dsimp only at hSw
     first|(go_simp;done)|(go_simp;with_reducible rfl)
   simp only [Act.put,List.setIfInBounds_toArray,List.set_cons_zero,List.set_cons_succ];refine ht (i:=7) (d:=some 25) (v:=?_) ?_ ?_;rotate_left
   · intro w hSw
     try dsimp only at hSw
     first|(go_simp;done)|(go_simp;with_reducible rfl)
   simp only [Act.put,List.setIfInBounds_toArray,List.set_cons_zero,List.set_cons_succ];refine ht (i:=8) (d:=some 26) (v:=?_) ?_ ?_;rotate_left
   · intro w hSw
     try dsimp only at hSw
     first|(go_simp;done)|(go_simp;with_reducible rfl)
   simp only [Act.put,List.setIfInBounds_toArray,List.set_cons_zero,List.set_cons_succ];refine ht (i:=9) (d:=some 27) (v:=?_) ?_ ?_;rotate_left
   · intro w hSw
     try dsimp only at hSw
     first|(go_simp;done)|(go_simp;with_reducible rfl)
   simp only [Act.put,List.setIfInBounds_toArray,List.set_cons_zero,List.set_cons_succ];refine ht (i:=10) (d:=some 28) (v:=?_) ?_ ?_;rotate_left
   · intro w hSw
     try dsimp only at hSw
     first|(go_simp;done)|(go_simp;with_reducible rfl)
   simp only [Act.put,List.setIfInBounds_toArray,List.set_cons_zero,List.set_cons_succ];refine ht (i:=11) (d:=some 29) (v:=?_) ?_ ?_;rotate_left
   · intro w hSw
     try dsimp only at hSw
     first|(go_simp;done)|(go_simp;with_reducible rfl)
   simp only [Act.put,List.setIfInBounds_toArray,List.set_cons_zero,List.set_cons_succ];refine ht (i:=12) (d:=some 30) (v:=?_) ?_ ?_;rotate_left
   · intro w hSw
     try dsimp only at hSw
     first|(go_simp;done)|(go_simp;with_reducible rfl)
   simp only [Act.put,List.setIfInBounds_toArray,List.set_cons_zero,List.set_cons_succ];refine wpAnyH_ready (rs:=[13]) (by kernel_rfl) (by simp) ?_;refine AllReadyH.cons rfl (fun K hK=>?_) AllReadyH.nil;go_simp;refine hK.out _ _ (HS2.out) (fun hHeld2=>?_);clear hK K hHeld;have hHeld:=hHeld2;clear hHeld2
   try simp only [Act.put,List.setIfInBounds_toArray,List.set_cons_zero,List.set_cons_succ]
   refine wpAnyH_ready (rs:=[14]) (by kernel_rfl) (by simp) ?_;refine AllReadyH.cons rfl (fun K hK=>?_) AllReadyH.nil;go_simp;refine HINS.out.mono ?_;rintro e V3 ⟨v',rfl,hrow,hgr,hob⟩;obtain ⟨pk,ck,rfl,-,-,-⟩:=zh hrow;rw [<- HXe.out] at hgr hob;rw [<- HB.out] at hgr hob;have HF:=Hq (HFIN.out V3 pk ck hgr hrow hob);have hr3:=HROW.out V3 hgr;rw [<- HL2.out] at hr3;have hop:=block6 (HOX2.out.grown hgr HKN.out);have HS3:=Hq (And.intro (HY5.out V3 hr3) (And.intro hop.2.1 (And.intro hop.2.2.1 hop.2.2.2.1)));have fz5:V3.frozen? ⟨g,d*6+5,none⟩=false:=zci hr3;clear hrow hgr hob hr3 hop;refine hK.out _ _ (HS3.out) (fun hHeld2=>?_);clear hK K hHeld;have hHeld:=hHeld2;clear hHeld2
   try simp only [Act.put,List.setIfInBounds_toArray,List.set_cons_zero,List.set_cons_succ]
   refine ht (i:=15) (d:=some 33) (v:=?_) ?_ ?_;rotate_left
   · intro w hSw
     try dsimp only at hSw
     first|(go_simp;done)|(go_simp;with_reducible rfl)
   simp only [Act.put,List.setIfInBounds_toArray,List.set_cons_zero,List.set_cons_succ];refine ht (i:=16) (d:=some 34) (v:=?_) ?_ ?_;rotate_left
   · intro w hSw
     try dsimp only at hSw
     first|(go_simp;done)|(go_simp;with_reducible rfl)
   simp only [Act.put,List.setIfInBounds_toArray,List.set_cons_zero,List.set_cons_succ];refine wpAnyH_done (by kernel_rfl) ?_ _;clear hHeld;show wpList _ _ _ [_] _ _;have z5:=HS3.out.1;go_wp2;go_ret;refine ⟨rfl,setKd d l2 pk ck G2,?_,?_,?_⟩
   · have:=HF.out.1;rw [HL2.out] at this;exact this
   · rw [ze5,HE2.out,HIX.out];unfold insP layP;rw [zcj,za8]
   · exact ((HCt.out.trans HCS.out).trans HCX.out).trans HF.out.2
 · have hb:(par G i != -1)=true:=by simp [hp]
   obtain ⟨p,hp1,hp2⟩:=HP.out.resolve_left hp;rw [hb];clear hb;go_wp2_with fail;refine (HREM.out V HO1.out p hp1 hp2).mono ?_;rintro e V2 ⟨rfl,G1,hO2,hE2,hC2⟩;have HO2:=Hq hO2;have HE:Hid (G1.map core=(outP G i).map core):=Hq (by unfold outP;rw [if_neg hp];exact hE2);have HCt:=Hq (HC1.out.trans hC2);have HOp2:=Hq (HOp1.out.chg hC2 HNO.out);have HNO2:Hid (¬ Own g G1 kb):=Hq (HO1.out.chg hC2 (lt_of_block HOp1.out) HNO.out);clear hO2 hE2 hC2 hp hp1 hp2;have HL1:Hid (G1.length=n):=Hq (by rw [zbp HE.out,zcr];exact HNN.out);have hi1:i<G1.length:=by rw [HL1.out];omega
   have hd1:d<G1.length:=by rw [HL1.out];omega
   obtain ⟨old4,z4⟩:∃ u,V2.cell? ⟨g,i*6+4,none⟩=some u:=⟨_,(HO2.out.c6 HL1.out.symm hi1).c4⟩;have fz4:V2.frozen? ⟨g,i*6+4,none⟩=false:=HO2.out.fz HL1.out.symm;obtain ⟨S,hS⟩:∃ S,S=V2.setCell ⟨g,i*6+4,none⟩ (.int .i64 d):=⟨_,rfl⟩;obtain ⟨G2,hG2⟩:∃ G2,G2=G1.modify i fun m=>{ m with parent:=(d:Int) }:=⟨_,rfl⟩
   have HOS:Hid (OF S base (.slice (some ⟨g,0,none⟩) n cap) G2):=Hq (by
    have hO:=HO2.out;rw [<- HL1.out] at hO;have:=OF.mod (f:=fun m=>{ m with parent:=(d:Int) }) (d:=4) (u:=.int .i64 d) hO hi1 (by omega) rfl (fun m=>⟨rfl,rfl,rfl,rfl,rfl,rfl⟩) (hO.fit _ (List.getElem_mem hi1)).k64 (by simp [I64];omega);rw [List.length_modify,HL1.out] at this;rw [hS,hG2];exact this)
   have HCS:Hid (Chg V2 S g G1 g G2):=Hq (by
    rw [hS,hG2];exact Chg.store (zar _ none) (fun k e=>by cases e) _ _ (fun k hk=>.inl (zc0 (f:=fun m=>{ m with parent:=(d:Int) }) (fun m=>⟨rfl,rfl⟩) hk)))
   have HL2:Hid (G2.length=n):=Hq (by rw [hG2,List.length_modify];exact HL1.out);have hd2:d<G2.length:=by rw [HL2.out];omega
   have HE2:Hid (G2.map core=setPar ((outP G i).map core) i d):=Hq (by rw [hG2,<- HE.out];exact za8 _ _ _);have HK2:Hid (G2[d].kids=kidsOf (outP G i) d):=Hq (by
    rw [<- zae hd2,<- zax G2,HE2.out,zcy,zax])
   have HOpS:Hid (OpAt S kb ⟨kd,i,d,q,nm0,tx⟩):=Hq (HOp2.out.chg HCS.out HNO2.out);have hlt2:=HOpS.out;have hltS:=lt_of_block hlt2;clear hlt2 x0 x1 x2 x3 x4 x5;obtain ⟨x0,x1,x2,x3,x4,x5⟩:=block6 HOp2.out;go_upto_region 4 with fail
   rw [<- hS];have HSeq:=Hq hS;clear hS hG2 z4 fz4 x0 x1 x2 x3 x4 x5;obtain ⟨x0,x1,x2,x3,x4,x5⟩:=block6 HOpS.out;have y5:=(HOS.out.c6 HL2.out.symm hd2).c5;have hgS:g<S.heap.size:=(HOS.out.own (.inl rfl)).2;obtain ⟨X,hX⟩:∃ X,X=S.drew.alloc (.cells #[.int .i64 i] 3):=⟨_,rfl⟩;have HOX:Hid (OF X base (.slice (some ⟨g,0,none⟩) n cap) G2):=Hq (by rw [hX];exact HOS.out.below ((Below.refl _ S).drew.alloc (Nat.le_refl _) _));have HCX:Hid (Chg S X g G2 g G2):=Hq (by rw [hX];exact (Chg.drew _ _ _).trans (Chg.alloc _ _ _ _));have HXb:Hid (X.heap[S.heap.size]? = some (.cells #[.int .i64 i] 3 (0,0))):=Hq (by rw [hX];exact heap_alloc_new S.drew _);have hXs:X.heap.size=S.heap.size+1:=by rw [hX];simp
   have HINS:=Hq (zh8 q base S.heap.size (i:Int) G2[d].kids (.slice G2[d].kA G2[d].kids.length G2[d].kC) X (HOX.out.lst _ (List.getElem_mem hd2)).ki HXb.out (HOS.out.kb (List.getElem_mem hd2) (Nat.le_refl _)).1 (by rw [HK2.out];exact HQ.out) (by have:=HQ2.out;rw [HK2.out];omega) (by have:=HOX.out.size;omega));have HNO3:Hid (¬ Own g G2 kb):=Hq (fun e=>(HCS.out.new kb e).elim HNO2.out (fun hh=>by have:=lt_of_block HOp2.out;omega));have HKN:Hid (kB G2[d]≠some kb):=Hq (fun e=>HNO3.out (.inr ⟨_,List.getElem_mem hd2,.inr e⟩));have H64:Hid (∀ x∈G2[d].kids.insertIdx q (i:Int),I64 x):=Hq (fun x hx=>by
    rcases zm3 hx with rfl|hx
    · unfold I64;omega
    · exact (HOX.out.fit _ (List.getElem_mem hd2)).ks64 x hx)
   have HFIN:=Hq (fun (V:World) (p:Option Addr) (c:Nat) (hg:X.grownBy V (kB G2[d])) (hr:V.ownsRow base 3 1 (.slice p (G2[d].kids.insertIdx q (i:Int)).length c) (G2[d].kids.insertIdx q (i:Int)).length (ivs (G2[d].kids.insertIdx q (i:Int)))) (hb:(Value.slice p (G2[d].kids.insertIdx q (i:Int)).length c).ownBlock=kB G2[d]\/∀ k,(Value.slice p (G2[d].kids.insertIdx q (i:Int)).length c).ownBlock=some k->X.heap.size<=k) =>
    OF.kids (w:=X) (base:=base) (g:=g) (cap:=cap) (G:=G2) (by rw [HL2.out];exact HOX.out) hd2 hg hr hb H64.out)
   have HROW:=Hq (fun (V:World) (hg:X.grownBy V (kB G2[d]))=>zt (by have:=HOX.out.row;exact this) (HOX.out.lst _ (List.getElem_mem hd2)).ki (by decide) hg);have HC6:=Hq (fun (V:World) (h:V.ownsRow base 90 6 (.slice (some ⟨g,0,none⟩) G2.length cap) G2.length (fcells G2))=>zbk h hd2);have HB:Hid (kB G2[d]=(Value.slice G2[d].kA G2[d].kids.length G2[d].kC).ownBlock):=Hq rfl;have HIX:Hid (G2[d].kids.insertIdx q (i:Int)=(kidsOf (outP G i) d).insertIdx q (i:Int)):=Hq (by rw [HK2.out]);rw [hX] at HINS;have HXe:=Hq hX;have HXs:=Hq hXs;have mixed:Tryz.prog.follows Departure.mixedOrders=true:=by kernel_rfl
   have hne1:kb≠S.heap.size:=by omega
   have hne2:S.heap.size≠kb:=by omega
   have hne3:g≠S.heap.size:=by omega
   have hne4:S.heap.size≠g:=by omega
   clear hX hXs;obtain ⟨l2,hl2⟩:∃ l,G2[d].kids.insertIdx q (i:Int)=l:=⟨_,rfl⟩;rw [hl2] at HINS H64 HFIN HIX;clear hl2;have HY5:=Hq (fun (V:World) (h:V.ownsRow base 90 6 (.slice (some ⟨g,0,none⟩) G2.length cap) G2.length (fcells G2))=>(zbk h hd2).c5);generalize (G2[d]).kids.length=kl at *;generalize (G2[d]).kA=kA at *;generalize (G2[d]).kC=kC at *;have HS1:=Hq (show S.drew.cell? ⟨g,d*6+5,none⟩=some (.slice kA kl kC)/\S.drew.cell? ⟨kb,1,none⟩=some (.int .i64 i)/\S.drew.cell? ⟨kb,2,none⟩=some (.int .i64 d)/\S.drew.cell? ⟨kb,3,none⟩=some (.int .i64 q) from ⟨y5,x1,x2,x3⟩);have HS2:=Hq (show (S.drew.alloc (.cells #[.int .i64 i] 3)).cell? ⟨g,d*6+5,none⟩=some (.slice kA kl kC)/\(S.drew.alloc (.cells #[.int .i64 i] 3)).cell? ⟨kb,1,none⟩=some (.int .i64 i)/\(S.drew.alloc (.cells #[.int .i64 i] 3)).cell? ⟨kb,2,none⟩=some (.int .i64 d)/\(S.drew.alloc (.cells #[.int .i64 i] 3)).cell? ⟨kb,3,none⟩=some (.int .i64 q) from ⟨Lib.cell?_alloc_some _ y5,Lib.cell?_alloc_some _ x1,Lib.cell?_alloc_some _ x2,Lib.cell?_alloc_some _ x3⟩);have HOX2:Hid (OpAt X kb ⟨kd,i,d,q,nm0,tx⟩):=Hq (HOpS.out.chg HCX.out HNO3.out);clear x0 x1 x2 x3 x4 x5;refine zat 17 rfl rfl (fun Y:World=>Y.cell? ⟨g,d*6+5,none⟩=some (.slice kA kl kC)/\Y.cell? ⟨kb,1,none⟩=some (.int .i64 i)/\Y.cell? ⟨kb,2,none⟩=some (.int .i64 d)/\Y.cell? ⟨kb,3,none⟩=some (.int .i64 q)) (by kernel_rfl) (by kernel_rfl) (HS1.out) (fun hHeld=>?_);simp only [List.take_succ_cons,List.take_zero];refine ht (i:=0) (d:=some 18) (v:=?_) ?_ ?_;rotate_left
   · intro w hSw
     try dsimp only at hSw
     first|(go_simp;done)|(go_simp;with_reducible rfl)
   simp only [Act.put,List.setIfInBounds_toArray,List.set_cons_zero,List.set_cons_succ];refine ht (i:=1) (d:=some 19) (v:=?_) ?_ ?_;rotate_left
   · intro w hSw
     try dsimp only at hSw
     first|(go_simp;done)|(go_simp;with_reducible rfl)
   simp only [Act.put,List.setIfInBounds_toArray,List.set_cons_zero,List.set_cons_succ];refine ht (i:=2) (d:=some 20) (v:=?_) ?_ ?_;rotate_left
   · intro w hSw
     try dsimp only at hSw
     first|(go_simp;done)|(go_simp;with_reducible rfl)
   simp only [Act.put,List.setIfInBounds_toArray,List.set_cons_zero,List.set_cons_succ];refine ht (i:=3) (d:=some 21) (v:=?_) ?_ ?_;rotate_left
   · intro w hSw
     try dsimp only at hSw
     first|(go_simp;done)|(go_simp;with_reducible rfl)
   simp only [Act.put,List.setIfInBounds_toArray,List.set_cons_zero,List.set_cons_succ];refine ht (i:=4) (d:=some 22) (v:=?_) ?_ ?_;rotate_left
   · intro w hSw
     try dsimp only at hSw
     first|(go_simp;done)|(go_simp;with_reducible rfl)
   simp only [Act.put,List.setIfInBounds_toArray,List.set_cons_zero,List.set_cons_succ];refine ht (i:=5) (d:=some 23) (v:=?_) ?_ ?_;rotate_left
   · intro w hSw
     try dsimp only at hSw
     first|(go_simp;done)|(go_simp;with_reducible rfl)
   simp only [Act.put,List.setIfInBounds_toArray,List.set_cons_zero,List.set_cons_succ];refine ht (i:=6) (d:=some 24) (v:=?_) ?_ ?_;rotate_left
   · intro w hSw
     try dsimp only at hSw
     first|(go_simp;done)|(go_simp;with_reducible rfl)
   simp only [Act.put,List.setIfInBounds_toArray,List.set_cons_zero,List.set_cons_succ];refine ht (i:=7) (d:=some 25) (v:=?_) ?_ ?_;rotate_left
   · intro w hSw
     try dsimp only at hSw
     first|(go_simp;done)|(go_simp;with_reducible rfl)
   simp only [Act.put,List.setIfInBounds_toArray,List.set_cons_zero,List.set_cons_succ];refine ht (i:=8) (d:=some 26) (v:=?_) ?_ ?_;rotate_left
   · intro w hSw
     try dsimp only at hSw
     first|(go_simp;done)|(go_simp;with_reducible rfl)
   simp only [Act.put,List.setIfInBounds_toArray,List.set_cons_zero,List.set_cons_succ];refine ht (i:=9) (d:=some 27) (v:=?_) ?_ ?_;rotate_left
   · intro w hSw
     try dsimp only at hSw
     first|(go_simp;done)|(go_simp;with_reducible rfl)
   simp only [Act.put,List.setIfInBounds_toArray,List.set_cons_zero,List.set_cons_succ];refine ht (i:=10) (d:=some 28) (v:=?_) ?_ ?_;rotate_left
   · intro w hSw
     try dsimp only at hSw
     first|(go_simp;done)|(go_simp;with_reducible rfl)
   simp only [Act.put,List.setIfInBounds_toArray,List.set_cons_zero,List.set_cons_succ];refine ht (i:=11) (d:=some 29) (v:=?_) ?_ ?_;rotate_left
   · intro w hSw
     try dsimp only at hSw
     first|(go_simp;done)|(go_simp;with_reducible rfl)
   simp only [Act.put,List.setIfInBounds_toArray,List.set_cons_zero,List.set_cons_succ];refine ht (i:=12) (d:=some 30) (v:=?_) ?_ ?_;rotate_left
   · intro w hSw
     try dsimp only at hSw
     first|(go_simp;done)|(go_simp;with_reducible rfl)
   simp only [Act.put,List.setIfInBounds_toArray,List.set_cons_zero,List.set_cons_succ];refine wpAnyH_ready (rs:=[13]) (by kernel_rfl) (by simp) ?_;refine AllReadyH.cons rfl (fun K hK=>?_) AllReadyH.nil;go_simp;refine hK.out _ _ (HS2.out) (fun hHeld2=>?_);clear hK K hHeld;have hHeld:=hHeld2;clear hHeld2
   try simp only [Act.put,List.setIfInBounds_toArray,List.set_cons_zero,List.set_cons_succ]
   refine wpAnyH_ready (rs:=[14]) (by kernel_rfl) (by simp) ?_;refine AllReadyH.cons rfl (fun K hK=>?_) AllReadyH.nil;go_simp;refine HINS.out.mono ?_;rintro e V3 ⟨v',rfl,hrow,hgr,hob⟩;obtain ⟨pk,ck,rfl,-,-,-⟩:=zh hrow;rw [<- HXe.out] at hgr hob;rw [<- HB.out] at hgr hob;have HF:=Hq (HFIN.out V3 pk ck hgr hrow hob);have hr3:=HROW.out V3 hgr;rw [<- HL2.out] at hr3;have hop:=block6 (HOX2.out.grown hgr HKN.out);have HS3:=Hq (And.intro (HY5.out V3 hr3) (And.intro hop.2.1 (And.intro hop.2.2.1 hop.2.2.2.1)));have fz5:V3.frozen? ⟨g,d*6+5,none⟩=false:=zci hr3;clear hrow hgr hob hr3 hop;refine hK.out _ _ (HS3.out) (fun hHeld2=>?_);clear hK K hHeld;have hHeld:=hHeld2;clear hHeld2
   try simp only [Act.put,List.setIfInBounds_toArray,List.set_cons_zero,List.set_cons_succ]
   refine ht (i:=15) (d:=some 33) (v:=?_) ?_ ?_;rotate_left
   · intro w hSw
     try dsimp only at hSw
     first|(go_simp;done)|(go_simp;with_reducible rfl)
   simp only [Act.put,List.setIfInBounds_toArray,List.set_cons_zero,List.set_cons_succ];refine ht (i:=16) (d:=some 34) (v:=?_) ?_ ?_;rotate_left
   · intro w hSw
     try dsimp only at hSw
     first|(go_simp;done)|(go_simp;with_reducible rfl)
   simp only [Act.put,List.setIfInBounds_toArray,List.set_cons_zero,List.set_cons_succ];refine wpAnyH_done (by kernel_rfl) ?_ _;clear hHeld;show wpList _ _ _ [_] _ _;have z5:=HS3.out.1;go_wp2;go_ret;refine ⟨rfl,setKd d l2 pk ck G2,?_,?_,?_⟩
   · have:=HF.out.1;rw [HL2.out] at this;exact this
   · rw [ze5,HE2.out,HIX.out];unfold insP layP;rw [zcj,za8]
   · exact ((HCt.out.trans HCS.out).trans HCX.out).trans HF.out.2
theorem zjc {B g n cap size:Nat} {e:TypeId}:∀ (m:List Value) (o:Nat) (w:World) (l:List Value),w.ownsRow B e size (.slice (some ⟨g,0,none⟩) n cap) n l->(w.setCells g o m).ownsRow B e size (.slice (some ⟨g,0,none⟩) n cap) n (overV l o m)
 | [],o,w,l,h=>h
 | x::r,o,w,l,h=>zjc r (o+1) _ _ (h.stored o x).1
theorem zts {w:World} {B g n cap size:Nat} {e:TypeId} {xs:List Value} (h:w.ownsRow B e size (.slice (some ⟨g,0,none⟩) n cap) n xs) {m:Nat} (hm:m<=n):w.ownsRow B e size (.slice (some ⟨g,0,none⟩) m cap) m (xs.take (m*size)):=by
 have h1:=h.1;have hle:m*size<=n*size:=Nat.mul_le_mul_right _ hm
 rcases h.2 with ⟨h',_⟩|⟨g',cap',cur,hv,h2,h3,h4,h5,h6,h7⟩
 · cases h'
 · cases hv;refine ⟨by rw [List.length_take];omega,.inr ⟨g,cap,cur,rfl,h2,h3,by omega,h5,h6,?_⟩⟩;rw [<- h7,List.take_take,Nat.min_eq_left hle]
theorem zn9 {P:Program} (w:World) (t e ty:TypeId) (z u v:Value) (ht:P.underlying t=some (.slice e)) (hv:∀ w,(zeroValue e).run P w = .ok z w) (hz:z.cells=#[u,v]) (h1:u.oneCell'=true) (h2:v.oneCell'=true) (b o n c:Nat) (hn:0<n)
 (hc:∀ j,j<n*2->(w.cell? ⟨b,o+j,none⟩).isSome=true) (hf:∀ j,j<n*2->w.frozen? ⟨b,o+j,none⟩=false) :
 ∃ vs:List Value,vs.length=n*2/\(Builtin.clear_ #[t] ty #[.slice (some ⟨b,o,none⟩) n c]).run P w = .ok (.tuple #[]) (w.setCells b o vs):=by
 obtain ⟨m,rfl⟩:∃ m,n=m+1:=⟨n - 1,by omega⟩;have hlen:(Builtin.zeroCells z.cells (m+1)).toList.length=(m+1)*2:=by rw [hz];simp [Builtin.zeroCells]
 have hone:∀ x∈(Builtin.zeroCells z.cells (m+1)).toList,x.oneCell'=true:=fun x hx=>by
  rw [hz] at hx;simp only [Builtin.zeroCells,Array.toList_map,List.mem_map] at hx;obtain ⟨i,-,rfl⟩:=hx;have:i % 2=0\/i % 2=1:=Nat.mod_two_eq_zero_or_one i
  rcases this with e|e<;>simp [e,h1,h2]
 have hst:=run_storeCells_cells (P:=P) b o (Builtin.zeroCells z.cells (m+1)).toList 0 w (by rw [hlen];simpa using hc) (by rw [hlen];simpa using hf) hone;simp only [Nat.add_zero] at hst;refine ⟨_,hlen,?_⟩;simp [Builtin.clear_,run_underlying ht,hv,hst]
theorem ze9:∀ {l:List At2} {i:Nat} (a b:ByteArray),i<l.length->acells (l.set i (a,b))=((acells l).set (i*2) (.string a)).set (i*2+1) (.string b)
 | [],i,a,b,h=>absurd h (by simp)
 | x::l,0,a,b,h=>by simp [acells,at2]
 | x::l,i+1,a,b,h=>by
   have ih:=ze9 (l:=l) (i:=i) a b (by simpa using h);have e1:acells (x::l)=at2 x++acells l:=by simp [acells]
   have e2:acells (x::l.set i (a,b))=at2 x++acells (l.set i (a,b)):=by simp [acells]
   have hx:(at2 x).length=2:=rfl;rw [List.set_cons_succ,e2,e1,ih,List.set_append_right _ _ (by rw [hx];omega),List.set_append_right _ _ (by rw [hx];omega),hx];rw [show (i+1)*2 - 2=i*2 by omega,show (i+1)*2+1 - 2=i*2+1 by omega]
theorem zoa (l:List At2) (i:Nat):(acells l).take (i*2)=acells (l.take i):=by
 induction l generalizing i with
 | nil=>simp [acells]
 | cons x l ih =>
   cases i with
   | zero=>simp [acells]
   | succ i =>
     have e1:acells (x::l)=at2 x++acells l:=by simp [acells]
     have e2:acells (x::l.take i)=at2 x++acells (l.take i):=by simp [acells]
     rw [List.take_succ_cons,e2,e1,<- ih,show (i+1)*2=(at2 x).length+i*2 by simp [at2];omega,List.take_length_add_append]
theorem zc1 {w:World} {base g n cap i:Nat} {l:List At2} (h:w.ownsRow base 140 2 (.slice (some ⟨g,0,none⟩) n cap) n (acells l)) (hi:i<n) (hl:i<l.length):w.cell? ⟨g,i*2,none⟩=some (.string l[i].1)/\w.cell? ⟨g,i*2+1,none⟩=some (.string l[i].2):=by
 obtain ⟨e1,e2⟩:=zb7 hl;rw [getD_at default hl] at e1 e2;rw [h.cellAt _ (by omega),h.cellAt _ (by omega)];exact ⟨e1,e2⟩
theorem ztt {w:World} {base:Nat} {p:Option Addr} {l:List At2} {n c:Nat} (h:w.ownsRow base 140 2 (.slice p n c) l.length (acells l)):AR w p l:=by
 obtain ⟨q,c',hv,-,-,ha⟩:=zpi h;cases hv;exact ha
theorem zpz (kb:Nat) (o:Ops.Po) (B:Nat) (l:List At2) (v:Value) (w:World) (hO:OpAt w kb o) (ho:w.ownsRow B 140 2 v l.length (acells l)) (hl:l.length<=1000) (hkb:v.ownBlock≠some kb) :
 Calls Tryz.prog 145 #[v,.func (.func 146) #[] #[.pointer (some ⟨kb,0,none⟩)]] w fun e w'=>∃ v',e = .returned v'/\w'.ownsRow B 140 2 v' (l.filter fun x=>!isNm o x).length (acells (l.filter fun x=>!isNm o x))/\w.grownBy w' v.ownBlock/\v'.ownBlock=v.ownBlock:=by
 obtain ⟨pl,cap,rfl,hnc,hcm⟩:=zj ho;unfold maxLen at hcm;have HIX:=Hq (zh4 kb o pl l cap w hO (ztt ho) hl)
 rcases Bool.eq_false_or_eq_true (l.any (isNm o)) with hany|hany
 · obtain ⟨i0,hi0,hf,hp,h0⟩:=zkv hany;obtain ⟨g,rfl⟩:∃ g,pl=some ⟨g,0,none⟩:=by
    rcases ho.2 with ⟨-,h'⟩|⟨g,c,cur,hv,-⟩
    · omega
    · cases hv;exact ⟨g,rfl⟩
   have hgk:kb≠g:=fun e=>hkb (by simp [Value.ownBlock,e])
   have HGK:Hid (some g≠some kb):=Hq (fun e=>hgk (Option.some.inj e).symm);rw [hf] at HIX;have HS:Hid (l.take i0=(l.take (i0+1)).filter (fun x=>!isNm o x)):=Hq (zf8 hi0 h0 hp).symm;obtain ⟨n,hn⟩:∃ n,l.length=n:=⟨_,rfl⟩;have HN:=Hq hn;have HO:=Hq hO;have HW0:Hid (w.ownsRow B 140 2 (.slice (some ⟨g,0,none⟩) n cap) n (acells l)):=Hq (by rw [hn] at ho;exact ho);rw [hn] at hl hnc hi0 HIX ⊢;obtain ⟨i0',hIi,hz0,hz1,hz2⟩:=info_parts zgq;have hv3:∀ w,(zeroValue 140).run Tryz.prog w = .ok (.agg #[.string ⟨#[]⟩,.string ⟨#[]⟩]) w:=fun w=>by simp [zeroValue,typeInfo,hIi,hz0]
   have hcl:∀ (i:Nat) (W1:World) (L:List At2),i<n->W1.ownsRow B 140 2 (.slice (some ⟨g,0,none⟩) n cap) n (acells L)->∀ ty,∃ vs:List Value,vs.length=(n - i)*2/\(Builtin.clear_ #[88] ty #[.slice (some ⟨g,i*2,none⟩) (n - i) (cap - i)]).run Tryz.prog W1 = .ok (.tuple #[]) (W1.setCells g (i*2) vs) :=
    fun i W1 L hi hO1 ty=>zn9 W1 _ 140 ty _ _ _ Tryz.underlying88 hv3 rfl rfl rfl g (i*2) (n - i) (cap - i) (by omega) (fun t ht=>by
     rw [hO1.cellAt _ (by omega),List.getElem?_eq_getElem (by have:=hO1.1;omega)];rfl) (fun t ht=>hO1.frozenAt _)
   have HCL:=Hq hcl;clear ho hO hcl hIi hz0 hz1 hz2 hv3 hn hany hf hp h0 hkb;go_enter Tryz.func145,Tryz.ntmps145;go_wp2_with fail;refine HIX.out.mono ?_;rintro e w1 ⟨rfl,hb⟩;have HG1:Hid (w.grownBy w1 (some g)):=Hq (za9 (zar w _) hb);have HW1:Hid (w1.ownsRow B 140 2 (.slice (some ⟨g,0,none⟩) n cap) n (acells l)):=Hq (own_below HW0.out hb);clear hb;have q0:¬ ((i0:Int) = -1):=by omega
   have q1:((i0:Int) == -1)=false:=by simp
   go_wp2
   go_loopw [5,6] (fun qi qj wr=>∃ (i j:Nat) (L:List At2),qi = .int .i64 i/\qj = .int .i64 j/\i<j/\j<=n/\Hid (L.length=l.length)/\Hid (L.take i=(l.take j).filter (fun x=>!isNm o x))/\Hid (L.drop j=l.drop j)/\Hid (wr.ownsRow B 140 2 (.slice (some ⟨g,0,none⟩) n cap) n (acells L))/\Hid (w.grownBy wr (some g))) (fun _ qj _=>n - (intOf qj).toNat)
   case atStart => exact ⟨i0,i0+1,l,rfl,by go_num,by omega,by omega,Hq rfl,HS,Hq rfl,HW1,HG1⟩
   case round =>
    obtain ⟨i,j,L,rfl,rfl,hij,hjn,HL,HT,HD,HW,HG⟩:=hrel
    by_cases hlt:j<n
    · have j0:(0:Int)<=(j:Int):=by omega
      have j1:(j:Int)<(n:Int):=by omega
      have i1:(0:Int)<=(i:Int):=by omega
      have i2:(i:Int)<(n:Int):=by omega
      have hjl:j<l.length:=by rw [HN.out];exact hlt
      have hjL:j<L.length:=by rw [HL.out];exact hjl
      have hiL:i<L.length:=by omega
      obtain ⟨d0,d1⟩:=zc1 HW.out hlt hjL;have hLj:L[j]=l[j]:=by
       have:=drop_at HD.out;rw [List.getElem?_eq_getElem hjL,List.getElem?_eq_getElem hjl] at this;exact Option.some.inj this
      rw [hLj] at d0 d1;clear hLj;have HR:=Hq (fun (V:World) (h:OpAt V kb o)=>attrDeleted1 kb o l[j].1 l[j].2 V h);have HK1:=Hq (fun (hq:(!isNm o l[j])=true)=>zkw HL.out HT.out hij hjl HD.out hq);have HK2:=Hq (fun (hq:(!isNm o l[j])=false)=>zkx HT.out hjl HD.out hq);have HOr:=Hq (HO.out.grown HG.out HGK.out);generalize l[j]=y at *;obtain ⟨ya,yb⟩:=y;simp only [] at d0 d1 HR;obtain ⟨W,hW⟩:∃ W,W=wr.alloc (.cells #[.string ya,.string yb] 140):=⟨_,rfl⟩;have HWb:Hid (Below wr.heap.size wr W):=Hq (by rw [hW];exact Bq _ _);have HWk:Hid (W.heap[wr.heap.size]? = some (.cells #[.string ya,.string yb] 140 (0,0))):=Hq (by rw [hW];exact heap_alloc_new _ _);go_upto_region 8 with fail
      rw [<- hW];clear hW d0 d1;obtain ⟨b0,b1⟩:=block2 HWk.out;go_wp2_with fail;refine (HR.out W (HOr.out.below HWb.out)).mono ?_;rintro e w2 ⟨rfl,hb⟩;have HW2:Hid (w2.ownsRow B 140 2 (.slice (some ⟨g,0,none⟩) n cap) n (acells L)):=Hq (own_below (own_below HW.out HWb.out) hb);have HG2:=Hq (za9 (za9 HG.out HWb.out) hb);have HWk2:=Hq ((hb.block _ (lt_of_block HWk.out)).trans HWk.out);clear hb b0 b1
      rcases Bool.eq_false_or_eq_true (isNm o (ya,yb)) with hy|hy
      · have HK:=Hq (HK2.out (by rw [hy];rfl));rw [hy];go_wp2;go_roundw
        case rel => exact ⟨i,j+1,L,rfl,by go_num,by omega,by omega,HL,Hq HK.out.1,Hq HK.out.2,HW2,HG2⟩
        case measure => simp [intOf]<;>omega
      · have HK:=Hq (HK1.out (by rw [hy];rfl));rw [hy];obtain ⟨b0,b1⟩:=block2 HWk2.out;obtain ⟨u0,c0⟩:∃ u,w2.cell? ⟨g,i*2,none⟩=some u:=⟨_,(zc1 HW2.out (by omega) hiL).1⟩;obtain ⟨u1,c1⟩:∃ u,w2.cell? ⟨g,i*2+1,none⟩=some u:=⟨_,(zc1 HW2.out (by omega) hiL).2⟩;have z0:w2.frozen? ⟨g,i*2,none⟩=false:=HW2.out.frozenAt _;have z1:w2.frozen? ⟨g,i*2+1,none⟩=false:=HW2.out.frozenAt _;have hs1:=HW2.out.stored (i*2) (.string ya);have hs2:=hs1.1.stored (i*2+1) (.string yb);have HW3:Hid (((w2.setCell ⟨g,i*2,none⟩ (.string ya)).setCell ⟨g,i*2+1,none⟩ (.string yb)).ownsRow B 140 2 (.slice (some ⟨g,0,none⟩) n cap) n (acells (L.set i (ya,yb)))):=Hq (by rw [ze9 _ _ hiL];exact hs2.1);have HG3:=Hq ((HG2.out.trans hs1.2).trans hs2.2);clear hs1 hs2;go_wp2;go_roundw
        case rel => exact ⟨i+1,j+1,L.set i (ya,yb),by go_num,by go_num,by omega,by omega,Hq (by rw [List.length_set];exact HL.out),Hq HK.out.1,Hq HK.out.2,HW3,HG3⟩
        case measure => simp [intOf]<;>omega
    · obtain rfl:j=n:=by omega
      have hin:i<j:=hij;have HC:=Hq (HCL.out i wr L hin HW.out);obtain ⟨vs,hvl,hcl0⟩:=HC.out 88;have hcl:∀ ty,(Builtin.clear_ #[88] ty #[.slice (some ⟨g,i*2,none⟩) (j - i) (cap - i)]).run Tryz.prog wr = .ok (.tuple #[]) (wr.setCells g (i*2) vs):=fun ty=>hcl0
      have HVL:=Hq hvl;clear hcl0 hvl;have e1:(i:Int)<=(j:Int):=by omega
      have e2:(0:Int)<=(i:Int):=by omega
      have e3:¬ (cap=i):=by omega
      have e4:i<=cap:=by omega
      have e5:i<=j:=by omega
      have e6:(i:Int)<=(cap:Int):=by omega
      go_wp2;go_ret;have hT:=HT.out;have hle:(l.take j).filter (fun x=>!isNm o x)=l.filter (fun x=>!isNm o x):=by rw [<- HN.out,List.take_length]
      rw [hle] at hT;have hLl:L.length=j:=by rw [HL.out,HN.out]
      have hlen:(l.filter fun x=>!isNm o x).length=i:=by rw [<- hT,List.length_take];omega
      refine ⟨_,rfl,?_,?_,rfl⟩
      · rw [hlen];have h3:=zts (zjc vs (i*2) wr _ HW.out) (m:=i) (by omega);rw [ze8 _ _ _ (by rw [HVL.out,zb1,hLl];omega),List.append_assoc,List.take_left' (by rw [List.length_take,zb1];omega),zoa,hT] at h3;exact h3
      · exact zbd _ _ _ _ HG.out
 · rw [zb8 hany] at HIX;rw [filter_all hany];have HO:=Hq ho;obtain ⟨n,hn⟩:∃ n,l.length=n:=⟨_,rfl⟩;rw [hn] at HO HIX hnc hl ⊢;clear ho hO hn hany;go_enter Tryz.func145,Tryz.ntmps145;go_wp2_with fail;refine HIX.out.mono ?_;rintro e w1 ⟨rfl,hb⟩;have HB:=Hq hb;clear hb;go_wp2;go_ret;exact ⟨_,rfl,own_below HO.out HB.out,za9 (zar w _) HB.out,rfl⟩
theorem zry (o:Ops.Po) (l:List At2):(l.filter fun x=>!isNm o x)=delA l o.name:=by
 unfold delA;refine List.filter_congr (fun x _=>?_);rw [zhi]
 by_cases h:x.1=o.name<;>simp [h]
theorem zfa (G:List Mn) (i:Nat) (l:List At2) (p:Option Addr) (c:Nat):(setAd i l p c G).map core=(setAt G i l).map core:=by rw [zn1,ze3]
theorem zh9 (base g cap:Nat) (G:List Mn) (o:Ops.Po) (w:World) (h:OF w base (.slice (some ⟨g,0,none⟩) G.length cap) G) (hn:G.length<=1000) (has:∀ m∈G,m.attrs.length<=1000) (i:Nat) (hi:o.id=i) (hil:i<G.length) :
 Calls Tryz.prog 98 #[.slice (some ⟨g,0,none⟩) G.length cap,Ops.opv o] w fun e w'=>e = .returned (.slice (some ⟨g,0,none⟩) G.length cap) /\
  ∃ G',OF w' base (.slice (some ⟨g,0,none⟩) G.length cap) G'/\G'.map core=(setAt G i (delA (attrsOf G i) o.name)).map core/\Chg w w' g G g G':=by
 have hsame:(G[i].attrs.filter fun x=>!isNm o x)=delA (attrsOf G i) o.name:=by rw [zry,zbv hil]
 obtain ⟨kd,id,dst,ps,nm0,tx⟩:=o;unfold Ops.opv;simp only [] at hi hsame ⊢;subst hi;obtain ⟨W,hW⟩:∃ W,W=w.alloc (.cells #[.int .i64 kd,.int .i64 i,.int .i64 dst,.int .i64 ps,.string nm0,.string tx] 59):=⟨_,rfl⟩;have HOp:Hid (OpAt W w.heap.size ⟨kd,i,dst,ps,nm0,tx⟩):=Hq (by rw [hW];exact heap_alloc_new _ _);have HC0:Hid (Chg w W g G g G):=Hq (by rw [hW];exact Chg.alloc _ _ _ _);have HO:=Hq (h.below (by rw [hW];exact Bq _ _:Below w.heap.size w W));have hno:¬ Own g G w.heap.size:=fun e=>by have:=h.own e;omega
 have HNO:=Hq hno;have hkbn:=(h.kb (List.getElem_mem hil) (Nat.le_refl w.heap.size)).2;obtain ⟨kb,hkb⟩:∃ k,k=w.heap.size:=⟨_,rfl⟩;rw [<- hkb] at HOp HNO hkbn;have HOD:Hid (OF W.drew base (.slice (some ⟨g,0,none⟩) G.length cap) G):=Hq (HO.out.below (Below.refl _ _).drew);have HOpD:Hid (OpAt W.drew kb ⟨kd,i,dst,ps,nm0,tx⟩):=HOp;have HCD:Hid (Chg w W.drew g G g G):=Hq (HC0.out.trans ⟨rfl,rfl,rfl,Nat.le_refl _,fun k hk _=>rfl,fun k hk=>.inl hk⟩);obtain ⟨x0,x1,x2,x3,x4,x5⟩:=block6 HOp.out;have y3:=(HO.out.c6 rfl hil).c3;have HD:=Hq (zpz kb ⟨kd,i,dst,ps,nm0,tx⟩ base G[i].attrs (.slice G[i].aA G[i].attrs.length G[i].aC) W.drew HOpD.out (HOD.out.lst _ (List.getElem_mem hil)).at_ (has _ (List.getElem_mem hil)) hkbn);rw [hsame] at HD;have k0:(0:Int)<=(i:Int):=by omega
 have k1:(i:Int)<(G.length:Int):=by omega
 obtain ⟨l',hl'⟩:∃ l,delA (attrsOf G i) nm0=l:=⟨_,rfl⟩;rw [hl'] at HD ⊢;obtain ⟨n,hnn⟩:∃ n,G.length=n:=⟨_,rfl⟩;have HNN:=Hq hnn;have HB:Hid (aB G[i]=(Value.slice G[i].aA G[i].attrs.length G[i].aC).ownBlock):=Hq rfl;have HFIN:=Hq (fun (V:World) (p:Option Addr) (c:Nat) (hg:W.drew.grownBy V (aB G[i])) (hr:V.ownsRow base 140 2 (.slice p l'.length c) l'.length (acells l')) (hb:(Value.slice p l'.length c).ownBlock=aB G[i]\/∀ k,(Value.slice p l'.length c).ownBlock=some k->W.drew.heap.size<=k)=>OF.attrs HOD.out hil hg hr hb);have HROW:=Hq (fun (V:World) (hg:W.drew.grownBy V (aB G[i]))=>zt HOD.out.row (HOD.out.lst _ (List.getElem_mem hil)).at_ (by decide) hg);have HC6:=Hq (fun (V:World) (h:V.ownsRow base 90 6 (.slice (some ⟨g,0,none⟩) G.length cap) G.length (fcells G))=>(zbk h hil).c3);have HKN:Hid (aB G[i]≠some kb):=Hq hkbn;rw [hnn] at k1 hn HFIN HROW HC6 ⊢;have mixed:Tryz.prog.follows Departure.mixedOrders=true:=by kernel_rfl
 generalize (G[i]).attrs.length=al at *;generalize (G[i]).aC=aC at *;generalize (G[i]).aA=aA at *;have HS1:=Hq (show W.drew.cell? ⟨g,i*6+3,none⟩=some (.slice aA al aC)/\W.drew.cell? ⟨kb,1,none⟩=some (.int .i64 i) from ⟨y3,x1⟩);clear h hno hsame hl' hnn hkbn;go_enter Tryz.func98,Tryz.ntmps98;go_upto_region 1 with fail
 rw [<- hW,<- hkb];clear hW hkb x0 x1 x2 x3 x4 x5 y3;refine zat 13 rfl rfl (fun Y:World=>Y.cell? ⟨g,i*6+3,none⟩=some (.slice aA al aC)/\Y.cell? ⟨kb,1,none⟩=some (.int .i64 i)) (by kernel_rfl) (by kernel_rfl) (HS1.out) (fun hHeld=>?_);simp only [List.take_succ_cons,List.take_zero];refine ht (i:=0) (d:=some 5) (v:=?_) ?_ ?_;rotate_left
 · intro w hSw
   try dsimp only at hSw
   first|(go_simp;done)|(go_simp;with_reducible rfl)
 simp only [Act.put,List.setIfInBounds_toArray,List.set_cons_zero,List.set_cons_succ];refine ht (i:=1) (d:=some 6) (v:=?_) ?_ ?_;rotate_left
 · intro w hSw
   try dsimp only at hSw
   first|(go_simp;done)|(go_simp;with_reducible rfl)
 simp only [Act.put,List.setIfInBounds_toArray,List.set_cons_zero,List.set_cons_succ];refine ht (i:=2) (d:=some 7) (v:=?_) ?_ ?_;rotate_left
 · intro w hSw
   try dsimp only at hSw
   first|(go_simp;done)|(go_simp;with_reducible rfl)
 simp only [Act.put,List.setIfInBounds_toArray,List.set_cons_zero,List.set_cons_succ];refine ht (i:=3) (d:=some 8) (v:=?_) ?_ ?_;rotate_left
 · intro w hSw
   try dsimp only at hSw
   first|(go_simp;done)|(go_simp;with_reducible rfl)
 simp only [Act.put,List.setIfInBounds_toArray,List.set_cons_zero,List.set_cons_succ];refine ht (i:=4) (d:=some 9) (v:=?_) ?_ ?_;rotate_left
 · intro w hSw
   try dsimp only at hSw
   first|(go_simp;done)|(go_simp;with_reducible rfl)
 simp only [Act.put,List.setIfInBounds_toArray,List.set_cons_zero,List.set_cons_succ];refine ht (i:=5) (d:=some 10) (v:=?_) ?_ ?_;rotate_left
 · intro w hSw
   try dsimp only at hSw
   first|(go_simp;done)|(go_simp;with_reducible rfl)
 simp only [Act.put,List.setIfInBounds_toArray,List.set_cons_zero,List.set_cons_succ];refine ht (i:=6) (d:=some 11) (v:=?_) ?_ ?_;rotate_left
 · intro w hSw
   try dsimp only at hSw
   first|(go_simp;done)|(go_simp;with_reducible rfl)
 simp only [Act.put,List.setIfInBounds_toArray,List.set_cons_zero,List.set_cons_succ];refine ht (i:=7) (d:=some 12) (v:=?_) ?_ ?_;rotate_left
 · intro w hSw
   try dsimp only at hSw
   first|(go_simp;done)|(go_simp;with_reducible rfl)
 simp only [Act.put,List.setIfInBounds_toArray,List.set_cons_zero,List.set_cons_succ];refine ht (i:=8) (d:=some 13) (v:=?_) ?_ ?_;rotate_left
 · intro w hSw
   try dsimp only at hSw
   first|(go_simp;done)|(go_simp;with_reducible rfl)
 simp only [Act.put,List.setIfInBounds_toArray,List.set_cons_zero,List.set_cons_succ];refine ht (i:=9) (d:=some 14) (v:=?_) ?_ ?_;rotate_left
 · intro w hSw
   try dsimp only at hSw
   first|(go_simp;done)|(go_simp;with_reducible rfl)
 simp only [Act.put,List.setIfInBounds_toArray,List.set_cons_zero,List.set_cons_succ];refine wpAnyH_ready (rs:=[10]) (by kernel_rfl) (by simp) ?_;refine AllReadyH.cons rfl (fun K hK=>?_) AllReadyH.nil;go_simp;refine HD.out.mono ?_;rintro e V ⟨v',rfl,hrow,hgr,hob⟩;obtain ⟨pk,ck,rfl,-,-⟩:=zj hrow;rw [<- HB.out] at hgr hob;have HF:=Hq (HFIN.out V pk ck hgr hrow (.inl hob));have hr3:=HROW.out V hgr;have hop:=block6 (HOpD.out.grown hgr HKN.out);have HS3:=Hq (And.intro (HC6.out V hr3) hop.2.1);have fz5:V.frozen? ⟨g,i*6+3,none⟩=false:=zci hr3;clear hrow hgr hob hr3 hop;refine hK.out _ _ (HS3.out) (fun hHeld2=>?_);clear hK K hHeld;have hHeld:=hHeld2;clear hHeld2
 try simp only [Act.put,List.setIfInBounds_toArray,List.set_cons_zero,List.set_cons_succ]
 refine ht (i:=11) (d:=some 16) (v:=?_) ?_ ?_;rotate_left
 · intro w hSw
   try dsimp only at hSw
   first|(go_simp;done)|(go_simp;with_reducible rfl)
 simp only [Act.put,List.setIfInBounds_toArray,List.set_cons_zero,List.set_cons_succ];refine ht (i:=12) (d:=some 17) (v:=?_) ?_ ?_;rotate_left
 · intro w hSw
   try dsimp only at hSw
   first|(go_simp;done)|(go_simp;with_reducible rfl)
 simp only [Act.put,List.setIfInBounds_toArray,List.set_cons_zero,List.set_cons_succ];refine wpAnyH_done (by kernel_rfl) ?_ _;clear hHeld;show wpList _ _ _ [_] _ _;have z5:=HS3.out.1;go_wp2;go_ret;exact ⟨rfl,setAd i l' pk ck G,HF.out.1,zfa _ _ _ _ _,HCD.out.trans HF.out.2⟩
theorem zrz {l:List Value} {k:Nat} {x:Value} (h:l[k]? = some x):l.set k x=l:=by
 refine List.ext_getElem? fun i=>?_
 rw [List.getElem?_set]
 split
 · rename_i e
   subst e
   split
   · exact h.symm
   · rename_i hx
     rw [List.getElem?_eq_none (by omega)] at h;cases h
 · rfl
theorem zmf (base g cap:Nat) (G:List Mn) (o:Ops.Po) (w:World) (h:OF w base (.slice (some ⟨g,0,none⟩) G.length cap) G) (hn:G.length<=1000) (has:∀ m∈G,m.attrs.length<=1000) (i:Nat) (hi:o.id=i) (hil:i<G.length) :
 Calls Tryz.prog 95 #[.slice (some ⟨g,0,none⟩) G.length cap,Ops.opv o] w fun e w'=>e = .returned (.slice (some ⟨g,0,none⟩) G.length cap) /\
  ∃ G',OF w' base (.slice (some ⟨g,0,none⟩) G.length cap) G'/\G'.map core=(setAt G i (setA (attrsOf G i) o.name o.text)).map core/\Chg w w' g G g G':=by
 have HPL:=Hq (fun (V:World) (hO:OF V base (.slice (some ⟨g,0,none⟩) G.length cap) G)=>zdz (some ⟨g,0,none⟩) G cap o V hO.fr hn has i hi hil);have hfs:=zpr o (attrsOf G i);rw [hfs] at HPL;clear hfs;obtain ⟨kd,id,dst,ps,nm0,tx⟩:=o;unfold Ops.opv at *;simp only [] at hi HPL ⊢;subst hi;obtain ⟨W0,hW⟩:∃ W,W=w.alloc (.cells #[.int .i64 kd,.int .i64 i,.int .i64 dst,.int .i64 ps,.string nm0,.string tx] 59):=⟨_,rfl⟩;have HOp0:Hid (OpAt W0 w.heap.size ⟨kd,i,dst,ps,nm0,tx⟩):=Hq (by rw [hW];exact heap_alloc_new _ _);have HC00:Hid (Chg w W0 g G g G):=Hq (by rw [hW];exact Chg.alloc _ _ _ _);have HO0:=Hq (h.below (by rw [hW];exact Bq _ _:Below w.heap.size w W0));have hno:¬ Own g G w.heap.size:=fun e=>by have:=h.own e;omega
 have HNO:=Hq hno;have hkbn:=(h.kb (List.getElem_mem hil) (Nat.le_refl w.heap.size)).2;obtain ⟨kb,hkb⟩:∃ k,k=w.heap.size:=⟨_,rfl⟩;rw [<- hkb] at HOp0 HNO hkbn;have HHAS:=Hq (has _ (List.getElem_mem hil));obtain ⟨x0,x1,x2,x3,x4,x5⟩:=block6 HOp0.out;have k0:(0:Int)<=(i:Int):=by omega
 have k1:(i:Int)<(G.length:Int):=by omega
 have mixed:Tryz.prog.follows Departure.mixedOrders=true:=by kernel_rfl
 have HAO:Hid (attrsOf G i=G[i].attrs):=Hq (zbv hil);obtain ⟨n,hnn⟩:∃ n,G.length=n:=⟨_,rfl⟩;have HNN:=Hq hnn;rw [hnn] at k1 hn HPL HO0 ⊢;clear h hno hnn;go_enter Tryz.func95,Tryz.ntmps95;go_upto_region 1 with fail
 rw [<- hW,<- hkb];clear hW hkb;go_wp2_with fail;refine (HPL.out W0 HO0.out).mono ?_;rintro e W ⟨rfl,hb⟩;have HO:=Hq (HO0.out.below hb);have HOp:=Hq (HOp0.out.below hb);have HC0:Hid (Chg w W g G g G):=Hq (HC00.out.trans ⟨hb.os,hb.tape,hb.output,hb.size,fun k hk _=>hb.block k hk,fun k hk=>.inl hk⟩);clear hb x0 x1 x2 x3 x4 x5;obtain ⟨x0,x1,x2,x3,x4,x5⟩:=block6 HOp.out;have hnG:n=G.length:=HNN.out.symm;have y3:=(HO.out.c6 hnG hil).c3;have HOD:Hid (OF W.drew base (.slice (some ⟨g,0,none⟩) G.length cap) G):=Hq (by rw [<- hnG];exact HO.out.below (Below.refl _ _).drew);have HOpD:Hid (OpAt W.drew kb ⟨kd,i,dst,ps,nm0,tx⟩):=HOp;have HCD:Hid (Chg w W.drew g G g G):=Hq (HC0.out.trans ⟨rfl,rfl,rfl,Nat.le_refl _,fun k hk _=>rfl,fun k hk=>.inl hk⟩);clear hnG;have HB:Hid (aB G[i]=(Value.slice G[i].aA G[i].attrs.length G[i].aC).ownBlock):=Hq rfl;have HKN:Hid (aB G[i]≠some kb):=Hq hkbn;have HLR:=Hq ((HOD.out.lst _ (List.getElem_mem hil)).at_);have HRW:=Hq HOD.out.row
 rcases Bool.eq_false_or_eq_true (hasA (attrsOf G i) nm0) with hh|hh
 · rw [hh,if_pos rfl];have hset:setA (attrsOf G i) nm0 tx=(attrsOf G i).set (placeA (attrsOf G i) nm0) (nm0,tx):=by unfold setA;rw [if_pos hh]
   obtain ⟨hp,hpn⟩:=zi4 hh;obtain ⟨p,hpe⟩:∃ p,placeA (attrsOf G i) nm0=p:=⟨_,rfl⟩;simp only [hpe] at hp hpn hset ⊢;obtain ⟨ga,hga⟩:∃ ga,G[i].aA=some ⟨ga,0,none⟩:=by
    have:=HLR.out
    rcases this.2 with ⟨-,h'⟩|⟨ga,c,cur,hv,-⟩
    · rw [HAO.out] at hp;omega
    · exact ⟨ga,(Value.slice.inj hv).1⟩
   have hpl:p<G[i].attrs.length:=by rw [<- HAO.out];exact hp
   have HCA:Hid (∃ u,W.drew.cell? ⟨ga,p*2+1,none⟩=some u):=Hq ⟨_,(zc1 (i:=p) (by have:=HLR.out;rw [hga] at this;exact this) hpl hpl).2⟩;have HFZ:Hid (W.drew.frozen? ⟨ga,p*2+1,none⟩=false):=Hq (by have:=HLR.out;rw [hga] at this;exact this.frozenAt _);have HEQ:Hid (acells ((attrsOf G i).set p (nm0,tx))=(acells G[i].attrs).set (p*2+1) (.string tx)):=Hq (by
    have hpn':G[i].attrs[p].1=nm0:=by
     rw [<- hpn];simp only [HAO.out]
    rw [HAO.out,ze9 _ _ hpl,zrz (x:=.string nm0)];rw [(zb7 hpl).1,getD_at default hpl,hpn'])
   have HF:=Hq (OF.attr (ga:=ga) (l:=(attrsOf G i).set p (nm0,tx)) (o:=p*2+1) (u:=.string tx) HOD.out hil hga (by rw [List.length_set,HAO.out]) HEQ.out);have p0:(0:Int)<=(p:Int):=by omega
   have p1:(p:Int)<(G[i].attrs.length:Int):=by omega
   have hgk:kb≠ga:=fun e=>HKN.out (by unfold aB;rw [hga,e];rfl)
   have HGK:=Hq hgk;rw [hga] at y3;obtain ⟨l',hl'⟩:∃ l,(attrsOf G i).set p (nm0,tx)=l:=⟨_,rfl⟩;rw [hl'] at HF;have HSET:Hid (setA (attrsOf G i) nm0 tx=l'):=Hq (by rw [hset,hl']);clear hl' hset hp hpn hpe hpl hga hgk hkbn hh;generalize (G[i]).attrs.length=al at *;obtain ⟨aC',haC⟩:∃ c,G[i].aC=c:=⟨_,rfl⟩;rw [haC] at y3;have HS1:=Hq (show W.drew.cell? ⟨g,i*6+3,none⟩=some (.slice (some ⟨ga,0,none⟩) al aC')/\W.drew.cell? ⟨kb,1,none⟩=some (.int .i64 i)/\W.drew.cell? ⟨kb,5,none⟩=some (.string tx) from ⟨y3,x1,x5⟩);clear haC x0 x1 x2 x3 x4 x5 y3;go_upto_region 3 with fail
   refine zat 11 rfl rfl (fun Y:World=>Y.cell? ⟨g,i*6+3,none⟩=some (.slice (some ⟨ga,0,none⟩) al aC')/\Y.cell? ⟨kb,1,none⟩=some (.int .i64 i)/\Y.cell? ⟨kb,5,none⟩=some (.string tx)) (by kernel_rfl) (by kernel_rfl) (HS1.out) (fun hHeld=>?_);simp only [List.take_succ_cons,List.take_zero];refine ht (i:=0) (d:=some 11) (v:=?_) ?_ ?_;rotate_left
   · intro w hSw
     try dsimp only at hSw
     first|(go_simp;done)|(go_simp;with_reducible rfl)
   simp only [Act.put,List.setIfInBounds_toArray,List.set_cons_zero,List.set_cons_succ];refine ht (i:=1) (d:=some 12) (v:=?_) ?_ ?_;rotate_left
   · intro w hSw
     try dsimp only at hSw
     first|(go_simp;done)|(go_simp;with_reducible rfl)
   simp only [Act.put,List.setIfInBounds_toArray,List.set_cons_zero,List.set_cons_succ];refine ht (i:=2) (d:=some 13) (v:=?_) ?_ ?_;rotate_left
   · intro w hSw
     try dsimp only at hSw
     first|(go_simp;done)|(go_simp;with_reducible rfl)
   simp only [Act.put,List.setIfInBounds_toArray,List.set_cons_zero,List.set_cons_succ];refine ht (i:=3) (d:=some 14) (v:=?_) ?_ ?_;rotate_left
   · intro w hSw
     try dsimp only at hSw
     first|(go_simp;done)|(go_simp;with_reducible rfl)
   simp only [Act.put,List.setIfInBounds_toArray,List.set_cons_zero,List.set_cons_succ];refine ht (i:=4) (d:=some 15) (v:=?_) ?_ ?_;rotate_left
   · intro w hSw
     try dsimp only at hSw
     first|(go_simp;done)|(go_simp;with_reducible rfl)
   simp only [Act.put,List.setIfInBounds_toArray,List.set_cons_zero,List.set_cons_succ];refine ht (i:=5) (d:=some 16) (v:=?_) ?_ ?_;rotate_left
   · intro w hSw
     try dsimp only at hSw
     first|(go_simp;done)|(go_simp;with_reducible rfl)
   simp only [Act.put,List.setIfInBounds_toArray,List.set_cons_zero,List.set_cons_succ];refine ht (i:=6) (d:=some 17) (v:=?_) ?_ ?_;rotate_left
   · intro w hSw
     try dsimp only at hSw
     first|(go_simp;done)|(go_simp;with_reducible rfl)
   simp only [Act.put,List.setIfInBounds_toArray,List.set_cons_zero,List.set_cons_succ];refine ht (i:=7) (d:=some 18) (v:=?_) ?_ ?_;rotate_left
   · intro w hSw
     try dsimp only at hSw
     first|(go_simp;done)|(go_simp;with_reducible rfl)
   simp only [Act.put,List.setIfInBounds_toArray,List.set_cons_zero,List.set_cons_succ];refine ht (i:=8) (d:=some 19) (v:=?_) ?_ ?_;rotate_left
   · intro w hSw
     try dsimp only at hSw
     first|(go_simp;done)|(go_simp;with_reducible rfl)
   simp only [Act.put,List.setIfInBounds_toArray,List.set_cons_zero,List.set_cons_succ];refine ht (i:=9) (d:=some 20) (v:=?_) ?_ ?_;rotate_left
   · intro w hSw
     try dsimp only at hSw
     first|(go_simp;done)|(go_simp;with_reducible rfl)
   simp only [Act.put,List.setIfInBounds_toArray,List.set_cons_zero,List.set_cons_succ];refine ht (i:=10) (d:=some 21) (v:=?_) ?_ ?_;rotate_left
   · intro w hSw
     try dsimp only at hSw
     first|(go_simp;done)|(go_simp;with_reducible rfl)
   simp only [Act.put,List.setIfInBounds_toArray,List.set_cons_zero,List.set_cons_succ];refine wpAnyH_done (by kernel_rfl) ?_ _;clear hHeld;show wpList _ _ _ [_] _ _;obtain ⟨old5,z5⟩:=HCA.out;have fz5:=HFZ.out;go_wp2;go_ret;rw [<- HNN.out];exact ⟨rfl,setAd i l' G[i].aA G[i].aC G,HF.out.1,by rw [HSET.out];exact zfa _ _ _ _ _,HCD.out.trans HF.out.2⟩
 · rw [hh,if_neg (by simp)];have hset:setA (attrsOf G i) nm0 tx=G[i].attrs++[(nm0,tx)]:=by unfold setA;rw [if_neg (by simp [hh]),HAO.out]
   obtain ⟨i1,hJ1,hJ2,hJ3,hJ4⟩:=info_parts zgq;have HJ:=Hq (And.intro hJ1 (And.intro hJ2 (And.intro hJ3 hJ4)));obtain ⟨X,hX0⟩:∃ X,X=(W.alloc (.cells #[.string nm0,.string tx] 140)).drew:=⟨_,rfl⟩;have hX:X=W.drew.alloc (.cells #[.string nm0,.string tx] 140):=by rw [hX0];rfl
   have HOX:Hid (OF X base (.slice (some ⟨g,0,none⟩) G.length cap) G):=Hq (by rw [hX];exact HOD.out.below (Bq _ _));have HCX:Hid (Chg w X g G g G):=Hq (by rw [hX];exact HCD.out.trans (Chg.alloc _ _ _ _));have HFIN:=Hq (fun (V:World) (p:Option Addr) (c:Nat) (hg:X.grownBy V (aB G[i])) (hr:V.ownsRow base 140 2 (.slice p (G[i].attrs++[(nm0,tx)]).length c) (G[i].attrs++[(nm0,tx)]).length (acells (G[i].attrs++[(nm0,tx)]))) (hb:(Value.slice p (G[i].attrs++[(nm0,tx)]).length c).ownBlock=aB G[i]\/∀ k,(Value.slice p (G[i].attrs++[(nm0,tx)]).length c).ownBlock=some k->X.heap.size<=k)=>OF.attrs HOX.out hil hg hr hb);have HROW:=Hq (fun (V:World) (hg:X.grownBy V (aB G[i]))=>zt HOX.out.row (HOX.out.lst _ (List.getElem_mem hil)).at_ (by decide) hg);have HC6:=Hq (fun (V:World) (h:V.ownsRow base 90 6 (.slice (some ⟨g,0,none⟩) G.length cap) G.length (fcells G))=>(zbk h hil).c3);have HLX:Hid (X.ownsRow base 140 2 (.slice G[i].aA G[i].attrs.length G[i].aC) G[i].attrs.length (acells G[i].attrs)):=Hq ((HOX.out.lst _ (List.getElem_mem hil)).at_);have HOpX:Hid (OpAt X kb ⟨kd,i,dst,ps,nm0,tx⟩):=Hq (by rw [hX];exact HOpD.out.below (Bq _ _));have HAL:Hid ((G[i].attrs++[(nm0,tx)]).length=G[i].attrs.length+1/\acells (G[i].attrs++[(nm0,tx)])=acells G[i].attrs++at2 (nm0,tx)):=Hq ⟨by simp,by simp [acells]⟩;have HSZ:=Hq (HOX.out.size);rw [HAL.out.1,HAL.out.2] at HFIN;have hal:=HHAS.out;have HXe:=Hq hX;obtain ⟨l',hl'⟩:∃ l,G[i].attrs++[(nm0,tx)]=l:=⟨_,rfl⟩;rw [hl'] at HFIN HAL;have HSET:Hid (setA (attrsOf G i) nm0 tx=l'):=Hq (by rw [hset,hl']);have x1':X.cell? ⟨kb,1,none⟩=some (.int .i64 i):=by rw [hX];exact Lib.cell?_alloc_some _ x1
   have x4':X.cell? ⟨kb,4,none⟩=some (.string nm0):=by rw [hX];exact Lib.cell?_alloc_some _ x4
   have x5':X.cell? ⟨kb,5,none⟩=some (.string tx):=by rw [hX];exact Lib.cell?_alloc_some _ x5
   have y3':X.cell? ⟨g,i*6+3,none⟩=some (.slice G[i].aA G[i].attrs.length G[i].aC):=by rw [hX];exact Lib.cell?_alloc_some _ y3
   have HXN:Hid (∀ j u,(at2 (nm0,tx))[j]? = some u->X.cell? ((⟨W.heap.size,0,none⟩:Addr).add j)=some u):=Hq (by rw [hX];exact ziq W.drew (nm0,tx) _);clear hl' hset hkbn hh hJ1 hJ2 hJ3 hJ4;generalize acells (G[i]).attrs=ac at *;generalize (G[i]).attrs.length=al at *;generalize (G[i]).aC=aC at *;generalize (G[i]).aA=aA at *;have HS1:=Hq (show W.drew.cell? ⟨g,i*6+3,none⟩=some (.slice aA al aC)/\W.drew.cell? ⟨kb,1,none⟩=some (.int .i64 i)/\W.drew.cell? ⟨kb,4,none⟩=some (.string nm0)/\W.drew.cell? ⟨kb,5,none⟩=some (.string tx) from ⟨y3,x1,x4,x5⟩);have HS2:=Hq (And.intro y3' (And.intro x1' (And.intro x4' x5')));clear x0 x1 x2 x3 x4 x5 y3 x1' x4' x5' y3';go_upto_region 4 with fail
   refine zat 18 rfl rfl (fun Y:World=>Y.cell? ⟨g,i*6+3,none⟩=some (.slice aA al aC)/\Y.cell? ⟨kb,1,none⟩=some (.int .i64 i)/\Y.cell? ⟨kb,4,none⟩=some (.string nm0)/\Y.cell? ⟨kb,5,none⟩=some (.string tx)) (by kernel_rfl) (by kernel_rfl) (HS1.out) (fun hHeld=>?_);simp only [List.take_succ_cons,List.take_zero];refine ht (i:=0) (d:=some 22) (v:=?_) ?_ ?_;rotate_left
   · intro w hSw
     try dsimp only at hSw
     first|(go_simp;done)|(go_simp;with_reducible rfl)
   simp only [Act.put,List.setIfInBounds_toArray,List.set_cons_zero,List.set_cons_succ];refine ht (i:=1) (d:=some 23) (v:=?_) ?_ ?_;rotate_left
   · intro w hSw
     try dsimp only at hSw
     first|(go_simp;done)|(go_simp;with_reducible rfl)
   simp only [Act.put,List.setIfInBounds_toArray,List.set_cons_zero,List.set_cons_succ];refine ht (i:=2) (d:=some 24) (v:=?_) ?_ ?_;rotate_left
   · intro w hSw
     try dsimp only at hSw
     first|(go_simp;done)|(go_simp;with_reducible rfl)
   simp only [Act.put,List.setIfInBounds_toArray,List.set_cons_zero,List.set_cons_succ];refine ht (i:=3) (d:=some 25) (v:=?_) ?_ ?_;rotate_left
   · intro w hSw
     try dsimp only at hSw
     first|(go_simp;done)|(go_simp;with_reducible rfl)
   simp only [Act.put,List.setIfInBounds_toArray,List.set_cons_zero,List.set_cons_succ];refine ht (i:=4) (d:=some 26) (v:=?_) ?_ ?_;rotate_left
   · intro w hSw
     try dsimp only at hSw
     first|(go_simp;done)|(go_simp;with_reducible rfl)
   simp only [Act.put,List.setIfInBounds_toArray,List.set_cons_zero,List.set_cons_succ];refine ht (i:=5) (d:=some 27) (v:=?_) ?_ ?_;rotate_left
   · intro w hSw
     try dsimp only at hSw
     first|(go_simp;done)|(go_simp;with_reducible rfl)
   simp only [Act.put,List.setIfInBounds_toArray,List.set_cons_zero,List.set_cons_succ];refine ht (i:=6) (d:=some 28) (v:=?_) ?_ ?_;rotate_left
   · intro w hSw
     try dsimp only at hSw
     first|(go_simp;done)|(go_simp;with_reducible rfl)
   simp only [Act.put,List.setIfInBounds_toArray,List.set_cons_zero,List.set_cons_succ];refine ht (i:=7) (d:=some 29) (v:=?_) ?_ ?_;rotate_left
   · intro w hSw
     try dsimp only at hSw
     first|(go_simp;done)|(go_simp;with_reducible rfl)
   simp only [Act.put,List.setIfInBounds_toArray,List.set_cons_zero,List.set_cons_succ];refine ht (i:=8) (d:=some 30) (v:=?_) ?_ ?_;rotate_left
   · intro w hSw
     try dsimp only at hSw
     first|(go_simp;done)|(go_simp;with_reducible rfl)
   simp only [Act.put,List.setIfInBounds_toArray,List.set_cons_zero,List.set_cons_succ];refine ht (i:=9) (d:=some 31) (v:=?_) ?_ ?_;rotate_left
   · intro w hSw
     try dsimp only at hSw
     first|(go_simp;done)|(go_simp;with_reducible rfl)
   simp only [Act.put,List.setIfInBounds_toArray,List.set_cons_zero,List.set_cons_succ];refine ht (i:=10) (d:=some 32) (v:=?_) ?_ ?_;rotate_left
   · intro w hSw
     try dsimp only at hSw
     first|(go_simp;done)|(go_simp;with_reducible rfl)
   simp only [Act.put,List.setIfInBounds_toArray,List.set_cons_zero,List.set_cons_succ];refine ht (i:=11) (d:=some 33) (v:=?_) ?_ ?_;rotate_left
   · intro w hSw
     try dsimp only at hSw
     first|(go_simp;done)|(go_simp;with_reducible rfl)
   simp only [Act.put,List.setIfInBounds_toArray,List.set_cons_zero,List.set_cons_succ];refine ht (i:=12) (d:=some 34) (v:=?_) ?_ ?_;rotate_left
   · intro w hSw
     try dsimp only at hSw
     first|(go_simp;done)|(go_simp;with_reducible rfl)
   simp only [Act.put,List.setIfInBounds_toArray,List.set_cons_zero,List.set_cons_succ];refine ht (i:=13) (d:=some 35) (v:=?_) ?_ ?_;rotate_left
   · intro w hSw
     try dsimp only at hSw
     first|(go_simp;done)|(go_simp;with_reducible rfl)
   simp only [Act.put,List.setIfInBounds_toArray,List.set_cons_zero,List.set_cons_succ];refine wpAnyH_ready (rs:=[14]) (by kernel_rfl) (by simp) ?_;refine AllReadyH.cons rfl (fun K hK=>?_) AllReadyH.nil;go_simp;refine hK.out _ _ (by rw [<- hX0];exact HS2.out) (fun hHeld2=>?_);rw [<- hX0] at hHeld2 ⊢;clear hK K hHeld hX hX0;have hHeld:=hHeld2;clear hHeld2
   try simp only [Act.put,List.setIfInBounds_toArray,List.set_cons_zero,List.set_cons_succ]
   refine wpAnyH_ready (rs:=[15]) (by kernel_rfl) (by simp) ?_;refine AllReadyH.cons rfl (fun K hK=>?_) AllReadyH.nil;refine zdo rfl (.tmp 30) (.tmp 36) 88 rfl base 140 i1 (.agg #[.string ⟨#[]⟩,.string ⟨#[]⟩]) 2 32 Tryz.underlying88 HJ.out.1 HJ.out.2.1 HJ.out.2.2.1 HJ.out.2.2.2 rfl (by decide) (.slice aA al aC) al ac (by simp [Act.eval]) HLX.out ⟨W.heap.size,0,none⟩ 1 1 (at2 (nm0,tx)) (by simp [Act.eval]) rfl HXN.out (fun u hu=>zhz [(nm0,tx)] u (by simpa [acells] using hu)) (by unfold maxLen;omega) (by omega) HSZ.out ?_;intro v' V hrow hgr hob;obtain ⟨pk,ck,rfl,-,-⟩:=zj hrow;rw [<- HB.out] at hgr hob;have HF:=Hq (HFIN.out V pk ck hgr hrow (hob.imp_right fun e k hk=>by rw [e] at hk;exact Nat.le_of_eq (Option.some.inj hk)));have hr3:=HROW.out V hgr;have hop:=block6 (HOpX.out.grown hgr HKN.out);have HS3:=Hq (And.intro (HC6.out V hr3) (And.intro hop.2.1 (And.intro hop.2.2.2.2.1 hop.2.2.2.2.2)));have fz5:V.frozen? ⟨g,i*6+3,none⟩=false:=zci hr3;clear hrow hgr hob hr3 hop;refine hK.out _ _ (HS3.out) (fun hHeld2=>?_);clear hK K hHeld;have hHeld:=hHeld2;clear hHeld2
   try simp only [Act.put,List.setIfInBounds_toArray,List.set_cons_zero,List.set_cons_succ]
   refine ht (i:=16) (d:=some 38) (v:=?_) ?_ ?_;rotate_left
   · intro w hSw
     try dsimp only at hSw
     first|(go_simp;done)|(go_simp;with_reducible rfl)
   simp only [Act.put,List.setIfInBounds_toArray,List.set_cons_zero,List.set_cons_succ];refine ht (i:=17) (d:=some 39) (v:=?_) ?_ ?_;rotate_left
   · intro w hSw
     try dsimp only at hSw
     first|(go_simp;done)|(go_simp;with_reducible rfl)
   simp only [Act.put,List.setIfInBounds_toArray,List.set_cons_zero,List.set_cons_succ];refine wpAnyH_done (by kernel_rfl) ?_ _;clear hHeld;show wpList _ _ _ [_] _ _;have z5:=HS3.out.1;go_wp2;go_ret;rw [<- HNN.out];exact ⟨rfl,setAd i l' pk ck G,HF.out.1,by rw [HSET.out];exact zfa _ _ _ _ _,HCX.out.trans HF.out.2⟩
theorem cells6 (w:World) (g:Nat) (a b c d e f:Value) (t:TypeId) (h:w.heap[g]? = some (.cells #[a,b,c,d,e,f] t (0,0))):∀ j u,[a,b,c,d,e,f][j]? = some u->w.cell? ((⟨g,0,none⟩:Addr).add j)=some u:=by
 intro j u hu;rw [add_plain,Nat.zero_add];obtain ⟨x0,x1,x2,x3,x4,x5⟩:=block6 h
 match j,hu with
 | 0,hu=>cases hu;exact x0
 | 1,hu=>cases hu;exact x1
 | 2,hu=>cases hu;exact x2
 | 3,hu=>cases hu;exact x3
 | 4,hu=>cases hu;exact x4
 | 5,hu=>cases hu;exact x5
 | j+6,hu=>simp at hu
theorem OF.add {w V:World} {base g cap:Nat} {G:List Mn} (h:OF w base (.slice (some ⟨g,0,none⟩) G.length cap) G) {g' cap':Nat} {k:Int} {a b:ByteArray} (hk:I64 k) (hg:w.grownBy V (some g))
 (hr:V.ownsRow base 90 6 (.slice (some ⟨g',0,none⟩) (G.length+1) cap') (G.length+1) (fcells G++ncells (newN k a b))) (hb:g'=g\/w.heap.size<=g') :
 OF V base (.slice (some ⟨g',0,none⟩) (G.length+1) cap') (G++[newN k a b])/\Chg w V g G g' (G++[newN k a b]):=by
 have e:fcells G++ncells (newN k a b)=fcells (G++[newN k a b]):=(zgw).symm;rw [e] at hr;have hl:(G++[newN k a b]).length=G.length+1:=by simp
 have hnil:∀ m,m=newN k a b->aB m=none/\kB m=none:=fun m hm=>by rw [hm];exact ⟨rfl,rfl⟩
 have at1:∀ (i:Nat) m,(G++[newN k a b])[i]? = some m->G[i]? = some m\/m=newN k a b:=fun i m hm=>by
  rw [List.getElem?_append] at hm
  split at hm
  · exact .inl hm
  · have:=List.mem_of_getElem? hm;rw [List.mem_singleton] at this;exact .inr this
 refine ⟨⟨by rw [hl];exact hr,fun m hm=>?_,fun m hm=>?_,fun i j m n h1 h2 hij=>?_,fun i j m n h1 h2 hij=>?_⟩,Chg.grown hg (fun x e=>.inl (Option.some.inj e).symm) (fun x hx=>?_)⟩
 · rcases List.mem_append.1 hm with hm|hm
   · exact h.fit m hm
   · rw [List.mem_singleton] at hm;rw [hm];exact ⟨hk,by simp [newN,I64],by simp [newN],by simp [newN],by simp [newN]⟩
 · rcases List.mem_append.1 hm with hm|hm
   · have hl:=h.lst m hm;exact ⟨zt hl.at_ h.row (by decide) hg,zt hl.ki h.row (by decide) hg⟩
   · rw [List.mem_singleton] at hm;rw [hm];exact ⟨World.ownsRow_nil _ _ _ _,World.ownsRow_nil _ _ _ _⟩
 · rcases at1 i m h1 with e1|e1
   · rcases at1 j n h2 with e2|e2
     · exact h.apA i j m n e1 e2 hij
     · rw [(hnil n e2).1];cases aB m<;>simp
   · exact .inl (hnil m e1).1
 · rcases at1 i m h1 with e1|e1
   · rcases at1 j n h2 with e2|e2
     · exact h.apK i j m n e1 e2 hij
     · rw [(hnil n e2).2];cases kB m<;>simp
   · exact .inl (hnil m e1).2
 · rcases hx with rfl|⟨m,hm,e⟩
   · rcases hb with rfl|hb
     · exact .inl (.inl rfl)
     · exact .inr hb
   · rcases List.mem_append.1 hm with hm|hm
     · exact .inl (.inr ⟨m,hm,e⟩)
     · rw [List.mem_singleton] at hm;rw [(hnil m hm).1,(hnil m hm).2] at e
       rcases e with e|e<;>cases e
theorem zfb (kx:Nat) (k:Int) (base g cap:Nat) (G:List Mn) (o:Ops.Po) (w:World) (h:OF w base (.slice (some ⟨g,0,none⟩) G.length cap) G) (hn:G.length<=1000) (hkx:w.heap[kx]? = some (.cells #[.int .i64 k] 3 (0,0))) (hk:I64 k) :
 Calls Tryz.prog 134 #[.slice (some ⟨g,0,none⟩) G.length cap,Ops.opv o,.pointer (some ⟨kx,0,none⟩)] w fun e w'=>∃ g' cap',e = .returned (.slice (some ⟨g',0,none⟩) (G.length+1) cap') /\
  OF w' base (.slice (some ⟨g',0,none⟩) (G.length+1) cap') (addP G k o.name o.text)/\Chg w w' g G g' (addP G k o.name o.text):=by
 obtain ⟨kd,id,dst,ps,nm0,tx⟩:=o;unfold Ops.opv addP;simp only [];obtain ⟨i0,hJ1,hJ2,hJ3,hJ4⟩:=info_parts zgr;have HJ:=Hq (And.intro hJ1 (And.intro hJ2 (And.intro hJ3 hJ4)));obtain ⟨W,hW⟩:∃ W,W=w.alloc (.cells #[.int .i64 kd,.int .i64 id,.int .i64 dst,.int .i64 ps,.string nm0,.string tx] 59):=⟨_,rfl⟩;have HOp:Hid (OpAt W w.heap.size ⟨kd,id,dst,ps,nm0,tx⟩):=Hq (by rw [hW];exact heap_alloc_new _ _);have HC0:Hid (Chg w W g G g G):=Hq (by rw [hW];exact Chg.alloc _ _ _ _);have HO:=Hq (h.below (by rw [hW];exact Bq _ _:Below w.heap.size w W));have z0:W.cell? ⟨kx,0,none⟩=some (.int .i64 k):=by rw [hW];exact Lib.cell?_alloc_some _ (block1 hkx)
 obtain ⟨x0,x1,x2,x3,x4,x5⟩:=block6 HOp.out;have HX:Hid (OF (W.alloc (.cells #[.int .i64 k,.string nm0,.string tx,.slice none 0 0,.int .i64 (-1),.slice none 0 0] 90)) base (.slice (some ⟨g,0,none⟩) G.length cap) G):=Hq (HO.out.below (Bq _ _));have HFIN:=Hq (fun (V:World) (g' cap':Nat) (hg:(W.alloc (.cells #[.int .i64 k,.string nm0,.string tx,.slice none 0 0,.int .i64 (-1),.slice none 0 0] 90)).grownBy V (some g)) (hr:V.ownsRow base 90 6 (.slice (some ⟨g',0,none⟩) (G.length+1) cap') (G.length+1) (fcells G++ncells (newN k nm0 tx))) (hb:g'=g\/(W.alloc (.cells #[.int .i64 k,.string nm0,.string tx,.slice none 0 0,.int .i64 (-1),.slice none 0 0] 90)).heap.size<=g')=>OF.add (k:=k) (a:=nm0) (b:=tx) HX.out hk hg hr hb);have HXR:=Hq HX.out.row;have HXS:=Hq HX.out.size;obtain ⟨n,hnn⟩:∃ n,G.length=n:=⟨_,rfl⟩;have HNN:=Hq hnn;rw [hnn] at hn HFIN HXR ⊢;clear h hkx hnn hJ1 hJ2 hJ3 hJ4;generalize fcells G=xs at *;have HXC:Hid (∀ j u,[Value.int .i64 k,.string nm0,.string tx,.slice none 0 0,.int .i64 (-1),.slice none 0 0][j]? = some u->(W.alloc (.cells #[.int .i64 k,.string nm0,.string tx,.slice none 0 0,.int .i64 (-1),.slice none 0 0] 90)).cell? ((⟨W.heap.size,0,none⟩:Addr).add j)=some u):=Hq (cells6 _ _ _ _ _ _ _ _ _ (heap_alloc_new W _));go_enter Tryz.func134,Tryz.ntmps134;go_upto_region 1 with fail
 rw [<- hW];clear hW
 go_wp2_with (at_builtin;refine wpList_append_own_at _ rfl _ _ 61 rfl base 90 i0 (.agg #[.int .i64 0,.string ⟨#[]⟩,.string ⟨#[]⟩,.slice none 0 0,.int .i64 0,.slice none 0 0]) 6 96 Tryz.underlying61 HJ.out.1 HJ.out.2.1 HJ.out.2.2.1 HJ.out.2.2.2 rfl (by decide) _ _ _ rfl HXR.out ⟨W.heap.size,0,none⟩ 1 1 [.int .i64 k,.string nm0,.string tx,.slice none 0 0,.int .i64 (-1),.slice none 0 0] rfl rfl HXC.out (fun u hu=>by simp only [List.mem_cons,List.not_mem_nil,or_false] at hu;rcases hu with rfl|rfl|rfl|rfl|rfl|rfl<;>rfl) (by unfold maxLen;omega) (by omega) HXS.out ?_;intro v' V hown' hgrow _ hat;have HO':=Hq hown';have HGR:=Hq hgrow;have HAT:=Hq hat;clear hown' hgrow hat)
 go_ret;obtain ⟨g',cap',rfl⟩:∃ g' cap',v' = .slice (some ⟨g',0,none⟩) (n+1) cap':=by
  rcases HO'.out.2 with ⟨-,h'⟩|⟨g',c,cur,hv,-⟩
  · omega
  · exact ⟨g',c,hv⟩
 have hb:=HAT.out;have key:=HFIN.out V g' cap' HGR.out HO'.out (by
  rcases hb with hb|hb
  · exact .inl (Option.some.inj hb)
  · exact .inr (Nat.le_of_eq (Option.some.inj hb).symm))
 exact ⟨g',cap',rfl,key.1,(HC0.out.trans (Chg.alloc _ _ _ _)).trans key.2⟩
end Go.Proofs.YtdmecdjfbpblgaaGreatDoor
