/-
  Lists of a forest, cloned into memory of the call's own.
-/
import Derived.Test.YtdmecdjfbpblgaaGreatDoorQG11
namespace Go.Proofs.YtdmecdjfbpblgaaGreatDoor
set_option maxRecDepth 100000
set_option maxHeartbeats 32000000
open Go.ChangeShapes Go.WideShapes Go.ChangeAt Go.RowKit
set_option linter.unusedVariables false
set_option linter.unusedSimpArgs false
theorem zgq:(Tryz.prog.info? 140).map (fun i=>(i.zero,i.size,i.bytes))=some (some (.agg #[.string ⟨#[]⟩,.string ⟨#[]⟩]),2,32):=by kernel_rfl
theorem zgr:(Tryz.prog.info? 90).map (fun i=>(i.zero,i.size,i.bytes))=some (some (.agg #[.int .i64 0,.string ⟨#[]⟩,.string ⟨#[]⟩,.slice none 0 0,.int .i64 0,.slice none 0 0]),6,96):=by kernel_rfl
theorem zcs (l:List Int):∀ u∈ivs l,u.oneCell'=true:=by
 intro u hu;obtain ⟨x,-,rfl⟩:=List.mem_map.1 hu;rfl
theorem zrp {w:World} {a:Addr} {l:List Int} (h:IR w (some a) l):∀ j u,(ivs l)[j]? = some u->∃ p:Addr,a.add j=p/\p.block<w.heap.size/\w.cell? p=some u:=by
 intro j u hu;rw [ivs,List.getElem?_map] at hu;obtain ⟨x,hx,rfl⟩:=Option.map_eq_some_iff.1 hu;obtain ⟨hj,hx'⟩:=List.getElem?_eq_some_iff.1 hx;obtain ⟨g,off,hA,hg,hc⟩:=h j hj;cases hA;refine ⟨⟨g,off+j,none⟩,by unfold Addr.add;split<;>simp_all,hg,?_⟩;rw [getD_at 0 hj,hx'] at hc;exact hc
theorem zrq {w:World} {a:Addr} {l:List At2} (h:AR w (some a) l):∀ j u,(acells l)[j]? = some u->∃ p:Addr,a.add j=p/\p.block<w.heap.size/\w.cell? p=some u:=by
 intro j u hu;have hj:j<l.length*2:=by rw [<- zb1];exact (List.getElem?_eq_some_iff.1 hu).1
 have hj2:j / 2<l.length:=by omega
 obtain ⟨g,off,hA,hg,hc,hd⟩:=h (j / 2) hj2;obtain ⟨e1,e2⟩:=zb7 hj2;cases hA;refine ⟨⟨g,off+j,none⟩,by unfold Addr.add;split<;>simp_all,hg,?_⟩
 rcases Nat.mod_two_eq_zero_or_one j with h2|h2
 · have e:j / 2*2=j:=by omega
   rw [e] at e1 hc;rw [hc,<- hu,e1]
 · have e:j / 2*2+1=j:=by omega
   rw [e] at e2;rw [show off+j / 2*2+1=off+j by omega] at hd;rw [hd,<- hu,e2]
theorem zrr {w:World} {a:Addr} {F:List Mn} (h:FR w (some a) F):∀ j u,(fcells F)[j]? = some u->∃ p:Addr,a.add j=p/\p.block<w.heap.size/\w.cell? p=some u:=by
 intro j u hu;have hj:j<F.length*6:=by rw [<- zfw];exact (List.getElem?_eq_some_iff.1 hu).1
 obtain ⟨-,g,off,hA,hg,-⟩:=h 0 F[0] (List.getElem?_eq_getElem (by omega));cases hA;exact ⟨⟨g,off+j,none⟩,by unfold Addr.add;split<;>simp_all,hg,zi3 (zuw h) j u hu⟩
theorem cloneI (Ak:Option Addr) (l:List Int) (ck:Nat) (w:World) (hI:IR w Ak l) (hl:l.length<=1000) :
 Calls Tryz.prog 76 #[.slice Ak l.length ck] w fun e w'=>∃ v,e = .returned v/\w'.ownsRow w.heap.size 3 1 v l.length (ivs l)/\Below w.heap.size w w':=by
 obtain ⟨i0',hi0,hz0,hz1,hz2⟩:=info_parts zcp;have hJ:=Hq (And.intro hi0 (And.intro hz0 (And.intro hz1 hz2)));clear hi0 hz0 hz1 hz2;have qE:∀ (w:World) (a:Option Addr) (n c n' c':Nat),(binOp .eql 28 (.slice a n c) (.slice none n' c')).run Tryz.prog w = .ok (.bool a.isNone) w:=fun w a n c n' c'=>Lib.run_eql_slice_nil w _ 3 a n c n' c' Tryz.underlying28
 have HL:Hid ((ivs l).length=l.length*1):=Hq (by rw [zam,Nat.mul_one]);have H1:=Hq (zcs l);cases Ak with
 | none =>
   have hx:l=[]:=by
    cases l with
    | nil=>rfl
    | cons x l =>
      obtain ⟨g,off,hA,-⟩:=hI 0 (by simp);cases hA
   subst hx;go_enter Tryz.func76,Tryz.ntmps76;go_wp2;go_ret;exact ⟨_,rfl,World.ownsRow_nil _ _ _ _,Below.refl _ _⟩
 | some a =>
   have HC:Hid (∀ j u,(ivs l)[j]? = some u->(w.alloc (.cells #[] 3)).cell? (a.add j)=some u):=Hq (fun j u hu=>by
    obtain ⟨p,h1,h2,h3⟩:=zrp hI j u hu;rw [h1,World.cell?_alloc_lt _ _ _ h2];exact h3)
   have HN:Hid ((w.alloc (.cells #[] 3)).ownsRow w.heap.size 3 1 (.slice (some ⟨w.heap.size,0,none⟩) 0 0) 0 []):=Hq (World.ownsRow_made w #[] 0 (Nat.le_refl _) (by simp [maxLen]) rfl);obtain ⟨n,hnn⟩:∃ n,l.length=n:=⟨_,rfl⟩;rw [hnn] at HL hl ⊢;clear hI hnn;generalize ivs l=xs at *;go_enter Tryz.func76,Tryz.ntmps76
   go_wp2_with (at_builtin;refine wpList_append_own_at _ rfl _ _ 28 rfl w.heap.size 3 i0' (.int .i64 0) 1 8 Tryz.underlying28 hJ.out.1 hJ.out.2.1 hJ.out.2.2.1 hJ.out.2.2.2 rfl (by decide) _ _ _ rfl HN.out a n ck xs rfl HL.out HC.out H1.out (by unfold maxLen;omega) (by omega) (by simp) ?_;intro v' w5 hown' hgrow _ hat;have HO':=Hq hown';have HGR:=Hq hgrow;clear hown' hgrow hat)
   go_ret;refine ⟨_,rfl,?_,?_⟩
   · have:=HO'.out;rw [List.nil_append] at this;simpa using this
   · exact ((Below.refl _ w).alloc (Nat.le_refl _) _).grown HGR.out (by simp) (fun q e=>(HN.out.lt q e).1)
theorem cloneA (Ak:Option Addr) (l:List At2) (ck:Nat) (w:World) (hI:AR w Ak l) (hl:l.length<=1000) :
 Calls Tryz.prog 78 #[.slice Ak l.length ck] w fun e w'=>∃ v,e = .returned v/\w'.ownsRow w.heap.size 140 2 v l.length (acells l)/\Below w.heap.size w w':=by
 obtain ⟨i0',hi0,hz0,hz1,hz2⟩:=info_parts zgq;have hJ:=Hq (And.intro hi0 (And.intro hz0 (And.intro hz1 hz2)));clear hi0 hz0 hz1 hz2;have qE:∀ (w:World) (a:Option Addr) (n c n' c':Nat),(binOp .eql 88 (.slice a n c) (.slice none n' c')).run Tryz.prog w = .ok (.bool a.isNone) w:=fun w a n c n' c'=>Lib.run_eql_slice_nil w _ 140 a n c n' c' Tryz.underlying88
 have HL:Hid ((acells l).length=l.length*2):=Hq (zb1 l);have H1:=Hq (zhz l);cases Ak with
 | none =>
   have hx:l=[]:=by
    cases l with
    | nil=>rfl
    | cons x l =>
      obtain ⟨g,off,hA,-⟩:=hI 0 (by simp);cases hA
   subst hx;go_enter Tryz.func78,Tryz.ntmps78;go_wp2;go_ret;exact ⟨_,rfl,World.ownsRow_nil _ _ _ _,Below.refl _ _⟩
 | some a =>
   have HC:Hid (∀ j u,(acells l)[j]? = some u->(w.alloc (.cells #[] 140)).cell? (a.add j)=some u):=Hq (fun j u hu=>by
    obtain ⟨p,h1,h2,h3⟩:=zrq hI j u hu;rw [h1,World.cell?_alloc_lt _ _ _ h2];exact h3)
   have HN:Hid ((w.alloc (.cells #[] 140)).ownsRow w.heap.size 140 2 (.slice (some ⟨w.heap.size,0,none⟩) 0 0) 0 []):=Hq (World.ownsRow_made w #[] 0 (Nat.le_refl _) (by simp [maxLen]) rfl);obtain ⟨n,hnn⟩:∃ n,l.length=n:=⟨_,rfl⟩;rw [hnn] at HL hl ⊢;clear hI hnn;generalize acells l=xs at *;go_enter Tryz.func78,Tryz.ntmps78
   go_wp2_with (at_builtin;refine wpList_append_own_at _ rfl _ _ 88 rfl w.heap.size 140 i0' (.agg #[.string ⟨#[]⟩,.string ⟨#[]⟩]) 2 32 Tryz.underlying88 hJ.out.1 hJ.out.2.1 hJ.out.2.2.1 hJ.out.2.2.2 rfl (by decide) _ _ _ rfl HN.out a n ck xs rfl HL.out HC.out H1.out (by unfold maxLen;omega) (by omega) (by simp) ?_;intro v' w5 hown' hgrow _ hat;have HO':=Hq hown';have HGR:=Hq hgrow;clear hown' hgrow hat)
   go_ret;refine ⟨_,rfl,?_,?_⟩
   · have:=HO'.out;rw [List.nil_append] at this;simpa using this
   · exact ((Below.refl _ w).alloc (Nat.le_refl _) _).grown HGR.out (by simp) (fun q e=>(HN.out.lt q e).1)
theorem cloneN (Ak:Option Addr) (l:List Mn) (ck:Nat) (w:World) (hI:FR w Ak l) (hl:l.length<=1000) :
 Calls Tryz.prog 77 #[.slice Ak l.length ck] w fun e w'=>∃ v,e = .returned v/\w'.ownsRow w.heap.size 90 6 v l.length (fcells l)/\Below w.heap.size w w':=by
 obtain ⟨i0',hi0,hz0,hz1,hz2⟩:=info_parts zgr;have hJ:=Hq (And.intro hi0 (And.intro hz0 (And.intro hz1 hz2)));clear hi0 hz0 hz1 hz2;have qE:∀ (w:World) (a:Option Addr) (n c n' c':Nat),(binOp .eql 61 (.slice a n c) (.slice none n' c')).run Tryz.prog w = .ok (.bool a.isNone) w:=fun w a n c n' c'=>Lib.run_eql_slice_nil w _ 90 a n c n' c' Tryz.underlying61
 have HL:Hid ((fcells l).length=l.length*6):=Hq (zfw l);have H1:=Hq (znq l);cases Ak with
 | none =>
   have hx:l=[]:=by
    cases l with
    | nil=>rfl
    | cons x l =>
      obtain ⟨-,g,off,hA,-⟩:=hI 0 x rfl;cases hA
   subst hx;go_enter Tryz.func77,Tryz.ntmps77;go_wp2;go_ret;exact ⟨_,rfl,World.ownsRow_nil _ _ _ _,Below.refl _ _⟩
 | some a =>
   have HC:Hid (∀ j u,(fcells l)[j]? = some u->(w.alloc (.cells #[] 90)).cell? (a.add j)=some u):=Hq (fun j u hu=>by
    obtain ⟨p,h1,h2,h3⟩:=zrr hI j u hu;rw [h1,World.cell?_alloc_lt _ _ _ h2];exact h3)
   have HN:Hid ((w.alloc (.cells #[] 90)).ownsRow w.heap.size 90 6 (.slice (some ⟨w.heap.size,0,none⟩) 0 0) 0 []):=Hq (World.ownsRow_made w #[] 0 (Nat.le_refl _) (by simp [maxLen]) rfl);obtain ⟨n,hnn⟩:∃ n,l.length=n:=⟨_,rfl⟩;rw [hnn] at HL hl ⊢;clear hI hnn;generalize fcells l=xs at *;go_enter Tryz.func77,Tryz.ntmps77
   go_wp2_with (at_builtin;refine wpList_append_own_at _ rfl _ _ 61 rfl w.heap.size 90 i0' (.agg #[.int .i64 0,.string ⟨#[]⟩,.string ⟨#[]⟩,.slice none 0 0,.int .i64 0,.slice none 0 0]) 6 96 Tryz.underlying61 hJ.out.1 hJ.out.2.1 hJ.out.2.2.1 hJ.out.2.2.2 rfl (by decide) _ _ _ rfl HN.out a n ck xs rfl HL.out HC.out H1.out (by unfold maxLen;omega) (by omega) (by simp) ?_;intro v' w5 hown' hgrow _ hat;have HO':=Hq hown';have HGR:=Hq hgrow;clear hown' hgrow hat)
   go_ret;refine ⟨_,rfl,?_,?_⟩
   · have:=HO'.out;rw [List.nil_append] at this;simpa using this
   · exact ((Below.refl _ w).alloc (Nat.le_refl _) _).grown HGR.out (by simp) (fun q e=>(HN.out.lt q e).1)
def aB (m:Mn):Option Nat:=(Value.slice m.aA m.attrs.length m.aC).ownBlock
def kB (m:Mn):Option Nat:=(Value.slice m.kA m.kids.length m.kC).ownBlock
structure Lst (w:World) (base:Nat) (m:Mn):Prop where
 at_:w.ownsRow base 140 2 (.slice m.aA m.attrs.length m.aC) m.attrs.length (acells m.attrs)
 ki:w.ownsRow base 3 1 (.slice m.kA m.kids.length m.kC) m.kids.length (ivs m.kids)
structure OF (w:World) (base:Nat) (v:Value) (G:List Mn):Prop where
 row:w.ownsRow base 90 6 v G.length (fcells G)
 fit:∀ m∈G,Fit m
 lst:∀ m∈G,Lst w base m
 apA:∀ (i j:Nat) (m n:Mn),G[i]? = some m->G[j]? = some n->i≠j->aB m=none\/aB m≠aB n
 apK:∀ (i j:Nat) (m n:Mn),G[i]? = some m->G[j]? = some n->i≠j->kB m=none\/kB m≠kB n
theorem Lst.below {w w':World} {base:Nat} {m:Mn} (h:Lst w base m) (hb:Below w.heap.size w w'):Lst w' base m:=⟨own_below h.at_ hb,own_below h.ki hb⟩
theorem Lst.mono {w:World} {base base':Nat} {m:Mn} (h:Lst w base m) (hb:base'<=base):Lst w base' m:=⟨zq h.at_ hb,zq h.ki hb⟩
theorem OF.below {w w':World} {base:Nat} {v:Value} {G:List Mn} (h:OF w base v G) (hb:Below w.heap.size w w'):OF w' base v G :=
 ⟨own_below h.row hb,h.fit,fun m hm=>(h.lst m hm).below hb,h.apA,h.apK⟩
theorem zmx {w:World} {base:Nat} {p:Option Addr} {l:List Int} {n c:Nat} (h:w.ownsRow base 3 1 (.slice p n c) l.length (ivs l)):IR w p l:=fun j hj=>by
 rcases h.2 with ⟨-,h'⟩|⟨g,cap',cur,hv,hb,hg,-⟩
 · rw [h'] at hj;omega
 · cases hv;have e:(ivs l)[j]? = some (.int .i64 (l.getD j 0)):=by
    rw [ivs,List.getElem?_map,List.getElem?_eq_getElem hj,List.getD_eq_getElem?_getD,List.getElem?_eq_getElem hj];rfl
   have:=h.cells rfl j _ e;refine ⟨g,0,rfl,(Array.getElem?_eq_some_iff.1 hg).1,?_⟩;rw [<- this];rw [show (⟨g,0,none⟩:Addr).add j=⟨g,0+j,none⟩ by unfold Addr.add;split<;>simp_all]
theorem OF.fr {w:World} {base n cap:Nat} {p:Option Addr} {G:List Mn} (h:OF w base (.slice p n cap) G):FR w p G:=by
 intro i m hm;obtain ⟨hi,-⟩:=List.getElem?_eq_some_iff.1 hm;have hmem:=List.mem_of_getElem? hm
 rcases h.row.2 with ⟨-,h'⟩|⟨g,cap',cur,hv,hbg,hg,h1,h2,h3,h4⟩
 · omega
 · cases hv;have hr:RowAt w g 0 G:=zf1 (fun j u hu=>by
    have:=h.row.cells rfl j u hu;rw [<- this,show (⟨g,0,none⟩:Addr).add j=⟨g,0+j,none⟩ by unfold Addr.add;split<;>simp_all])
   have hc:=hr i m hm;have hl:=h.lst m hmem;obtain ⟨q,c,hv,-,-,ha⟩:=zpi hl.at_;cases hv;exact ⟨h.fit m hmem,g,0,rfl,(Array.getElem?_eq_some_iff.1 hg).1,⟨hc.c0,hc.c1,hc.c2,hc.c3,hc.c4,hc.c5,ha,zmx hl.ki⟩⟩
theorem ze0 {f:Mn->Mn} {d:Nat} {u:Value}:∀ {F:List Mn} {n:Nat} (hn:n<F.length),d<6->ncells (f F[n])=(ncells F[n]).set d u->(fcells F).set (n*6+d) u=fcells (F.modify n f)
 | [],n,hn,_,_=>absurd hn (by simp)
 | m::F,0,hn,hd,he=>by
   have e:fcells (m::F)=ncells m++fcells F:=by simp [fcells]
   have e2:fcells ((m::F).modify 0 f)=ncells (f m)++fcells F:=by simp [fcells]
   rw [e,e2,Nat.zero_mul,Nat.zero_add,List.set_append_left _ _ (by simp [ncells];omega)];congr 1;exact he.symm
 | m::F,n+1,hn,hd,he=>by
   have e:fcells (m::F)=ncells m++fcells F:=by simp [fcells]
   have e2:fcells ((m::F).modify (n+1) f)=ncells m++fcells (F.modify n f):=by simp [fcells]
   have hlen:(ncells m).length=6:=by simp [ncells]
   rw [e,e2,List.set_append_right _ _ (by rw [hlen];omega),hlen,show (n+1)*6+d - 6=n*6+d by omega];congr 1;exact ze0 (by simpa using hn) hd (by simpa using he)
theorem zb9 {w:World} {base g cap:Nat} {G:List Mn} (h:w.ownsRow base 90 6 (.slice (some ⟨g,0,none⟩) G.length cap) G.length (fcells G)) {n d:Nat} (hn:n<G.length) (hd:d<6) {f:Mn->Mn} {u:Value} (he:ncells (f G[n])=(ncells G[n]).set d u) :
 (w.setCell ⟨g,n*6+d,none⟩ u).ownsRow base 90 6 (.slice (some ⟨g,0,none⟩) G.length cap) G.length (fcells (G.modify n f)):=by
 have:=h.stored (n*6+d) u;rw [ze0 hn hd he] at this;exact this.1
theorem Lst.store {w:World} {base b2 g o:Nat} {m:Mn} {u:Value} {n:Nat} {xs:List Value} {cap:Nat} (h:Lst w base m) (hr:w.ownsRow b2 90 6 (.slice (some ⟨g,0,none⟩) n cap) n xs):Lst (w.setCell ⟨g,o,none⟩ u) base m:=by
 have ne:∀ {e:TypeId} {s:Nat} {v:Value} {k:Nat} {ys:List Value},w.ownsRow base e s v k ys->e≠90->v.ownBlock≠some g:=fun {e s v k ys} h' hne=>by
  rcases zp h' hr hne with h''|h''
  · rw [h''];simp
  · simpa [Value.ownBlock] using h''
 exact ⟨ownsRow_setCell_other h.at_ (a:=⟨g,o,none⟩) (ne h.at_ (by decide)) u,ownsRow_setCell_other h.ki (a:=⟨g,o,none⟩) (ne h.ki (by decide)) u⟩
structure Half (w V:World) (g cap k:Nat) (F H:List Mn):Prop where
 len:H.length=F.length
 like:H.map core=F.map core
 row:V.ownsRow w.heap.size 90 6 (.slice (some ⟨g,0,none⟩) H.length cap) H.length (fcells H)
 fit:∀ m∈H,Fit m
 done:∀ i m,H[i]? = some m->i<k->Lst V w.heap.size m
 apA:∀ (i j:Nat) (m n:Mn),H[i]? = some m->H[j]? = some n->i<k->j<k->i≠j->aB m=none\/aB m≠aB n
 apK:∀ (i j:Nat) (m n:Mn),H[i]? = some m->H[j]? = some n->i<k->j<k->i≠j->kB m=none\/kB m≠kB n
theorem Half.below {w V W:World} {g cap k:Nat} {F H:List Mn} (h:Half w V g cap k F H) (hb:Below V.heap.size V W):Half w W g cap k F H :=
 ⟨h.len,h.like,own_below h.row hb,h.fit,fun i m hm hi=>(h.done i m hm hi).below hb,h.apA,h.apK⟩
theorem zbk {V:World} {base g cap n:Nat} {H:List Mn} (h:V.ownsRow base 90 6 (.slice (some ⟨g,0,none⟩) n cap) n (fcells H)) {k:Nat} (hk:k<H.length):C6 V g (k*6) H[k]:=by
 have hr:RowAt V g 0 H:=zf1 (fun j u hu=>by
  have:=h.cells rfl j u hu;rw [<- this,show (⟨g,0,none⟩:Addr).add j=⟨g,0+j,none⟩ by unfold Addr.add;split<;>simp_all])
 have:=hr k _ (List.getElem?_eq_getElem hk);rw [Nat.zero_add] at this;exact this
theorem zci {V:World} {base g cap n o:Nat} {xs:List Value} (h:V.ownsRow base 90 6 (.slice (some ⟨g,0,none⟩) n cap) n xs):V.frozen? ⟨g,o,none⟩=false:=h.frozenAt o
theorem Half.step {w V V1 V2:World} {g cap k:Nat} {F H:List Mn} (h:Half w V g cap k F H) (hk:k<H.length) {pa pk:Option Addr} {ca ck:Nat} (hb1:Below V.heap.size V V1) (hb0:w.heap.size<=V.heap.size)
 (ha:V1.ownsRow V.heap.size 140 2 (.slice pa H[k].attrs.length ca) H[k].attrs.length (acells H[k].attrs))
 (hb2:Below V1.heap.size (V1.setCell ⟨g,k*6+3,none⟩ (.slice pa H[k].attrs.length ca)) V2)
 (hc:V2.ownsRow V1.heap.size 3 1 (.slice pk H[k].kids.length ck) H[k].kids.length (ivs H[k].kids)) :
 Half w (V2.setCell ⟨g,k*6+5,none⟩ (.slice pk H[k].kids.length ck)) g cap (k+1) F ((H.modify k fun m=>{ m with aA:=pa,aC:=ca }).modify k fun m=>{ m with kA:=pk,kC:=ck }):=by
 have hgr:(V1.setCell ⟨g,k*6+3,none⟩ (.slice pa H[k].attrs.length ca)).heap.size=V1.heap.size:=by simp [World.setCell]
 have r1:=own_below h.row hb1;have r2:=zb9 (n:=k) (d:=3) (f:=fun m=>{ m with aA:=pa,aC:=ca }) (u:=.slice pa H[k].attrs.length ca) r1 hk (by omega) rfl;have hk1:k<(H.modify k fun m=>{ m with aA:=pa,aC:=ca }).length:=by simpa using hk
 have e1:(H.modify k fun m=>{ m with aA:=pa,aC:=ca })[k]={ H[k] with aA:=pa,aC:=ca }:=by simp
 have r3:=own_below r2 (by rw [hgr];exact hb2);have hl1:(H.modify k fun m=>{ m with aA:=pa,aC:=ca }).length=H.length:=by simp
 have r4:=zb9 (n:=k) (d:=5) (f:=fun m=>{ m with kA:=pk,kC:=ck }) (u:=.slice pk H[k].kids.length ck) (G:=H.modify k fun m=>{ m with aA:=pa,aC:=ca }) (by rw [hl1];exact r3) hk1 (by omega) (by rw [e1];rfl);have hl2:((H.modify k fun m=>{ m with aA:=pa,aC:=ca }).modify k fun m=>{ m with kA:=pk,kC:=ck }).length=H.length:=by simp
 have at1:∀ i m,((H.modify k fun m=>{ m with aA:=pa,aC:=ca }).modify k fun m=>{ m with kA:=pk,kC:=ck })[i]? = some m->(i≠k/\H[i]? = some m)\/(i=k/\m={ H[k] with aA:=pa,aC:=ca,kA:=pk,kC:=ck }):=fun i m hm=>by
  rw [List.getElem?_modify,List.getElem?_modify] at hm
  by_cases hik:k=i
  · subst hik;rw [List.getElem?_eq_getElem hk] at hm;simp at hm;exact .inr ⟨rfl,hm.symm⟩
  · simp only [if_neg hik,id,Option.map_id_fun'] at hm;exact .inl ⟨fun e=>hik e.symm,by simpa using hm⟩
 have hs1:V.heap.size<=V1.heap.size:=hb1.size;have ha2:=own_below (ownsRow_setCell_other ha (a:=⟨g,k*6+3,none⟩) (by
  rcases zp ha r1 (by decide) with h'|h'
  · rw [h'];simp
  · simpa [Value.ownBlock] using h') (.slice pa H[k].attrs.length ca)) (by rw [hgr];exact hb2)
 have hb12:Below V.heap.size (V1.setCell ⟨g,k*6+3,none⟩ (.slice pa H[k].attrs.length ca)) V2:=hb2.mono hs1;have old:∀ i m,H[i]? = some m->i<k->Lst V2 w.heap.size m:=fun i m hm hi=>by
  have:=((h.done i m hm hi).below hb1).store (o:=k*6+3) (u:=.slice pa H[k].attrs.length ca) r1;exact this.below (by rw [hgr];exact hb2)
 have hg2:V2.ownsRow w.heap.size 90 6 (.slice (some ⟨g,0,none⟩) H.length cap) H.length (fcells (H.modify k fun m=>{ m with aA:=pa,aC:=ca })):=r3;have new:Lst V2 w.heap.size { H[k] with aA:=pa,aC:=ca,kA:=pk,kC:=ck }:=⟨zq ha2 hb0,zq hc (by omega)⟩;have ltA:∀ i m,H[i]? = some m->i<k->∀ r,aB m=some r->r<V.heap.size:=fun i m hm hi r hr=>((h.done i m hm hi).at_.lt r hr).2
 have ltK:∀ i m,H[i]? = some m->i<k->∀ r,kB m=some r->r<V.heap.size:=fun i m hm hi r hr=>((h.done i m hm hi).ki.lt r hr).2
 have gA:∀ r,(Value.slice pa H[k].attrs.length ca).ownBlock=some r->V.heap.size<=r:=fun r hr=>(ha.lt r hr).1
 have gK:∀ r,(Value.slice pk H[k].kids.length ck).ownBlock=some r->V.heap.size<=r:=fun r hr=>Nat.le_trans hs1 (hc.lt r hr).1
 refine ⟨by rw [hl2];exact h.len,?_,by rw [hl2];rw [hl1] at r4;exact r4,fun m hm=>?_,fun i m hm hi=>?_,fun i j m n hm hn hi hj hij=>?_,fun i j m n hm hn hi hj hij=>?_⟩
 · rw [<- h.like];refine List.ext_getElem? fun i=>?_
   rw [List.getElem?_map,List.getElem?_map,List.getElem?_modify,List.getElem?_modify];cases H[i]? with
   | none=>rfl
   | some m=>by_cases hik:k=i<;>simp [hik,core]
 · obtain ⟨i,hi,rfl⟩:=List.mem_iff_getElem.1 hm
   rcases at1 i _ (List.getElem?_eq_getElem hi) with ⟨-,h'⟩|⟨-,h'⟩
   · exact h.fit _ (List.mem_of_getElem? h')
   · rw [h'];have hf:=h.fit _ (List.getElem_mem hk);obtain ⟨p1,c1,hv,a1,a2⟩:=zj ha;cases hv;obtain ⟨p2,c2,hv,b1,b2⟩:=zj hc;cases hv;unfold maxLen at a2 b2;exact ⟨hf.k64,hf.p64,hf.ks64,⟨a1,by omega⟩,⟨b1,by omega⟩⟩
 · rcases at1 i m hm with ⟨hne,h'⟩|⟨-,h'⟩
   · exact (old i m h' (by omega)).store hg2
   · rw [h'];exact new.store hg2
 · rcases at1 i m hm with ⟨hne,h'⟩|⟨he,h'⟩
   · rcases at1 j n hn with ⟨hne2,h''⟩|⟨he2,h''⟩
     · exact h.apA i j m n h' h'' (by omega) (by omega) hij
     · rcases hr:aB m with _|r
       · exact .inl rfl
       · refine .inr fun e=>?_
         have:=ltA i m h' (by omega) r hr;rw [h''] at e;have:=gA r e.symm;omega
   · rcases at1 j n hn with ⟨hne2,h''⟩|⟨he2,h''⟩
     · rcases hr:aB m with _|r
       · exact .inl rfl
       · refine .inr fun e=>?_
         have:=ltA j n h'' (by omega) r e.symm;rw [h'] at hr;have:=gA r hr;omega
     · omega
 · rcases at1 i m hm with ⟨hne,h'⟩|⟨he,h'⟩
   · rcases at1 j n hn with ⟨hne2,h''⟩|⟨he2,h''⟩
     · exact h.apK i j m n h' h'' (by omega) (by omega) hij
     · rcases hr:kB m with _|r
       · exact .inl rfl
       · refine .inr fun e=>?_
         have:=ltK i m h' (by omega) r hr;rw [h''] at e;have:=gK r e.symm;omega
   · rcases at1 j n hn with ⟨hne2,h''⟩|⟨he2,h''⟩
     · rcases hr:kB m with _|r
       · exact .inl rfl
       · refine .inr fun e=>?_
         have:=ltK j n h'' (by omega) r e.symm;rw [h'] at hr;have:=gK r hr;omega
     · omega
theorem zu3 {w:World} {base g n cap:Nat} {e:TypeId} {size:Nat} {xs:List Value} (h:w.ownsRow base e size (.slice (some ⟨g,0,none⟩) n cap) n xs):∃ cur,base<=g/\w.heap[g]? = some (.cells cur e (0,0))/\n<=cap/\cap<=maxLen:=by
 rcases h.2 with ⟨h',-⟩|⟨g',cap',cur,hv,hb,hg,h1,h2,-⟩
 · cases h'
 · cases hv;exact ⟨cur,hb,hg,h1,h2⟩
theorem zny (A:Option Addr) (F:List Mn) (c:Nat) (w:World) (hF:FR w A F) (hz:Sz2 F) (h0:0<F.length) :
 Calls Tryz.prog 45 #[.slice A F.length c] w fun e w'=>∃ g cap G,e = .returned (.slice (some ⟨g,0,none⟩) F.length cap)/\OF w' w.heap.size (.slice (some ⟨g,0,none⟩) F.length cap) G/\G.map core=F.map core/\Below w.heap.size w w':=by
 have HF:=Hq hF;have hl:=hz.len;have HFit:Hid (∀ m∈F,Fit m):=Hq (fun m h=>by
  obtain ⟨i,hi,rfl⟩:=List.mem_iff_getElem.1 h;exact (hF i _ (List.getElem?_eq_getElem hi)).1)
 have HN:=Hq (cloneN A F c w hF hl);have HA:=Hq (fun (i:Nat) (hi:i<F.length) (V:World) (hb:Below w.heap.size w V)=>cloneA F[i].aA F[i].attrs F[i].aC V (by obtain ⟨-,g,off,-,-,h⟩:=(hF.below hb) i _ (List.getElem?_eq_getElem hi);exact h.ar) (by have:=hz.attrs _ (List.getElem_mem hi);omega));have HK:=Hq (fun (i:Nat) (hi:i<F.length) (V:World) (hb:Below w.heap.size w V)=>cloneI F[i].kA F[i].kids F[i].kC V (by obtain ⟨-,g,off,-,-,h⟩:=(hF.below hb) i _ (List.getElem?_eq_getElem hi);exact h.ir) (hz.kids _ (List.getElem_mem hi)));obtain ⟨n,hnn⟩:∃ n,F.length=n:=⟨_,rfl⟩;have HNN:=Hq hnn;rw [hnn] at hl HN h0 ⊢;clear hF hz hnn;go_enter Tryz.func45,Tryz.ntmps45;go_wp2_with fail;refine HN.out.mono ?_;rintro e w1 ⟨v,rfl,ho,hb1⟩;obtain ⟨g,cap,rfl⟩:∃ g cap,v = .slice (some ⟨g,0,none⟩) n cap:=by
  rcases ho.2 with ⟨-,h'⟩|⟨g,cap,cur,hv,-⟩
  · omega
  · exact ⟨g,cap,hv⟩
 have HB1:=Hq hb1;have HH1:Hid (Half w w1 g cap 0 F F):=Hq ⟨rfl,rfl,by rw [HNN.out];exact ho,HFit.out,fun i m _ hi=>absurd hi (by omega),fun i j m n _ _ hi=>absurd hi (by omega),fun i j m n _ _ hi=>absurd hi (by omega)⟩;clear ho hb1 HN;go_wp2_with fail
 go_loopw [10] (fun q wr=>∃ (k:Nat) (H:List Mn),k<=n/\q = .int .i64 k/\Hid (Half w wr g cap k F H)/\Hid (∀ i,k<=i->H[i]? = F[i]?)/\Hid (Below w.heap.size w wr)) (fun q _=>n - (intOf q).toNat)
 case atStart => exact ⟨0,F,Nat.zero_le _,rfl,HH1,Hq (fun _ _=>rfl),HB1⟩
 case round =>
  obtain ⟨k,H,hk,rfl,HH,HR,HB⟩:=hrel
  by_cases hlt:k<n
  · have k0:(0:Int)<=(k:Int):=by omega
    have k1:(k:Int)<(n:Int):=by omega
    have hkF:k<F.length:=by rw [HNN.out];exact hlt
    have hkH:k<H.length:=by rw [HH.out.len];exact hkF
    have HE:Hid (H[k]=F[k]):=Hq (by
     have:=HR.out k (Nat.le_refl _);rw [List.getElem?_eq_getElem hkH,List.getElem?_eq_getElem hkF] at this;exact Option.some.inj this)
    obtain ⟨-,ga,off,rfl,hga,hnd⟩:=(HF.out.below HB.out) k F[k] (List.getElem?_eq_getElem hkF);have c0:=hnd.c0;have c1:=hnd.c1;have c2:=hnd.c2;have c3:=hnd.c3;have c4:=hnd.c4;have c5:=hnd.c5;have HAk:=Hq (HA.out k hkF);have HKk:=Hq (HK.out k hkF);obtain ⟨cur,hbg,hgc,-,-⟩:=zu3 HH.out.row;have HG0:=Hq hgc;have hgw:w.heap.size<=g:=hbg;clear hnd hgc hbg;generalize F[k]=m at *;obtain ⟨W,hW⟩:∃ W,W=wr.alloc (.cells #[.int .i64 m.kind,.string m.name,.string m.text,.slice m.aA m.attrs.length m.aC,.int .i64 m.parent,.slice m.kA m.kids.length m.kC] 90):=⟨_,rfl⟩;have HWr:Hid (Below wr.heap.size wr W):=Hq (by rw [hW];exact Bq _ _);have HWb:Hid (Below w.heap.size w W):=Hq (HB.out.trans (HWr.out.mono HB.out.size));have HWk:Hid (W.heap[wr.heap.size]? = some (.cells #[.int .i64 m.kind,.string m.name,.string m.text,.slice m.aA m.attrs.length m.aC,.int .i64 m.parent,.slice m.kA m.kids.length m.kC] 90 (0,0))):=Hq (by rw [hW];exact heap_alloc_new _ _);go_upto_region 5 with fail
    rw [<- hW];clear hW c0 c1 c2 c3 c4 c5;have HHW:=Hq (HH.out.below HWr.out);obtain ⟨x0,x1,x2,x3,x4,x5⟩:=block6 HWk.out;have hHn:H.length=n:=by rw [HH.out.len,HNN.out]
    have HHn:=Hq hHn;clear hHn;go_wp2_with fail;refine (HAk.out W HWb.out).mono ?_;rintro e V1 ⟨va,rfl,hoa,hba⟩;obtain ⟨pa,ca,rfl,-,-⟩:=zj hoa;have HOa:=Hq hoa;have HBa:=Hq hba;have HHa:=Hq (HHW.out.below hba);have HV1b:Hid (Below w.heap.size w V1):=Hq (HWb.out.trans (hba.mono HWb.out.size));have HK1:=Hq ((hba.block _ (lt_of_block HWk.out)).trans HWk.out);clear hoa hba x0 x1 x2 x3 x4 x5;obtain ⟨old3,y3⟩:∃ u,V1.cell? ⟨g,k*6+3,none⟩=some u:=⟨_,(zbk HHa.out.row hkH).c3⟩;have fz3:V1.frozen? ⟨g,k*6+3,none⟩=false:=zci HHa.out.row;obtain ⟨S,hS⟩:∃ S,S=V1.setCell ⟨g,k*6+3,none⟩ (.slice pa m.attrs.length ca):=⟨_,rfl⟩;have hgl:g<wr.heap.size:=by have:=HG0.out;exact lt_of_block this
    have hne:g≠wr.heap.size:=by omega
    have HSs:Hid (S.heap.size=V1.heap.size):=Hq (by rw [hS];simp [World.setCell]);have HSb:Hid (Below w.heap.size w S):=Hq (by rw [hS];exact HV1b.out.setCell hgw _);have HSk:Hid (S.heap[wr.heap.size]? = some (.cells #[.int .i64 m.kind,.string m.name,.string m.text,.slice m.aA m.attrs.length m.aC,.int .i64 m.parent,.slice m.kA m.kids.length m.kC] 90 (0,0))):=Hq (by rw [hS,Below.heap_setCell _ _ _ _ (by simpa using Ne.symm hne)];exact HK1.out);go_upto_region 6 with fail
    rw [<- hS];have HS0:=Hq hS;clear y3 fz3 hS;obtain ⟨x0,x1,x2,x3,x4,x5⟩:=block6 HSk.out;go_wp2_with fail;refine (HKk.out S HSb.out).mono ?_;rintro e V2 ⟨vk,rfl,hok,hbk⟩;obtain ⟨pk,ck,rfl,-,-⟩:=zj hok;have HV2b:Hid (Below w.heap.size w V2):=Hq (HSb.out.trans (hbk.mono HSb.out.size));have HST:Hid (Half w (V2.setCell ⟨g,k*6+5,none⟩ (.slice pk m.kids.length ck)) g cap (k+1) F ((H.modify k fun m=>{ m with aA:=pa,aC:=ca }).modify k fun m=>{ m with kA:=pk,kC:=ck })):=Hq (by
     have e:=HE.out;have:=Half.step (V:=W) (V1:=V1) (V2:=V2) (pa:=pa) (pk:=pk) (ca:=ca) (ck:=ck) HHW.out hkH HBa.out HWb.out.size (by rw [e];exact HOa.out) (by rw [e,<- HS0.out,<- HSs.out];exact hbk) (by rw [e,<- HSs.out];exact hok);rw [e] at this;exact this)
    have HRow:Hid (V2.ownsRow w.heap.size 90 6 (.slice (some ⟨g,0,none⟩) H.length cap) H.length (fcells (H.modify k fun m=>{ m with aA:=pa,aC:=ca }))):=Hq (by
     have r2:=zb9 (n:=k) (d:=3) (f:=fun m=>{ m with aA:=pa,aC:=ca }) (u:=.slice pa m.attrs.length ca) HHa.out.row hkH (by omega) (by rw [HE.out];rfl);rw [<- HS0.out] at r2;exact own_below r2 hbk)
    have HR2:Hid (∀ i,k+1<=i->((H.modify k fun m=>{ m with aA:=pa,aC:=ca }).modify k fun m=>{ m with kA:=pk,kC:=ck })[i]? = F[i]?):=Hq (fun i hi=>by
     have hki:k≠i:=by omega
     have:=HR.out i (by omega);rw [List.getElem?_modify,List.getElem?_modify,<- this];cases H[i]? <;> simp [hki])
    have hkH2:k<(H.modify k fun m=>{ m with aA:=pa,aC:=ca }).length:=by simpa using hkH
    obtain ⟨old5,y5⟩:∃ u,V2.cell? ⟨g,k*6+5,none⟩=some u:=⟨_,(zbk HRow.out hkH2).c5⟩;have fz5:V2.frozen? ⟨g,k*6+5,none⟩=false:=zci HRow.out;clear hok hbk x0 x1 x2 x3 x4 x5 hkH2;go_wp2;go_roundw
    case rel => exact ⟨k+1,_,by omega,by go_num,HST,HR2,Hq (HV2b.out.setCell hgw _)⟩
    case measure => simp [intOf]<;>omega
  · obtain rfl:k=n:=by omega
    have e:H.length=k:=by rw [HH.out.len,HNN.out]
    go_wp2;go_ret;refine ⟨g,cap,H,rfl,⟨?_,HH.out.fit,fun m hm=>?_,fun i j m1 m2 h1 h2 hij=>?_,fun i j m1 m2 h1 h2 hij=>?_⟩,HH.out.like,HB.out⟩
    · have:=HH.out.row;rw [e] at this ⊢;exact this
    · obtain ⟨i,hi,rfl⟩:=List.mem_iff_getElem.1 hm;exact HH.out.done i _ (List.getElem?_eq_getElem hi) (by omega)
    · have a1:=(List.getElem?_eq_some_iff.1 h1).1;have a2:=(List.getElem?_eq_some_iff.1 h2).1;exact HH.out.apA i j m1 m2 h1 h2 (by omega) (by omega) hij
    · have a1:=(List.getElem?_eq_some_iff.1 h1).1;have a2:=(List.getElem?_eq_some_iff.1 h2).1;exact HH.out.apK i j m1 m2 h1 h2 (by omega) (by omega) hij
theorem zbb {G:List Mn} {n:Nat} {f:Mn->Mn} {i:Nat} {m:Mn} (hn:n<G.length) (h:(G.modify n f)[i]? = some m):(i≠n/\G[i]? = some m)\/(i=n/\m=f G[n]):=by
 rw [List.getElem?_modify] at h
 by_cases hik:n=i
 · subst hik;rw [List.getElem?_eq_getElem hn] at h;simp at h;exact .inr ⟨rfl,h.symm⟩
 · simp only [if_neg hik,id,Option.map_id_fun'] at h;exact .inl ⟨fun e=>hik e.symm,by simpa using h⟩
theorem OF.mod {w:World} {base g cap:Nat} {G:List Mn} (h:OF w base (.slice (some ⟨g,0,none⟩) G.length cap) G) {n d:Nat} (hn:n<G.length) (hd:d<6) {f:Mn->Mn} {u:Value} (he:ncells (f G[n])=(ncells G[n]).set d u)
 (hf:∀ m,(f m).attrs=m.attrs/\(f m).kids=m.kids/\(f m).aA=m.aA/\(f m).aC=m.aC/\(f m).kA=m.kA/\(f m).kC=m.kC) (hk:I64 (f G[n]).kind) (hp:I64 (f G[n]).parent) :
 OF (w.setCell ⟨g,n*6+d,none⟩ u) base (.slice (some ⟨g,0,none⟩) (G.modify n f).length cap) (G.modify n f):=by
 have hl:(G.modify n f).length=G.length:=by simp
 have eA:∀ m,aB (f m)=aB m:=fun m=>by obtain ⟨a1,a2,a3,a4,a5,a6⟩:=hf m;unfold aB;rw [a1,a3,a4]
 have eK:∀ m,kB (f m)=kB m:=fun m=>by obtain ⟨a1,a2,a3,a4,a5,a6⟩:=hf m;unfold kB;rw [a2,a5,a6]
 have back:∀ i m,(G.modify n f)[i]? = some m->∃ m0,G[i]? = some m0/\(m=m0\/m=f m0):=fun i m hm=>by
  rcases zbb hn hm with ⟨-,h'⟩|⟨rfl,h'⟩
  · exact ⟨m,h',.inl rfl⟩
  · exact ⟨G[i],List.getElem?_eq_getElem hn,.inr h'⟩
 refine ⟨?_,fun m hm=>?_,fun m hm=>?_,fun i j m1 m2 h1 h2 hij=>?_,fun i j m1 m2 h1 h2 hij=>?_⟩
 · rw [hl];exact zb9 h.row hn hd he
 · obtain ⟨i,hi,rfl⟩:=List.mem_iff_getElem.1 hm
   rcases zbb hn (List.getElem?_eq_getElem hi) with ⟨-,h'⟩|⟨-,h'⟩
   · exact h.fit _ (List.mem_of_getElem? h')
   · rw [h'];obtain ⟨a1,a2,a3,a4,a5,a6⟩:=hf G[n];have hfit:=h.fit _ (List.getElem_mem hn);exact ⟨hk,hp,by rw [a2];exact hfit.ks64,by rw [a1,a4];exact hfit.ac,by rw [a2,a6];exact hfit.kc⟩
 · obtain ⟨i,hi,rfl⟩:=List.mem_iff_getElem.1 hm;obtain ⟨m0,h',e|e⟩:=back i _ (List.getElem?_eq_getElem hi)
   · rw [e];exact (h.lst _ (List.mem_of_getElem? h')).store h.row
   · rw [e];obtain ⟨a1,a2,a3,a4,a5,a6⟩:=hf m0;have:=(h.lst _ (List.mem_of_getElem? h')).store (o:=n*6+d) (u:=u) h.row;exact ⟨by rw [a1,a3,a4];exact this.at_,by rw [a2,a5,a6];exact this.ki⟩
 · obtain ⟨n1,g1,e1⟩:=back i m1 h1;obtain ⟨n2,g2,e2⟩:=back j m2 h2;have:=h.apA i j n1 n2 g1 g2 hij
   rcases e1 with rfl|rfl<;>rcases e2 with rfl|rfl<;>simpa [eA] using this
 · obtain ⟨n1,g1,e1⟩:=back i m1 h1;obtain ⟨n2,g2,e2⟩:=back j m2 h2;have:=h.apK i j n1 n2 g1 g2 hij
   rcases e1 with rfl|rfl<;>rcases e2 with rfl|rfl<;>simpa [eK] using this
theorem znz {G:List Mn} {n:Nat} {t:ByteArray}:(setTx G n t).map core=setTx (G.map core) n t:=by
 unfold setTx;refine List.ext_getElem? fun i=>?_
 rw [List.getElem?_map,List.getElem?_modify,List.getElem?_modify,List.getElem?_map];cases G[i]? with
 | none=>rfl
 | some m=>by_cases h:n=i<;>simp [h,core]
theorem zmc (base g cap:Nat) (G:List Mn) (o:Ops.Po) (w:World) (h:OF w base (.slice (some ⟨g,0,none⟩) G.length cap) G) (hn:G.length<=1000) (i:Nat) (hi:o.id=i) (hil:i<G.length) :
 Calls Tryz.prog 100 #[.slice (some ⟨g,0,none⟩) G.length cap,Ops.opv o] w fun e w'=>e = .returned (.slice (some ⟨g,0,none⟩) G.length cap)/\OF w' base (.slice (some ⟨g,0,none⟩) G.length cap) (setTx G i o.text)/\w.grownBy w' (some g):=by
 obtain ⟨kd,id,dst,ps,nm0,tx⟩:=o;unfold Ops.opv;simp only [] at *;subst hi;obtain ⟨W,hW⟩:∃ W,W=w.alloc (.cells #[.int .i64 kd,.int .i64 i,.int .i64 dst,.int .i64 ps,.string nm0,.string tx] 59):=⟨_,rfl⟩;have HWb:Hid (Below w.heap.size w W):=Hq (by rw [hW];exact Bq _ _);have HWk:Hid (W.heap[w.heap.size]? = some (.cells #[.int .i64 kd,.int .i64 i,.int .i64 dst,.int .i64 ps,.string nm0,.string tx] 59 (0,0))):=Hq (by rw [hW];exact heap_alloc_new _ _);have HGr:Hid (w.grownBy W (some g)):=Hq (by rw [hW];exact World.grownBy_alloc _ _ _);have HO:=Hq (h.below HWb.out);obtain ⟨x0,x1,x2,x3,x4,x5⟩:=block6 HWk.out;obtain ⟨old,y2⟩:∃ u,W.cell? ⟨g,i*6+2,none⟩=some u:=⟨_,(zbk HO.out.row hil).c2⟩;have fz:W.frozen? ⟨g,i*6+2,none⟩=false:=zci HO.out.row;have k0:(0:Int)<=(i:Int):=by omega
 have k1:(i:Int)<(G.length:Int):=by omega
 have hfit:=h.fit _ (List.getElem_mem hil);have HM:Hid (OF (W.setCell ⟨g,i*6+2,none⟩ (.string tx)) base (.slice (some ⟨g,0,none⟩) G.length cap) (setTx G i tx)):=Hq (by
  have:=OF.mod (f:=fun m=>{ m with text:=tx }) (d:=2) (u:=.string tx) HO.out hil (by omega) rfl (fun m=>⟨rfl,rfl,rfl,rfl,rfl,rfl⟩) hfit.k64 hfit.p64;have hl:(G.modify i fun m=>{ m with text:=tx }).length=G.length:=by simp
  rw [hl] at this;exact this)
 have HS:Hid (w.grownBy (W.setCell ⟨g,i*6+2,none⟩ (.string tx)) (some g)):=Hq (HGr.out.trans (HO.out.row.stored _ _).2);clear h hfit;generalize G.length=n at *;go_enter Tryz.func100,Tryz.ntmps100;go_upto_region 1 with fail
 rw [<- hW];clear hW;go_wp2;go_ret;exact ⟨rfl,HM.out,HS.out⟩
theorem zb5 (F:List Mn) (i:Nat):par (F.map core) i=par F i:=by
 unfold par;rw [List.getElem?_map];cases F[i]? <;> rfl
theorem zax (F:List Mn) (i:Nat):kidsOf (F.map core) i=kidsOf F i:=by
 unfold kidsOf;rw [List.getElem?_map];cases F[i]? <;> rfl
theorem zi9 (F:List Mn) (i:Nat):kindOf (F.map core) i=kindOf F i:=by
 unfold kindOf;rw [List.getElem?_map];cases F[i]? <;> rfl
theorem ze1 (F:List Mn) (i:Nat):attrsOf (F.map core) i=attrsOf F i:=by
 unfold attrsOf;rw [List.getElem?_map];cases F[i]? <;> rfl
theorem ze2 (F:List Mn) (x:Int):isB (F.map core) x=isB F x:=by unfold isB;rw [List.length_map]
theorem zpu (F:List Mn) (i:Nat):linkB (F.map core) i=linkB F i:=by
 unfold linkB;simp only [zb5,zax,ze2]
theorem zrs (F:List Mn):docB (F.map core)=docB F:=by
 unfold docB;simp only [zi9,zax]
theorem zja (F:List Mn):∀ (n:Nat) (x:Int),endsB (F.map core) n x=endsB F n x
 | 0,x=>rfl
 | n+1,x=>by rw [endsB,endsB,zb5,zja F n]
theorem zks (F:List Mn) (t:Int):∀ (n:Nat) (x:Int),onWay (F.map core) t n x=onWay F t n x
 | 0,x=>rfl
 | n+1,x=>by rw [onWay,onWay,zb5,zks F t n]
theorem zrt (F:List Mn) (i:Nat) (m:Mn):oneB (F.map core) i (core m)=oneB F i m:=by
 unfold oneB;rw [zpu];rfl
theorem za3 (F:List Mn):mayB (F.map core)=mayB F:=by
 unfold mayB;have e:∀ i,(((F.map core)[i]?).map (oneB (F.map core) i)).getD false=((F[i]?).map (oneB F i)).getD false:=fun i=>by
  rw [List.getElem?_map];cases F[i]? with
  | none=>rfl
  | some m=>exact zrt F i m
 simp only [List.length_map,zrs,zja,e]
theorem zn0 (F:List Mn) (a b:Int):belowB (F.map core) a b=belowB F a b:=by
 unfold belowB;simp only [za3,ze2,zks,List.length_map]
theorem zkt (F:List Mn) (o:Ops.Po):errP (F.map core) o=errP F o:=by
 unfold errP newE insE remE setE delE txE docMay others;simp only [za3,ze2,zi9,zax,zb5,ze1,zn0,List.length_map]
theorem zhk {G:List Mn} {n:Nat} {f:Mn->Mn} (hf:∀ m,core (f m)=f (core m)):(G.modify n f).map core=(G.map core).modify n f:=by
 refine List.ext_getElem? fun i=>?_
 rw [List.getElem?_map,List.getElem?_modify,List.getElem?_modify,List.getElem?_map];cases G[i]? with
 | none=>rfl
 | some m=>by_cases h:n=i<;>simp [h,hf]
theorem za8 (F:List Mn) (n:Nat) (p:Int):(setPar F n p).map core=setPar (F.map core) n p:=zhk (fun _=>rfl)
theorem zcj (F:List Mn) (n:Nat) (l:List Int):(setKids F n l).map core=setKids (F.map core) n l:=zhk (fun _=>rfl)
theorem ze3 (F:List Mn) (n:Nat) (l:List At2):(setAt F n l).map core=setAt (F.map core) n l:=zhk (fun _=>rfl)
theorem zhl (F:List Mn) (id:Nat):(remP F id).map core=remP (F.map core) id:=by
 unfold remP;simp only [za8,zcj,zb5,zax]
theorem zru (F:List Mn) (id:Nat):(outP F id).map core=outP (F.map core) id:=by
 unfold outP;rw [zb5]
 split
 · rfl
 · exact zhl F id
theorem zrv (F:List Mn) (id dst pos:Nat):(layP F id dst pos).map core=layP (F.map core) id dst pos:=by
 unfold layP;simp only [za8,zcj,zax]
theorem zmy (F:List Mn) (o:Ops.Po):(doP F o).map core=doP (F.map core) o:=by
 unfold doP
 split
 · unfold addP;rw [List.map_append];rfl
 split
 · unfold insP;rw [zrv,zru]
 split
 · exact zhl F _
 split
 · rw [ze3,ze1]
 split
 · rw [ze3,ze1]
 · exact znz
theorem zbp {F G:List Mn} (h:G.map core=F.map core):G.length=F.length:=by simpa using congrArg List.length h
theorem zjb {F G:List Mn} (h:G.map core=F.map core):mayB G=mayB F:=by rw [<- za3 G,h,za3]
theorem ze4 {F G:List Mn} (h:G.map core=F.map core) (o:Ops.Po):errP G o=errP F o:=by rw [<- zkt G,h,zkt]
theorem zix {F G:List Mn} (h:G.map core=F.map core) (o:Ops.Po):(doP G o).map core=(doP F o).map core:=by rw [zmy,h,zmy]
theorem zaj {F:List Mn} (h:mayB F=true):F.length<=60/\∀ m∈F,m.attrs.length<=8:=by
 obtain ⟨h1,h2,-⟩:=zv.1 h;refine ⟨h1.2,fun m hm=>?_⟩;obtain ⟨i,hi,rfl⟩:=List.mem_iff_getElem.1 hm;have ho:=(h2 i hi).2;unfold ownB at ho
 split at ho
 · simp only [Bool.and_eq_true,decide_eq_true_eq] at ho;omega
 split at ho
 · simp only [Bool.and_eq_true,decide_eq_true_eq] at ho;omega
 split at ho
 · simp only [Bool.and_eq_true] at ho;exact (zbo.1 ho.2.2).1
 · cases ho
theorem zbh {F:List Mn} (h:mayB F=true):∀ m∈F,m.kids.length<=60:=by
 intro m hm;obtain ⟨i,hi,rfl⟩:=List.mem_iff_getElem.1 hm;obtain ⟨h1,h2,h3,-⟩:=zv.1 h;have hk:kidsOf F i=F[i].kids:=zae hi;have hall:∀ k∈F[i].kids,∃ j:Nat,k=j/\j<F.length:=fun k hk'=>by
  obtain ⟨j,e,hj,-⟩:=(h3 i hi).2 k (by rw [hk];exact hk');exact ⟨j,e,hj⟩
 have hcnt:∀ k∈F[i].kids,F[i].kids.count k=1:=fun k hk'=>by
  obtain ⟨j,rfl,hj,hp⟩:=(h3 i hi).2 k (by rw [hk];exact hk');have:=((h3 j hj).1).resolve_left (by omega);obtain ⟨-,j',e1,e2,e3⟩:=this;obtain rfl:i=j':=by omega
  rw [hk] at e3;exact e3
 have hnd:(F[i].kids.map Int.toNat).Nodup:=by
  rw [List.nodup_iff_count];intro a
  rcases Nat.eq_zero_or_pos ((F[i].kids.map Int.toNat).count a) with e|e
  · omega
  · obtain ⟨k,hk',rfl⟩:=List.mem_map.1 (List.count_pos_iff.1 e);obtain ⟨j,rfl,hj⟩:=hall k hk';have:(F[i].kids.map Int.toNat).count ((j:Int)).toNat=F[i].kids.count (j:Int):=by
     rw [List.count,List.countP_map,List.count];refine List.countP_congr (fun x hx=>?_);obtain ⟨y,rfl,-⟩:=hall x hx;simp;omega
    rw [this,hcnt _ hk'];exact Nat.le_refl _
 have:=zeu F.length _ hnd (fun y hy=>by
  obtain ⟨k,hk',rfl⟩:=List.mem_map.1 hy;obtain ⟨j,rfl,hj⟩:=hall k hk';simpa using hj)
 rw [List.length_map] at this;omega
theorem zmz {s:ByteArray} (h:nm s=true):s.size<=20:=(of_decide_eq_true h:Nm s).2.1
theorem zm0 {F:List Mn} (h:mayB F=true):∀ m∈F,m.name.size<=60/\m.text.size<=60/\∀ a∈m.attrs,a.1.size<=60/\a.2.size<=60:=by
 intro m hm;obtain ⟨i,hi,rfl⟩:=List.mem_iff_getElem.1 hm;obtain ⟨-,h2,-⟩:=zv.1 h;have ho:=(h2 i hi).2;unfold ownB emp at ho
 split at ho
 · simp only [Bool.and_eq_true,decide_eq_true_eq] at ho;refine ⟨by omega,by omega,fun a ha=>?_⟩;rw [List.eq_nil_of_length_eq_zero ho.2.2.2] at ha;cases ha
 split at ho
 · simp only [Bool.and_eq_true,decide_eq_true_eq] at ho;refine ⟨by omega,by omega,fun a ha=>?_⟩;rw [List.eq_nil_of_length_eq_zero ho.2.2] at ha;cases ha
 split at ho
 · simp only [Bool.and_eq_true,decide_eq_true_eq] at ho;have h20:=zmz ho.1;refine ⟨by omega,by omega,fun a ha=>?_⟩;obtain ⟨a1,a2⟩:=(zbo.1 ho.2.2).2.1 a ha;have:=zmz a1;exact ⟨by omega,a2⟩
 · cases ho
theorem zm1 {F:List Mn} (h:mayB F=true):Sz2 F :=
 ⟨by have:=(zaj h).1;omega,fun m hm=>by have:=zbh h m hm;omega,fun m hm=>by have:=(zaj h).2 m hm;omega,fun m hm=>by
  obtain ⟨a,b,c⟩:=zm0 h m hm;exact ⟨by omega,by omega,fun x hx=>by have:=c x hx;omega⟩⟩
def Own (g:Nat) (G:List Mn) (k:Nat):Prop:=k=g\/∃ m∈G,aB m=some k\/kB m=some k
structure Chg (w w':World) (g:Nat) (G:List Mn) (g':Nat) (G':List Mn):Prop where
 os:w'.os=w.os
 tape:w'.tape=w.tape
 output:w'.output=w.output
 size:w.heap.size<=w'.heap.size
 keep:∀ k,k<w.heap.size->¬ Own g G k->w'.heap[k]? = w.heap[k]?
 new:∀ k,Own g' G' k->Own g G k\/w.heap.size<=k
theorem Chg.refl (w:World) (g:Nat) (G:List Mn):Chg w w g G g G:=⟨rfl,rfl,rfl,Nat.le_refl _,fun _ _ _=>rfl,fun _ h=>.inl h⟩
theorem Chg.trans {a b c:World} {g g1 g2:Nat} {G G1 G2:List Mn} (h:Chg a b g G g1 G1) (k:Chg b c g1 G1 g2 G2):Chg a c g G g2 G2 :=
 ⟨k.os.trans h.os,k.tape.trans h.tape,k.output.trans h.output,Nat.le_trans h.size k.size,
  fun i hi hn=>(k.keep i (Nat.lt_of_lt_of_le hi h.size) (fun ho=>(h.new i ho).elim hn (fun hh=>by omega))).trans (h.keep i hi hn),
  fun i ho=>(k.new i ho).elim (fun h1=>h.new i h1) (fun hh=>.inr (Nat.le_trans h.size hh))⟩
theorem OF.own {w:World} {base g n cap:Nat} {G:List Mn} (h:OF w base (.slice (some ⟨g,0,none⟩) n cap) G) {k:Nat} (hk:Own g G k):base<=k/\k<w.heap.size:=by
 rcases hk with rfl|⟨m,hm,e|e⟩
 · exact h.row.lt _ rfl
 · exact (h.lst m hm).at_.lt _ e
 · exact (h.lst m hm).ki.lt _ e
theorem OF.size {w:World} {base g n cap:Nat} {G:List Mn} (h:OF w base (.slice (some ⟨g,0,none⟩) n cap) G):base<=w.heap.size:=by
 have:=h.own (k:=g) (.inl rfl);omega
theorem Chg.below {w w':World} {base g n cap g':Nat} {G G':List Mn} (h:Chg w w' g G g' G') (hO:OF w base (.slice (some ⟨g,0,none⟩) n cap) G):Below base w w' :=
 ⟨h.os,h.tape,h.output,h.size,fun k hk=>h.keep k (by have:=hO.size;omega) (fun ho=>by have:=hO.own ho;omega)⟩
theorem Chg.grown {w w':World} {g:Nat} {G:List Mn} {row:Option Nat} {g':Nat} {G':List Mn} (h:w.grownBy w' row) (hr:∀ k,row=some k->Own g G k) (hn:∀ k,Own g' G' k->Own g G k\/w.heap.size<=k):Chg w w' g G g' G' :=
 ⟨h.os,h.tape,h.output,h.size,fun k hk ho=>h.block k hk (fun e=>ho (hr k e.symm)),hn⟩
theorem Chg.store {w V:World} {g:Nat} {G:List Mn} {row:Option Nat} {G':List Mn} (h:w.grownBy V row) (hr:∀ k,row=some k->Own g G k) (o:Nat) (u:Value) (hn:∀ k,Own g G' k->Own g G k\/w.heap.size<=k):Chg w (V.setCell ⟨g,o,none⟩ u) g G g G' :=
 ⟨h.os,h.tape,h.output,by simpa [World.setCell] using h.size,fun k hk ho=>by
  rw [Below.heap_setCell _ _ _ _ (fun e=>ho (.inl e))];exact h.block k hk (fun e=>ho (hr k e.symm)),hn⟩
theorem zc0 {g:Nat} {G:List Mn} {n:Nat} {f:Mn->Mn} (hf:∀ m,aB (f m)=aB m/\kB (f m)=kB m) {k:Nat}:Own g (G.modify n f) k->Own g G k:=by
 rintro (rfl|⟨m,hm,e⟩)
 · exact .inl rfl
 · obtain ⟨i,hi,rfl⟩:=List.mem_iff_getElem.1 hm;rw [List.getElem_modify] at e;have hi':i<G.length:=by simpa using hi
   refine .inr ⟨G[i],List.getElem_mem hi',?_⟩
   split at e
   · rw [(hf _).1,(hf _).2] at e;exact e
   · exact e
theorem OF.upd {w U:World} {base g cap:Nat} {G:List Mn} (h:OF w base (.slice (some ⟨g,0,none⟩) G.length cap) G) {n:Nat} (hn:n<G.length) {f:Mn->Mn}
 (hrow:U.ownsRow base 90 6 (.slice (some ⟨g,0,none⟩) G.length cap) G.length (fcells (G.modify n f)))
 (hold:∀ i m,G[i]? = some m->i≠n->Lst U base m) (hnew:Lst U base (f G[n])) (hfit:Fit (f G[n]))
 (hA:aB (f G[n])=aB G[n]\/∀ k,aB (f G[n])=some k->w.heap.size<=k) (hK:kB (f G[n])=kB G[n]\/∀ k,kB (f G[n])=some k->w.heap.size<=k) :
 OF U base (.slice (some ⟨g,0,none⟩) G.length cap) (G.modify n f)/\∀ k,Own g (G.modify n f) k->Own g G k\/w.heap.size<=k:=by
 have hl:(G.modify n f).length=G.length:=by simp
 have ltA:∀ (i:Nat) m,G[i]? = some m->∀ r,aB m=some r->r<w.heap.size:=fun i m hm r hr=>((h.lst m (List.mem_of_getElem? hm)).at_.lt r hr).2
 have ltK:∀ (i:Nat) m,G[i]? = some m->∀ r,kB m=some r->r<w.heap.size:=fun i m hm r hr=>((h.lst m (List.mem_of_getElem? hm)).ki.lt r hr).2
 have hgn:G[n]? = some G[n]:=List.getElem?_eq_getElem hn;refine ⟨⟨by rw [hl];exact hrow,fun m hm=>?_,fun m hm=>?_,fun i j m1 m2 h1 h2 hij=>?_,fun i j m1 m2 h1 h2 hij=>?_⟩,fun k hk=>?_⟩
 · obtain ⟨i,hi,rfl⟩:=List.mem_iff_getElem.1 hm
   rcases zbb hn (List.getElem?_eq_getElem hi) with ⟨-,h'⟩|⟨-,h'⟩
   · exact h.fit _ (List.mem_of_getElem? h')
   · rw [h'];exact hfit
 · obtain ⟨i,hi,rfl⟩:=List.mem_iff_getElem.1 hm
   rcases zbb hn (List.getElem?_eq_getElem hi) with ⟨hne,h'⟩|⟨-,h'⟩
   · exact hold i _ h' hne
   · rw [h'];exact hnew
 · rcases zbb hn h1 with ⟨n1,e1⟩|⟨rfl,e1⟩
   · rcases zbb hn h2 with ⟨n2,e2⟩|⟨rfl,e2⟩
     · exact h.apA i j m1 m2 e1 e2 hij
     · rw [e2]
       rcases hA with e|e
       · rw [e];exact h.apA i j m1 _ e1 hgn hij
       · rcases hr:aB m1 with _|r
         · exact .inl rfl
         · refine .inr fun e'=>?_
           have:=ltA i m1 e1 r hr;have:=e r e'.symm;omega
   · rcases zbb hn h2 with ⟨n2,e2⟩|⟨rfl,e2⟩
     · rw [e1]
       rcases hA with e|e
       · rw [e];exact h.apA i j _ m2 hgn e2 hij
       · rcases hr:aB (f G[i]) with _|r
         · exact .inl rfl
         · refine .inr fun e'=>?_
           have:=ltA j m2 e2 r e'.symm;have:=e r hr;omega
     · omega
 · rcases zbb hn h1 with ⟨n1,e1⟩|⟨rfl,e1⟩
   · rcases zbb hn h2 with ⟨n2,e2⟩|⟨rfl,e2⟩
     · exact h.apK i j m1 m2 e1 e2 hij
     · rw [e2]
       rcases hK with e|e
       · rw [e];exact h.apK i j m1 _ e1 hgn hij
       · rcases hr:kB m1 with _|r
         · exact .inl rfl
         · refine .inr fun e'=>?_
           have:=ltK i m1 e1 r hr;have:=e r e'.symm;omega
   · rcases zbb hn h2 with ⟨n2,e2⟩|⟨rfl,e2⟩
     · rw [e1]
       rcases hK with e|e
       · rw [e];exact h.apK i j _ m2 hgn e2 hij
       · rcases hr:kB (f G[i]) with _|r
         · exact .inl rfl
         · refine .inr fun e'=>?_
           have:=ltK j m2 e2 r e'.symm;have:=e r hr;omega
     · omega
 · rcases hk with rfl|⟨m,hm,e⟩
   · exact .inl (.inl rfl)
   · obtain ⟨i,hi,rfl⟩:=List.mem_iff_getElem.1 hm
     rcases zbb hn (List.getElem?_eq_getElem hi) with ⟨hne,h'⟩|⟨-,h'⟩
     · exact .inl (.inr ⟨_,List.mem_of_getElem? h',e⟩)
     · rw [h'] at e
       rcases e with e|e
       · rcases hA with e'|e'
         · exact .inl (.inr ⟨_,List.getElem_mem hn,.inl (by rw [<- e'];exact e)⟩)
         · exact .inr (e' k e)
       · rcases hK with e'|e'
         · exact .inl (.inr ⟨_,List.getElem_mem hn,.inr (by rw [<- e'];exact e)⟩)
         · exact .inr (e' k e)
theorem zt {w V:World} {base b2 s s' n n':Nat} {e t:TypeId} {v v':Value} {xs xs':List Value} (h:w.ownsRow base e s v n xs) (h':w.ownsRow b2 t s' v' n' xs') (hne:e≠t) (hg:w.grownBy V v'.ownBlock):V.ownsRow base e s v n xs :=
 h.kept hg (zp h h' hne)
def setKd (n:Nat) (l:List Int) (p:Option Addr) (c:Nat) (G:List Mn):List Mn:=G.modify n fun m=>{ m with kids:=l,kA:=p,kC:=c }
def setAd (n:Nat) (l:List At2) (p:Option Addr) (c:Nat) (G:List Mn):List Mn:=G.modify n fun m=>{ m with attrs:=l,aA:=p,aC:=c }
theorem ze5 {G:List Mn} {n:Nat} {l:List Int} {p:Option Addr} {c:Nat}:(setKd n l p c G).map core=setKids (G.map core) n l:=by
 unfold setKd setKids;refine List.ext_getElem? fun i=>?_
 rw [List.getElem?_map,List.getElem?_modify,List.getElem?_modify,List.getElem?_map];cases G[i]? with
 | none=>rfl
 | some m=>by_cases h:n=i<;>simp [h,core]
theorem zn1 {G:List Mn} {n:Nat} {l:List At2} {p:Option Addr} {c:Nat}:(setAd n l p c G).map core=setAt (G.map core) n l:=by
 unfold setAd setAt;refine List.ext_getElem? fun i=>?_
 rw [List.getElem?_map,List.getElem?_modify,List.getElem?_modify,List.getElem?_map];cases G[i]? with
 | none=>rfl
 | some m=>by_cases h:n=i<;>simp [h,core]
theorem OF.kids {w V:World} {base g cap:Nat} {G:List Mn} (h:OF w base (.slice (some ⟨g,0,none⟩) G.length cap) G) {n:Nat} (hn:n<G.length) {p:Option Addr} {c:Nat} {l:List Int}
 (hg:w.grownBy V (kB G[n])) (hr:V.ownsRow base 3 1 (.slice p l.length c) l.length (ivs l)) (hb:(Value.slice p l.length c).ownBlock=kB G[n]\/∀ k,(Value.slice p l.length c).ownBlock=some k->w.heap.size<=k) (h64:∀ x∈l,I64 x) :
 OF (V.setCell ⟨g,n*6+5,none⟩ (.slice p l.length c)) base (.slice (some ⟨g,0,none⟩) G.length cap) (setKd n l p c G)/\Chg w (V.setCell ⟨g,n*6+5,none⟩ (.slice p l.length c)) g G g (setKd n l p c G):=by
 have hgn:G[n]? = some G[n]:=List.getElem?_eq_getElem hn;have hlst:=h.lst _ (List.getElem_mem hn);have r1:=zt h.row hlst.ki (by decide) hg;have r2:=zb9 (n:=n) (d:=5) (f:=fun m=>{ m with kids:=l,kA:=p,kC:=c }) (u:=.slice p l.length c) r1 hn (by omega) rfl;have hfit:=h.fit _ (List.getElem_mem hn);obtain ⟨p',c',hv,a1,a2⟩:=zj hr;cases hv;unfold maxLen at a2;have key:=OF.upd h hn (f:=fun m=>{ m with kids:=l,kA:=p,kC:=c }) r2 (fun i m hm hne=>by
  have hl:=h.lst m (List.mem_of_getElem? hm);exact Lst.store ⟨zt hl.at_ hlst.ki (by decide) hg,hl.ki.kept hg (h.apK i n m _ hm hgn hne)⟩ r1)
  (Lst.store ⟨zt hlst.at_ hlst.ki (by decide) hg,hr⟩ r1)
  ⟨hfit.k64,hfit.p64,h64,hfit.ac,⟨a1,by omega⟩⟩ (.inl rfl) hb
 exact ⟨key.1,Chg.store hg (fun k e=>.inr ⟨_,List.getElem_mem hn,.inr e⟩) _ _ key.2⟩
theorem OF.attrs {w V:World} {base g cap:Nat} {G:List Mn} (h:OF w base (.slice (some ⟨g,0,none⟩) G.length cap) G) {n:Nat} (hn:n<G.length) {p:Option Addr} {c:Nat} {l:List At2}
 (hg:w.grownBy V (aB G[n])) (hr:V.ownsRow base 140 2 (.slice p l.length c) l.length (acells l)) (hb:(Value.slice p l.length c).ownBlock=aB G[n]\/∀ k,(Value.slice p l.length c).ownBlock=some k->w.heap.size<=k) :
 OF (V.setCell ⟨g,n*6+3,none⟩ (.slice p l.length c)) base (.slice (some ⟨g,0,none⟩) G.length cap) (setAd n l p c G)/\Chg w (V.setCell ⟨g,n*6+3,none⟩ (.slice p l.length c)) g G g (setAd n l p c G):=by
 have hgn:G[n]? = some G[n]:=List.getElem?_eq_getElem hn;have hlst:=h.lst _ (List.getElem_mem hn);have r1:=zt h.row hlst.at_ (by decide) hg;have r2:=zb9 (n:=n) (d:=3) (f:=fun m=>{ m with attrs:=l,aA:=p,aC:=c }) (u:=.slice p l.length c) r1 hn (by omega) rfl;have hfit:=h.fit _ (List.getElem_mem hn);obtain ⟨p',c',hv,a1,a2⟩:=zj hr;cases hv;unfold maxLen at a2;have key:=OF.upd h hn (f:=fun m=>{ m with attrs:=l,aA:=p,aC:=c }) r2 (fun i m hm hne=>by
  have hl:=h.lst m (List.mem_of_getElem? hm);exact Lst.store ⟨hl.at_.kept hg (h.apA i n m _ hm hgn hne),zt hl.ki hlst.at_ (by decide) hg⟩ r1)
  (Lst.store ⟨hr,zt hlst.ki hlst.at_ (by decide) hg⟩ r1)
  ⟨hfit.k64,hfit.p64,hfit.ks64,⟨a1,by omega⟩,hfit.kc⟩ hb (.inl rfl)
 exact ⟨key.1,Chg.store hg (fun k e=>.inr ⟨_,List.getElem_mem hn,.inl e⟩) _ _ key.2⟩
theorem OF.attr {w:World} {base g cap ga:Nat} {G:List Mn} (h:OF w base (.slice (some ⟨g,0,none⟩) G.length cap) G) {n:Nat} (hn:n<G.length) (ha:G[n].aA=some ⟨ga,0,none⟩) {l:List At2} (hl:l.length=G[n].attrs.length) {o:Nat} {u:Value} (he:acells l=(acells G[n].attrs).set o u) :
 OF (w.setCell ⟨ga,o,none⟩ u) base (.slice (some ⟨g,0,none⟩) G.length cap) (setAd n l G[n].aA G[n].aC G)/\Chg w (w.setCell ⟨ga,o,none⟩ u) g G g (setAd n l G[n].aA G[n].aC G):=by
 have hgn:G[n]? = some G[n]:=List.getElem?_eq_getElem hn;have hlst:=h.lst _ (List.getElem_mem hn);have hrow:=hlst.at_;rw [ha] at hrow;obtain ⟨hr,hg⟩:=hrow.stored o u;rw [<- he,<- hl,<- ha] at hr;have hB:aB G[n]=some ga:=by unfold aB;rw [ha];rfl
 rw [<- hB] at hg;have r1:=zt h.row hlst.at_ (by decide) hg;have hcells:fcells (G.modify n fun m=>{ m with attrs:=l,aA:=G[n].aA,aC:=G[n].aC })=fcells G:=by
  have e0:=ze0 (f:=fun m=>{ m with attrs:=l,aA:=G[n].aA,aC:=G[n].aC }) (d:=0) (u:=.int .i64 G[n].kind) hn (by omega) (by simp [ncells,nval,hl]);rw [<- e0];have h0:(fcells G)[n*6+0]? = some (.int .i64 G[n].kind):=by
   have:=(zbk h.row hn).c0;rw [h.row.cellAt _ (by have:=hn;omega)] at this;exact this
  exact List.ext_getElem? fun i=>by
   rw [List.getElem?_set]
   split
   · rename_i e;subst e
     split
     · exact h0.symm
     · rename_i hx;rw [List.getElem?_eq_none (by omega)] at h0;cases h0
   · rfl
 have key:=OF.upd (U:=w.setCell ⟨ga,o,none⟩ u) h hn (f:=fun m=>{ m with attrs:=l,aA:=G[n].aA,aC:=G[n].aC }) (by rw [hcells];exact r1) (fun i m hm hne=>by
  have hl:=h.lst m (List.mem_of_getElem? hm);exact ⟨hl.at_.kept hg (h.apA i n m _ hm hgn hne),zt hl.ki hlst.at_ (by decide) hg⟩)
  ⟨hr,zt hlst.ki hlst.at_ (by decide) hg⟩
  (by have hf:=h.fit _ (List.getElem_mem hn);exact ⟨hf.k64,hf.p64,hf.ks64,by rw [hl];exact hf.ac,hf.kc⟩) (.inl (by unfold aB;rw [hl])) (.inl rfl)
 exact ⟨key.1,Chg.grown hg (fun k e=>.inr ⟨_,List.getElem_mem hn,.inl e⟩) key.2⟩
def rest (m:Mn):Mn:={ m with parent:=0,kids:=[] }
theorem zku {x:Int}:∀ {l:List Int} {k:Nat},k<=l.length->l.insertIdx k x=l.take k++x::l.drop k
 | l,0,_=>by simp
 | [],k+1,h=>by simp at h
 | a::l,k+1,h=>by rw [List.insertIdx_succ_cons,zku (by simpa using h)];rfl
theorem zn2 {l:List Int} {n:Int}:(l.filter (fun k:Int=>decide (k≠n))).length=l.length - l.count n:=by
 have:=List.length_eq_countP_add_countP (l:=l) (fun k:Int=>decide (k=n));rw [<- List.countP_eq_length_filter];have e1:List.countP (fun k:Int=>decide (k=n)) l=l.count n:=by
  rw [List.count];exact List.countP_congr (fun x _=>by simp)
 have e2:List.countP (fun k:Int=>decide ¬decide (k=n)=true) l=List.countP (fun k:Int=>decide (k≠n)) l:=List.countP_congr (fun x _=>by simp);omega
theorem zn3 {G:List Mn} (h:mayB G=true) {n p:Nat} (hn:n<G.length) (hp:p<G.length):others G n p=((kidsOf G p).filter (fun k:Int=>decide (k≠(n:Int)))).length:=by
 obtain ⟨-,-,h3,-,-⟩:=zv.1 h;unfold others;simp only [Int.toNat_natCast];rw [zn2]
 by_cases hpp:par G n=(p:Int)
 · rw [if_pos hpp];obtain ⟨-,j,c1,c2,c3⟩:=((h3 n hn).1).resolve_left (by omega);obtain rfl:j=p:=by omega
   have:(kidsOf G j).count (n:Int)<=(kidsOf G j).length:=List.count_le_length;omega
 · rw [if_neg hpp];have:(kidsOf G p).count (n:Int)=0:=List.count_eq_zero_of_not_mem (fun hm=>by
    obtain ⟨x,c1,c2,c3⟩:=(h3 p hp).2 _ hm;obtain rfl:n=x:=by omega
    exact hpp c3)
   omega
theorem zbc {F:List Mn} {x:Int} (h:isB F x=true):∃ j:Nat,x=j/\j<F.length:=by
 rw [isB,decide_eq_true_eq] at h;obtain ⟨j,rfl⟩:=Int.eq_ofNat_of_zero_le h.1;exact ⟨j,rfl,by omega⟩
theorem zm2 {F:List Mn} {id dst pos:Nat}:(insP F id dst pos).length=F.length:=by unfold insP;rw [zbu,zcr]
theorem zu4 {F:List Mn} {o:Ops.Po}:(doP F o).length=if o.kind=1\/o.kind=2\/o.kind=3 then F.length+1 else F.length:=by
 unfold doP
 split
 · simp [addP]
 split
 · exact zm2
 split
 · exact zdi
 split
 · exact zdy
 split
 · exact zdy
 · exact zi5
theorem ztr {F F':List Mn} (h:mayB F=true) {k:Nat} {l:List Ops.Po} {r:Nat × Int} (e:runP F k l=(some F',r)):mayB F'=true:=by
 induction l generalizing F k with
 | nil=>cases e;exact h
 | cons o l ih =>
   rw [runP] at e
   split at e
   · rename_i he;exact ih (zkl h he) e
   · cases e
def onesP (F:List Mn):List Ops.Po->List Mn
 | []=>F
 | o::l=>onesP (oneP F o).1 l
theorem zrw {F:List Mn} (h:mayB F=true) (l:List Ops.Po):mayB (onesP F l)=true:=by
 induction l generalizing F with
 | nil=>exact h
 | cons o l ih=>exact ih (ztq h o)
theorem zpv (F:List Mn) (l:List Ops.Po) (o:Ops.Po):onesP F (l++[o])=(oneP (onesP F l) o).1:=by
 induction l generalizing F with
 | nil=>rfl
 | cons a l ih=>exact ih _
end Go.Proofs.YtdmecdjfbpblgaaGreatDoor
