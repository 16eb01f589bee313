/-
  A region that draws its order, in a round of a range over a function: by the law of a plain frame.
-/
import Derived.Test.YtdmecdjfbpblgaaGreatDoorQH13
import Derived.Test.YtdmecdjfbpblgaaGreatDoorQG16
namespace Go.Proofs.YtdmecdjfbpblgaaGreatDoor
set_option maxRecDepth 100000
set_option maxHeartbeats 32000000
open Go.ChangeShapes Go.WideShapes Go.ChangeAt Go.RowKit
set_option linter.unusedVariables false
set_option linter.unusedSimpArgs false
def noDefer (ops:Array Oper):Bool:=ops.all fun o=>match o.op with
 | .defer _=>false
 | _=>true
theorem zou {ops:Array Oper} (h:noDefer ops=true) {i:Nat} {o:Oper} (ho:ops[i]? = some o) (c:Call):o.op ≠ .defer c:=fun e=>by
 obtain ⟨hi,rfl⟩:=Array.getElem?_eq_some_iff.1 ho;have h1:=(Array.all_eq_true.1 h) i hi;rw [e] at h1;cases h1
theorem zov {P:Program} {Q:Exit->Act->World->Prop} {r n:Nat} {o:Oper} {K:Act->World->Prop} {a:Act} (x:Result Next) (h:o.upon P a K Q x):o.uponIn (Fence.wide.inRound r) n P a K Q x:=by
 cases x with
 | ok y w' =>
   cases y<;>first
    | exact h
    | exact ⟨(fun hs=>Bool.noConfusion hs),CallsIn.inRound r (callsIn_wide.2 h)⟩
    | exact ⟨(fun hs=>Bool.noConfusion hs),fun c cs _=>let ⟨v,w2,k,s⟩:=h c cs;⟨v,w2,k,stepsIn_wide.2 s⟩⟩
    | exact (h:False).elim
 | halt y w'=>cases y<;>first|exact h|exact (h:False).elim
theorem zlk {P:Program} {ops:Array Oper} {Q:Exit->Act->World->Prop} {r n i:Nat} {K:Act->World->Prop} {a:Act} {w:World} (hd:noDefer ops=true) (hL:¬ LetsOut Q) (h:wpOp P ops Q i K a w):wpOpIn (Fence.wide.inRound r) n P ops Q i K a w:=by
 unfold wpOp at h;unfold wpOpIn;cases ho:ops[i]? with
 | none=>rw [ho] at h;exact h
 | some o =>
   rw [ho] at h;simp only [] at h ⊢
   by_cases hw:Region.wanted o (yielded ops a.tmps)=true
   · rw [if_pos hw] at h ⊢
     rcases h with h|h
     · refine ⟨fun _ _=>trivial,?_⟩;rw [Oper.semAt_eq _ _ _ (zou hd ho)];unfold Oper.wp at h;exact zov _ h
     · exact absurd h.2 hL
   · rw [if_neg hw] at h ⊢;exact ⟨fun _ _=>trivial,h⟩
theorem zfx {P:Program} {md:Region.Mode} {ops:Array Oper} {Q:Exit->Act->World->Prop} {r n:Nat} (hd:noDefer ops=true) (hL:¬ LetsOut Q):∀ (fuel:Nat) (listed:Array Bool) (a:Act) (w:World),wpAny P md ops Q fuel listed a w->wpAnyIn (Fence.wide.inRound r) n P md ops Q fuel listed a w
 | 0,_,_,_,h=>h
 | fuel+1,_,_,_,h=>⟨h.1,fun i hi=>zlk hd hL (wpOp_mono (fun a' w' h'=>zfx hd hL fuel _ a' w' h') (h.2 i hi))⟩
theorem zll {P:Program} {ops:Array Oper} {Q:Exit->Act->World->Prop} {S:World->Prop} {r n id:Nat} {a:Act} {w:World} (hm:P.follows .mixedOrders=true) (hd:noDefer ops=true) (hL:¬ LetsOut Q) (hS:S w.drew)
 (h:S w.drew->wpAnyH P .any ops Q S ops.size (Array.replicate ops.size false) a w.drew):(Code.region id ops true).wpIn (Fence.wide.inRound r) n P Q a w :=
 wpIn_region_any hm (zfx hd hL _ _ _ _ (wpAny_of_held _ _ _ _ (h hS)))
theorem zsq {a k:Nat} (hk:k<a):(List.finRange a).take (k+1)=(List.finRange a).take k++[⟨k,hk⟩]:=by
 rw [List.take_add_one,List.getElem?_eq_getElem (by simpa using hk),List.getElem_finRange];rfl
theorem zlm (n:Nat) (hn:1<=n) (Bs Bn ga a c:Nat) (A:Option Addr) (hA:0<a->A=some ⟨ga,0,none⟩) (ha:a<=500) (hc:2*a<=c) (hcm:c<=maxLen) (w:World) (hBs:Bs<w.heap.size) (hBn:Bn<w.heap.size) (h1:w.cell? ⟨Bs,0,none⟩=some (.slice A (2*a) c)) (h2:w.cell? ⟨Bn,0,none⟩=some (.int .i64 2)) :
 SeqStopsK Fence.wide n Tryz.prog 113 #[.pointer (some ⟨Bs,0,none⟩),.pointer (some ⟨Bn,0,none⟩)] (fun k:Fin a=>#[Value.slice (some ⟨ga,2*k.1,none⟩) 2 2]) (Kc Bs Bn) (fun ys=>ys=List.finRange a) (fun pre=>∃ k,k<=a/\pre=(List.finRange a).take k) a w:=by
 intro l J Jx W hW hAb hAx hY h0;refine (zqu n hn l Bs Bn ga a c A hA ha hc hcm (fun k W=>J ((List.finRange a).take k) W) (fun k W=>Jx ((List.finRange a).take k) W) (fun k W hj=>hAb _ W _ none hj (zqv W none) (fun r e=>by cases e)) (fun k W hj hk=>?_) W ((hW.cell (p:=⟨Bs,0,none⟩) hBs).trans h1) ((hW.cell (p:=⟨Bn,0,none⟩) hBn).trans h2) (by simpa using h0)).mono ?_
 · have:=hY ((List.finRange a).take k) ⟨k,hk⟩ W hj (by simp;omega);rw [<- zsq hk] at this;exact this
 · rintro e W3 ⟨hv,(hj|⟨k,hk,hj⟩)⟩
   · exact ⟨hv,.inl ⟨_,by rw [List.take_of_length_le (by simp)],hj⟩⟩
   · exact ⟨hv,.inr ⟨_,⟨k,hk,rfl⟩,hj⟩⟩
attribute [local go_sem] Oper.semAt_some
theorem zhp:∀ {l:List At2} {k:Nat},k<l.length->(flatA l)[2*k]? = some (l.getD k default).1/\(flatA l)[2*k+1]? = some (l.getD k default).2
 | a::l,0,_=>⟨rfl,rfl⟩
 | a::l,k+1,h=>by
   have e:flatA (a::l)=a.1::a.2::flatA l:=rfl;have:=zhp (l:=l) (k:=k) (by simpa using h);rw [e,show 2*(k+1)=2*k+1+1 by omega,List.getElem?_cons_succ,List.getElem?_cons_succ,List.getElem?_cons_succ,List.getElem?_cons_succ];exact this
theorem zqw {w:World} {b c:Nat} {A:Option Addr} {l:List At2} (h:w.ownsRow b 9 1 (.slice A (flatA l).length c) (flatA l).length (bsv (flatA l))) :
 ∃ ga,(0<l.length->A=some ⟨ga,0,none⟩/\ga<w.heap.size/\∀ k,k<l.length->w.cell? ⟨ga,2*k,none⟩=some (.string (l.getD k default).1)/\w.cell? ⟨ga,2*k+1,none⟩=some (.string (l.getD k default).2))/\2*l.length<=c/\c<=maxLen:=by
 have hc:2*l.length<=c/\c<=maxLen:=by
  obtain ⟨p,c',hv,h1,h2⟩:=zj h;cases hv;rw [zbt] at h1;exact ⟨h1,h2⟩
 rcases h.2 with ⟨-,hn⟩|⟨ka,cap',cur,hv,hb,hk,-⟩
 · rw [zbt] at hn;exact ⟨0,fun h0=>absurd h0 (by omega),hc⟩
 · cases hv;refine ⟨ka,fun _=>⟨rfl,lt_of_block hk,fun k hk'=>?_⟩,hc⟩;have key:∀ j s,(flatA l)[j]? = some s->w.cell? ⟨ka,j,none⟩=some (.string s):=fun j s hs=>by
    have h2:=h.cells rfl j (.string s) (by rw [bsv,List.getElem?_map,hs];rfl);rw [show (⟨ka,0,none⟩:Addr).add j=⟨ka,0+j,none⟩ by unfold Addr.add;split<;>simp_all,Nat.zero_add] at h2;exact h2
   exact ⟨key _ _ (zhp hk').1,key _ _ (zhp hk').2⟩
def GivesNd (m:Mn) (w:World) (e:Ending) (w':World):Prop :=
 ∃ N:Mn,e = .returned (.tuple #[nval N,.int .i64 0])/\core N=core m/\Fit N/\Lst w' w.heap.size N/\Below w.heap.size w w'
structure NB (w1 W:World) (k:Nat) (kd:Int) (nm tx:ByteArray) (par:Int) (p:Option Addr) (c:Nat) (l:List At2) (s2:Value):Prop where
 blk:W.heap[k]? = some (.cells #[.int .i64 kd,.string nm,.string tx,.slice p l.length c,.int .i64 par,.slice none 0 0] 90 (0,0))
 row:W.ownsRow (k+3) 140 2 (.slice p l.length c) l.length (acells l)
 bS:Boxed W (k+1) 78 s2
 bN:Boxed W (k+1+1) 3 (.int .i64 2)
 be:Below k w1 W
 sz:k+3<=W.heap.size
theorem NB.kept {w1 W W':World} {k:Nat} {kd:Int} {nm tx:ByteArray} {par:Int} {p:Option Addr} {c:Nat} {l:List At2} {s2:Value} (h:NB w1 W k kd nm tx par p c l s2) {row:Option Nat} (hg:W.grownBy W' row) (hr:∀ r,row=some r->k+3<=r/\∃ o:Obj,W.heap[r]? = some o/\o.isCells=false) (hk:k<=w1.heap.size):NB w1 W' k kd nm tx par p c l s2:=by
 have hb:∀ j,j<k+3->W'.heap[j]? = W.heap[j]?:=fun j hj=>hg.block j (by have:=h.sz;omega) (fun e=>by have:=(hr j e.symm).1;omega)
 refine ⟨(hb k (by omega)).trans h.blk,h.row.kept hg ?_,(hb _ (by omega)).trans h.bS,(hb _ (by omega)).trans h.bN,h.be.grown hg (Nat.le_trans hk h.be.size) (fun r e=>by have:=(hr r e).1;omega),Nat.le_trans h.sz hg.size⟩
 rcases h.row.2 with ⟨hn,-⟩|⟨g,cap,cur,hv,-,hgb,-⟩
 · exact .inl (by rw [hn];rfl)
 · refine .inr fun e'=>?_
   rw [hv] at e';obtain ⟨-,o,ho,hc⟩:=hr g (by simpa [Value.ownBlock] using e'.symm);rw [hgb] at ho;cases ho;cases hc
theorem NB.step {w1 W:World} {k:Nat} {kd:Int} {nm tx:ByteArray} {par:Int} {p:Option Addr} {c:Nat} {l:List At2} {s2:Value} (h:NB w1 W k kd nm tx par p c l s2) (hk:k<=w1.heap.size) (y:At2) {w3:World} {v':Value}
 (hg:(W.drew.alloc (.cells #[.string y.1,.string y.2] 140)).grownBy w3 (Value.slice p l.length c).ownBlock) (ho:w3.ownsRow (k+3) 140 2 v' (l.length+1) (acells l++[.string y.1,.string y.2])) :
 w3.heap[k]? = some (.cells #[.int .i64 kd,.string nm,.string tx,.slice p l.length c,.int .i64 par,.slice none 0 0] 90 (0,0))/\Below k W w3/\KeepsFrom (k+3) W (w3.setCell ⟨k,3,none⟩ v')/\Kc (k+1) (k+1+1) W (w3.setCell ⟨k,3,none⟩ v')/\∃ p' c',NB w1 (w3.setCell ⟨k,3,none⟩ v') k kd nm tx par p' c' (l++[y]) s2:=by
 have hsz:=h.sz;have hlo:∀ r,(Value.slice p l.length c).ownBlock=some r->k+3<=r:=fun r e=>(h.row.lt r e).1
 have hb:∀ j,j<k+3->w3.heap[j]? = W.heap[j]?:=fun j hj=>by
  rw [hg.block j (by simp;omega) (fun e=>by have:=hlo j e.symm;omega),hold _ _ (by show j<W.heap.size;omega)];rfl
 have hbk:=(hb k (by omega)).trans h.blk;have hlt:=lt_of_block hbk;have hB3:Below k W w3:=(((Below.refl k W).drew).alloc (by show k<=W.heap.size;omega) _).grown hg (by simp;omega) (fun r e=>by have:=hlo r e;omega);have hs3:k+3<=w3.heap.size:=Nat.le_trans hsz hB3.size;have hbs:∀ j,j≠k->(w3.setCell ⟨k,3,none⟩ v').heap[j]? = w3.heap[j]?:=fun j hj=>Below.heap_setCell w3 ⟨k,3,none⟩ v' j hj
 have b1:Boxed (w3.setCell ⟨k,3,none⟩ v') (k+1) 78 s2:=((hbs _ (by omega)).trans (hb _ (by omega))).trans h.bS;have b2:Boxed (w3.setCell ⟨k,3,none⟩ v') (k+1+1) 3 (.int .i64 2):=((hbs _ (by omega)).trans (hb _ (by omega))).trans h.bN;obtain ⟨p',c',hv',-,-⟩:=zj ho;refine ⟨hbk,hB3,?_,⟨b1.cell.trans h.bS.cell.symm,b2.cell.trans h.bN.cell.symm⟩,p',c',?_,?_,b1,b2,h.be.trans (hB3.setCell (p:=⟨k,3,none⟩) (Nat.le_refl _) _),by simpa using hs3⟩
 · refine (((KeepsOthers.drew W).trans (KeepsOthers.alloc _ _)).trans ((KeepsOthers.of_grownBy hg (fun j o ej hj=>?_)).trans (KeepsOthers.setCell _ _ _))).from _
   rcases h.row.2 with ⟨hn,-⟩|⟨g,cap,cur,hv,-,hgb,-⟩
   · rw [hn] at ej;cases ej
   · rw [hv] at ej;obtain rfl:g=j:=by simpa [Value.ownBlock] using ej
     have hj':W.heap[g]? = some o:=(hold W.drew _ (show g<W.drew.heap.size from lt_of_block hgb)).symm.trans hj;rw [hgb] at hj';cases hj';rfl
 · rw [zb hbk,hv'];simp
 · have e1:acells (l++[y])=acells l++[.string y.1,.string y.2]:=by simp [acells,at2]
   have e2:(l++[y]).length=l.length+1:=by simp
   rw [e1,e2,<- hv'];exact ownsRow_setCell_other ho (a:=⟨k,3,none⟩) (fun e=>by have h2:k+3<=k:=(ho.lt _ e).1;omega) _
theorem zfo {w:World} {B c:Nat} {A:Option Addr} {l:List Int} {n:Nat} (hn:l.length=n) (h:w.ownsRow B 37 1 (.slice A n c) n (V.gvs l)) :
 ∃ gv,(0<n->A=some ⟨gv,0,none⟩/\gv<w.heap.size/\∀ j,j<n->w.cell? ⟨gv,j,none⟩=some (.int .u64 (l.getD j 0)))/\n<=c/\c<=maxLen:=by
 have hc:n<=c/\c<=maxLen:=by
  obtain ⟨p,c',hv,h1,h2⟩:=zj h;cases hv;exact ⟨h1,h2⟩
 rcases h.2 with ⟨-,hn0⟩|⟨ka,cap',cur,hv,hb,hk,-⟩
 · exact ⟨0,fun h0=>absurd h0 (by omega),hc⟩
 · cases hv;refine ⟨ka,fun _=>⟨rfl,lt_of_block hk,fun j hj=>?_⟩,hc⟩;have h2:=h.cells rfl j (.int .u64 (l.getD j 0)) (by
    rw [V.gvs,List.getElem?_map,List.getElem?_eq_getElem (by omega),List.getD_eq_getElem?_getD,List.getElem?_eq_getElem (by omega)];rfl)
   rw [show (⟨ka,0,none⟩:Addr).add j=⟨ka,0+j,none⟩ by unfold Addr.add;split<;>simp_all,Nat.zero_add] at h2;exact h2
structure NK (w1 W:World) (k D:Nat) (kd:Int) (nm tx:ByteArray) (par:Int) (p:Option Addr) (c:Nat) (p2:Option Addr) (c2:Nat) (l:List At2) (l2:List Int):Prop where
 blk:W.heap[k]? = some (.cells #[.int .i64 kd,.string nm,.string tx,.slice p l.length c,.int .i64 par,.slice p2 l2.length c2] 90 (0,0))
 row:W.ownsRow (k+3) 140 2 (.slice p l.length c) l.length (acells l)
 kr:W.ownsRow (k+3) 3 1 (.slice p2 l2.length c2) l2.length (ivs l2)
 be:Below k w1 W
 dk:W.heap[D]? = some (.deferred (some []))
 sz:k+3<=W.heap.size
theorem NK.step {w1 W:World} {k D:Nat} {kd:Int} {nm tx:ByteArray} {par:Int} {p:Option Addr} {c:Nat} {p2:Option Addr} {c2:Nat} {l:List At2} {l2:List Int} (h:NK w1 W k D kd nm tx par p c p2 c2 l l2) (hk:k<=w1.heap.size) (x:Int) {w3:World} {p':Option Addr} {c':Nat}
 (hg:(W.alloc (.cells #[.int .i64 x] 3)).grownBy w3 (Value.slice p2 l2.length c2).ownBlock) (ho:w3.ownsRow (k+3) 3 1 (.slice p' (l2.length+1) c') (l2.length+1) (ivs l2++[.int .i64 x])) :
 w3.heap[k]? = some (.cells #[.int .i64 kd,.string nm,.string tx,.slice p l.length c,.int .i64 par,.slice p2 l2.length c2] 90 (0,0))/\NK w1 (w3.setCell ⟨k,5,none⟩ (.slice p' (l2.length+1) c')) k D kd nm tx par p c p' c' l (l2++[x]):=by
 have hsz:=h.sz;have hlo:∀ r,(Value.slice p2 l2.length c2).ownBlock=some r->k+3<=r/\∃ cs,W.heap[r]? = some (.cells cs 3 (0,0)):=fun r e=>by
  refine ⟨(h.kr.lt r e).1,?_⟩
  rcases h.kr.2 with ⟨hn,-⟩|⟨g,cap,cur,hv,-,hgb,-⟩
  · rw [hn] at e;cases e
  · rw [hv] at e;obtain rfl:g=r:=by simpa [Value.ownBlock] using e
    exact ⟨_,hgb⟩
 have hb:∀ j,j<W.heap.size->(∀ cs,W.heap[j]? ≠ some (.cells cs 3 (0,0)))->w3.heap[j]? = W.heap[j]?:=fun j hj hne=>by
  rw [hg.block j (by simp;omega) (fun e=>by obtain ⟨-,cs,hcs⟩:=hlo j e.symm;exact hne cs hcs),hold _ _ hj]
 have hbk:=(hb k (by omega) (fun cs e=>by rw [h.blk] at e;cases e)).trans h.blk;have hbd:=(hb D (lt_of_block h.dk) (fun cs e=>by rw [h.dk] at e;cases e)).trans h.dk;have hB3:Below k W w3:=((Below.refl k W).alloc (by omega) _).grown hg (by simp;omega) (fun r e=>by have:=(hlo r e).1;omega);have hs3:k+3<=w3.heap.size:=Nat.le_trans hsz hB3.size;have hkD:D≠k:=fun e=>by
  have h1:=h.dk;rw [e,h.blk] at h1;cases h1
 have hrow:w3.ownsRow (k+3) 140 2 (.slice p l.length c) l.length (acells l):=(own_below h.row ((Below.refl _ W).alloc (Nat.le_refl _) _)).kept hg (zp h.row h.kr (by decide));have e1:ivs (l2++[x])=ivs l2++[.int .i64 x]:=by simp [ivs]
 have e2:(l2++[x]).length=l2.length+1:=by simp
 refine ⟨hbk,?_,ownsRow_setCell_other hrow (a:=⟨k,5,none⟩) (fun e=>by have h2:k+3<=k:=(hrow.lt _ e).1;omega) _,?_,h.be.trans (hB3.setCell (p:=⟨k,5,none⟩) (Nat.le_refl _) _),?_,by simpa using hs3⟩
 · rw [zb hbk,e2];simp
 · rw [e1,e2];exact ownsRow_setCell_other ho (a:=⟨k,5,none⟩) (fun e=>by have h2:k+3<=k:=(ho.lt _ e).1;omega) _
 · rw [Below.heap_setCell w3 ⟨k,5,none⟩ _ D hkD];exact hbd
theorem zqx (q:Nat) (hq:3<=q) (g u f r pg pu pf pc:Value) (L:List Rm) (t:Tm) (b n m:Nat) (G:Int) (w:World) (h:TA w b g u f r pg pu pf pc L t) (hT:TK n m G t) (M:Mn) (v:V.Vc) (rows:List (List Int)) (hwf:V.WF t.pl v M.kids rows) (hM:Fit M) (hal:M.attrs.length<=100) (aA:Option Addr) (aC:Nat)
 (hat:w.ownsRow b 9 1 (.slice aA (flatA M.attrs).length aC) (flatA M.attrs).length (bsv (flatA M.attrs))) :
 CallsIn Fence.wide q Tryz.prog 28 #[tval g u f r pg pu pf pc,.agg (rmc ⟨recP M v,aA,aC⟩).toArray] w (GivesNd M w):=by
 have h1:1<=q:=by omega
 obtain ⟨i0,hJ1,hJ2,hJ3,hJ4⟩:=info_parts zgq;have HJ:=Hq (And.intro hJ1 (And.intro hJ2 (And.intro hJ3 hJ4)));clear hJ1 hJ2 hJ3 hJ4;obtain ⟨ag,cg,au,cu,af,cf,ar,cr,agp,cgp,aup,cup,afp,cfp,acp,ccp,rfl,rfl,rfl,rfl,rfl,rfl,rfl,rfl⟩:=h.form;obtain ⟨rt,sz⟩:=v;obtain ⟨ga,hga,hc1,hc2⟩:=zqw hat;have hsz:sz<=256:=by have:=hwf.size;have:=hwf.small;simp only [] at *;omega
 have hb64:=hwf.b64;have HI:Hid (∀ X,Below w.heap.size w X->Calls Tryz.prog 36 #[.agg #[.slice agp t.pl.st.gens.length cgp,.slice aup t.pl.st.used.length cup,.slice afp t.pl.st.free.length cfp,.slice acp t.pl.ch.length ccp],.agg #[.int .u64 rt,.int .i64 sz]] X (fun e X'=>∃ vi,e = .returned (.tuple #[vi,.int .i64 0])/\X'.ownsRow X.heap.size 37 1 vi M.kids.length (V.gvs M.kids)/\Below X.heap.size X X')):=Hq (fun X hb=>(V.zk8 rt sz _ _ _ _ t.pl b m G X (h.below hb).pa hT.pk hb64.1 hb64.2 hsz).mono (by
  rintro e X' ⟨(⟨hn,rfl⟩|⟨l,v,hl,rfl,ho⟩),hb'⟩
  · rw [hwf.items] at hn;cases hn
  · rw [hwf.items] at hl;cases hl;exact ⟨v,rfl,ho,hb'⟩))
 have HU:Hid (V.U64 M.kids):=Hq hwf.u64;have HKL:Hid (M.kids.length<=200):=Hq hwf.small;have HGA:=Hq hga;have HFM:=Hq hM;clear hga hM hwf hb64 h hT hat;obtain ⟨kd,nm,tx,ats,par,kids,xa,xc,ya,yc⟩:=M;simp only [] at hal hc1;obtain ⟨kn,hkn⟩:∃ z,kids.length=z:=⟨_,rfl⟩;have HKN:=Hq hkn;simp only [hkn] at HI HKL;clear hkn;obtain ⟨a,ha⟩:∃ a,ats.length=a:=⟨_,rfl⟩;have HAL:=Hq ha;obtain ⟨W,hW⟩:∃ W,W=((w.alloc (.cells #[.slice ag t.st.gens.length cg,.slice au t.st.used.length cu,.slice af t.st.free.length cf,.slice ar L.length cr,.slice agp t.pl.st.gens.length cgp,.slice aup t.pl.st.used.length cup,.slice afp t.pl.st.free.length cfp,.slice acp t.pl.ch.length ccp] 36)).alloc (.cells #[.int .i64 kd,.int .i64 par,.string nm,.string tx,.slice aA (2*a) aC,.int .u64 rt,.int .i64 sz] 80)).alloc (.cells #[.int .i64 0,.string ⟨#[]⟩,.string ⟨#[]⟩,.slice none 0 0,.int .i64 0,.slice none 0 0] 90):=⟨_,rfl⟩;have HB:Hid (Below w.heap.size w W):=Hq (by rw [hW];exact ((Bq _ _).alloc (by simp) _).alloc (by simp;omega) _);have HN:Hid (W.heap[w.heap.size+1+1]? = some (.cells #[.int .i64 0,.string ⟨#[]⟩,.string ⟨#[]⟩,.slice none 0 0,.int .i64 0,.slice none 0 0] 90 (0,0))):=Hq (by
  rw [hW];exact (show ((w.alloc (.cells #[.slice ag t.st.gens.length cg,.slice au t.st.used.length cu,.slice af t.st.free.length cf,.slice ar L.length cr,.slice agp t.pl.st.gens.length cgp,.slice aup t.pl.st.used.length cup,.slice afp t.pl.st.free.length cfp,.slice acp t.pl.ch.length ccp] 36)).alloc (.cells #[.int .i64 kd,.int .i64 par,.string nm,.string tx,.slice aA (2*a) aC,.int .u64 rt,.int .i64 sz] 80)).heap.size=w.heap.size+1+1 by simp) ▸ hnew _ _)
 have HR:Hid (W.heap[w.heap.size+1]? = some (.cells #[.int .i64 kd,.int .i64 par,.string nm,.string tx,.slice aA (2*a) aC,.int .u64 rt,.int .i64 sz] 80 (0,0))):=Hq (by
  rw [hW,hold _ _ (by simp)];exact (show (w.alloc (.cells #[.slice ag t.st.gens.length cg,.slice au t.st.used.length cu,.slice af t.st.free.length cf,.slice ar L.length cr,.slice agp t.pl.st.gens.length cgp,.slice aup t.pl.st.used.length cup,.slice afp t.pl.st.free.length cfp,.slice acp t.pl.ch.length ccp] 36)).heap.size=w.heap.size+1 by simp) ▸ hnew _ _)
 have hWs:W.heap.size=w.heap.size+3:=by rw [hW];simp
 have HWS:=Hq hWs;have HWE:=Hq hW;have HIi:=Hq ((callsIn_wide (n:=q - 1)).2 (HI.out W HB.out));have hF:Fence.wide.fn 36:=trivial;have hF2:Fence.wide.fn 56:=trivial;clear hW hWs;refine callsIn_of_wp_marks Tryz.func28 rfl trivial ?_ rfl;simp only [Tryz.ntmps28,rmc,recP,zbt,ha,List.size_toArray,List.length_cons,List.length_nil,Nat.reduceAdd,Nat.reduceSub,Array.replicate_succ,Array.replicate_zero,List.push_toArray,List.append_toArray,List.nil_append,List.cons_append];rw [ha] at hal hc1;clear ha
 gi_wp2_with (first
  | (gi_at_call 36;rw [<- HWE.out];refine HIi.out.mono ?_;rintro e w1 ⟨vi,rfl,ho1,hb1⟩;obtain ⟨pv,cv,rfl,-,-⟩:=zj ho1;have HB1:=Hq hb1;have HO1:=Hq ho1;have hR1:=(hb1.block _ (lt_of_block HR.out)).trans HR.out;obtain ⟨d0,d1,d2,d3,d4,d5,d6⟩:=block7 hR1;have d4a:=fun o:Obj=>Lib.cell?_alloc_some o d4;clear hb1 ho1 hR1)
  | (gi_at_call 56;refine (zsp (q - 1) _ _ _ _).mono ?_;rintro e w' ⟨rfl,rfl⟩))
 have hk1:=HB1.out.size;have HBE:Hid (Below w.heap.size w w1):=Hq (HB.out.trans (HB1.out.mono (by rw [HWS.out];omega)));have HK3:Hid (w.heap.size+3<=w1.heap.size):=Hq (by rw [<- HWS.out];exact hk1);obtain ⟨k,hk⟩:∃ k,k=w1.heap.size:=⟨_,rfl⟩;have HKE:=Hq hk;obtain ⟨W0,hW0⟩:∃ W0,W0=(((w1.alloc (.cells #[.int .i64 kd,.string nm,.string tx,.slice none 0 0,.int .i64 par,.slice none 0 0] 90)).alloc (.cells #[.slice aA (2*a) aC] 78)).alloc (.cells #[.int .i64 2] 3)):=⟨_,rfl⟩;have hNB0:NB w1 W0 k kd nm tx par none 0 [] (.slice aA (2*a) aC):=by
  rw [hW0,hk];refine ⟨?_,⟨rfl,.inl ⟨rfl,rfl⟩⟩,?_,?_,(((Below.refl _ w1).alloc (Nat.le_refl _) _).alloc (by simp) _).alloc (by simp;omega) _,by simp⟩
  · rw [hold _ _ (by simp;omega),hold _ _ (by simp)];exact hnew _ _
  · have b1:=(Boxed.new (w1.alloc (.cells #[.int .i64 kd,.string nm,.string tx,.slice none 0 0,.int .i64 par,.slice none 0 0] 90)) 78 (.slice aA (2*a) aC)).alloc (.cells #[.int .i64 2] 3);simp only [World.size_alloc] at b1;exact b1
  · have b2:=Boxed.new ((w1.alloc (.cells #[.int .i64 kd,.string nm,.string tx,.slice none 0 0,.int .i64 par,.slice none 0 0] 90)).alloc (.cells #[.slice aA (2*a) aC] 78)) 3 (.int .i64 2);simp only [World.size_alloc] at b2;exact b2
 have HS0:Hid (W0.heap.size=k+3):=Hq (by rw [hW0,hk];simp);have HNB0:=Hq hNB0;rw [<- hW0,<- hk];clear hNB0 hW0 hk hk1 d0 d1 d2 d3 d4 d5 d6 d4a;have HGA1:Hid (0<a->aA=some ⟨ga,0,none⟩/\ga<k/\∀ j,j<a->w1.cell? ⟨ga,2*j,none⟩=some (.string (ats.getD j default).1)/\w1.cell? ⟨ga,2*j+1,none⟩=some (.string (ats.getD j default).2)):=Hq (fun h0=>by
  obtain ⟨e1,e2,e3⟩:=HGA.out (by show 0<ats.length;rw [HAL.out];exact h0);have:=HBE.out.size;refine ⟨e1,by rw [HKE.out];omega,fun j hj=>?_⟩;obtain ⟨e4,e5⟩:=e3 j (by show j<ats.length;rw [HAL.out];exact hj);exact ⟨(HBE.out.cell (p:=⟨ga,2*j,none⟩) e2).trans e4,(HBE.out.cell (p:=⟨ga,2*j+1,none⟩) e2).trans e5⟩)
 obtain ⟨PA,hPA⟩:∃ f:Fin a->At2,f=fun x=>ats.getD x.1 default:=⟨_,rfl⟩
 have HPA:Hid (∀ x:Fin a,PA x=ats.getD x.1 default):=Hq (fun x=>by rw [hPA]);clear hPA;refine wpIn_rangeFunc_ownG rfl h1 (gf:=113) (lb:=#[.pointer (some ⟨k+1,0,none⟩),.pointer (some ⟨k+1+1,0,none⟩)]) rfl trivial (enters_of Tryz.func113 (by kernel_rfl) rfl)
  (zlm (q - 1) (by omega) (k+1) (k+1+1) ga a aC aA (fun h0=>(HGA1.out h0).1) (by omega) hc1 hc2 W0 (by rw [HS0.out];omega) (by rw [HS0.out];omega) HNB0.out.bS.cell HNB0.out.bN.cell) kc_t (kc_b (by rw [HS0.out];omega) (by rw [HS0.out];omega)) (Below.refl _ _) (fun _=>rfl)
  (fun pre W=>∃ p c,NB w1 W k kd nm tx par p c (pre.map PA) (.slice aA (2*a) aC))
  (fun _ _ _=>False)
  (fun s A B row ⟨p,c,hs⟩ hg hr=>⟨p,c,hs.kept hg (fun r e=>by have:=hr r e;rw [HS0.out] at this;exact this) (by rw [HKE.out];exact Nat.le_refl _)⟩)
  (fun _ _ _ _ _ hs _ _=>hs)
  ⟨none,0,HNB0.out⟩
  (fun x=>{ tmps:=#[tval (.slice ag t.st.gens.length cg) (.slice au t.st.used.length cu) (.slice af t.st.free.length cf) (.slice ar L.length cr) (.slice agp t.pl.st.gens.length cgp) (.slice aup t.pl.st.used.length cup) (.slice afp t.pl.st.free.length cfp) (.slice acp t.pl.ch.length ccp),
    .agg #[.int .i64 kd,.int .i64 par,.string nm,.string tx,.slice aA (2*a) aC,.int .u64 rt,.int .i64 sz],.pointer (some ⟨w.heap.size,0,none⟩),.pointer (some ⟨w.heap.size+1,0,none⟩),.pointer (some ⟨w.heap.size+1+1,0,none⟩),.int .i64 0,.slice pv kn cv,.int .i64 0,.pointer (some ⟨k,0,none⟩),.slice (some ⟨ga,2*x.1,none⟩) 2 2,undef,undef,
    .tuple #[.slice pv kn cv,.int .i64 0],.pointer (some ⟨w.heap.size,4,none⟩),.agg #[.slice agp t.pl.st.gens.length cgp,.slice aup t.pl.st.used.length cup,.slice afp t.pl.st.free.length cfp,.slice acp t.pl.ch.length ccp],.pointer (some ⟨w.heap.size+1,5,none⟩),.agg #[.int .u64 rt,.int .i64 sz],.tuple #[.slice pv kn cv,.int .i64 0],.slice pv kn cv,.int .i64 0,.int .i64 0,.bool false,undef,undef,
    .pointer (some ⟨w.heap.size+1,0,none⟩),.int .i64 kd,.pointer (some ⟨w.heap.size+1,2,none⟩),.string nm,.pointer (some ⟨w.heap.size+1,3,none⟩),.string tx,.pointer (some ⟨w.heap.size+1,1,none⟩),.int .i64 par,.agg #[.int .i64 kd,.string nm,.string tx,.slice none 0 0,.int .i64 par,.slice none 0 0],.pointer (some ⟨w.heap.size+1,4,none⟩),.slice aA (2*a) aC,
    .func (.func 113) #[] #[.pointer (some ⟨k+1,0,none⟩),.pointer (some ⟨k+1+1,0,none⟩)],.slice (some ⟨ga,2*x.1,none⟩) 2 2,undef,undef,undef,undef,undef,undef,undef,undef,undef,undef,undef,undef,undef,undef,undef,undef,undef,undef,undef,undef,undef,undef,undef,undef,undef,undef,undef],defers:=[] }) ?assign ?body ?done ?stop
 case assign =>
  intro l x W K hK
  gi_wp2
  exact hK
 case body =>
  rintro l pre x W ⟨p,c,hNB⟩ hlt;obtain ⟨ln,hln⟩:∃ z,(pre.map PA).length=z:=⟨_,rfl⟩;have hln2:ln<=100:=by rw [<- hln,List.length_map];omega
  obtain ⟨-,hgk,hgc⟩:=HGA1.out (by omega);obtain ⟨hg0,hg1⟩:=hgc x.1 x.2;have HPX:Hid (PA x=ats.getD x.1 default):=Hq (HPA x);obtain ⟨⟨ya,yb⟩,hy⟩:∃ y,ats.getD x.1 default=y:=⟨_,rfl⟩;rw [hy] at hg0 hg1;have HPY:Hid (PA x=(ya,yb)):=Hq (by rw [HPX.out,hy]);have HC0:Hid (∀ X,Below k w1 X->X.cell? ⟨ga,2*x.1,none⟩=some (.string ya)/\X.cell? ⟨ga,2*x.1+1,none⟩=some (.string yb)):=Hq (fun X hX=>⟨(hX.cell (p:=⟨ga,2*x.1,none⟩) hgk).trans hg0,(hX.cell (p:=⟨ga,2*x.1+1,none⟩) hgk).trans hg1⟩);have hkk:k<=w1.heap.size:=by rw [HKE.out];exact Nat.le_refl _
  have HFIN:Hid (∀ (w3:World) (v':Value),(W.drew.alloc (.cells #[.string ya,.string yb] 140)).grownBy w3 (Value.slice p ln c).ownBlock->w3.ownsRow (k+3) 140 2 v' (ln+1) (acells (pre.map PA)++[.string ya,.string yb]) ->
   w3.cell? ⟨k,3,none⟩=some (.slice p ln c)/\w3.frozen? ⟨k,3,none⟩=false/\(w3.cell? ⟨ga,2*x.1,none⟩=some (.string ya)/\w3.cell? ⟨ga,2*x.1+1,none⟩=some (.string yb))/\((w3.setCell ⟨k,3,none⟩ v').cell? ⟨ga,2*x.1,none⟩=some (.string ya)/\(w3.setCell ⟨k,3,none⟩ v').cell? ⟨ga,2*x.1+1,none⟩=some (.string yb)) /\
   (KeepsFrom W0.heap.size W (w3.setCell ⟨k,3,none⟩ v')/\Kc (k+1) (k+1+1) W (w3.setCell ⟨k,3,none⟩ v')/\∃ p' c',NB w1 (w3.setCell ⟨k,3,none⟩ v') k kd nm tx par p' c' ((pre++[x]).map PA) (.slice aA (2*a) aC))):=Hq (fun w3 v' hg ho=>by
   subst hln;obtain ⟨q1,q2,q3,q4,p',c',q5⟩:=hNB.step hkk (ya,yb) hg ho;have hB3:=hNB.be.trans q2;refine ⟨(block6 q1).2.2.2.1,za q1 3,HC0.out _ hB3,HC0.out _ (hB3.setCell (p:=⟨k,3,none⟩) (Nat.le_refl _) _),by rw [HS0.out];exact q3,q4,p',c',?_⟩;rw [List.map_append,List.map_singleton,HPY.out];exact q5)
  have c3:W.drew.cell? ⟨k,3,none⟩=some (.slice p ln c):=by rw [<- hln];exact (block6 hNB.blk).2.2.2.1
  have c3a:=fun o:Obj=>Lib.cell?_alloc_some o c3
  have HRE:Hid ((W.drew.alloc (.cells #[.string ya,.string yb] 140)).ownsRow (k+3) 140 2 (.slice p ln c) ln (acells (pre.map PA))):=Hq (by
   have:=own_below hNB.row (show Below W.heap.size W (W.drew.alloc (.cells #[.string ya,.string yb] 140)) from ((Below.refl _ W).drew).alloc (Nat.le_refl _) _);rw [hln] at this;exact this)
  have HNW:=Hq (ziq W.drew (ya,yb) 140);have HKS:Hid (k+3<=(W.drew.alloc (.cells #[.string ya,.string yb] 140)).heap.size):=Hq (by have:=hNB.sz;show k+3<=_;simp;omega);have HHD:Hid (W.drew.cell? ⟨ga,2*x.1,none⟩=some (.string ya)/\W.drew.cell? ⟨ga,2*x.1+1,none⟩=some (.string yb)):=Hq (HC0.out _ hNB.be.drew);have HHE:Hid ((W.drew.alloc (.cells #[.string ya,.string yb] 140)).cell? ⟨ga,2*x.1,none⟩=some (.string ya)/\(W.drew.alloc (.cells #[.string ya,.string yb] 140)).cell? ⟨ga,2*x.1+1,none⟩=some (.string yb)):=Hq (HC0.out _ (hNB.be.drew.alloc (by have:=hNB.sz;show k<=W.heap.size;omega) _));clear hNB hln hg0 hg1 hgc hgk hy hlt
  gi_wp2
  refine zll (S:=fun X:World=>X.cell? ⟨ga,2*x.1,none⟩=some (.string ya)/\X.cell? ⟨ga,2*x.1+1,none⟩=some (.string yb)) (by kernel_rfl) (by kernel_rfl) (fun ⟨a,w,h⟩=>h) HHD.out (fun hHeld=>?_);generalize W.drew=D at *;refine ht (i:=0) (d:=some 37) (v:=?_) ?_ ?_;rotate_left
  · intro w hSw
    try dsimp only at hSw
    first|(go_simp;done)|(go_simp;with_reducible rfl)
  simp only [Act.put,List.setIfInBounds_toArray,List.set_cons_zero,List.set_cons_succ];refine ht (i:=2) (d:=some 39) (v:=?_) ?_ ?_;rotate_left
  · intro w hSw
    try dsimp only at hSw
    first|(go_simp;done)|(go_simp;with_reducible rfl)
  simp only [Act.put,List.setIfInBounds_toArray,List.set_cons_zero,List.set_cons_succ];refine ht (i:=3) (d:=some 40) (v:=?_) ?_ ?_;rotate_left
  · intro w hSw
    try dsimp only at hSw
    first|(go_simp;done)|(go_simp;with_reducible rfl)
  simp only [Act.put,List.setIfInBounds_toArray,List.set_cons_zero,List.set_cons_succ];refine ht (i:=4) (d:=some 41) (v:=?_) ?_ ?_;rotate_left
  · intro w hSw
    try dsimp only at hSw
    first|(go_simp;done)|(go_simp;with_reducible rfl)
  simp only [Act.put,List.setIfInBounds_toArray,List.set_cons_zero,List.set_cons_succ];refine ht (i:=5) (d:=some 42) (v:=?_) ?_ ?_;rotate_left
  · intro w hSw
    try dsimp only at hSw
    first|(go_simp;done)|(go_simp;with_reducible rfl)
  simp only [Act.put,List.setIfInBounds_toArray,List.set_cons_zero,List.set_cons_succ];refine ht (i:=6) (d:=some 43) (v:=?_) ?_ ?_;rotate_left
  · intro w hSw
    try dsimp only at hSw
    first|(go_simp;done)|(go_simp;with_reducible rfl)
  simp only [Act.put,List.setIfInBounds_toArray,List.set_cons_zero,List.set_cons_succ];refine ht (i:=7) (d:=some 44) (v:=?_) ?_ ?_;rotate_left
  · intro w hSw
    try dsimp only at hSw
    first|(go_simp;done)|(go_simp;with_reducible rfl)
  simp only [Act.put,List.setIfInBounds_toArray,List.set_cons_zero,List.set_cons_succ];refine ht (i:=8) (d:=some 45) (v:=?_) ?_ ?_;rotate_left
  · intro w hSw
    try dsimp only at hSw
    first|(go_simp;done)|(go_simp;with_reducible rfl)
  simp only [Act.put,List.setIfInBounds_toArray,List.set_cons_zero,List.set_cons_succ];refine wpAnyH_ready (rs:=[1,9]) (by kernel_rfl) (by simp) ?_;refine AllReadyH.cons rfl (fun K hK=>?_) (AllReadyH.cons rfl (fun K hK=>?_) AllReadyH.nil)
  · go_simp;refine hK.out _ _ HHD.out (fun hHeld2=>?_);clear hK K hHeld;have hHeld:=hHeld2;clear hHeld2
    try simp only [Act.put,List.setIfInBounds_toArray,List.set_cons_zero,List.set_cons_succ]
    refine wpAnyH_ready (rs:=[9]) (by kernel_rfl) (by simp) ?_;refine AllReadyH.cons rfl (fun K hK=>?_) AllReadyH.nil;go_simp;refine hK.out _ _ HHE.out (fun hHeld2=>?_);clear hK K hHeld;have hHeld:=hHeld2;clear hHeld2
    try simp only [Act.put,List.setIfInBounds_toArray,List.set_cons_zero,List.set_cons_succ]
    refine wpAnyH_ready (rs:=[10]) (by kernel_rfl) (by simp) ?_;refine AllReadyH.cons rfl (fun K hK=>?_) AllReadyH.nil;refine zdo rfl (.tmp 38) (.tmp 46) 88 rfl (k+3) 140 i0 (.agg #[.string ⟨#[]⟩,.string ⟨#[]⟩]) 2 32 Tryz.underlying88 HJ.out.1 HJ.out.2.1 HJ.out.2.2.1 HJ.out.2.2.2 rfl (by decide) _ ln (acells (pre.map PA)) rfl HRE.out ⟨D.heap.size,0,none⟩ 1 1 [.string ya,.string yb] rfl rfl HNW.out (by intro u hu;simp only [List.mem_cons,List.not_mem_nil,or_false] at hu;rcases hu with rfl|rfl<;>rfl) (by unfold maxLen;omega) (by omega) HKS.out ?_;intro v' w3 hown' hgrow hob';obtain ⟨p',c',rfl,-,-⟩:=zj hown';have HO':=Hq hown';have HG:=Hq hgrow;have HBK:=Hq (HFIN.out w3 _ HG.out HO'.out);clear hown' hgrow hob';have c3':=HBK.out.1;have f3':=HBK.out.2.1;refine hK.out _ _ HBK.out.2.2.1 (fun hHeld2=>?_);clear hK K hHeld;have hHeld:=hHeld2;clear hHeld2
    try simp only [Act.put,List.setIfInBounds_toArray,List.set_cons_zero,List.set_cons_succ]
    refine ht (i:=11) (d:=some 48) (v:=?_) ?_ ?_;rotate_left
    · intro w hSw
      try dsimp only at hSw
      first|(go_simp;done)|(go_simp;with_reducible rfl)
    simp only [Act.put,List.setIfInBounds_toArray,List.set_cons_zero,List.set_cons_succ];refine wpAnyH_ready (rs:=[12]) (by kernel_rfl) (by simp) ?_;refine AllReadyH.cons rfl (fun K hK=>?_) AllReadyH.nil;go_simp;clear c3' f3';refine hK.out _ _ HBK.out.2.2.2.1 (fun hHeld2=>?_);clear hK K hHeld;have hHeld:=hHeld2;clear hHeld2
    try simp only [Act.put,List.setIfInBounds_toArray,List.set_cons_zero,List.set_cons_succ]
    refine wpAnyH_done (by kernel_rfl) ?_ _;exact HBK.out.2.2.2.2
  · go_simp;refine hK.out _ _ HHE.out (fun hHeld2=>?_);clear hK K hHeld;have hHeld:=hHeld2;clear hHeld2
    try simp only [Act.put,List.setIfInBounds_toArray,List.set_cons_zero,List.set_cons_succ]
    refine wpAnyH_ready (rs:=[1]) (by kernel_rfl) (by simp) ?_;refine AllReadyH.cons rfl (fun K hK=>?_) AllReadyH.nil;go_simp;refine hK.out _ _ HHE.out (fun hHeld2=>?_);clear hK K hHeld;have hHeld:=hHeld2;clear hHeld2
    try simp only [Act.put,List.setIfInBounds_toArray,List.set_cons_zero,List.set_cons_succ]
    refine wpAnyH_ready (rs:=[10]) (by kernel_rfl) (by simp) ?_;refine AllReadyH.cons rfl (fun K hK=>?_) AllReadyH.nil;refine zdo rfl (.tmp 38) (.tmp 46) 88 rfl (k+3) 140 i0 (.agg #[.string ⟨#[]⟩,.string ⟨#[]⟩]) 2 32 Tryz.underlying88 HJ.out.1 HJ.out.2.1 HJ.out.2.2.1 HJ.out.2.2.2 rfl (by decide) _ ln (acells (pre.map PA)) rfl HRE.out ⟨D.heap.size,0,none⟩ 1 1 [.string ya,.string yb] rfl rfl HNW.out (by intro u hu;simp only [List.mem_cons,List.not_mem_nil,or_false] at hu;rcases hu with rfl|rfl<;>rfl) (by unfold maxLen;omega) (by omega) HKS.out ?_;intro v' w3 hown' hgrow hob';obtain ⟨p',c',rfl,-,-⟩:=zj hown';have HO':=Hq hown';have HG:=Hq hgrow;have HBK:=Hq (HFIN.out w3 _ HG.out HO'.out);clear hown' hgrow hob';have c3':=HBK.out.1;have f3':=HBK.out.2.1;refine hK.out _ _ HBK.out.2.2.1 (fun hHeld2=>?_);clear hK K hHeld;have hHeld:=hHeld2;clear hHeld2
    try simp only [Act.put,List.setIfInBounds_toArray,List.set_cons_zero,List.set_cons_succ]
    refine ht (i:=11) (d:=some 48) (v:=?_) ?_ ?_;rotate_left
    · intro w hSw
      try dsimp only at hSw
      first|(go_simp;done)|(go_simp;with_reducible rfl)
    simp only [Act.put,List.setIfInBounds_toArray,List.set_cons_zero,List.set_cons_succ];refine wpAnyH_ready (rs:=[12]) (by kernel_rfl) (by simp) ?_;refine AllReadyH.cons rfl (fun K hK=>?_) AllReadyH.nil;go_simp;clear c3' f3';refine hK.out _ _ HBK.out.2.2.2.1 (fun hHeld2=>?_);clear hK K hHeld;have hHeld:=hHeld2;clear hHeld2
    try simp only [Act.put,List.setIfInBounds_toArray,List.set_cons_zero,List.set_cons_succ]
    refine wpAnyH_done (by kernel_rfl) ?_ _;exact HBK.out.2.2.2.2
 case done =>
  rintro D ys V1 hD rfl ⟨p,c,hNB⟩ hK;have hl:(List.finRange a).map PA=ats:=by
   apply List.ext_getElem?;intro i;rw [List.getElem?_map]
   by_cases hi:i<a
   · rw [List.getElem?_eq_getElem (by simpa using hi),List.getElem_finRange,Option.map_some,HPA.out,zah default (show i<ats.length by rw [HAL.out];exact hi)];rfl
   · rw [List.getElem?_eq_none (by simp;omega),List.getElem?_eq_none (by rw [HAL.out];omega)];rfl
  rw [hl] at hNB;have hln:=HAL.out;obtain ⟨gv,hgv,hcv1,hcv2⟩:=zfo HKN.out HO1.out;have HGV:=Hq hgv;have HNK0:Hid (NK w1 V1 k D kd nm tx par p c none 0 ats []):=Hq ⟨hNB.blk,hNB.row,⟨rfl,.inl ⟨rfl,rfl⟩⟩,hNB.be,hK,hNB.sz⟩;have HD3:Hid (k+3<=D):=Hq (by rw [HS0.out] at hD;exact hD);have hkk:Hid (k<=w1.heap.size):=Hq (by rw [HKE.out];exact Nat.le_refl _);obtain ⟨i1,hI1,hI2,hI3,hI4⟩:=info_parts zcp;have HI1:=Hq (And.intro hI1 (And.intro hI2 (And.intro hI3 hI4)));have hkl:=HKL.out;clear hl hNB hgv hD hK hln hI1 hI2 hI3 hI4
  gi_wp2
  gi_loopw [11,51] (fun _ i Y=>∃ (j:Nat) (p2:Option Addr) (c2:Nat),j<=kn/\i = .int .i64 j/\Hid (NK w1 Y k D kd nm tx par p c p2 c2 ats (kids.take j))) (fun _ i _=>kn - (intOf i).toNat)
  case atStart => exact ⟨0,none,0,Nat.zero_le _,rfl,HNK0⟩
  case round =>
   obtain ⟨j,p2,c2,hj,rfl,HNK⟩:=hrel
   by_cases hlt:j<kn
   · have j0:(0:Int)<=(j:Int):=by omega
     have j1:(j:Int)<(kn:Int):=by omega
     obtain ⟨rfl,hgk,hgc⟩:=HGV.out (by omega);have hjl:j<kids.length:=by rw [HKN.out];exact hlt
     have htl:(kids.take j).length=j:=by rw [List.length_take];omega
     have HTK:Hid (kids.take (j+1)=kids.take j++[kids.getD j 0]):=Hq (za7 (zah 0 hjl));have hx:=HFM.out.ks64 (kids.getD j 0) (List.mem_of_getElem? (zah 0 hjl));have hx0:=HU.out (kids.getD j 0) (List.mem_of_getElem? (zah 0 hjl));have hc0:=(HNK.out.be.cell (p:=⟨gv,j,none⟩) (by rw [HKE.out];exact hgk)).trans (hgc j hlt);obtain ⟨x,hxe⟩:∃ x,kids.getD j 0=x:=⟨_,rfl⟩;rw [hxe] at HTK hx hx0 hc0;have hxb:0<=x/\x<=9223372036854775807:=⟨hx0.1,hx.2⟩;have hxw:IntKind.i64.wrap x=x:=by rw [IntKind.wrap_i64];omega
     have HST:Hid (∀ (w3:World) (p':Option Addr) (c':Nat),(wr.alloc (.cells #[.int .i64 x] 3)).grownBy w3 (Value.slice p2 j c2).ownBlock->w3.ownsRow (k+3) 3 1 (.slice p' (j+1) c') (j+1) (ivs (kids.take j)++[.int .i64 x]) ->
      w3.heap[k]? = some (.cells #[.int .i64 kd,.string nm,.string tx,.slice p ats.length c,.int .i64 par,.slice p2 j c2] 90 (0,0))/\NK w1 (w3.setCell ⟨k,5,none⟩ (.slice p' (j+1) c')) k D kd nm tx par p c p' c' ats (kids.take (j+1))):=Hq (fun w3 p' c' hg ho=>by
      rw [HTK.out];have:=HNK.out.step hkk.out x (w3:=w3) (p':=p') (c':=c') (by rw [htl];exact hg) (by rw [htl];exact ho);rw [htl] at this;exact this)
     have HKR:Hid ((wr.alloc (.cells #[.int .i64 x] 3)).ownsRow (k+3) 3 1 (.slice p2 j c2) j (ivs (kids.take j))):=Hq (by
      have:=own_below HNK.out.kr ((Below.refl _ wr).alloc (Nat.le_refl _) (.cells #[.int .i64 x] 3));rw [htl] at this;exact this)
     have c5:wr.cell? ⟨k,5,none⟩=some (.slice p2 j c2):=by
      have:=(block6 HNK.out.blk).2.2.2.2.2;rw [htl] at this;exact this
     have hws:=HNK.out.sz;clear hxe hx hx0 htl hgc hgk;have c5a:=fun o:Obj=>Lib.cell?_alloc_some o c5
     gi_wp2_with (gi_at_builtin;refine wpListIn_append_own _ rfl _ _ 28 rfl (k+3) 3 i1 (.int .i64 0) 1 8 Tryz.underlying28 HI1.out.1 HI1.out.2.1 HI1.out.2.2.1 HI1.out.2.2.2 rfl (by decide) _ _ _ rfl HKR.out ⟨wr.heap.size,0,none⟩ 1 1 [.int .i64 x] rfl rfl (cell_one_new _ _ _) (by simp [Value.oneCell']) (by unfold maxLen;omega) (by omega) (by simp;omega) ?_;intro v' w3 hown' hgrow _;obtain ⟨p',c',rfl,-,-⟩:=zj hown';have HS3:=Hq (HST.out w3 p' c' hgrow hown');clear hown' hgrow;have c5':=(block6 HS3.out.1).2.2.2.2.2;have f5':=za HS3.out.1 5)
     go_roundw
     case rel => exact ⟨j+1,p',c',by omega,by go_num,Hq HS3.out.2⟩
     case measure => simp [intOf]<;>omega
   · obtain rfl:j=kn:=by omega
     have htk:kids.take j=kids:=List.take_of_length_le (by rw [HKN.out];exact Nat.le_refl _);rw [htk] at HNK;have hkl2:kids.length=j:=HKN.out;have hbk:=HNK.out.blk;rw [hkl2] at hbk;obtain ⟨x0,x1,x2,x3,x4,x5⟩:=block6 hbk;have hkW:W.heap.size<=k:=by rw [HKE.out];exact HB1.out.size
     have hr2:w.heap.size+1+1<W.heap.size:=lt_of_block HN.out;have hbr:wr.heap[w.heap.size+1+1]? = some (.cells #[.int .i64 0,.string ⟨#[]⟩,.string ⟨#[]⟩,.slice none 0 0,.int .i64 0,.slice none 0 0] 90 (0,0)):=(HNK.out.be.block _ (by omega)).trans ((HB1.out.block _ hr2).trans HN.out);have HBR:=Hq hbr;have HKW:=Hq hkW;have HR2:=Hq hr2;obtain ⟨d0,d1,d2,d3,d4,d5⟩:=block6 hbr;have f0:=za hbr 0;have f1:=za hbr 1;have f2:=za hbr 2;have f3:=za hbr 3;have f4:=za hbr 4;have f5:=za hbr 5;clear hbk hkW hr2 hbr hkl2
     gi_wp2
     have hkW:=HKW.out;have hr2:=HR2.out;have hwW:=HB.out.size;have hsw:=HNK.out.sz;obtain ⟨Z,hZ⟩:∃ Z,Z=((((((wr.setCell ⟨w.heap.size+1+1,0,none⟩ (.int .i64 kd)).setCell ⟨w.heap.size+1+1,1,none⟩ (.string nm)).setCell ⟨w.heap.size+1+1,2,none⟩ (.string tx)).setCell ⟨w.heap.size+1+1,3,none⟩ (.slice p ats.length c)).setCell ⟨w.heap.size+1+1,4,none⟩ (.int .i64 par)).setCell ⟨w.heap.size+1+1,5,none⟩ (.slice p2 j c2)):=⟨_,rfl⟩;rw [<- hZ];have k0:=zb HBR.out 0 (.int .i64 kd);have k1:=zb k0 1 (.string nm);have k2:=zb k1 2 (.string tx);have k3:=zb k2 3 (.slice p ats.length c);have k4:=zb k3 4 (.int .i64 par);have k5:Z.heap[w.heap.size+1+1]? = some (.cells #[.int .i64 kd,.string nm,.string tx,.slice p ats.length c,.int .i64 par,.slice p2 j c2] 90 (0,0)):=by rw [hZ];exact zb k4 5 (.slice p2 j c2)
     have hzb:∀ i,i≠w.heap.size+1+1->Z.heap[i]? = wr.heap[i]?:=fun i hi=>by
      rw [hZ,Below.heap_setCell _ ⟨w.heap.size+1+1,5,none⟩ _ i hi,Below.heap_setCell _ ⟨w.heap.size+1+1,4,none⟩ _ i hi,Below.heap_setCell _ ⟨w.heap.size+1+1,3,none⟩ _ i hi,Below.heap_setCell _ ⟨w.heap.size+1+1,2,none⟩ _ i hi,Below.heap_setCell _ ⟨w.heap.size+1+1,1,none⟩ _ i hi,Below.heap_setCell _ ⟨w.heap.size+1+1,0,none⟩ _ i hi]
     have hbw:Below w.heap.size w wr:=HBE.out.trans (HNK.out.be.mono (by omega));have hbZ:Below w.heap.size w Z:=by
      rw [hZ];exact (((((hbw.setCell (p:=⟨w.heap.size+1+1,0,none⟩) (by simp;omega) _).setCell (p:=⟨w.heap.size+1+1,1,none⟩) (by simp;omega) _).setCell (p:=⟨w.heap.size+1+1,2,none⟩) (by simp;omega) _).setCell (p:=⟨w.heap.size+1+1,3,none⟩) (by simp;omega) _).setCell (p:=⟨w.heap.size+1+1,4,none⟩) (by simp;omega) _).setCell (p:=⟨w.heap.size+1+1,5,none⟩) (by simp;omega) _
     have st:∀ {e:TypeId} {s n:Nat} {v:Value} {xs:List Value} (X:World) (d:Nat) (y:Value),X.ownsRow (k+3) e s v n xs->(X.setCell ⟨w.heap.size+1+1,d,none⟩ y).ownsRow (k+3) e s v n xs:=fun X d y h=>ownsRow_setCell_other h (a:=⟨w.heap.size+1+1,d,none⟩) (fun e=>by have h2:k+3<=w.heap.size+1+1:=(h.lt _ e).1;omega) y
     have o1:Z.ownsRow (k+3) 140 2 (.slice p ats.length c) ats.length (acells ats):=by
      rw [hZ];exact st _ _ _ (st _ _ _ (st _ _ _ (st _ _ _ (st _ _ _ (st _ _ _ HNK.out.row)))))
     have o2:Z.ownsRow (k+3) 3 1 (.slice p2 kids.length c2) kids.length (ivs kids):=by
      rw [hZ];exact st _ _ _ (st _ _ _ (st _ _ _ (st _ _ _ (st _ _ _ (st _ _ _ HNK.out.kr)))))
     have hdZ:Z.heap[D]? = some (.deferred (some [])):=(hzb D (by have:=HD3.out;omega)).trans HNK.out.dk;clear k0 k1 k2 k3 k4 hZ d0 d1 d2 d3 d4 d5 f0 f1 f2 f3 f4 f5 x0 x1 x2 x3 x4 x5 st hzb;have k6:(Z.putObj D (.deferred none)).heap[w.heap.size+1+1]? = some (.cells #[.int .i64 kd,.string nm,.string tx,.slice p ats.length c,.int .i64 par,.slice p2 j c2] 90 (0,0)):=(World.putObj_heap_other (by have:=HD3.out;omega)).trans k5;obtain ⟨d0,d1,d2,d3,d4,d5⟩:=block6 k6;refine ⟨by simp,.inl ⟨_,_,rfl,run_takeDeferred hdZ,?_⟩⟩;obtain ⟨pq,cq,hv1,hb1,hb2⟩:=zj o1;cases hv1;obtain ⟨pq,cq,hv1,hb3,hb4⟩:=zj o2;cases hv1;unfold maxLen at hb2 hb4;refine ⟨.tuple #[nval ⟨kd,nm,tx,ats,par,kids,p,c,p2,c2⟩,.int .i64 0],?_,⟨kd,nm,tx,ats,par,kids,p,c,p2,c2⟩,rfl,rfl,⟨HFM.out.k64,HFM.out.p64,HFM.out.ks64,⟨hb1,by omega⟩,⟨hb3,by omega⟩⟩,⟨zq (ownsRow_putObj o1 (.deferred none) hdZ rfl) (by omega),zq (ownsRow_putObj o2 (.deferred none) hdZ rfl) (by omega)⟩,hbZ.trans (belowK_b (w:=w) (Nat.le_refl _) Z D _ _ (by have:=HD3.out;omega) hdZ rfl rfl)⟩;have hjk:kids.length=j:=HKN.out;simp [results,Tryz.results28,go_sem,nval,d0,d1,d2,d3,d4,d5,hjk]
 case stop =>
  rintro D c pre W _ _ h _;exact h.elim
theorem zow (g u f r pg pu pf pc:Value) (L:List Rm) (t:Tm) (b n m:Nat) (G:Int) (w:World) (h:TA w b g u f r pg pu pf pc L t) (hT:TK n m G t) (M:Mn) (v:V.Vc) (rows:List (List Int)) (hwf:V.WF t.pl v M.kids rows) (hM:Fit M) (hal:M.attrs.length<=100) (aA:Option Addr) (aC:Nat)
 (hat:w.ownsRow b 9 1 (.slice aA (flatA M.attrs).length aC) (flatA M.attrs).length (bsv (flatA M.attrs))) :
 Calls Tryz.prog 28 #[tval g u f r pg pu pf pc,.agg (rmc ⟨recP M v,aA,aC⟩).toArray] w (GivesNd M w) :=
 callsIn_wide.1 (zqx 3 (Nat.le_refl _) g u f r pg pu pf pc L t b n m G w h hT M v rows hwf hM hal aA aC hat)
theorem KeepT.of_grown {X Y:World} {b s k:Nat} {e:TypeId} {v:Value} {xs:List Value} (hv:X.ownsRow b e s v k xs) (hg:X.grownBy Y v.ownBlock) (h1:e≠80) (h2:e≠36) (h3:e≠41):KeepT X Y:=fun j cs t ht hk =>
 hg.block j (lt_of_block hk) (fun e'=>zi hv hk (by rcases ht with rfl|rfl|rfl<;>assumption) e'.symm)
theorem KeepT.of_set {X:World} {k:Nat} {cs:Array Value} {e:TypeId} (hk:X.heap[k]? = some (.cells cs e (0,0))) (h1:e≠80) (h2:e≠36) (h3:e≠41) (j:Nat) (x:Value):KeepT X (X.setCell ⟨k,j,none⟩ x):=fun i cs' t ht hi =>
 Below.heap_setCell X ⟨k,j,none⟩ x i (fun e'=>by
  have e'':i=k:=e';rw [e'',hk] at hi;cases hi
  rcases ht with rfl|rfl|rfl
  · exact h1 rfl
  · exact h2 rfl
  · exact h3 rfl)
structure FW (X:World) (B kf:Nat) (vf:Value) (G:List Mn):Prop where
 box:X.heap[kf]? = some (.cells #[vf] 61 (0,0))
 of:OF X B vf G
theorem FW.below {X Y:World} {B kf:Nat} {vf:Value} {G:List Mn} (h:FW X B kf vf G) (hb:Below X.heap.size X Y):FW Y B kf vf G :=
 ⟨(hb.block _ (lt_of_block h.box)).trans h.box,h.of.below hb⟩
theorem OF.setV {w:World} {base k j:Nat} {v:Value} {G:List Mn} (h:OF w base v G) (hk:k<base) (x:Value):OF (w.setCell ⟨k,j,none⟩ x) base v G :=
 ⟨ownsRow_setCell_other h.row (a:=⟨k,j,none⟩) (fun e=>by have:base<=k:=(h.row.lt _ e).1;omega) _,h.fit,
  fun m hm=>⟨ownsRow_setCell_other (h.lst m hm).at_ (a:=⟨k,j,none⟩) (fun e=>by have:base<=k:=((h.lst m hm).at_.lt _ e).1;omega) _,ownsRow_setCell_other (h.lst m hm).ki (a:=⟨k,j,none⟩) (fun e=>by have:base<=k:=((h.lst m hm).ki.lt _ e).1;omega) _⟩,h.apA,h.apK⟩
theorem zqy (X:World) (kt kf B:Nat) (vf:Value) (F:List Mn) (hd:Int) (g u f r pg pu pf pc:Value) (L:List Rm) (t:Tm) (b n m:Nat) (G:Int) (h:TA X b g u f r pg pu pf pc L t) (hT:TK n m G t) (M:Mn) (v:V.Vc) (rows:List (List Int)) (hwf:V.WF t.pl v M.kids rows) (hM:Fit M) (hal:M.attrs.length<=100) (aA:Option Addr) (aC:Nat)
 (hat:X.ownsRow b 9 1 (.slice aA (flatA M.attrs).length aC) (flatA M.attrs).length (bsv (flatA M.attrs)))
 (hkt:X.heap[kt]? = some (.cells #[g,u,f,r,pg,pu,pf,pc] 36 (0,0))) (hf:FW X B kf vf F) (hF:F.length<=200) (hB:kf<B) (hBX:B<=X.heap.size) :
 Calls Tryz.prog 27 (#[.int .u64 hd,.agg (rmc ⟨recP M v,aA,aC⟩).toArray]++#[.pointer (some ⟨kt,0,none⟩),.pointer (some ⟨kf,0,none⟩)]) X (fun e X'=>e = .returned (.int .i64 0)/\∃ vf' N,FW X' B kf vf' (F++[N])/\core N=core M/\KeepT X X'/\Below kf X X'):=by
 obtain ⟨i0,hJ1,hJ2,hJ3,hJ4⟩:=info_parts zgr;have HJ:=Hq (And.intro hJ1 (And.intro hJ2 (And.intro hJ3 hJ4)));obtain ⟨ag,cg,au,cu,af,cf,ar,cr,agp,cgp,aup,cup,afp,cfp,acp,ccp,rfl,rfl,rfl,rfl,rfl,rfl,rfl,rfl⟩:=h.form;obtain ⟨pf,cf0,rfl,-,-⟩:=zj hf.of.row;obtain ⟨ac,hac⟩:∃ a,(flatA M.attrs).length=a:=⟨_,rfl⟩;obtain ⟨X1,hX1⟩:∃ X1,X1=X.alloc (.cells #[.int .i64 M.kind,.int .i64 M.parent,.string M.name,.string M.text,.slice aA ac aC,.int .u64 v.root,.int .i64 v.size] 80):=⟨_,rfl⟩;have HB1:Hid (Below X.heap.size X X1):=Hq (by rw [hX1];exact Bq _ _);have HRb:Hid (X1.heap[X.heap.size]? = some (.cells #[.int .i64 M.kind,.int .i64 M.parent,.string M.name,.string M.text,.slice aA ac aC,.int .u64 v.root,.int .i64 v.size] 80 (0,0))):=Hq (by rw [hX1];exact hnew _ _);have HTb:Hid (X1.heap[kt]? = some (.cells #[.slice ag t.st.gens.length cg,.slice au t.st.used.length cu,.slice af t.st.free.length cf,.slice ar L.length cr,.slice agp t.pl.st.gens.length cgp,.slice aup t.pl.st.used.length cup,.slice afp t.pl.st.free.length cfp,.slice acp t.pl.ch.length ccp] 36 (0,0))):=Hq ((HB1.out.block _ (lt_of_block hkt)).trans hkt);have HN:Hid (Calls Tryz.prog 28 #[.agg #[.slice ag t.st.gens.length cg,.slice au t.st.used.length cu,.slice af t.st.free.length cf,.slice ar L.length cr,.slice agp t.pl.st.gens.length cgp,.slice aup t.pl.st.used.length cup,.slice afp t.pl.st.free.length cfp,.slice acp t.pl.ch.length ccp],.agg #[.int .i64 M.kind,.int .i64 M.parent,.string M.name,.string M.text,.slice aA ac aC,.int .u64 v.root,.int .i64 v.size]] X1 (fun e w'=>∃ N:Mn,e = .returned (.tuple #[.agg #[.int .i64 N.kind,.string N.name,.string N.text,.slice N.aA N.attrs.length N.aC,.int .i64 N.parent,.slice N.kA N.kids.length N.kC],.int .i64 0])/\core N=core M/\Fit N/\Lst w' X1.heap.size N/\Below X1.heap.size X1 w')):=Hq (by
  have:=zow _ _ _ _ _ _ _ _ L t b n m G X1 (h.below HB1.out) hT M v rows hwf hM hal aA aC (own_below hat HB1.out);rw [<- hac];exact this)
 have HFW:=Hq hf;have HXE:=Hq hX1;have HBX:=Hq hBX;have HS1:Hid (X1.heap.size=X.heap.size+1):=Hq (by rw [hX1];simp);have hac':=hac;unfold rmc;simp only [recP,hac];clear hJ1 hJ2 hJ3 hJ4 h hT hwf hal hat hkt hf hX1 hac hac';obtain ⟨kd,nm,tx,ats,par,kids,xa,xc,ya,yc⟩:=M;simp only [] at HRb HN HXE ⊢;obtain ⟨fl,hfl⟩:∃ l,F.length=l:=⟨_,rfl⟩;have HFL:=Hq hfl;rw [hfl] at hF HFW;clear hfl;simp only [List.append_toArray,List.cons_append,List.nil_append,List.push_toArray];go_enter Tryz.func27,Tryz.ntmps27;go_upto_region 1 with fail
 rw [<- HXE.out];obtain ⟨a0,a1,a2,a3,a4,a5,a6,a7⟩:=block8 HTb.out;obtain ⟨d0,d1,d2,d3,d4,d5,d6⟩:=block7 HRb.out;go_upto_region 2 with (go_at_call 28;refine HN.out.mono ?_;rintro e w1 ⟨N,rfl,hcN,hfN,hlN,hb1⟩;have HCN:=Hq hcN;have HFN:=Hq hfN;have HLN:=Hq hlN;have HB2:=Hq hb1;clear hcN hfN hlN hb1)
 obtain ⟨ka,na,ta,la,pa,sa,xa1,xc1,ya1,yc1⟩:=N;simp only [] at HFN ⊢;obtain ⟨Y,hY⟩:∃ Y,Y=w1.alloc (.cells #[.int .i64 ka,.string na,.string ta,.slice xa1 la.length xc1,.int .i64 pa,.slice ya1 sa.length yc1] 90):=⟨_,rfl⟩;rw [<- hY];have HB3:Hid (Below w1.heap.size w1 Y):=Hq (by rw [hY];exact Bq _ _);have hnd:Y.heap[w1.heap.size]? = some (.cells #[.int .i64 ka,.string na,.string ta,.slice xa1 la.length xc1,.int .i64 pa,.slice ya1 sa.length yc1] 90 (0,0)):=by rw [hY];exact hnew _ _
 have hs1:=HB1.out.size;have hs2:=HB2.out.size;have hs3:=HB3.out.size;have HXY:Hid (Below X.heap.size X Y):=Hq ((HB1.out.trans (HB2.out.mono hs1)).trans (HB3.out.mono (by omega)));have HOY:=Hq (HFW.out.of.below HXY.out);have HBX1:=Hq ((HXY.out.block _ (lt_of_block HFW.out.box)).trans HFW.out.box);have zf:=(block1 HBX1.out);obtain ⟨n0,n1,n2,n3,n4,n5⟩:=block6 hnd;clear hY hnd a0 a1 a2 a3 a4 a5 a6 a7 d0 d1 d2 d3 d4 d5 d6;obtain ⟨E,hE⟩:∃ E,E=Y.alloc (.cells #[.int .i64 ka,.string na,.string ta,.slice xa1 la.length xc1,.int .i64 pa,.slice ya1 sa.length yc1] 90):=⟨_,rfl⟩;have HYE:Hid (Below Y.heap.size Y E):=Hq (by rw [hE];exact Bq _ _);have HOE:=Hq (HOY.out.below HYE.out);have HRE:Hid (E.ownsRow B 90 6 (.slice pf fl cf0) fl (fcells F)):=Hq (by have:=HOE.out.row;rw [HFL.out] at this;exact this);have HCE:Hid (∀ j u,[Value.int .i64 ka,.string na,.string ta,.slice xa1 la.length xc1,.int .i64 pa,.slice ya1 sa.length yc1][j]? = some u->E.cell? ((⟨Y.heap.size,0,none⟩:Addr).add j)=some u):=Hq (by rw [hE];exact cells6 _ _ _ _ _ _ _ _ _ (heap_alloc_new Y _));have hsE:=HYE.out.size;have HSE:Hid (B<=E.heap.size):=Hq (by have:=HBX.out;have:=HXY.out.size;omega);have HBE:=Hq ((HYE.out.block _ (lt_of_block HBX1.out)).trans HBX1.out);have HXE2:=Hq (HXY.out.trans (HYE.out.mono HXY.out.size));have HLE:Hid (Lst E X1.heap.size ⟨ka,na,ta,la,pa,sa,xa1,xc1,ya1,yc1⟩):=Hq ((HLN.out.below HB3.out).below HYE.out);have HEE:=Hq hE;have HFIN:Hid (∀ V v',E.grownBy V (Value.slice pf fl cf0).ownBlock->V.ownsRow B 90 6 v' (fl+1) (fcells F++[.int .i64 ka,.string na,.string ta,.slice xa1 la.length xc1,.int .i64 pa,.slice ya1 sa.length yc1]) ->
  V.cell? ⟨kf,0,none⟩=some (.slice pf fl cf0)/\V.frozen? ⟨kf,0,none⟩=false/\FW (V.setCell ⟨kf,0,none⟩ v') B kf v' (F++[⟨ka,na,ta,la,pa,sa,xa1,xc1,ya1,yc1⟩])/\KeepT X (V.setCell ⟨kf,0,none⟩ v')/\Below kf X (V.setCell ⟨kf,0,none⟩ v')):=Hq (fun V v' hg hr=>by
  have hlo:∀ r,(Value.slice pf fl cf0).ownBlock=some r->B<=r:=fun r e=>(HRE.out.lt r e).1
  have hkV:V.heap[kf]? = some (.cells #[.slice pf fl cf0] 61 (0,0)):=(hg.block kf (lt_of_block HBE.out) (fun e=>by have:=hlo kf e.symm;omega)).trans HBE.out;have hlt:=HFW.out.of.lt;have hXs:X.heap.size<=X1.heap.size:=HB1.out.size;have hof:=HOE.out.addL (lo:=X1.heap.size) HFN.out (HLE.out.mono (by have:=HBX.out;omega)) (fun m hm=>⟨fun k e=>by have:=(hlt m hm).1 k e;omega,fun k e=>by have:=(hlt m hm).2 k e;omega⟩) ⟨fun k e=>(HLE.out.at_.lt k e).1,fun k e=>(HLE.out.ki.lt k e).1⟩ hg (by rw [HFL.out];exact hr);refine ⟨block1 hkV,za hkV 0,⟨by rw [zb hkV];simp,hof.setV hB _⟩,?_,?_⟩
  · exact ((KeepT.of_below HXE2.out).trans (KeepT.of_grown HRE.out hg (by decide) (by decide) (by decide))).trans (KeepT.of_set hkV (by decide) (by decide) (by decide) 0 _)
  · have z1:Below kf X E:=HXE2.out.mono (by have:=HBX.out;omega);have z2:Below kf X V:=z1.grown hg (by have:=HSE.out;omega) (fun r e=>by have:=hlo r e;omega);exact z2.setCell (p:=⟨kf,0,none⟩) (Nat.le_refl _) _)
 clear hE
 go_wp2_with (at_builtin;refine wpList_append_own_at _ rfl _ _ 61 rfl B 90 i0 (.agg #[.int .i64 0,.string ⟨#[]⟩,.string ⟨#[]⟩,.slice none 0 0,.int .i64 0,.slice none 0 0]) 6 96 Tryz.underlying61 HJ.out.1 HJ.out.2.1 HJ.out.2.2.1 HJ.out.2.2.2 rfl (by decide) _ _ _ rfl (by rw [<- HEE.out];exact HRE.out) ⟨Y.heap.size,0,none⟩ 1 1 [.int .i64 ka,.string na,.string ta,.slice xa1 la.length xc1,.int .i64 pa,.slice ya1 sa.length yc1] rfl rfl (by rw [<- HEE.out];exact HCE.out) (fun u hu=>by simp only [List.mem_cons,List.not_mem_nil,or_false] at hu;rcases hu with rfl|rfl|rfl|rfl|rfl|rfl<;>rfl) (by unfold maxLen;omega) (by omega) (by rw [<- HEE.out];exact HSE.out) ?_;rw [<- HEE.out];intro v' V hown' hgrow _ hat;obtain ⟨p',c',rfl,-,-⟩:=zj hown';have HF:=Hq (HFIN.out V _ hgrow hown');clear hown' hgrow hat;have zf':=HF.out.1;have ff':=HF.out.2.1)
 go_ret;exact ⟨rfl,_,_,HF.out.2.2.1,HCN.out,HF.out.2.2.2.1,HF.out.2.2.2.2⟩
def GivesF (F:List Mn) (w:World) (e:Ending) (w':World):Prop :=
 ∃ A c H,e = .returned (.tuple #[.slice A H.length c,.int .i64 0])/\OF w' w.heap.size (.slice A H.length c) H/\H.map core=F.map core/\Below w.heap.size w w'
theorem zqz {F H:List Mn} {N m:Mn} {k:Nat} (h:H.map core=(F.take k).map core) (hm:F[k]? = some m) (hc:core N=core m):(H++[N]).map core=(F.take (k+1)).map core:=by
 rw [za7 hm,List.map_append,List.map_append,h];simp [hc]
theorem zln (g u f r pg pu pf pc:Value) (L:List Rm) (t:Tm) (b n m:Nat) (G:Int) (w:World) (h:TA w b g u f r pg pu pf pc L t) (hT:TK n m G t) (v:V.Vc) (F:List Mn) (hs:List Int) (vs:List V.Vc) (ks:List (List (List Int))) (rows:List (List Int)) (hv:Ver t v F hs vs ks rows) (hF:∀ x∈F,Fit x/\x.attrs.length<=100) :
 Calls Tryz.prog 12 #[tval g u f r pg pu pf pc,.agg #[.int .u64 v.root,.int .i64 v.size]] w (GivesF F w):=by
 have hsz:v.size=F.length:=by rw [<- hv.len];exact hv.ixw.size
 have hsm:F.length<=200:=by rw [<- hv.len];exact hv.ixw.small
 have hb64:=hv.ixw.b64;have hf:=h.form;obtain ⟨rt,sz⟩:=v;obtain rfl:sz=F.length:=hsz;obtain ⟨W1,hW1⟩:∃ W1,W1=(w.alloc (.cells #[g,u,f,r,pg,pu,pf,pc] 36)).alloc (.cells #[.int .u64 rt,.int .i64 F.length] 41):=⟨_,rfl⟩;obtain ⟨W,hW⟩:∃ W,W=W1.alloc (.cells #[.slice none 0 0] 61):=⟨_,rfl⟩;have hs1:W1.heap.size=w.heap.size+2:=by rw [hW1];simp
 have hs2:W.heap.size=w.heap.size+3:=by rw [hW];simp;omega
 have hk0:W.heap[w.heap.size]? = some (.cells #[g,u,f,r,pg,pu,pf,pc] 36 (0,0)):=by rw [hW,hold _ _ (by omega),hW1];exact hnew0 _ _ _
 have hk1:W.heap[w.heap.size+1]? = some (.cells #[.int .u64 rt,.int .i64 F.length] 41 (0,0)):=by rw [hW,hold _ _ (by omega),hW1];exact hnew1 _ _ _
 have hk2:W.heap[w.heap.size+2]? = some (.cells #[.slice none 0 0] 61 (0,0)):=by rw [hW,<- hs1];exact hnew _ _
 have hbW:Below w.heap.size w W:=by rw [hW,hW1];exact ((Bq _ _).alloc (by simp) _).alloc (by simp;omega) _
 have HEA:Hid (Calls Tryz.prog 24 #[tval g u f r pg pu pf pc,.agg #[.int .u64 rt,.int .i64 F.length],.func (.func 27) #[] #[.pointer (some ⟨w.heap.size,0,none⟩),.pointer (some ⟨w.heap.size+2,0,none⟩)]] W (fun e w'=>∃ y:Int,e = .returned (.int .i64 y)/\((y=0/\∃ vf H,FW w' (w.heap.size+3) (w.heap.size+2) vf H/\H.map core=(F.take F.length).map core/\Below (w.heap.size+2) W w')\/(y≠0/\False)))):=Hq (by
  refine zlg g u f r pg pu pf pc _ L t b rt F.length W (h.below hbW) (by omega) (fun k X=>∃ vf H,FW X (w.heap.size+3) (w.heap.size+2) vf H/\H.map core=(F.take k).map core/\Below (w.heap.size+2) W X) (fun _ _=>False) (fun X hX=>⟨.slice none 0 0,[],⟨(hX.block _ (by omega)).trans hk2,zng ⟨rfl,.inl ⟨rfl,rfl⟩⟩⟩,by simp,hX.mono (by omega)⟩) (fun i X hi hJ=>?_);obtain ⟨vf,H,hfw,hc,hbX⟩:=hJ;have hwX:Below w.heap.size w X:=hbW.trans (hbX.mono (by omega));have hta:=h.below hwX;obtain ⟨mi,hmi⟩:∃ x,F[i]? = some x:=⟨_,List.getElem?_eq_getElem hi⟩;have hil:i<hs.length:=by rw [hv.len];exact hi
  have hno:=hv.at_ i mi (hs.getD i 0) hmi (zah 0 hil);have hget:t.pl.get i (V.lvs F.length) rt=some (hs.getD i 0):=hv.ixw.get hil;refine (zso g u f r pg pu pf pc L t b n m G rt F.length i X hta hT hb64.1 hb64.2 (by omega) hi hget hno.b64 hno.lv #[.pointer (some ⟨w.heap.size,0,none⟩),.pointer (some ⟨w.heap.size+2,0,none⟩)] (fun y X'=>y=0/\KeepT X X'/\∃ vf H,FW X' (w.heap.size+3) (w.heap.size+2) vf H/\H.map core=(F.take (i+1)).map core/\Below (w.heap.size+2) W X') (fun x Z hx hxk hZ=>?_)).mono ?_
  · obtain ⟨k,aA,aC⟩:=x;have hk:k=recP mi (vs.getD i ⟨0,0⟩):=hxk.trans hno.rc;subst hk;have htz:=hta.below hZ;have hat:=htz.att _ hx;have hfz:=hfw.below hZ;have hlH:H.length=i:=by have:=congrArg List.length hc;simpa [Nat.min_eq_left (Nat.le_of_lt hi)] using this
    obtain ⟨hfm,ham⟩:=hF mi (List.mem_of_getElem? hmi);have hWX:=hbX.size;refine (zqy Z w.heap.size (w.heap.size+2) (w.heap.size+3) vf H (hs.getD i 0) g u f r pg pu pf pc L t b n m G htz hT mi (vs.getD i ⟨0,0⟩) (ks.getD i []) hno.wf hfm ham aA aC hat ((hZ.block _ (by omega)).trans ((hbX.block _ (by omega)).trans hk0)) hfz (by omega) (by omega) (by have:=hZ.size;omega)).mono ?_;rintro e X' ⟨rfl,vf',N,h1,h2,h3,h4⟩;exact ⟨0,rfl,h3,rfl,(KeepT.of_below hZ).trans h3,vf',H++[N],h1,zqz hc hmi h2,(hbX.trans (hZ.mono (by omega))).trans h4⟩
  · rintro e X' ⟨y,rfl,rfl,h1,h2⟩;exact ⟨0,rfl,h1,.inl ⟨rfl,h2⟩⟩)
 have HK0:=Hq hk0;have HK1:=Hq hk1;have HK2:=Hq hk2;have HBW:=Hq hbW;have HW:=Hq hW;have HW1:=Hq hW1;have HS1:=Hq hs1;have HS2:=Hq hs2;clear hsm hb64 hf h hT hv hF hk0 hk1 hk2 hbW hW hW1 hs1 hs2;generalize hfl:F.length=fl at *;have HFL:=Hq hfl;clear hfl;go_enter Tryz.func12,Tryz.ntmps12;go_upto_region 2 with fail
 rw [<- HW1.out,<- HW.out];obtain ⟨x0,x1,x2,x3,x4,x5,x6,x7⟩:=block8 HK0.out;obtain ⟨y0,y1⟩:=block2 HK1.out
 go_wp2_with (go_at_call 24;refine HEA.out.mono ?_;rintro e w1 ⟨y,rfl,(⟨rfl,vf,H,hfw,hc,hb1⟩|⟨-,⟨⟩⟩)⟩;obtain ⟨p1,c1,rfl,-,-⟩:=zj hfw.of.row;have HFW:=Hq hfw;have HC:=Hq hc;have HB1:=Hq hb1;have z1:=block1 hfw.box;clear hfw hc hb1)
 go_ret2;refine ⟨p1,c1,H,rfl,HFW.out.of.mono (by omega),?_,HBW.out.trans (HB1.out.mono (by omega))⟩;have:=HC.out;rw [<- HFL.out,List.take_length] at this;exact this
structure Srow (w:World) (A:Option Addr) (m size:Nat) (news:List Value):Prop where
 len:news.length=m*size
 none_:A=none->m=0
 at_:∀ ad,A=some ad->∀ j u,news[j]? = some u->w.cell? (ad.add j)=some u
 one:∀ u∈news,u.oneCell'=true
theorem zui {base n size bytes:Nat} {t e:TypeId} {v z:Value} {xs news:List Value} {i:TypeInfo} {w:World} {A:Option Addr} {m:Nat} (hu:Tryz.prog.underlying t=some (.slice e)) (hi:Tryz.prog.info? e=some i) (hz:i.zero=some z) (hs:i.size=size) (hb:i.bytes=bytes) (hzs:z.cells.size=size) (h0:0<size)
 (hown:w.ownsRow base e size v n xs) (c:Nat) (hS:Srow w A m size news) (h63:n+m<=maxLen) (hby:(n+m)*bytes<=140737488355328) (hbase:base<=w.heap.size) :
 ∃ v' w',(Builtin.append_ #[t,t] t #[v,.slice A m c]).run Tryz.prog w = .ok v' w'/\w'.ownsRow base e size v' (n+m) (xs++news)/\w.grownBy w' v.ownBlock/\(v'.ownBlock=v.ownBlock\/v'.ownBlock=some w.heap.size):=by
 cases A with
 | none =>
   obtain rfl:=hS.none_ rfl;have hn:news=[]:=List.eq_nil_of_length_eq_zero (by rw [hS.len,Nat.zero_mul]);subst hn;refine ⟨v,w,?_,by simpa using hown,zar _ _,.inl rfl⟩
   rcases hown.2 with ⟨rfl,rfl⟩|⟨g,cap,cur,rfl,_,_,hnc,_⟩
   · simp [Builtin.append_,run_underlying hu,sizeOf,typeInfo,hi,Builtin.lenOf,Builtin.firstCells]
   · simp [Builtin.append_,run_underlying hu,sizeOf,typeInfo,hi,Builtin.lenOf,Builtin.firstCells,hnc,storeCells]
 | some ad =>
   obtain ⟨v',w',hr,r1,r2,-,r4⟩:=run_append_own_at (P:=Tryz.prog) w base t t e i z size bytes hu hi hz hs hb hzs h0 v n xs hown ad m c news hS.len (hS.at_ ad rfl) hS.one h63 hby hbase;exact ⟨v',w',hr,r1,r2,r4⟩
theorem zfp {ops:Array Oper} {rest:List Oper} {o:Oper} {a:Act} {w:World} {Q:Exit->Act->World->Prop} (hgd:o.guard=none) (s x:Operand) {t e:TypeId}
 (ho:o.op = .call { callee:=.builtin .append,args:=#[s,x],argTypes:=#[t,t] }) (ht:o.type=t)
 {base n size bytes:Nat} {v z:Value} {xs news:List Value} {i:TypeInfo} {A:Option Addr} {m:Nat} (hu:Tryz.prog.underlying t=some (.slice e)) (hi:Tryz.prog.info? e=some i) (hz:i.zero=some z) (hsz:i.size=size) (hb:i.bytes=bytes) (hzs:z.cells.size=size) (h0:0<size)
 (hs:a.eval s=v) (hown:w.ownsRow base e size v n xs) (c:Nat) (hx:a.eval x = .slice A m c) (hS:Srow w A m size news) (h63:n+m<=maxLen) (hby:(n+m)*bytes<=140737488355328) (hbase:base<=w.heap.size)
 (hK:∀ v' w',w'.ownsRow base e size v' (n+m) (xs++news)->w.grownBy w' v.ownBlock->(v'.ownBlock=v.ownBlock\/v'.ownBlock=some w.heap.size)->wpList Tryz.prog ops Q rest (a.put o.dst v') w'):wpList Tryz.prog ops Q (o::rest) a w:=by
 refine wpList_plain hgd fun K hK'=>?_
 obtain ⟨v',w',hr,h2,h3,h4⟩:=zui hu hi hz hsz hb hzs h0 hown c hS h63 hby hbase;unfold Oper.wp;simp only [execOp,ho,ht,resolve,invoke,builtin,Sem.run_bind,Sem.run_pure,Result.andThen_ok,List.map_toArray,List.map_cons,List.map_nil,hs,hx,hr];exact hK' _ _ (hK v' w' h2 h3 h4)
theorem zhq {w:World} {b:Nat} {e:TypeId} {A:Option Addr} {m c:Nat} {news:List Value} (h:w.ownsRow b e 1 (.slice A m c) m news) (h1:∀ u∈news,u.oneCell'=true):Srow w A m 1 news:=by
 refine ⟨h.1,fun e=>?_,fun ad e j u hu=>?_,h1⟩
 · subst e
   rcases h.2 with ⟨_,rfl⟩|⟨g,cap,cur,hv,-⟩
   · rfl
   · cases hv
 · subst e
   rcases h.2 with ⟨hv,-⟩|⟨g,cap,cur,hv,-⟩
   · cases hv
   · cases hv;exact h.cells rfl j u hu
def Gd (B:Nat) (gc g pg:Value):Prop:=(∀ k,gc.ownBlock=some k->B<=k)/\(∀ k,g.ownBlock=some k->k+1≠B)/\∀ k,pg.ownBlock=some k->k+1≠B
def GB (X:World) (b kg B:Nat) (r:Value) (t:Tm) (rs cs:List Int):Prop :=
 ∃ g u f pg pu pf pc gr gc L,GA X b kg g u f r pg pu pf pc gr gc L t rs cs/\(∀ k,gr.ownBlock=some k->B<=k)/\Gd B gc g pg
structure KW (b0 B kg:Nat) (r:Value) (X X':World):Prop where
 be:Below b0 X X'
 same:∀ k,k<B->k≠kg->r.ownBlock≠some k->X'.heap[k]? = X.heap[k]?
 ty:∀ (k:Nat) (cs:Array Value) (t:TypeId),t≠37->t≠70->t≠80->X.heap[k]? = some (.cells cs t (0,0))->X'.heap[k]? = X.heap[k]?
theorem KW.refl (b0 B kg:Nat) (r:Value) (X:World):KW b0 B kg r X X:=⟨Below.refl _ _,fun _ _ _ _=>rfl,fun _ _ _ _ _ _ _=>rfl⟩
theorem KW.trans {b0 B kg:Nat} {r:Value} {X Y Z:World} (h:KW b0 B kg r X Y) (k:KW b0 B kg r Y Z):KW b0 B kg r X Z :=
 ⟨h.be.trans k.be,fun i h1 h2 h3=>(k.same i h1 h2 h3).trans (h.same i h1 h2 h3),fun i cs t h1 h2 h3 h4=>(k.ty i cs t h1 h2 h3 ((h.ty i cs t h1 h2 h3 h4).trans h4)).trans (h.ty i cs t h1 h2 h3 h4)⟩
theorem KW.of_below {b0 B kg:Nat} {r:Value} {X Y:World} (h:Below X.heap.size X Y) (h1:b0<=X.heap.size) (h2:B<=X.heap.size):KW b0 B kg r X Y :=
 ⟨h.mono h1,fun i hi _ _=>h.block i (by omega),fun i cs t _ _ _ hi=>h.block i (lt_of_block hi)⟩
theorem KW.set {b0 B kg:Nat} {r:Value} {X Y:World} {cs:Array Value} (h:KW b0 B kg r X Y) (hb:b0<=kg) (hk:Y.heap[kg]? = some (.cells cs 70 (0,0))) (j:Nat) (v:Value):KW b0 B kg r X (Y.setCell ⟨kg,j,none⟩ v) :=
 ⟨h.be.setCell (p:=⟨kg,j,none⟩) hb v,fun i h1 h2 h3=>(Below.heap_setCell Y ⟨kg,j,none⟩ v i h2).trans (h.same i h1 h2 h3),fun i xs t h1 h2 h3 h4=>by
  have e:=h.ty i xs t h1 h2 h3 h4;refine (Below.heap_setCell Y ⟨kg,j,none⟩ v i (fun e'=>?_)).trans e;have e'':i=kg:=e';rw [e'',hk,<- e'',h4] at e;cases e;exact h2 rfl⟩
theorem KW.grown {b0 B kg b n:Nat} {r v:Value} {xs:List Value} {X Y Z:World} (h:KW b0 B kg r X Y) (ho:Y.ownsRow b 37 1 v n xs) (hg:Y.grownBy Z v.ownBlock) (hv:∀ k,v.ownBlock=some k->B<=k) (h0:b0<=B) (hB:B<=Y.heap.size):KW b0 B kg r X Z :=
 ⟨h.be.grown hg (by omega) (fun k e=>Nat.le_trans h0 (hv k e)),fun i h1 h2 h3=>(hg.block i (by omega) (fun e=>by have:=hv i e.symm;omega)).trans (h.same i h1 h2 h3),fun i cs t h1 h2 h3 h4=>by
  have e:=h.ty i cs t h1 h2 h3 h4;have e1:=e.trans h4;exact (hg.block i (lt_of_block e1) (fun e'=>zi ho e1 (Ne.symm h1) e'.symm)).trans e⟩
theorem KW.own {b0 B kg b s n:Nat} {r v:Value} {e:TypeId} {xs:List Value} {X Y:World} {cs:Array Value} (h:KW b0 B kg r X Y) (ho:X.ownsRow b e s v n xs) (hv:∀ k,v.ownBlock=some k->k<B) (hk:X.heap[kg]? = some (.cells cs 70 (0,0))) (h1:e≠70) (h2:v.ownBlock=none\/v.ownBlock≠r.ownBlock):Y.ownsRow b e s v n xs:=by
 rcases ho.2 with hn|⟨g,cap,cur,rfl,hb,hg,h3,h4,h5⟩
 · exact ⟨ho.1,.inl hn⟩
 · have hne:g≠kg:=fun e'=>by
    rw [e',hk] at hg;cases hg;exact h1 rfl
   have hs:Y.heap[g]? = X.heap[g]?:=h.same g (hv g rfl) hne (fun e'=>by
    rcases h2 with h2|h2
    · simp [Value.ownBlock] at h2
    · exact h2 (by rw [e'];rfl))
   exact ⟨ho.1,.inr ⟨g,cap,cur,rfl,hb,hs.trans hg,h3,h4,h5⟩⟩
theorem GB.below {X Y:World} {b kg B:Nat} {r:Value} {t:Tm} {rs cs:List Int} (h:GB X b kg B r t rs cs) (hb:Below X.heap.size X Y):GB Y b kg B r t rs cs:=by
 obtain ⟨g,u,f,pg,pu,pf,pc,gr,gc,L,h1,h2,h3⟩:=h;exact ⟨g,u,f,pg,pu,pf,pc,gr,gc,L,h1.below hb,h2,h3⟩
theorem zfq {n:Nat} {G:Int} {p:V.Pl} {v:V.Vc} {l items:List Int} {old:List (List Int)} (hP:V.PK n G p) (hv:V.WF p v l old):(p.change v items).gone.length<=1024:=by
 rw [V.Pl.change]
 split
 · simp
 · rw [hv.down];simp only []
   split
   · simp
   · rename_i q rows hr
     have h1:=(V.zcw rows old 0).length_eq;rw [List.length_append] at h1;have hb:=hv.b64;have hl:V.lvs v.size<=4:=V.zbl _;obtain ⟨h2,h3,-⟩:=V.zdm hP hv.down (fun x hx=>by rw [List.mem_singleton.1 hx];exact hb) (by
      have:(4:Nat) ^ V.lvs v.size<=4 ^ 4:=Nat.pow_le_pow_right (by omega) hl;simp only [List.length_singleton];omega)
     have h4:=V.zbn h3 old.length;rw [List.take_length] at h4;show (V.left rows 0 old).length<=1024;have:256*old.length<=1024:=by omega
     omega
end Go.Proofs.YtdmecdjfbpblgaaGreatDoor
