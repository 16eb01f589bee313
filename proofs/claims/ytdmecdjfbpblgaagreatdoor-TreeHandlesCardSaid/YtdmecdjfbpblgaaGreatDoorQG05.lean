/-
  Operations as plain data: whether they may be, their bytes, and what bytes are of them.
-/
import Derived.Test.YtdmecdjfbpblgaaGreatDoorQG04
namespace Go.Proofs.YtdmecdjfbpblgaaGreatDoor.Ops
set_option maxRecDepth 100000
set_option maxHeartbeats 32000000
open Go.RowKit
set_option linter.unusedVariables false
set_option linter.unusedSimpArgs false
structure Po where
 kind:Int
 id:Int
 dst:Int
 pos:Int
 name:ByteArray
 text:ByteArray
def I64 (x:Int):Prop:=-9223372036854775808<=x/\x<=9223372036854775807
structure Fit (o:Po):Prop where
 k:I64 o.kind
 i:I64 o.id
 t:I64 o.dst
 a:I64 o.pos
def isK (k:Int):Bool:=decide (1<=k/\k<=8)
def hasI (k:Int):Bool:=decide (4<=k/\k<=8)
def hasT (k:Int):Bool:=decide (k=4)
def hasN (k:Int):Bool:=decide (k=1\/k=6\/k=7)
def hasX (k:Int):Bool:=decide (k=2\/k=3\/k=6\/k=8)
def mayO (o:Po):Bool:=isK o.kind && ((hasI o.kind || decide (o.id=0)) && ((hasT o.kind || decide (o.dst=0)) && ((hasT o.kind || decide (o.pos=0)) && ((hasN o.kind || decide (o.name.size=0)) && ((hasX o.kind || decide (o.text.size=0)) && (decide (o.name.size<=255) && decide (o.text.size<=255)))))))
theorem zir {k:Int}:isK k=true ↔ 1<=k/\k<=8:=by rw [isK,decide_eq_true_eq]
theorem zpj {a b:ByteArray} (h:a≠b):(a.toList == b.toList)=false:=by
 rw [beq_eq_false_iff_ne];intro e;apply h;rw [ByteArray.toList_eq,ByteArray.toList_eq] at e;cases a with
 | mk x=>cases b with
   | mk y=>simp at e;rw [e]
end Go.Proofs.YtdmecdjfbpblgaaGreatDoor.Ops
namespace Go.Proofs.YtdmecdjfbpblgaaGreatDoor
open Go.ChangeShapes Go.WideShapes Go.ChangeAt Go.RowKit
set_option linter.unusedVariables false
set_option linter.unusedSimpArgs false
theorem zdw {F:List Mn}:∀ (n:Nat) (x:Int),endsB F n x=true->endsB F (n+1) x=true
 | 0,x,h=>by
   simp [endsB] at h;simp [endsB,h]
 | n+1,x,h=>by
   rw [endsB,Bool.or_eq_true] at h ⊢
   rcases h with h|h
   · exact .inl h
   · exact .inr (zdw n _ h)
theorem zmo {F:List Mn} {m n:Nat} {x:Int} (hmn:m<=n) (h:endsB F m x=true):endsB F n x=true:=by
 induction hmn with
 | refl=>exact h
 | step _ ih=>exact zdw _ _ ih
theorem zkd {F:List Mn}:∀ (m:Nat) (x:Int),endsB F m x=true->endsB F (dep F m x) x=true
 | 0,x,h=>h
 | m+1,x,h=>by
   by_cases hx:x = -1
   · subst hx;cases dep F (m+1) (-1)<;>simp [endsB]
   · rw [endsB,Bool.or_eq_true,decide_eq_true_eq] at h;have h':=h.resolve_left hx;rw [dep,if_neg hx,endsB,Bool.or_eq_true];exact .inr (zkd m _ h')
theorem zke {F:List Mn} (hU:Up F) {m:Nat}:∀ (k:Nat) (x:Int),(x = -1\/isB F x=true)->endsB F m x=true->dep F m x=k->∃ l:List Nat,l.Nodup/\l.length=k/\∀ y∈l,y<F.length/\dep F m (y:Int)<=k
 | 0,x,_,_,_=>⟨[],List.nodup_nil,rfl,fun y hy=>absurd hy (by simp)⟩
 | k+1,x,hx,he,hd=>by
   have hne:x ≠ -1:=by
    rintro rfl;cases m<;>simp [dep] at hd
   have hB:=hx.resolve_left hne;rw [isB,decide_eq_true_eq] at hB;obtain ⟨j,rfl⟩:=Int.eq_ofNat_of_zero_le hB.1;have hj:j<F.length:=by omega
   match m,he,hd with
   | 0,he,hd=>simp [dep] at hd
   | m+1,he,hd =>
     rw [endsB,Bool.or_eq_true,decide_eq_true_eq] at he;have he':=he.resolve_left hne;rw [dep,if_neg hne] at hd;have hd':dep F (m+1) (par F ((j:Int)).toNat)=k:=by
      rw [zhc F _ _ he'];omega
     obtain ⟨l,h1,h2,h3⟩:=zke hU k (par F ((j:Int)).toNat) (by rw [Int.toNat_natCast];exact hU j hj) (zdw _ _ he') hd';refine ⟨j::l,List.nodup_cons.2 ⟨fun hm=>?_,h1⟩,by simp [h2],fun y hy=>?_⟩
     · have h4:=(h3 j hm).2;rw [dep,if_neg hne] at h4;omega
     · rcases List.mem_cons.1 hy with rfl|hy
       · refine ⟨hj,?_⟩;rw [dep,if_neg hne];omega
       · have:=h3 y hy;exact ⟨this.1,by omega⟩
theorem zpk {F:List Mn} (hU:Up F) {m:Nat} {x:Int} (hx:x = -1\/isB F x=true) (h:endsB F m x=true):endsB F F.length x=true:=by
 obtain ⟨l,h1,h2,h3⟩:=zke hU _ x hx h rfl;have:=zeu F.length l h1 (fun y hy=>(h3 y hy).1);exact zmo (by omega) (zkd m x h)
def Linked (F:List Mn):Prop:=∀ i,i<F.length->(par F i = -1\/(i≠0/\∃ j:Nat,par F i=j/\j<F.length/\(kidsOf F j).count (i:Int)=1))/\∀ k∈kidsOf F i,∃ j:Nat,k=j/\j<F.length/\par F j=i
theorem zh0 {F:List Mn} {i:Nat}:linkB F i=true ↔ (par F i = -1\/(i≠0/\∃ j:Nat,par F i=j/\j<F.length/\(kidsOf F j).count (i:Int)=1))/\∀ k∈kidsOf F i,∃ j:Nat,k=j/\j<F.length/\par F j=i:=by
 unfold linkB;rw [Bool.and_eq_true,Bool.or_eq_true,decide_eq_true_eq,Bool.and_eq_true,Bool.and_eq_true,decide_eq_true_eq,decide_eq_true_eq,List.all_eq_true];refine and_congr (or_congr Iff.rfl (and_congr Iff.rfl ?_)) (forall_congr' fun k=>imp_congr Iff.rfl ?_)
 · rw [isB,decide_eq_true_eq];constructor
   · rintro ⟨h1,h2⟩;obtain ⟨j,hj⟩:=Int.eq_ofNat_of_zero_le h1.1;rw [hj,Int.toNat_natCast] at h2;exact ⟨j,hj,by omega,h2⟩
   · rintro ⟨j,hj,h1,h2⟩;rw [hj,Int.toNat_natCast];exact ⟨by omega,h2⟩
 · rw [Bool.and_eq_true,isB,decide_eq_true_eq,decide_eq_true_eq];constructor
   · rintro ⟨h1,h2⟩;obtain ⟨j,rfl⟩:=Int.eq_ofNat_of_zero_le h1.1;rw [Int.toNat_natCast] at h2;exact ⟨j,rfl,by omega,h2⟩
   · rintro ⟨j,rfl,h1,h2⟩;rw [Int.toNat_natCast];exact ⟨by omega,h2⟩
def OwnOk (F:List Mn):Prop:=∀ i (h:i<F.length),(F[i].kind=0 ↔ i=0)/\ownB F[i]=true
theorem zv {F:List Mn}:mayB F=true ↔ (0<F.length/\F.length<=60)/\OwnOk F/\Linked F/\docB F=true/\∀ i,i<F.length->endsB F F.length i=true:=by
 constructor
 · intro h;obtain ⟨p1,p2,p3,p4,p5⟩:=zcf h;refine ⟨⟨p1,p2⟩,fun i hi=>?_,fun i hi=>zh0.1 (zgp p3 hi),p4,p5⟩;have:=zj9 p3 hi;simp only [oneB,Bool.and_eq_true] at this;refine ⟨?_,this.2.1⟩;have h1:=this.1;rw [beq_iff_eq,Bool.eq_iff_iff,beq_iff_eq,beq_iff_eq] at h1;omega
 · rintro ⟨h1,h2,h3,h4,h5⟩;rw [mayB,decide_eq_true h1,Bool.true_and,Bool.and_eq_true,Bool.and_eq_true];refine ⟨List.all_eq_true.2 fun i hi=>?_,h4,List.all_eq_true.2 fun i hi=>h5 i (List.mem_range.1 hi)⟩;have hi':=List.mem_range.1 hi;rw [List.getElem?_eq_getElem hi',Option.map_some,Option.getD_some,oneB,Bool.and_eq_true,Bool.and_eq_true];refine ⟨?_,(h2 i hi').2,zh0.2 (h3 i hi')⟩;rw [beq_iff_eq,Bool.eq_iff_iff,beq_iff_eq,beq_iff_eq];have:=(h2 i hi').1;omega
def newN (kind:Int) (name text:ByteArray):Mn:=⟨kind,name,text,[],-1,[],none,0,none,0⟩
def addP (F:List Mn) (kind:Int) (name text:ByteArray):List Mn:=F++[newN kind name text]
def setPar (F:List Mn) (n:Nat) (p:Int):List Mn:=F.modify n fun m=>{ m with parent:=p }
def setKids (F:List Mn) (n:Nat) (l:List Int):List Mn:=F.modify n fun m=>{ m with kids:=l }
def setAt (F:List Mn) (n:Nat) (l:List (ByteArray × ByteArray)):List Mn:=F.modify n fun m=>{ m with attrs:=l }
def setTx (F:List Mn) (n:Nat) (t:ByteArray):List Mn:=F.modify n fun m=>{ m with text:=t }
def remP (F:List Mn) (id:Nat):List Mn:=setPar (setKids F (par F id).toNat ((kidsOf F (par F id).toNat).filter fun k=>decide (k≠id))) id (-1)
def outP (F:List Mn) (id:Nat):List Mn:=if par F id = -1 then F else remP F id
def layP (F:List Mn) (id dst pos:Nat):List Mn:=setKids (setPar F id dst) dst ((kidsOf F dst).insertIdx pos (id:Int))
def insP (F:List Mn) (id dst pos:Nat):List Mn:=layP (outP F id) id dst pos
theorem zis {F:List Mn} {n:Nat} {f:Mn->Mn} (i:Nat):par (F.modify n f) i=if n=i/\i<F.length then (f (F.getD i (newN 0 ⟨#[]⟩ ⟨#[]⟩))).parent else par F i:=by
 unfold par;rw [List.getElem?_modify]
 by_cases hi:i<F.length
 · by_cases h:n=i
   · simp [h,hi]
   · simp [h,hi]
 · simp [hi]
theorem zhd {F:List Mn} {n:Nat} {f:Mn->Mn} (i:Nat):kidsOf (F.modify n f) i=if n=i/\i<F.length then (f (F.getD i (newN 0 ⟨#[]⟩ ⟨#[]⟩))).kids else kidsOf F i:=by
 unfold kidsOf;rw [List.getElem?_modify]
 by_cases hi:i<F.length
 · by_cases h:n=i
   · simp [h,hi]
   · simp [h,hi]
 · simp [hi]
theorem zhe {F:List Mn} {n:Nat} {f:Mn->Mn} (hf:∀ m,(f m).kind=m.kind) (i:Nat):kindOf (F.modify n f) i=kindOf F i:=by
 unfold kindOf;rw [List.getElem?_modify];cases F[i]? with
 | none=>rfl
 | some m=>by_cases h:n=i<;>simp [h,hf]
theorem zdx {F:List Mn} {i:Nat} (h:i<F.length) (d:Mn):F.getD i d=F[i]:=by
 rw [List.getD_eq_getElem?_getD,List.getElem?_eq_getElem h];rfl
theorem zh1 {F:List Mn} {n:Nat} {p:Int} (hn:n<F.length) (i:Nat):par (setPar F n p) i=if i=n then p else par F i:=by
 unfold setPar;rw [zis]
 by_cases h:i=n
 · subst h;rw [if_pos ⟨rfl,hn⟩,if_pos rfl]
 · rw [if_neg (fun e=>h e.1.symm),if_neg h]
theorem zcy {F:List Mn} {n:Nat} {p:Int} (i:Nat):kidsOf (setPar F n p) i=kidsOf F i:=by
 unfold setPar;rw [zhd]
 split
 · rename_i h
   rw [zdx h.2,zae h.2]
 · rfl
theorem zgx {F:List Mn} {n:Nat} {l:List Int} (i:Nat):par (setKids F n l) i=par F i:=by
 unfold setKids;rw [zis]
 split
 · rename_i h
   rw [zdx h.2,zby h.2]
 · rfl
theorem zf2 {F:List Mn} {n:Nat} {l:List Int} (hn:n<F.length) (i:Nat):kidsOf (setKids F n l) i=if i=n then l else kidsOf F i:=by
 unfold setKids;rw [zhd]
 by_cases h:i=n
 · subst h;rw [if_pos ⟨rfl,hn⟩,if_pos rfl]
 · rw [if_neg (fun e=>h e.1.symm),if_neg h]
theorem zed {F:List Mn} {n:Nat} {p:Int} (i:Nat):kindOf (setPar F n p) i=kindOf F i:=by unfold setPar;refine zhe ?_ i;intro m;rfl
theorem zf3 {F:List Mn} {n:Nat} {l:List Int} (i:Nat):kindOf (setKids F n l) i=kindOf F i:=by unfold setKids;refine zhe ?_ i;intro m;rfl
theorem zew {F:List Mn} {n:Nat} {p:Int}:(setPar F n p).length=F.length:=by simp [setPar]
theorem zee {F:List Mn} {n:Nat} {l:List Int}:(setKids F n l).length=F.length:=by simp [setKids]
theorem zc6 {F:List Mn} (h:Linked F):Up F:=fun i hi=>by
 rcases (h i hi).1 with h|⟨-,j,h1,h2,-⟩
 · exact .inl h
 · refine .inr ?_;rw [h1,isB,decide_eq_true_eq];omega
theorem zex {F G:List Mn} (hk:kidsOf G 0=kidsOf F 0) (hd:∀ k∈kidsOf F 0,kindOf G k.toNat=kindOf F k.toNat):docB G=docB F:=by
 unfold docB;rw [hk];have h1:(kidsOf F 0).all (fun k=>decide (kindOf G k.toNat≠2))=(kidsOf F 0).all (fun k=>decide (kindOf F k.toNat≠2)):=by
  rw [Bool.eq_iff_iff,List.all_eq_true,List.all_eq_true];exact forall_congr' fun k=>⟨fun h hm=>by rw [<- hd k hm];exact h hm,fun h hm=>by rw [hd k hm];exact h hm⟩
 have h2:(kidsOf F 0).filter (fun k=>decide (kindOf G k.toNat=1))=(kidsOf F 0).filter (fun k=>decide (kindOf F k.toNat=1)):=List.filter_congr fun k hm=>by rw [hd k hm]
 rw [h1,h2]
theorem zkf {F G:List Mn} (h:mayB F=true) (hl:G.length=F.length) (hp:∀ i,par G i=par F i) (hk:∀ i,kidsOf G i=kidsOf F i) (hd:∀ i,kindOf G i=kindOf F i) (ho:OwnOk G):mayB G=true:=by
 obtain ⟨h1,h2,h3,h4,h5⟩:=zv.1 h;refine zv.2 ⟨by rw [hl];exact h1,ho,fun i hi=>?_,by rw [zex (hk 0) (fun k _=>hd _)];exact h4,fun i hi=>?_⟩
 · rw [hl] at hi ⊢;have:=h3 i hi;simp only [hp,hk];exact this
 · rw [hl] at hi ⊢;have key:∀ n x,endsB G n x=endsB F n x:=by
    intro n
    induction n with
    | zero=>intro x;rfl
    | succ n ih=>intro x;rw [endsB,endsB,hp,ih]
   rw [key];exact h5 i hi
theorem zit {F:List Mn} {m:Mn} {i:Nat} (h:i<F.length):par (F++[m]) i=par F i:=by simp [par,List.getElem?_append_left h]
theorem zhf {F:List Mn} {m:Mn} {i:Nat} (h:i<F.length):kidsOf (F++[m]) i=kidsOf F i:=by simp [kidsOf,List.getElem?_append_left h]
theorem zrk {F:List Mn} {m:Mn} {i:Nat} (h:i<F.length):kindOf (F++[m]) i=kindOf F i:=by simp [kindOf,List.getElem?_append_left h]
theorem zkg {F:List Mn} {m:Mn}:par (F++[m]) F.length=m.parent:=by simp [par]
theorem zpl {F:List Mn} {m:Mn}:kidsOf (F++[m]) F.length=m.kids:=by simp [kidsOf]
theorem zmp {F:List Mn} (h:mayB F=true) (hl:F.length<60) {k:Int} {a b:ByteArray} (hk:k≠0) (ho:ownB (newN k a b)=true):mayB (addP F k a b)=true:=by
 obtain ⟨h1,h2,h3,h4,h5⟩:=zv.1 h;unfold addP;have hlen:(F++[newN k a b]).length=F.length+1:=by simp
 refine zv.2 ⟨⟨by omega,by omega⟩,fun i hi=>?_,fun i hi=>?_,?_,fun i hi=>?_⟩
 · rcases Nat.lt_or_ge i F.length with hlt|hge
   · rw [List.getElem_append_left hlt];exact h2 i hlt
   · obtain rfl:i=F.length:=by omega
     have e:(F++[newN k a b])[F.length]=newN k a b:=by simp
     rw [e];exact ⟨⟨fun e=>absurd e hk,fun e=>by omega⟩,ho⟩
 · rcases Nat.lt_or_ge i F.length with hlt|hge
   · obtain ⟨a1,a2⟩:=h3 i hlt;rw [zit hlt,zhf hlt];refine ⟨a1.imp_right fun ⟨b1,j,b2,b3,b4⟩=>⟨b1,j,b2,by omega,by rw [zhf b3];exact b4⟩,fun x hx=>?_⟩;obtain ⟨j,b1,b2,b3⟩:=a2 x hx;exact ⟨j,b1,by omega,by rw [zit b2];exact b3⟩
   · obtain rfl:i=F.length:=by omega
     rw [zkg,zpl];exact ⟨.inl rfl,fun x hx=>absurd hx (by simp [newN])⟩
 · rw [zex (zhf h1.1) (fun x hx=>?_)]
   · exact h4
   · obtain ⟨j,rfl,b2,-⟩:=(h3 0 h1.1).2 x hx;rw [Int.toNat_natCast,zrk b2]
 · have key:∀ n x,(x = -1\/isB F x=true)->endsB (F++[newN k a b]) n x=endsB F n x:=by
    intro n
    induction n with
    | zero=>intro x _;rfl
    | succ n ih =>
      intro x hx
      rcases hx with rfl|hx
      · simp [endsB]
      · rw [isB,decide_eq_true_eq] at hx;obtain ⟨j,rfl⟩:=Int.eq_ofNat_of_zero_le hx.1;have hj:j<F.length:=by omega
        rw [endsB,endsB,Int.toNat_natCast,zit hj,ih _ (zc6 h3 j hj)]
   rw [hlen]
   rcases Nat.lt_or_ge i F.length with hlt|hge
   · refine zdw _ _ ?_;rw [key _ _ (.inr (by rw [isB,decide_eq_true_eq];omega))];exact h5 i hlt
   · obtain rfl:i=F.length:=by omega
     rw [endsB,Int.toNat_natCast,zkg];have:endsB (F++[newN k a b]) F.length (newN k a b).parent=true:=by
      show endsB _ _ (-1)=true;cases F.length<;>simp [endsB]
     rw [this,Bool.or_true]
theorem zux {F:List Mn} (h:mayB F=true) {id:Nat} (hi:id<F.length) {j:Nat} (hp:par F id=j):j≠id:=by
 obtain ⟨j',h1,-,h2⟩:=zri h hi (by omega);obtain rfl:j'=j:=by omega
 rintro rfl;omega
theorem zdi {F:List Mn} {id:Nat}:(remP F id).length=F.length:=by rw [remP,zew,zee]
theorem ziu {F:List Mn} {id:Nat} (hi:id<F.length) (i:Nat):par (remP F id) i=if i=id then -1 else par F i:=by
 rw [remP,zh1 (by rw [zee];exact hi),zgx]
theorem zkh {F:List Mn} {id j:Nat} (hp:par F id=j) (hj:j<F.length) (i:Nat):kidsOf (remP F id) i=if i=j then (kidsOf F j).filter (fun k:Int=>decide (k≠(id:Int))) else kidsOf F i:=by
 unfold remP;rw [zcy,hp,Int.toNat_natCast,zf2 hj]
theorem zki {F:List Mn} {id:Nat} (i:Nat):kindOf (remP F id) i=kindOf F i:=by rw [remP,zed,zf3]
theorem zdj {F:List Mn} (h:OwnOk F) {n:Nat} {f:Mn->Mn} (hf:∀ m,(f m).kind=m.kind) (ho:∀ h:n<F.length,ownB F[n]=true->ownB (f F[n])=true):OwnOk (F.modify n f):=by
 intro i hi;have hi':i<F.length:=by simpa using hi
 rw [List.getElem_modify];obtain ⟨a,b⟩:=h i hi'
 split
 · rename_i e
   subst e;exact ⟨by rw [hf];exact a,ho hi' b⟩
 · exact ⟨a,b⟩
theorem zrl {m:Mn} {l:List Int} (h:ownB m=true) (hl:m.kids=[]->l=[]):ownB { m with kids:=l }=true:=by
 unfold ownB at h ⊢;simp only [] at h ⊢
 split
 · rename_i hk
   rw [if_pos hk] at h;simp only [Bool.and_eq_true,decide_eq_true_eq] at h ⊢;exact ⟨h.1,by rw [hl (List.eq_nil_of_length_eq_zero h.2.1)];rfl,h.2.2⟩
 · rename_i hk
   rw [if_neg hk] at h;exact h
theorem zmq {m:Mn} {p:Int} (h:ownB m=true):ownB { m with parent:=p }=true:=h
theorem zmr {F:List Mn} (h:mayB F=true) {id:Nat} (hi:id<F.length) (hne:par F id ≠ -1):mayB (remP F id)=true:=by
 obtain ⟨h1,h2,h3,h4,h5⟩:=zv.1 h;obtain ⟨a1,-⟩:=h3 id hi;obtain ⟨-,j,hp,hj,hcnt⟩:=a1.resolve_left hne;have hji:=zux h hi hp;have HP:=ziu (F:=F) hi;have HK:=zkh hp hj;refine zv.2 ⟨by rw [zdi];exact h1,?_,fun i hii=>?_,?_,fun i hii=>?_⟩
 · unfold remP setPar setKids;refine zdj ?_ ?_ ?_
   · refine zdj h2 ?_ ?_
     · intro m;rfl
     · intro hn ho;refine zrl ho (fun hk=>?_);have hn':(par F id).toNat=j:=by rw [hp,Int.toNat_natCast]
       simp only [hn'] at hk ⊢;rw [zae hj,hk];rfl
   · intro m;rfl
   · intro _ hm;exact zmq hm
 · rw [zdi] at hii ⊢;obtain ⟨b1,b2⟩:=h3 i hii;rw [HP,HK];constructor
   · by_cases hid:i=id
     · rw [if_pos hid];exact .inl rfl
     · rw [if_neg hid];refine b1.imp_right fun ⟨c1,x,c2,c3,c4⟩=>⟨c1,x,c2,c3,?_⟩
       rw [HK]
       by_cases hx:x=j
       · subst hx;rw [if_pos rfl,List.count_filter (by simpa using (fun e:(i:Int)=id=>hid (by omega)))];exact c4
       · rw [if_neg hx];exact c4
   · intro k hk;have hk':k∈kidsOf F i:=by
      by_cases hx:i=j
      · subst hx;rw [if_pos rfl] at hk;exact (List.mem_filter.1 hk).1
      · rw [if_neg hx] at hk;exact hk
     obtain ⟨x,rfl,c2,c3⟩:=b2 k hk';refine ⟨x,rfl,c2,?_⟩;rw [HP,if_neg]
     · exact c3
     · rintro rfl;obtain rfl:j=i:=by omega
       rw [if_pos rfl] at hk;have:=(List.mem_filter.1 hk).2;simp at this
 · unfold docB at h4 ⊢;rw [Bool.and_eq_true,List.all_eq_true,decide_eq_true_eq] at h4 ⊢;simp only [zki];have hsub:(kidsOf (remP F id) 0).Sublist (kidsOf F 0):=by
    rw [HK]
    split
    · rename_i e
      subst e;exact List.filter_sublist
    · exact List.Sublist.refl _
   exact ⟨fun k hk=>h4.1 k (hsub.subset hk),Nat.le_trans (hsub.filter _).length_le h4.2⟩
 · rw [zdi] at hii ⊢;have key:∀ n x,endsB F n x=true->endsB (remP F id) n x=true:=by
    intro n
    induction n with
    | zero=>intro x hx;exact hx
    | succ n ih =>
      intro x hx;rw [endsB,Bool.or_eq_true] at hx ⊢;refine hx.imp_right fun hx=>?_
      rw [HP]
      split
      · cases n<;>simp [endsB]
      · exact ih _ hx
   exact key _ _ (h5 i hii)
theorem zbu {F:List Mn} {id dst pos:Nat}:(layP F id dst pos).length=F.length:=by rw [layP,zee,zew]
theorem ziv {F:List Mn} {id dst pos:Nat} (hi:id<F.length) (i:Nat):par (layP F id dst pos) i=if i=id then (dst:Int) else par F i:=by
 unfold layP;rw [zgx,zh1 hi]
theorem zrm {F:List Mn} {id dst pos:Nat} (hd:dst<F.length) (i:Nat):kidsOf (layP F id dst pos) i=if i=dst then (kidsOf F dst).insertIdx pos (id:Int) else kidsOf F i:=by
 unfold layP;rw [zf2 (by rw [zew];exact hd),zcy]
theorem zkj {F:List Mn} {id dst pos:Nat} (i:Nat):kindOf (layP F id dst pos) i=kindOf F i:=by rw [layP,zf3,zed]
theorem zrn {m:Mn} {l:List Int} (h:ownB m=true) (hk:m.kind=0\/m.kind=1):ownB { m with kids:=l }=true:=by
 unfold ownB at h ⊢;simp only [] at h ⊢;rw [if_neg (by omega)] at h ⊢;exact h
theorem kidless {F:List Mn} (h:Linked F) {id:Nat} (hp:par F id = -1) {i:Nat} (hi:i<F.length):(id:Int) ∉ kidsOf F i:=fun hm=>by
 obtain ⟨j,h1,h2,h3⟩:=(h i hi).2 _ hm;obtain rfl:id=j:=by omega
 omega
theorem zms {F:List Mn} (hU:Up F) {id dst pos:Nat} (hi:id<F.length):∀ (n:Nat) (x:Int),(x = -1\/isB F x=true)->onWay F id n x=false->endsB F n x=true->endsB (layP F id dst pos) n x=true
 | 0,x,_,_,h=>h
 | n+1,x,hx,hw,h=>by
   rw [endsB,Bool.or_eq_true] at h ⊢
   by_cases hx1:x = -1
   · subst hx1;exact .inl rfl
   · have h':=h.resolve_left (by simpa using hx1);rw [onWay,if_neg hx1,Bool.or_eq_false_iff,decide_eq_false_iff_not] at hw;have hB:=hx.resolve_left hx1;rw [isB,decide_eq_true_eq] at hB;obtain ⟨j,rfl⟩:=Int.eq_ofNat_of_zero_le hB.1;rw [Int.toNat_natCast] at hw h' ⊢;refine .inr ?_;rw [ziv hi,if_neg (fun e=>hw.1 (by rw [e]))];exact zms hU hi n _ (hU j (by omega)) hw.2 h'
theorem zmt {F:List Mn} (hU:Up F) {id dst pos N:Nat} (hi:id<F.length) (hd:endsB (layP F id dst pos) N dst=true):∀ (n:Nat) (x:Int),(x = -1\/isB F x=true)->endsB F n x=true->endsB (layP F id dst pos) (n+N) x=true
 | 0,x,_,h=>by
   have:x = -1:=by simpa [endsB] using h
   subst this;cases (0+N)<;>simp [endsB]
 | n+1,x,hx,h=>by
   rw [show n+1+N=(n+N)+1 by omega];rw [endsB,Bool.or_eq_true] at h ⊢
   by_cases hx1:x = -1
   · subst hx1;exact .inl rfl
   · have h':=h.resolve_left (by simpa using hx1);have hB:=hx.resolve_left hx1;rw [isB,decide_eq_true_eq] at hB;obtain ⟨j,rfl⟩:=Int.eq_ofNat_of_zero_le hB.1;rw [Int.toNat_natCast] at h' ⊢;refine .inr ?_;rw [ziv hi]
     split
     · exact zmo (by omega) hd
     · exact zmt hU hi hd n _ (hU j (by omega)) h'
theorem ztm {F:List Mn} (h:mayB F=true) {id dst pos:Nat} (hi:id<F.length) (hd:dst<F.length) (h0:id≠0) (hp:par F id = -1) (hk:kindOf F dst=0\/kindOf F dst=1)
 (hdoc:dst=0->kindOf F id≠2/\(kindOf F id=1->∀ k∈kidsOf F 0,kindOf F k.toNat≠1)) (hw:onWay F id F.length dst=false) (hpos:pos<=(kidsOf F dst).length):mayB (layP F id dst pos)=true:=by
 obtain ⟨h1,h2,h3,h4,h5⟩:=zv.1 h;have hne:dst≠id:=by
  rintro rfl;obtain ⟨n,hn⟩:∃ n,F.length=n+1:=⟨F.length - 1,by omega⟩;rw [hn,onWay,if_neg (by omega)] at hw;simp at hw
 have HP:=ziv (F:=F) (dst:=dst) (pos:=pos) hi;have HK:=zrm (F:=F) (id:=id) (pos:=pos) hd;have hperm:((kidsOf F dst).insertIdx pos (id:Int)).Perm ((id:Int)::kidsOf F dst):=List.perm_insertIdx _ _ hpos;refine zv.2 ⟨by rw [zbu];exact h1,?_,fun i hii=>?_,?_,fun i hii=>?_⟩
 · unfold layP setPar setKids;refine zdj ?_ ?_ ?_
   · refine zdj h2 ?_ ?_
     · intro m;rfl
     · intro _ hm;exact zmq hm
   · intro m;rfl
   · intro hn ho;refine zrn ho ?_;rw [<- zan hn];show kindOf (setPar F id dst) dst=0\/kindOf (setPar F id dst) dst=1;rw [zed];exact hk
 · rw [zbu] at hii ⊢;obtain ⟨b1,b2⟩:=h3 i hii;rw [HP,HK];constructor
   · by_cases hid:i=id
     · rw [if_pos hid];refine .inr ⟨by rw [hid];exact h0,dst,rfl,hd,?_⟩;rw [HK,if_pos rfl,hperm.count_eq,hid,List.count_cons_self,List.count_eq_zero_of_not_mem (kidless h3 hp hd)]
     · rw [if_neg hid];refine b1.imp_right fun ⟨c1,x,c2,c3,c4⟩=>⟨c1,x,c2,c3,?_⟩
       rw [HK]
       split
       · rename_i e
         subst e;rw [hperm.count_eq,List.count_cons_of_ne (by omega)];exact c4
       · exact c4
   · intro k hkk
     by_cases hx:i=dst
     · subst hx;rw [if_pos rfl] at hkk
       rcases List.mem_cons.1 (hperm.mem_iff.1 hkk) with rfl|hkk
       · exact ⟨id,rfl,hi,by rw [HP,if_pos rfl]⟩
       · obtain ⟨x,rfl,c2,c3⟩:=b2 k hkk;refine ⟨x,rfl,c2,?_⟩;rw [HP,if_neg]
         · exact c3
         · rintro rfl;omega
     · rw [if_neg hx] at hkk;obtain ⟨x,rfl,c2,c3⟩:=b2 k hkk;refine ⟨x,rfl,c2,?_⟩;rw [HP,if_neg]
       · exact c3
       · rintro rfl;omega
 · rcases Nat.eq_zero_or_pos dst with e|hpd
   · subst e;obtain ⟨d1,d2⟩:=hdoc rfl;unfold docB at h4 ⊢;rw [Bool.and_eq_true,List.all_eq_true,decide_eq_true_eq] at h4 ⊢;simp only [zkj];rw [HK,if_pos rfl];refine ⟨fun k hkk=>?_,?_⟩
     · rcases List.mem_cons.1 (hperm.mem_iff.1 hkk) with rfl|hkk
       · simpa using d1
       · exact h4.1 k hkk
     · rw [(hperm.filter _).length_eq,List.filter_cons]
       split
       · rename_i e
         rw [decide_eq_true_eq,Int.toNat_natCast] at e;have:(kidsOf F 0).filter (fun k=>decide (kindOf F k.toNat=1))=[]:=List.filter_eq_nil_iff.2 (fun k hkk=>by simpa using d2 e k hkk);rw [this];exact Nat.le_refl _
       · exact h4.2
   · rw [zex (by rw [HK,if_neg (by omega)]) (fun k _=>zkj _)];exact h4
 · have hU:=zc6 h3;have hUL:Up (layP F id dst pos):=fun x hx=>by
    rw [zbu] at hx;rw [HP]
    split
    · refine .inr ?_;rw [isB,zbu,decide_eq_true_eq];omega
    · refine (hU x hx).imp_right fun h=>?_
      rw [isB,zbu];exact h
   have hdst:isB F (dst:Int)=true:=by rw [isB,decide_eq_true_eq];omega
   have e1:=zms (dst:=dst) (pos:=pos) hU hi _ _ (.inr hdst) hw (h5 dst hd);rw [zbu] at hii ⊢;have hiB:isB F (i:Int)=true:=by rw [isB,decide_eq_true_eq];omega
   have e2:=zmt hU hi e1 _ _ (.inr hiB) (h5 i hii);have e3:=zpk hUL (x:=(i:Int)) (.inr (by rw [isB,zbu];exact hiB)) e2;rw [zbu] at e3;exact e3
theorem zmu {F:List Mn} (hU:Up F) {id:Nat} (hi:id<F.length):∀ (n:Nat) (x:Int),(x = -1\/isB F x=true)->onWay (remP F id) id n x=onWay F id n x
 | 0,x,_=>rfl
 | n+1,x,hx=>by
   rw [onWay,onWay]
   split
   · rfl
   · rename_i hx1
     have hB:=hx.resolve_left hx1;rw [isB,decide_eq_true_eq] at hB;obtain ⟨j,rfl⟩:=Int.eq_ofNat_of_zero_le hB.1;rw [Int.toNat_natCast,ziu hi]
     by_cases e:j=id
     · subst e;rw [decide_eq_true rfl,Bool.true_or,Bool.true_or]
     · rw [if_neg e,zmu hU hi n _ (hU j (by omega))]
theorem zcr {F:List Mn} {id:Nat}:(outP F id).length=F.length:=by
 unfold outP
 split
 · rfl
 · exact zdi
theorem zmv {F:List Mn} (h:mayB F=true) {id:Nat} (hi:id<F.length):mayB (outP F id)=true:=by
 unfold outP
 split
 · exact h
 · rename_i hp
   exact zmr h hi hp
theorem ztn {F:List Mn} {id:Nat} (hi:id<F.length) (i:Nat):par (outP F id) i=if i=id then -1 else par F i:=by
 unfold outP
 split
 · rename_i hp
   split
   · rename_i e;rw [e];exact hp
   · rfl
 · exact ziu hi i
theorem zhg {F:List Mn} {id:Nat} (i:Nat):kindOf (outP F id) i=kindOf F i:=by
 unfold outP
 split
 · rfl
 · exact zki i
theorem zhh {F:List Mn} (h:mayB F=true) {id:Nat} (hi:id<F.length) {i:Nat} (hii:i<F.length):kidsOf (outP F id) i=(kidsOf F i).filter (fun k:Int=>decide (k≠(id:Int))):=by
 obtain ⟨-,-,h3,-,-⟩:=zv.1 h;have self:∀ x,x<F.length->(id:Int) ∉ kidsOf F x->(kidsOf F x).filter (fun k:Int=>decide (k≠(id:Int)))=kidsOf F x:=fun x _ hn=>List.filter_eq_self.2 (fun k hk=>by
  rw [decide_eq_true_eq];rintro rfl;exact hn hk)
 unfold outP
 split
 · rename_i hp
   rw [self i hii (kidless h3 hp hii)]
 · rename_i hp
   obtain ⟨-,j,h1,h2,-⟩:=((h3 id hi).1).resolve_left hp;rw [zkh h1 h2]
   split
   · rename_i e;rw [e]
   · rename_i e
     rw [self i hii];intro hm;obtain ⟨x,c1,c2,c3⟩:=(h3 i hii).2 _ hm;obtain rfl:id=x:=by omega
     omega
theorem zto {F:List Mn} (h:mayB F=true) {id:Nat} (hi:id<F.length) (n:Nat) {x:Int} (hx:x = -1\/isB F x=true):onWay (outP F id) id n x=onWay F id n x:=by
 obtain ⟨-,-,h3,-,-⟩:=zv.1 h;unfold outP
 split
 · rfl
 · exact zmu (zc6 h3) hi n x hx
theorem ztp {F:List Mn} (h:mayB F=true) {id dst pos:Nat} (hi:id<F.length) (hd:dst<F.length) (h0:id≠0) (hk:kindOf F dst=0\/kindOf F dst=1)
 (hdoc:dst=0->kindOf F id≠2/\(kindOf F id=1->∀ k∈kidsOf F 0,k≠(id:Int)->kindOf F k.toNat≠1)) (hw:onWay F id F.length dst=false) (hpos:pos<=((kidsOf F dst).filter (fun k:Int=>decide (k≠(id:Int)))).length):mayB (insP F id dst pos)=true:=by
 unfold insP;refine ztm (zmv h hi) (by rw [zcr];exact hi) (by rw [zcr];exact hd) h0 (by rw [ztn hi,if_pos rfl]) (by rw [zhg];exact hk) (fun e=>?_) ?_ (by rw [zhh h hi hd];exact hpos)
 · obtain ⟨d1,d2⟩:=hdoc e;refine ⟨by rw [zhg];exact d1,fun hk1 k hkk=>?_⟩;rw [zhg] at hk1 ⊢;rw [zhh h hi (by omega)] at hkk;obtain ⟨m1,m2⟩:=List.mem_filter.1 hkk;exact d2 hk1 k m1 (by simpa using m2)
 · rw [zcr,zto h hi _ (.inr (by rw [isB,decide_eq_true_eq];omega))];exact hw
abbrev At2:=ByteArray × ByteArray
def hasA (l:List At2) (n:ByteArray):Bool:=l.any fun a=>decide (a.1=n)
def placeA (l:List At2) (n:ByteArray):Nat:=l.findIdx fun a=>decide (a.1=n)
def setA (l:List At2) (n t:ByteArray):List At2:=if hasA l n then l.set (placeA l n) (n,t) else l++[(n,t)]
def delA (l:List At2) (n:ByteArray):List At2:=l.filter fun a=>decide (a.1≠n)
theorem zbo {l:List At2}:attrsB l=true ↔ l.length<=8/\(∀ a∈l,nm a.1=true/\a.2.size<=60)/\(l.map (·.1)).Nodup:=by
 unfold attrsB;rw [Bool.and_eq_true,decide_eq_true_eq,List.all_eq_true];refine and_congr Iff.rfl ?_;have hnd:(l.map (·.1)).Nodup ↔ ∀ i (h:i<l.length),∀ a∈l.take i,a.1≠(l.getD i default).1:=by
  unfold List.Nodup;rw [List.pairwise_map,List.pairwise_iff_getElem];constructor
  · intro h i hi a ha;obtain ⟨j,hj,rfl⟩:=List.mem_iff_getElem.1 ha;rw [List.length_take] at hj;rw [List.getElem_take,getD_at default hi];exact h j i (by omega) hi (by omega)
  · intro h i j hi hj hij;have:=h j hj l[i] (List.mem_iff_getElem.2 ⟨i,by rw [List.length_take];omega,by rw [List.getElem_take]⟩)
    rwa [getD_at default hj] at this
 rw [hnd];constructor
 · intro h;refine ⟨fun a ha=>?_,fun i hi a ha=>?_⟩
   · obtain ⟨i,hi,rfl⟩:=List.mem_iff_getElem.1 ha;have:=h i (List.mem_range.2 hi);rw [getD_at default hi,Bool.and_eq_true,Bool.and_eq_true,decide_eq_true_eq] at this;exact ⟨this.1,this.2.1⟩
   · have:=h i (List.mem_range.2 hi);rw [Bool.and_eq_true,Bool.and_eq_true,Bool.not_eq_true',List.any_eq_false] at this;intro e;exact this.2.2 a ha (by rw [e];simp)
 · rintro ⟨h1,h2⟩ i hi;have hi':=List.mem_range.1 hi;obtain ⟨a1,a2⟩:=h1 _ (List.getElem_mem hi');rw [Bool.and_eq_true,Bool.and_eq_true,Bool.not_eq_true',List.any_eq_false,getD_at default hi'];refine ⟨a1,by simpa using a2,fun a ha he=>h2 i hi' a ha ?_⟩;rw [beq_iff_eq,zcg] at he;rw [getD_at default hi',he]
theorem zi4 {l:List At2} {n:ByteArray} (h:hasA l n=true):∃ h':placeA l n<l.length,l[placeA l n].1=n:=by
 unfold hasA at h;obtain ⟨a,ha,hn⟩:=List.any_eq_true.1 h;have hlt:placeA l n<l.length:=List.findIdx_lt_length_of_exists ⟨a,ha,hn⟩;refine ⟨hlt,?_⟩;have:=List.findIdx_getElem (p:=fun a:At2=>decide (a.1=n)) (w:=hlt);exact of_decide_eq_true this
theorem zpm {l:List At2} {n t:ByteArray} (h:attrsB l=true) (hn:nm n=true) (ht:t.size<=60) (hl:hasA l n=true\/l.length<8):attrsB (setA l n t)=true:=by
 obtain ⟨h1,h2,h3⟩:=zbo.1 h;unfold setA
 split
 · rename_i hh
   obtain ⟨hp,he⟩:=zi4 hh;refine zbo.2 ⟨by rw [List.length_set];exact h1,fun a ha=>?_,?_⟩
   · rcases List.mem_or_eq_of_mem_set ha with ha|rfl
     · exact h2 a ha
     · exact ⟨hn,ht⟩
   · rw [List.map_set];have:(l.map (·.1)).set (placeA l n) n=l.map (·.1):=by
      have e:(l.map (·.1))[placeA l n]'(by rw [List.length_map];exact hp)=n:=by rw [List.getElem_map,he]
      generalize placeA l n=k at *;subst e;exact List.set_getElem_self _
     rw [this];exact h3
 · rename_i hh
   have hl':=hl.resolve_left hh;refine zbo.2 ⟨by rw [List.length_append];simp;omega,fun a ha=>?_,?_⟩
   · rcases List.mem_append.1 ha with ha|ha
     · exact h2 a ha
     · rw [List.mem_singleton] at ha;subst ha;exact ⟨hn,ht⟩
   · rw [List.map_append,List.nodup_append];refine ⟨h3,by simp,fun x hx y hy=>?_⟩;simp only [List.map_cons,List.map_nil,List.mem_singleton] at hy;subst hy;obtain ⟨a,ha,rfl⟩:=List.mem_map.1 hx;intro e;exact hh (List.any_eq_true.2 ⟨a,ha,by simpa using e⟩)
theorem zpn {l:List At2} {n:ByteArray} (h:attrsB l=true):attrsB (delA l n)=true:=by
 obtain ⟨h1,h2,h3⟩:=zbo.1 h;unfold delA;exact zbo.2 ⟨Nat.le_trans (List.length_filter_le _ _) h1,fun a ha=>h2 a (List.mem_filter.1 ha).1,(List.filter_sublist.map _).nodup h3⟩
def attrsOf (F:List Mn) (k:Nat):List At2:=((F[k]?).map Mn.attrs).getD []
def others (F:List Mn) (id dst:Int):Int:=(kidsOf F dst.toNat).length - (if par F id.toNat=dst then 1 else 0)
def docMay (F:List Mn) (id:Nat):Bool:=if kindOf F id=2 then false else if kindOf F id=1 then !((kidsOf F 0).any fun k=>decide (k≠(id:Int)) && decide (kindOf F k.toNat=1)) else true
def newE (F:List Mn) (good:Bool):Int:=if good=false then 74 else if 60<=F.length then 2 else 0
def insE (F:List Mn) (o:Ops.Po):Int :=
 if isB F o.id=false then 70 else if isB F o.dst=false then 70 else if o.id=0 then 71 else if ¬ (o.dst=0\/kindOf F o.dst.toNat=1) then 71
 else if o.dst=0/\docMay F o.id.toNat=false then 71 else if belowB F o.id o.dst=true then 72 else if ¬ (0<=o.pos/\o.pos<=others F o.id o.dst) then 73 else 0
def remE (F:List Mn) (o:Ops.Po):Int:=if isB F o.id=false then 70 else if o.id=0 then 71 else if par F o.id.toNat = -1 then 3 else 0
def setE (F:List Mn) (o:Ops.Po):Int :=
 if isB F o.id=false then 70 else if kindOf F o.id.toNat≠1 then 71 else if nm o.name=false then 74 else if 60<o.text.size then 74
 else if hasA (attrsOf F o.id.toNat) o.name=false/\8<=(attrsOf F o.id.toNat).length then 75 else 0
def delE (F:List Mn) (o:Ops.Po):Int:=if isB F o.id=false then 70 else if kindOf F o.id.toNat≠1 then 71 else if hasA (attrsOf F o.id.toNat) o.name=false then 75 else 0
def txE (F:List Mn) (o:Ops.Po):Int:=if isB F o.id=false then 70 else if ¬ (kindOf F o.id.toNat=2\/kindOf F o.id.toNat=3) then 71 else if 60<o.text.size then 74 else 0
def errP (F:List Mn) (o:Ops.Po):Int :=
 if Ops.mayO o=false then 1
 else if o.kind=1 then newE F (nm o.name)
 else if o.kind=2\/o.kind=3 then newE F (decide (o.text.size<=60))
 else if o.kind=4 then insE F o
 else if o.kind=5 then remE F o
 else if o.kind=6 then setE F o
 else if o.kind=7 then delE F o
 else txE F o
def doP (F:List Mn) (o:Ops.Po):List Mn :=
 if o.kind=1\/o.kind=2\/o.kind=3 then addP F o.kind o.name o.text
 else if o.kind=4 then insP F o.id.toNat o.dst.toNat o.pos.toNat
 else if o.kind=5 then remP F o.id.toNat
 else if o.kind=6 then setAt F o.id.toNat (setA (attrsOf F o.id.toNat) o.name o.text)
 else if o.kind=7 then setAt F o.id.toNat (delA (attrsOf F o.id.toNat) o.name)
 else setTx F o.id.toNat o.text
def oneP (F:List Mn) (o:Ops.Po):List Mn × Int:=if errP F o=0 then (doP F o,0) else (F,errP F o)
def runP (F:List Mn):Nat->List Ops.Po->Option (List Mn) × Nat × Int
 | k,[]=>(some F,k,0)
 | k,o::l=>if errP F o=0 then runP (doP F o) (k+1) l else (none,k,errP F o)
def allP (F:List Mn) (l:List Ops.Po):List Mn × Nat × Int:=(((runP F 0 l).1).getD F,(runP F 0 l).2)
theorem zdy {F:List Mn} {n:Nat} {l:List At2}:(setAt F n l).length=F.length:=by simp [setAt]
theorem zi5 {F:List Mn} {n:Nat} {t:ByteArray}:(setTx F n t).length=F.length:=by simp [setTx]
theorem zkk {F:List Mn} {n:Nat} {f:Mn->Mn} (h1:∀ m,(f m).parent=m.parent) (h2:∀ m,(f m).kids=m.kids) (h3:∀ m,(f m).kind=m.kind):(∀ i,par (F.modify n f) i=par F i)/\(∀ i,kidsOf (F.modify n f) i=kidsOf F i)/\∀ i,kindOf (F.modify n f) i=kindOf F i:=by
 refine ⟨fun i=>?_,fun i=>?_,fun i=>zhe h3 i⟩
 · rw [zis]
   split
   · rename_i h;rw [h1,zdx h.2,zby h.2]
   · rfl
 · rw [zhd]
   split
   · rename_i h;rw [h2,zdx h.2,zae h.2]
   · rfl
theorem zbv {F:List Mn} {k:Nat} (h:k<F.length):attrsOf F k=F[k].attrs:=by simp [attrsOf,List.getElem?_eq_getElem h]
theorem zi6 {F:List Mn} (h:mayB F=true) {n:Nat} (hn:n<F.length) (hk:kindOf F n=1) {l:List At2} (hl:attrsB l=true):mayB (setAt F n l)=true:=by
 obtain ⟨-,h2,-⟩:=zv.1 h;unfold setAt;obtain ⟨m1,m2,m3⟩:=zkk (F:=F) (n:=n) (f:=fun m=>{ m with attrs:=l }) (fun _=>rfl) (fun _=>rfl) (fun _=>rfl);refine zkf h (by simp) m1 m2 m3 (zdj h2 ?_ ?_)
 · intro m;rfl
 · intro hn ho;rw [zan hn] at hk;unfold ownB at ho ⊢;simp only [] at ho ⊢;rw [if_neg (by omega),if_neg (by omega),if_pos hk] at ho ⊢;rw [Bool.and_eq_true,Bool.and_eq_true] at ho ⊢;exact ⟨ho.1,ho.2.1,hl⟩
theorem zpo {F:List Mn} (h:mayB F=true) {n:Nat} (hk:kindOf F n=2\/kindOf F n=3) {t:ByteArray} (ht:t.size<=60):mayB (setTx F n t)=true:=by
 obtain ⟨-,h2,-⟩:=zv.1 h;unfold setTx;obtain ⟨m1,m2,m3⟩:=zkk (F:=F) (n:=n) (f:=fun m=>{ m with text:=t }) (fun _=>rfl) (fun _=>rfl) (fun _=>rfl);refine zkf h (by simp) m1 m2 m3 (zdj h2 ?_ ?_)
 · intro m;rfl
 · intro hn ho;rw [zan hn] at hk;unfold ownB at ho ⊢;simp only [] at ho ⊢;rw [if_pos hk] at ho ⊢;rw [Bool.and_eq_true] at ho ⊢;exact ⟨by simpa using ht,ho.2⟩
theorem zmw {k:Int} {a b:ByteArray} (h:k=1/\nm a=true/\b.size=0\/(k=2\/k=3)/\a.size=0/\b.size<=60):ownB (newN k a b)=true:=by
 unfold ownB newN;simp only []
 rcases h with ⟨rfl,h1,h2⟩|⟨hk,h1,h2⟩
 · rw [if_neg (by omega),if_neg (by omega),if_pos rfl,h1];simp [emp,h2];decide
 · rw [if_pos hk];simp [emp,h1,h2]
theorem zey {o:Ops.Po} (h:Ops.mayO o=true):(1<=o.kind/\o.kind<=8)/\(Ops.hasN o.kind=false->o.name.size=0)/\(Ops.hasX o.kind=false->o.text.size=0):=by
 simp only [Ops.mayO,Bool.and_eq_true,Bool.or_eq_true,decide_eq_true_eq] at h;refine ⟨Ops.zir.1 h.1,fun e=>?_,fun e=>?_⟩
 · have:=h.2.2.2.2.1.resolve_left (by rw [e];simp);exact this
 · have:=h.2.2.2.2.2.1.resolve_left (by rw [e];simp);exact this
theorem zkl {F:List Mn} (h:mayB F=true) {o:Ops.Po} (he:errP F o=0):mayB (doP F o)=true:=by
 unfold errP at he
 split at he
 · cases he
 rename_i hm
 obtain ⟨⟨k1,k8⟩,hN,hX⟩:=zey (by simpa using hm);unfold doP;have isn:∀ {x:Int},isB F x=true->∃ j:Nat,x=j/\j<F.length:=fun {x} hx=>by
  rw [isB,decide_eq_true_eq] at hx;obtain ⟨j,rfl⟩:=Int.eq_ofNat_of_zero_le hx.1;exact ⟨j,rfl,by omega⟩
 split at he
 · rename_i hk
   rw [if_pos (.inl hk)];unfold newE at he
   split at he
   · cases he
   split at he
   · cases he
   rename_i hn hl
   refine zmp h (by omega) (by omega) (zmw (.inl ⟨hk,by simpa using hn,hX (by rw [hk];rfl)⟩))
 split at he
 · rename_i hk1 hk
   rw [if_pos (.inr hk)];unfold newE at he
   split at he
   · cases he
   split at he
   · cases he
   rename_i hn hl
   refine zmp h (by omega) (by omega) (zmw (.inr ⟨hk,hN (by rcases hk with e|e<;>rw [e]<;>rfl),by simpa using hn⟩))
 rename_i hk1 hk2
 rw [if_neg (by omega)]
 split at he
 · rename_i hk
   rw [if_pos hk];unfold insE at he
   split at he;· cases he
   split at he;· cases he
   split at he;· cases he
   split at he;· cases he
   split at he;· cases he
   split at he;· cases he
   split at he;· cases he
   rename_i a1 a2 a3 a4 a5 a6 a7
   obtain ⟨i,hi,hil⟩:=isn (by simpa using a1);obtain ⟨d,hd,hdl⟩:=isn (by simpa using a2);simp only [hi,hd,Int.toNat_natCast] at a1 a2 a3 a4 a5 a6 a7 ⊢;obtain ⟨-,-,h3,-,-⟩:=zv.1 h;obtain ⟨h0,h2,-⟩:=zv.1 h;refine ztp h hil hdl (by omega) ?_ (fun e=>?_) ?_ ?_
   · have:=Decidable.not_not.1 a4
     rcases this with e|e
     · refine .inl ?_;obtain rfl:d=0:=by omega
       rw [zan hdl];exact (h2 0 hdl).1.2 rfl
     · exact .inr e
   · have hdm:docMay F i=true:=by
      apply Decidable.byContradiction;intro hc;exact a5 ⟨by omega,by simpa using hc⟩
     unfold docMay at hdm
     split at hdm
     · cases hdm
     rename_i q1
     refine ⟨q1,fun q2=>?_⟩;rw [if_pos q2,Bool.not_eq_true',List.any_eq_false] at hdm;intro k hk hne;have:=hdm k hk;simp only [Bool.and_eq_true,decide_eq_true_eq,not_and] at this;exact this hne
   · have:belowB F (i:Int) (d:Int)=false:=by simpa using a6
     unfold belowB at this;rw [h,Bool.true_and,Bool.and_eq_false_iff] at this;refine this.resolve_left ?_;rw [isB,decide_eq_false_iff_not];omega
   · have h7:=Decidable.not_not.1 a7;unfold others at h7;simp only [Int.toNat_natCast] at h7;have hf:((kidsOf F d).filter (fun k:Int=>decide (k≠(i:Int)))).length=(kidsOf F d).length - (kidsOf F d).count (i:Int):=by
      have:=List.length_eq_countP_add_countP (l:=kidsOf F d) (fun k:Int=>decide (k=(i:Int)));rw [<- List.countP_eq_length_filter];have e1:List.countP (fun k:Int=>decide (k=(i:Int))) (kidsOf F d)=(kidsOf F d).count (i:Int):=by
       rw [List.count];exact List.countP_congr (fun x _=>by simp)
      have e2:List.countP (fun k:Int=>decide ¬decide (k=(i:Int))=true) (kidsOf F d)=List.countP (fun k:Int=>decide (k≠(i:Int))) (kidsOf F d):=List.countP_congr (fun x _=>by simp);omega
     rw [hf]
     by_cases hp:par F i=(d:Int)
     · rw [if_pos hp] at h7;obtain ⟨-,j,c1,c2,c3⟩:=((h3 i hil).1).resolve_left (by omega);obtain rfl:j=d:=by omega
       omega
     · rw [if_neg hp] at h7;have:(kidsOf F d).count (i:Int)=0:=List.count_eq_zero_of_not_mem (fun hm=>by
        obtain ⟨x,c1,c2,c3⟩:=(h3 d hdl).2 _ hm;obtain rfl:i=x:=by omega
        exact hp c3)
       omega
 rename_i hk4
 rw [if_neg hk4]
 split at he
 · rename_i hk
   rw [if_pos hk];unfold remE at he
   split at he;· cases he
   split at he;· cases he
   split at he;· cases he
   rename_i a1 a2 a3
   obtain ⟨i,hi,hil⟩:=isn (by simpa using a1);simp only [hi,Int.toNat_natCast] at a1 a2 a3 ⊢;exact zmr h hil a3
 rename_i hk5
 rw [if_neg hk5]
 split at he
 · rename_i hk
   rw [if_pos hk];unfold setE at he
   split at he;· cases he
   split at he;· cases he
   split at he;· cases he
   split at he;· cases he
   split at he;· cases he
   rename_i a1 a2 a3 a4 a5
   obtain ⟨i,hi,hil⟩:=isn (by simpa using a1);simp only [hi,Int.toNat_natCast] at a1 a2 a3 a4 a5 ⊢;have hki:kindOf F i=1:=Decidable.not_not.1 a2;obtain ⟨-,h2,-⟩:=zv.1 h;refine zi6 h hil hki (zpm ?_ (by simpa using a3) (by omega) ?_)
   · rw [zbv hil];have ho:=(h2 i hil).2;rw [zan hil] at hki;unfold ownB at ho;rw [if_neg (by omega),if_neg (by omega),if_pos hki,Bool.and_eq_true,Bool.and_eq_true] at ho;exact ho.2.2
   · by_cases hh:hasA (attrsOf F i) o.name=true
     · exact .inl hh
     · refine .inr ?_;have hf:hasA (attrsOf F i) o.name=false:=by simpa using hh
       exact Nat.lt_of_not_le (fun hc=>a5 ⟨hf,hc⟩)
 rename_i hk6
 rw [if_neg hk6]
 split at he
 · rename_i hk
   rw [if_pos hk];unfold delE at he
   split at he;· cases he
   split at he;· cases he
   split at he;· cases he
   rename_i a1 a2 a3
   obtain ⟨i,hi,hil⟩:=isn (by simpa using a1);simp only [hi,Int.toNat_natCast] at a1 a2 a3 ⊢;have hki:kindOf F i=1:=Decidable.not_not.1 a2;obtain ⟨-,h2,-⟩:=zv.1 h;refine zi6 h hil hki (zpn ?_);rw [zbv hil];have ho:=(h2 i hil).2;rw [zan hil] at hki;unfold ownB at ho;rw [if_neg (by omega),if_neg (by omega),if_pos hki,Bool.and_eq_true,Bool.and_eq_true] at ho;exact ho.2.2
 rename_i hk7
 rw [if_neg hk7];unfold txE at he
 split at he;· cases he
 split at he;· cases he
 split at he;· cases he
 rename_i a1 a2 a3
 exact zpo h (Decidable.not_not.1 a2) (by omega)
theorem ztq {F:List Mn} (h:mayB F=true) (o:Ops.Po):mayB (oneP F o).1=true:=by
 unfold oneP
 split
 · rename_i he;exact zkl h he
 · exact h
end Go.Proofs.YtdmecdjfbpblgaaGreatDoor
