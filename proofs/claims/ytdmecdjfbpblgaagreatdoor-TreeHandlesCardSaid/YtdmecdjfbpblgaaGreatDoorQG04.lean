/-
  Ways up and down in a plain forest.
-/
import Derived.Test.YtdmecdjfbpblgaaGreatDoorQG03
namespace Go.Proofs.YtdmecdjfbpblgaaGreatDoor
set_option maxRecDepth 100000
set_option maxHeartbeats 32000000
open Go.ChangeShapes Go.WideShapes Go.ChangeAt Go.RowKit
set_option linter.unusedVariables false
set_option linter.unusedSimpArgs false
def dep (F:List Mn):Nat->Int->Nat
 | 0,_=>0
 | n+1,x=>if x = -1 then 0 else dep F n (par F x.toNat)+1
theorem zur (F:List Mn):∀ (n:Nat) (x:Int),dep F n x<=n:=by
 intro n
 induction n with
 | zero=>intro x;simp [dep]
 | succ n ih =>
   intro x;rw [dep]
   split
   · omega
   · have:=ih (par F x.toNat);omega
theorem zhc (F:List Mn):∀ (n:Nat) (x:Int),endsB F n x=true->dep F (n+1) x=dep F n x:=by
 intro n
 induction n with
 | zero =>
   intro x h;simp [endsB] at h;simp [dep,h]
 | succ n ih =>
   intro x h;rw [dep]
   by_cases hx:x = -1
   · simp [dep,hx]
   · rw [if_neg hx];have h':endsB F n (par F x.toNat)=true:=by
      rw [endsB,Bool.or_eq_true,decide_eq_true_eq] at h;exact h.resolve_left hx
     rw [ih _ h']
     conv=>rhs;rw [dep,if_neg hx]
theorem zcq {F:List Mn} (h:mayB F=true) {i:Nat} (hi:i<F.length) {k:Int} (hk:k∈kidsOf F i) :
 ∃ j:Nat,k=j/\j<F.length/\par F j=i/\dep F F.length j=dep F F.length i+1:=by
 obtain ⟨p1,p2,p3,p4,p5⟩:=zcf h;obtain ⟨h1,h2⟩:=zml p3 hi hk;rw [isB,decide_eq_true_eq] at h1;obtain ⟨j,rfl⟩:=Int.eq_ofNat_of_zero_le h1.1;rw [Int.toNat_natCast] at h2;have hj:j<F.length:=by omega
 refine ⟨j,rfl,hj,h2,?_⟩;rw [<- zhc F _ _ (p5 j hj),dep,if_neg (by omega),Int.toNat_natCast,h2]
theorem ztj {F:List Mn} {i:Nat} (h0:0<F.length):1<=dep F F.length i:=by
 obtain ⟨n,hn⟩:∃ n,F.length=n+1:=⟨F.length - 1,by omega⟩;rw [hn,dep,if_neg (by omega)];omega
theorem dp_of {F:List Mn} (h:mayB F=true):∀ (f i:Nat),i<F.length->F.length+1<=f+dep F F.length i->Dp F f i:=by
 intro f
 induction f with
 | zero =>
   intro i hi hd;have:=zur F F.length i;omega
 | succ f ih =>
   intro i hi hd;refine ⟨hi,fun k hk=>?_⟩;obtain ⟨j,rfl,hj,-,hdj⟩:=zcq h hi hk;refine ⟨by omega,?_⟩;rw [Int.toNat_natCast];exact ih j hj (by omega)
theorem zus {F:List Mn} (h:mayB F=true) {i:Nat} (hi:i<F.length):Dp F F.length i:=by
 have:=ztj (F:=F) (i:=i) (by omega);exact dp_of h _ i hi (by omega)
def vis (F:List Mn):Nat->Nat->List Nat
 | 0,_=>[]
 | f+1,i=>i::(kidsOf F i).flatMap (fun k=>vis F f k.toNat)
def anc (F:List Mn):Nat->Int->Int
 | 0,x=>x
 | n+1,x=>par F (anc F n x).toNat
theorem zhw {F:List Mn} (h:mayB F=true):∀ (f i:Nat),i<F.length->∀ j∈vis F f i,j<F.length/\∃ n,anc F n j=i/\dep F F.length j=dep F F.length i+n:=by
 intro f
 induction f with
 | zero=>intro i hi j hj;simp [vis] at hj
 | succ f ih =>
   intro i hi j hj;rw [vis,List.mem_cons,List.mem_flatMap] at hj
   rcases hj with rfl|⟨k,hk,hj⟩
   · exact ⟨hi,0,rfl,rfl⟩
   · obtain ⟨k',rfl,hk',hp,hd⟩:=zcq h hi hk;rw [Int.toNat_natCast] at hj;obtain ⟨h1,n,h2,h3⟩:=ih k' hk' j hj;exact ⟨h1,n+1,by rw [anc,h2,Int.toNat_natCast,hp],by omega⟩
theorem znl {α β:Type} {f:α->List β}:∀ (l:List α),l.Nodup->(∀ x∈l,(f x).Nodup)->(∀ x∈l,∀ y∈l,∀ z,z∈f x->z∈f y->x=y)->(l.flatMap f).Nodup:=by
 intro l
 induction l with
 | nil=>intro _ _ _;simp
 | cons a l ih =>
   intro h1 h2 h3;rw [List.nodup_cons] at h1;rw [List.flatMap_cons,List.nodup_append];refine ⟨h2 a (by simp),ih h1.2 (fun x hx=>h2 x (by simp [hx])) (fun x hx y hy=>h3 x (by simp [hx]) y (by simp [hy])),?_⟩;intro x hx y hy e;subst e;rw [List.mem_flatMap] at hy;obtain ⟨b,hb,hy⟩:=hy;have:=h3 a (by simp) b (by simp [hb]) x hx hy;subst this;exact h1.1 hb
theorem zl3 {l:List Int} (h:∀ x∈l,l.count x=1):l.Nodup:=List.nodup_iff_count.2 (fun a=>by
 by_cases ha:a∈l
 · rw [h a ha];exact Nat.le_refl _
 · rw [List.count_eq_zero_of_not_mem ha];omega)
theorem znm {F:List Mn} (h:mayB F=true) {i:Nat} (hi:i<F.length):(kidsOf F i).Nodup:=zl3 (fun x hx=>by
 obtain ⟨p1,p2,p3,p4,p5⟩:=zcf h;obtain ⟨j,rfl,hj,hp,-⟩:=zcq h hi hx;have:=zgp p3 hj;rw [linkB,Bool.and_eq_true,Bool.or_eq_true,decide_eq_true_eq,hp] at this
 rcases this.1 with h'|h'
 · omega
 · simp only [Bool.and_eq_true,decide_eq_true_eq,Int.toNat_natCast] at h';exact h'.2.2)
theorem zpf {F:List Mn} (h:mayB F=true):∀ (f i:Nat),i<F.length->(vis F f i).Nodup:=by
 intro f
 induction f with
 | zero=>intro i hi;simp [vis]
 | succ f ih =>
   intro i hi;rw [vis,List.nodup_cons];refine ⟨fun hm=>?_,znl _ (znm h hi) (fun k hk=>?_) (fun k hk k' hk' z hz hz'=>?_)⟩
   · rw [List.mem_flatMap] at hm;obtain ⟨k,hk,hm⟩:=hm;obtain ⟨k',rfl,hk',hp,hd⟩:=zcq h hi hk;rw [Int.toNat_natCast] at hm;obtain ⟨-,n,-,h3⟩:=zhw h f k' hk' i hm;omega
   · obtain ⟨k',rfl,hk',hp,hd⟩:=zcq h hi hk;rw [Int.toNat_natCast];exact ih k' hk'
   · obtain ⟨a,rfl,ha,-,hda⟩:=zcq h hi hk;obtain ⟨b,rfl,hb,-,hdb⟩:=zcq h hi hk';rw [Int.toNat_natCast] at hz hz';obtain ⟨-,n,h1,h2⟩:=zhw h f a ha z hz;obtain ⟨-,m,h3,h4⟩:=zhw h f b hb z hz';obtain rfl:n=m:=by omega
     rw [<- h1,h3]
theorem zeu:∀ (n:Nat) (l:List Nat),l.Nodup->(∀ x∈l,x<n)->l.length<=n:=by
 intro n
 induction n with
 | zero =>
   intro l _ h;cases l with
   | nil=>simp
   | cons a l=>exact absurd (h a (by simp)) (by omega)
 | succ n ih =>
   intro l h1 h2;have:=ih (l.erase n) (h1.erase n) (fun x hx=>by
    rw [h1.mem_erase_iff] at hx;have:=h2 x hx.2;have:=hx.1;omega)
   by_cases hn:n∈l
   · rw [List.length_erase_of_mem hn] at this;omega
   · rw [List.erase_of_not_mem hn] at this;omega
theorem ztk {F:List Mn} (h:mayB F=true) (f:Nat) {i:Nat} (hi:i<F.length):(vis F f i).length<=F.length :=
 zeu _ _ (zpf h f i hi) (fun x hx=>(zhw h f i hi x hx).1)
theorem zbn {α β γ:Type} {C:Nat} {f:α->List β} {g:α->List γ}:∀ (l:List α),(∀ x∈l,(f x).length<=C*(g x).length)->(l.flatMap f).length<=C*(l.flatMap g).length:=by
 intro l
 induction l with
 | nil=>intro _;simp
 | cons a l ih =>
   intro h;rw [List.flatMap_cons,List.flatMap_cons,List.length_append,List.length_append,Nat.mul_add];exact Nat.add_le_add (h a (by simp)) (ih (fun x hx=>h x (by simp [hx])))
def One (C:Nat) (m:Mn):Prop:=(openL m).length+m.name.size+3<=C/\(esc m.text.data.toList).length+4<=C
theorem zut {F:List Mn} {C:Nat} (hC:∀ m∈F,One C m):∀ (f i:Nat),(pr F f i).length<=C*(vis F f i).length:=by
 intro f
 induction f with
 | zero=>intro i;simp [pr]
 | succ f ih =>
   intro i;rw [pr,vis,List.length_cons,Nat.mul_add,Nat.mul_one]
   by_cases hi:i<F.length
   · rw [List.getElem?_eq_getElem hi,zae hi];have hk:=zbn (C:=C) (f:=fun k:Int=>pr F f k.toNat) (g:=fun k:Int=>vis F f k.toNat) F[i].kids (fun k _=>ih k.toNat);obtain ⟨c1,c2⟩:=hC F[i] (List.getElem_mem _);have hs:F[i].name.data.toList.length=F[i].name.size:=(zao _).symm;dsimp only;generalize hvl:(F[i].kids.flatMap fun k=>vis F f k.toNat).length=V at *;generalize C*V=CV at *
     split
     · simp only [List.length_append,List.length_cons,List.length_nil];omega
     · split
       · omega
       · split
         · simp only [List.length_append,List.length_cons,List.length_nil] at *;omega
         · split
           · omega
           · simp
   · rw [List.getElem?_eq_none (by omega)];simp
def attBd (a:ByteArray × ByteArray):Bool:=decide (a.1.size<=100) && decide (a.2.size<=100)
def nodeBd (m:Mn):Bool:=(decide (m.name.size<=100) && (decide (m.text.size<=100) && (decide (m.attrs.length<=12) && decide (m.kids.length<=80)))) && m.attrs.all attBd
def bdB (F:List Mn):Bool:=F.all nodeBd && decide (F.length<=70)
theorem zdh {F:List Mn} (h:bdB F=true) {m:Mn} (hm:m∈F):m.name.size<=100/\m.text.size<=100/\m.attrs.length<=12/\m.kids.length<=80/\∀ a∈m.attrs,a.1.size<=100/\a.2.size<=100:=by
 rw [bdB,Bool.and_eq_true] at h;have:=List.all_eq_true.1 h.1 m hm;simp only [nodeBd,Bool.and_eq_true,decide_eq_true_eq] at this;refine ⟨this.1.1,this.1.2.1,this.1.2.2.1,this.1.2.2.2,fun a ha=>?_⟩;have:=List.all_eq_true.1 this.2 a ha;simpa [attBd] using this
theorem zkb {F:List Mn} (h:bdB F=true):F.length<=70:=by
 rw [bdB,Bool.and_eq_true,decide_eq_true_eq] at h;exact h.2
theorem bd_sz {F:List Mn} (h:bdB F=true):Sz F:=⟨by have:=zkb h;omega,fun m hm=>by have:=zdh h hm;omega,fun m hm=>by
 obtain ⟨h1,h2,h3,h4,h5⟩:=zdh h hm;exact ⟨by omega,by omega,fun a ha=>by have:=h5 a ha;omega⟩⟩
theorem zuu {F:List Mn} (h:bdB F=true):Sz2 F:=⟨by have:=zkb h;omega,fun m hm=>by have:=zdh h hm;omega,fun m hm=>by have:=zdh h hm;omega,fun m hm=>by
 obtain ⟨h1,h2,h3,h4,h5⟩:=zdh h hm;exact ⟨by omega,by omega,fun a ha=>by have:=h5 a ha;omega⟩⟩
theorem ztl {α β:Type} {C:Nat} {f:α->List β}:∀ (l:List α),(∀ x∈l,(f x).length<=C)->(l.flatMap f).length<=C*l.length:=by
 intro l
 induction l with
 | nil=>intro _;simp
 | cons a l ih =>
   intro h;rw [List.flatMap_cons,List.length_append,List.length_cons,Nat.mul_add,Nat.mul_one];have h1:=h a (by simp);have h2:=ih (fun x hx=>h x (by simp [hx]));omega
theorem zuv {F:List Mn} (h:bdB F=true):∀ m∈F,One 300000 m:=by
 intro m hm;obtain ⟨h1,h2,h3,h4,h5⟩:=zdh h hm;refine ⟨?_,?_⟩
 · have:=ztl (C:=21104) (f:=attrL) m.attrs (fun a ha=>by
    have h6:=h5 a ha;have:=zec a.2;have h7:=zao a.1;simp only [attrL,List.length_append,List.length_cons,List.length_nil];omega)
   have h8:=zao m.name;simp only [openL,List.length_append,List.length_cons,List.length_nil];have:21104*m.attrs.length<=21104*12:=Nat.mul_le_mul_left _ h3;omega
 · have:=zet m.text;omega
theorem bd_pr {F:List Mn} (h:bdB F=true) (hm:mayB F=true) (f:Nat) {i:Nat} (hi:i<F.length):(pr F f i).length<=21000000:=by
 have h1:=zut (zuv h) f i;have h2:=ztk hm f hi;have h3:=zkb h;have:300000*(vis F f i).length<=300000*70:=Nat.mul_le_mul_left _ (by omega);omega
theorem zrh (A:Option Addr) (F:List Mn) (c:Nat) (x mx:Int) (w:World) (hF:FR w A F) (h:bdB F=true) (hm:w.cell? ⟨1,0,none⟩=some (.int .i64 mx)) :
 Calls Tryz.prog 13 #[.slice A F.length c,.int .i64 x] w (GivesV (.string ⟨(printB F F.length x).toArray⟩) w):=by
 refine zpe A F c F.length x mx w hF (bd_sz h) (zuu h) hm (fun e1 e2=>?_);rw [isB,decide_eq_true_eq] at e2;obtain ⟨i,rfl⟩:=Int.eq_ofNat_of_zero_le e2.1;rw [Int.toNat_natCast];have hi:i<F.length:=by omega
 have:=bd_pr h e1 F.length hi;exact ⟨zus e1 hi,by omega⟩
theorem zri {F:List Mn} (h:mayB F=true) {i:Nat} (hi:i<F.length) (hp:par F i ≠ -1):∃ j:Nat,par F i=j/\j<F.length/\dep F F.length i=dep F F.length j+1:=by
 obtain ⟨p1,p2,p3,p4,p5⟩:=zcf h;have:=(up_of p3 i hi).resolve_left hp;rw [isB,decide_eq_true_eq] at this;obtain ⟨j,hj⟩:=Int.eq_ofNat_of_zero_le this.1;refine ⟨j,hj,by omega,?_⟩;rw [<- zhc F _ _ (p5 i hi),dep,if_neg (by omega),Int.toNat_natCast,hj]
def root (F:List Mn):Nat->Int->Int
 | 0,x=>x
 | n+1,x=>if par F x.toNat = -1 then x else root F n (par F x.toNat)
instance:Inhabited Mn:=⟨⟨0,⟨#[]⟩,⟨#[]⟩,[],0,[],none,0,none,0⟩⟩
theorem add_plain (g i j:Nat):(⟨g,i,none⟩:Addr).add j=⟨g,i+j,none⟩:=by unfold Addr.add;split<;>simp_all
theorem zhx {n:Int} (h:(Lit.int .i64 n).wf=true):I64 n:=by
 have h:IntKind.i64.min<=n/\n<=IntKind.i64.max:=by simpa [Lit.wf] using h
 exact h
theorem zf0:Tryz.prog.cellsOf 9=1:=by kernel_rfl
theorem zrj:Tryz.prog.underlying 140=some (.struct (Tryz.prog.fieldsOf 140)):=by kernel_rfl
def eqI (l l':List Int):Bool:=decide (l=l')
theorem zmn {α:Type} [DecidableEq α] {l l':List α} {k:Nat} (d:α) (hl:l.length=l'.length) (hk:k<l.length) (h:l.take k=l'.take k):l.take (k+1)=l'.take (k+1) ↔ l.getD k d=l'.getD k d:=by
 have hk':k<l'.length:=by omega
 rw [zaa hk,zaa hk',h,getD_at d hk,getD_at d hk',List.append_cancel_left_eq];simp only [List.cons.injEq,and_true]
theorem zhy {α:Type} {l l':List α} {k:Nat} (d:α) (h:l.getD k d≠l'.getD k d):l≠l':=fun e=>h (by rw [e])
theorem znn (A B:Option Addr) (l l':List Int) (c d:Nat) (w:World) (hI:IR w A l) (hJ:IR w B l') (h1:l.length<=1000) (h2:l'.length<=1000) :
 Calls Tryz.prog 70 #[.slice A l.length c,.slice B l'.length d] w (GivesV (.bool (eqI l l')) w):=by
 have HI:=Hq hI;have HJ:=Hq hJ;have HE:Hid (eqI l l'=decide (l=l')):=Hq rfl;generalize eqI l l'=R at *;obtain ⟨n,hn⟩:∃ n,l.length=n:=⟨_,rfl⟩;obtain ⟨n',hn'⟩:∃ n,l'.length=n:=⟨_,rfl⟩;have HN:=Hq hn;have HN':=Hq hn';rw [hn] at h1 ⊢;rw [hn'] at h2 ⊢;clear hI hJ hn hn';go_enter Tryz.func70,Tryz.ntmps70
 by_cases hnn:n=n'
 · have hb:((n:Int) != (n':Int))=false:=by subst hnn;simp
   have HNN:=Hq hnn;clear hnn;go_wp2_with fail
   go_loopw [13] (fun q wr=>∃ k:Nat,k<=n/\q = .int .i64 k/\Hid (l.take k=l'.take k)/\Hid (Below w.heap.size w wr)) (fun q _=>n - (intOf q).toNat)
   case atStart => exact ⟨0,Nat.zero_le _,rfl,Hq rfl,Hq (Below.refl _ _)⟩
   case round =>
    obtain ⟨k,hk,rfl,HK,HB⟩:=hrel
    by_cases hlt:k<n
    · have k0:(0:Int)<=(k:Int):=by omega
      have k1:(k:Int)<(n:Int):=by omega
      have k2:(k:Int)<(n':Int):=by have:=HNN.out;omega
      have hkl:k<l.length:=by rw [HN.out];exact hlt
      have hkl':k<l'.length:=by rw [HN'.out,<- HNN.out];exact hlt
      obtain ⟨g,off,rfl,hg,hc⟩:=HI.out.below HB.out k hkl;obtain ⟨g',off',rfl,hg',hc'⟩:=HJ.out.below HB.out k hkl';have HT:=Hq (zmn (l:=l) (l':=l') (k:=k) 0 (by rw [HN.out,HN'.out,HNN.out]) hkl HK.out);have HX:Hid (l.getD k 0≠l'.getD k 0->l≠l'):=Hq (zhy 0);generalize l.getD k 0=y at *;generalize l'.getD k 0=y' at *;clear hkl hkl'
      rcases Bool.eq_false_or_eq_true (y != y') with hy|hy
      · go_upto_region 6 with fail
        go_quiet (fail)
        go_wp2;go_ret;refine ⟨ze ?_,below_drewN HB.out _⟩;rw [HE.out];exact (decide_eq_false (HX.out (by simpa using hy))).symm
      · go_upto_region 6 with fail
        go_quiet (fail)
        go_wp2;go_roundw
        case rel => exact ⟨k+1,by omega,by go_num,Hq (HT.out.2 (by simpa using hy)),Hq (below_drewN HB.out _)⟩
        case measure => simp [intOf]<;>omega
    · obtain rfl:k=n:=by omega
      have e:l=l':=by
       have:=HK.out
       rwa [List.take_of_length_le (by rw [HN.out];exact Nat.le_refl _),List.take_of_length_le (by rw [HN'.out,<- HNN.out];exact Nat.le_refl _)] at this
      have HEE:Hid (R=true):=Hq (by rw [HE.out,decide_eq_true_eq];exact e);clear e;go_wp2;go_ret;exact ⟨ze HEE.out.symm,HB.out⟩
 · have hb:((n:Int) != (n':Int))=true:=by simp;omega
   go_wp2;go_ret;refine ⟨ze ?_,Below.refl _ _⟩;rw [HE.out]
   symm
   rw [decide_eq_false_iff_not];intro e;rw [<- HN.out,<- HN'.out,e] at hnn;exact hnn rfl
theorem zpg:((Tryz.prog.fieldsOf 140).toList.map (fun f=>(f.type,f.offset,decide (f.name ≠ "_"))))=[(9,0,true),(9,1,true)]:=by kernel_rfl
theorem zcg {a b:ByteArray}:a.toList=b.toList ↔ a=b:=by
 constructor
 · intro h;rw [Lib.toList_data,Lib.toList_data] at h;exact bytes_inj h
 · rintro rfl;rfl
theorem eqAt (a b c d:ByteArray) (W:World):(Op.equalIn 10000 140 (.agg #[.string a,.string b]) (.agg #[.string c,.string d])).run Tryz.prog W = .ok (a.toList == c.toList && b.toList == d.toList) W:=by
 rw [show (10000:Nat)=9999+1 from rfl,run_equalIn_struct W 9999 _ _ _ zrj (by kernel_rfl)];have hf:=zpg;generalize (Tryz.prog.fieldsOf 140).toList=fs at *;have hl:=congrArg List.length hf;simp only [List.length_map,List.length_cons,List.length_nil] at hl
 match fs,hl,hf with
 | [f0,f1],_,hf =>
   simp only [List.map_cons,List.map_nil,List.cons.injEq,Prod.mk.injEq,decide_eq_true_eq,and_true] at hf;obtain ⟨⟨t0,o0,n0⟩,t1,o1,n1⟩:=hf;have hG:Tryz.prog.plainKey 9=true:=by kernel_rfl
   simp only [Op.eqFields,n0,n1,t0,t1,o0,o1,ne_eq,not_true,not_false_eq_true,if_true,Sem.run_bind];rw [run_part_plain W hG (v:=.string a) rfl];simp only [Result.andThen_ok];rw [run_part_plain W hG (v:=.string c) rfl];simp only [Result.andThen_ok];rw [run_equalIn_string W 9998 _ a c (by kernel_rfl)];simp only [Result.andThen_ok];cases h:(a.toList == c.toList)
   · rfl
   simp only [Bool.not_true,Bool.false_eq_true,if_false,Sem.run_bind];rw [run_part_plain W hG (v:=.string b) rfl];simp only [Result.andThen_ok];rw [run_part_plain W hG (v:=.string d) rfl];simp only [Result.andThen_ok];rw [run_equalIn_string W 9998 _ b d (by kernel_rfl)];simp only [Result.andThen_ok,Bool.true_and];cases h2:(b.toList == d.toList)
   · rfl
   · rfl
def eqA (l l':List (ByteArray × ByteArray)):Bool:=decide (l=l')
theorem zno (A B:Option Addr) (l l':List (ByteArray × ByteArray)) (c d:Nat) (w:World) (hI:AR w A l) (hJ:AR w B l') (h1:l.length<=1000) (h2:l'.length<=1000) :
 Calls Tryz.prog 69 #[.slice A l.length c,.slice B l'.length d] w (GivesV (.bool (eqA l l')) w):=by
 have HI:=Hq hI;have HJ:=Hq hJ;have HE:Hid (eqA l l'=decide (l=l')):=Hq rfl;generalize eqA l l'=R at *;obtain ⟨n,hn⟩:∃ n,l.length=n:=⟨_,rfl⟩;obtain ⟨n',hn'⟩:∃ n,l'.length=n:=⟨_,rfl⟩;have HN:=Hq hn;have HN':=Hq hn';rw [hn] at h1 ⊢;rw [hn'] at h2 ⊢;clear hI hJ hn hn';go_enter Tryz.func69,Tryz.ntmps69
 by_cases hnn:n=n'
 · have hb:((n:Int) != (n':Int))=false:=by subst hnn;simp
   have HNN:=Hq hnn;clear hnn;go_wp2_with fail
   go_loopw [13] (fun q wr=>∃ k:Nat,k<=n/\q = .int .i64 k/\Hid (l.take k=l'.take k)/\Hid (Below w.heap.size w wr)) (fun q _=>n - (intOf q).toNat)
   case atStart => exact ⟨0,Nat.zero_le _,rfl,Hq rfl,Hq (Below.refl _ _)⟩
   case round =>
    obtain ⟨k,hk,rfl,HK,HB⟩:=hrel
    by_cases hlt:k<n
    · have k0:(0:Int)<=(k:Int):=by omega
      have k1:(k:Int)<(n:Int):=by omega
      have k2:(k:Int)<(n':Int):=by have:=HNN.out;omega
      have hkl:k<l.length:=by rw [HN.out];exact hlt
      have hkl':k<l'.length:=by rw [HN'.out,<- HNN.out];exact hlt
      obtain ⟨g,off,rfl,hg,hc,hd⟩:=HI.out.below HB.out k hkl;obtain ⟨g',off',rfl,hg',hc',hd'⟩:=HJ.out.below HB.out k hkl';have HT:=Hq (zmn (l:=l) (l':=l') (k:=k) default (by rw [HN.out,HN'.out,HNN.out]) hkl HK.out);have HX:Hid (l.getD k default≠l'.getD k default->l≠l'):=Hq (zhy default);generalize l.getD k default=y at *;generalize l'.getD k default=y' at *;clear hkl hkl';obtain ⟨a,b⟩:=y;obtain ⟨a',b'⟩:=y';have hq:=fun W=>eqAt a b a' b' W
      have HQ:Hid ((a.toList == a'.toList && b.toList == b'.toList)=true ↔ (a,b)=(a',b')):=Hq (by
       rw [Bool.and_eq_true,beq_iff_eq,beq_iff_eq,zcg,zcg,Prod.mk.injEq])
      generalize (a.toList == a'.toList && b.toList == b'.toList)=Q at *
      rcases Bool.eq_false_or_eq_true Q with hy|hy<;>subst hy
      · go_upto_region 6 with fail
        go_quiet (fail)
        go_wp2;go_roundw
        case rel => exact ⟨k+1,by omega,by go_num,Hq (HT.out.2 (HQ.out.1 rfl)),Hq (below_drewN HB.out _)⟩
        case measure => simp [intOf]<;>omega
      · go_upto_region 6 with fail
        go_quiet (fail)
        go_wp2;go_ret;refine ⟨ze ?_,below_drewN HB.out _⟩;rw [HE.out];exact (decide_eq_false (HX.out (fun e=>by have:=HQ.out.2 e;cases this))).symm
    · obtain rfl:k=n:=by omega
      have e:l=l':=by
       have:=HK.out
       rwa [List.take_of_length_le (by rw [HN.out];exact Nat.le_refl _),List.take_of_length_le (by rw [HN'.out,<- HNN.out];exact Nat.le_refl _)] at this
      have HEE:Hid (R=true):=Hq (by rw [HE.out,decide_eq_true_eq];exact e);clear e;go_wp2;go_ret;exact ⟨ze HEE.out.symm,HB.out⟩
 · have hb:((n:Int) != (n':Int))=true:=by simp;omega
   go_wp2;go_ret;refine ⟨ze ?_,Below.refl _ _⟩;rw [HE.out]
   symm
   rw [decide_eq_false_iff_not];intro e;rw [<- HN.out,<- HN'.out,e] at hnn;exact hnn rfl
def sameN2 (m n:Mn):Bool:=(m.kind == n.kind) && ((m.name.toList == n.name.toList) && ((m.text.toList == n.text.toList) && ((m.parent == n.parent) && (eqA m.attrs n.attrs && eqI m.kids n.kids))))
theorem zph (m n:Mn) (w:World) (h1:AR w m.aA m.attrs) (h2:IR w m.kA m.kids) (h3:AR w n.aA n.attrs) (h4:IR w n.kA n.kids) (l1:m.attrs.length<=1000/\m.kids.length<=1000) (l2:n.attrs.length<=1000/\n.kids.length<=1000) :
 Calls Tryz.prog 68 #[nval m,nval n] w (GivesV (.bool (sameN2 m n)) w):=by
 have HA:=Hq (fun (W:World) (hb:Below w.heap.size w W)=>zno m.aA n.aA m.attrs n.attrs m.aC n.aC W (h1.below hb) (h3.below hb) l1.1 l2.1);have HI:=Hq (fun (W:World) (hb:Below w.heap.size w W)=>znn m.kA n.kA m.kids n.kids m.kC n.kC W (h2.below hb) (h4.below hb) l1.2 l2.2);have HE:Hid (sameN2 m n=((m.kind == n.kind) && ((m.name.toList == n.name.toList) && ((m.text.toList == n.text.toList) && ((m.parent == n.parent) && (eqA m.attrs n.attrs && eqI m.kids n.kids)))))):=Hq rfl;unfold nval;generalize sameN2 m n=R at *;generalize eqA m.attrs n.attrs=b5 at *;generalize eqI m.kids n.kids=b6 at *;generalize m.attrs.length=al at *;generalize n.attrs.length=al' at *;generalize m.kids.length=kl at *;generalize n.kids.length=kl' at *;clear h1 h2 h3 h4 l1 l2;obtain ⟨b1,e1⟩:∃ b,(m.kind == n.kind)=b:=⟨_,rfl⟩;obtain ⟨b2,e2⟩:∃ b,(m.name.toList == n.name.toList)=b:=⟨_,rfl⟩;obtain ⟨b3,e3⟩:∃ b,(m.text.toList == n.text.toList)=b:=⟨_,rfl⟩;obtain ⟨b4,e4⟩:∃ b,(m.parent == n.parent)=b:=⟨_,rfl⟩;rw [e1,e2,e3,e4] at HE;obtain ⟨W,hW⟩:∃ W,W=(w.alloc (.cells #[.int .i64 m.kind,.string m.name,.string m.text,.slice m.aA al m.aC,.int .i64 m.parent,.slice m.kA kl m.kC] 90)).alloc (.cells #[.int .i64 n.kind,.string n.name,.string n.text,.slice n.aA al' n.aC,.int .i64 n.parent,.slice n.kA kl' n.kC] 90):=⟨_,rfl⟩;have HWb:Hid (Below w.heap.size w W):=Hq (by rw [hW];exact (Bq _ _).alloc (by simp) _);have HW1:Hid (W.heap[w.heap.size]? = some (.cells #[.int .i64 m.kind,.string m.name,.string m.text,.slice m.aA al m.aC,.int .i64 m.parent,.slice m.kA kl m.kC] 90 (0,0))):=Hq (by rw [hW,heap_alloc_old _ _ (by simp)];exact heap_alloc_new _ _);have HW2:Hid (W.heap[w.heap.size+1]? = some (.cells #[.int .i64 n.kind,.string n.name,.string n.text,.slice n.aA al' n.aC,.int .i64 n.parent,.slice n.kA kl' n.kC] 90 (0,0))):=Hq (by rw [hW];exact zas _ _ _);obtain ⟨x0,x1,x2,x3,x4,x5⟩:=block6 HW1.out;obtain ⟨y0,y1,y2,y3,y4,y5⟩:=block6 HW2.out;go_enter Tryz.func68,Tryz.ntmps68;go_upto_region 1 with fail
 rw [<- hW];clear hW;cases b1
 · go_wp2;go_ret;exact ⟨ze (by rw [HE.out];rfl),HWb.out⟩
 cases b2
 · go_wp2;go_ret;exact ⟨ze (by rw [HE.out];rfl),HWb.out⟩
 cases b3
 · go_wp2;go_ret;exact ⟨ze (by rw [HE.out];rfl),HWb.out⟩
 cases b4
 · go_wp2;go_ret;exact ⟨ze (by rw [HE.out];rfl),HWb.out⟩
 go_wp2_with fail;refine (HA.out W HWb.out).mono ?_;rintro e w1 ⟨rfl,hb⟩;have HB1:=Hq (HWb.out.trans (hb.mono HWb.out.size));have HK1:=Hq ((hb.block _ (lt_of_block HW1.out)).trans HW1.out);have HK2:=Hq ((hb.block _ (lt_of_block HW2.out)).trans HW2.out);clear hb x0 x1 x2 x3 x4 x5 y0 y1 y2 y3 y4 y5;obtain ⟨x0,x1,x2,x3,x4,x5⟩:=block6 HK1.out;obtain ⟨y0,y1,y2,y3,y4,y5⟩:=block6 HK2.out;cases b5
 · go_wp2;go_ret;exact ⟨ze (by rw [HE.out];rfl),HB1.out⟩
 go_wp2_with fail;refine (HI.out w1 HB1.out).mono ?_;rintro e w2 ⟨rfl,hb⟩;have HB2:=Hq (HB1.out.trans (hb.mono HB1.out.size));clear hb x0 x1 x2 x3 x4 x5 y0 y1 y2 y3 y4 y5;have HEE:Hid (R=b6):=Hq (by rw [HE.out];rfl);go_wp2;go_ret;exact ⟨ze HEE.out.symm,HB2.out⟩
def pairB (F G:List Mn) (i:Nat):Bool:=((F[i]?).bind fun m=>(G[i]?).map (sameN2 m)).getD false
def sameF (F G:List Mn):Bool:=decide (F.length=G.length) && (List.range F.length).all (pairB F G)
def same1F:Value:=.func (.func 68) #[] #[]
theorem znp (A B:Option Addr) (F G:List Mn) (c d:Nat) (w:World) (hF:FR w A F) (hG:FR w B G) (zF:Sz2 F) (zG:Sz2 G) :
 Calls Tryz.prog 67 #[.slice A F.length c,.slice B G.length d,same1F] w (GivesV (.bool (sameF F G)) w):=by
 have HF:=Hq hF;have HG:=Hq hG;have HC:Hid (∀ (W:World),Below w.heap.size w W->∀ (i:Nat) (m n:Mn),F[i]? = some m->G[i]? = some n->Calls Tryz.prog 68 #[nval m,nval n] W (GivesV (.bool (sameN2 m n)) W)):=Hq (fun W hb i m n hm hn=>by
  obtain ⟨-,g,off,-,-,h1⟩:=hF.below hb i m hm;obtain ⟨-,g',off',-,-,h2⟩:=hG.below hb i n hn;have m1:=zF.attrs m (List.mem_of_getElem? hm);have m2:=zF.kids m (List.mem_of_getElem? hm);have n1:=zG.attrs n (List.mem_of_getElem? hn);have n2:=zG.kids n (List.mem_of_getElem? hn);exact zph m n W h1.ar h1.ir h2.ar h2.ir ⟨by omega,m2⟩ ⟨by omega,n2⟩)
 have l1:=zF.len;have l2:=zG.len;have HE:Hid (sameF F G=(decide (F.length=G.length) && (List.range F.length).all (pairB F G))):=Hq rfl;generalize sameF F G=R at *;clear hF hG zF zG;obtain ⟨n,hn⟩:∃ n,F.length=n:=⟨_,rfl⟩;obtain ⟨n',hn'⟩:∃ n,G.length=n:=⟨_,rfl⟩;have HN:=Hq hn;have HN':=Hq hn';rw [hn] at l1 ⊢;rw [hn'] at l2 ⊢;rw [hn,hn'] at HE;clear hn hn';unfold same1F nval at *;go_enter Tryz.func67,Tryz.ntmps67
 by_cases hnn:n=n'
 · subst hnn;have hb:((n:Int) != (n:Int))=false:=by simp
   have HR:Hid (R=(List.range n).all (pairB F G)):=Hq (by rw [HE.out];simp);clear HE;go_wp2_with fail
   go_loopw [17] (fun q wr=>∃ j:Nat,j<=n/\q = .int .i64 j/\Hid ((List.range j).all (pairB F G)=true)/\Hid (Below w.heap.size w wr)) (fun q _=>n - (intOf q).toNat)
   case atStart => exact ⟨0,Nat.zero_le _,rfl,Hq rfl,Hq (Below.refl _ _)⟩
   case round =>
    obtain ⟨j,hj,rfl,HT,HB⟩:=hrel
    by_cases hlt:j<n
    · have k0:(0:Int)<=(j:Int):=by omega
      have k1:(j:Int)<(n:Int):=by omega
      have hjF:j<F.length:=by rw [HN.out];exact hlt
      have hjG:j<G.length:=by rw [HN'.out];exact hlt
      obtain ⟨hfj,g,off,rfl,hg,hnd⟩:=(HF.out.below HB.out) j F[j] (List.getElem?_eq_getElem hjF);obtain ⟨hfj',g',off',rfl,hg',hnd'⟩:=(HG.out.below HB.out) j G[j] (List.getElem?_eq_getElem hjG);have HND:=Hq hnd';have HC2:=Hq (fun (W:World) (hb:Below w.heap.size w W)=>HC.out W hb j F[j] G[j] (List.getElem?_eq_getElem hjF) (List.getElem?_eq_getElem hjG));have HPj:Hid (pairB F G j=sameN2 F[j] G[j]):=Hq (by simp [pairB,List.getElem?_eq_getElem hjF,List.getElem?_eq_getElem hjG]);have HT2:Hid ((List.range (j+1)).all (pairB F G)=pairB F G j):=Hq (zes HT.out);have HNo:Hid (pairB F G j=false->R=false):=Hq (fun h=>by rw [HR.out];exact zhu h hlt);rw [HPj.out] at HT2 HNo;have c0:=hnd.c0;have c1:=hnd.c1;have c2:=hnd.c2;have c3:=hnd.c3;have c4:=hnd.c4;have c5:=hnd.c5;clear hnd hfj HPj hnd' hfj';generalize sameN2 F[j] G[j]=X at *;generalize F[j]=m at *;generalize G[j]=m' at *;go_upto_region 6 with fail
      obtain ⟨W,hW⟩:∃ W,W=wr.alloc (.cells #[.int .i64 m.kind,.string m.name,.string m.text,.slice m.aA m.attrs.length m.aC,.int .i64 m.parent,.slice m.kA m.kids.length m.kC] 90):=⟨_,rfl⟩;rw [<- hW];have hWr:Below wr.heap.size wr W:=by rw [hW];exact Bq _ _
      have HWb:Hid (Below w.heap.size w W):=Hq (by rw [hW];exact HB.out.alloc HB.out.size _);have HWk:Hid (W.heap[wr.heap.size]? = some (.cells #[.int .i64 m.kind,.string m.name,.string m.text,.slice m.aA m.attrs.length m.aC,.int .i64 m.parent,.slice m.kA m.kids.length m.kC] 90 (0,0))):=Hq (by rw [hW];exact heap_alloc_new _ _);have HND2:=Hq (HND.out.below hg' hWr);clear hW c0 c1 c2 c3 c4 c5 hWr;have c0:=HND2.out.c0;have c1:=HND2.out.c1;have c2:=HND2.out.c2;have c3:=HND2.out.c3;have c4:=HND2.out.c4;have c5:=HND2.out.c5;go_upto_region 7 with fail
      obtain ⟨V,hV⟩:∃ V,V=W.alloc (.cells #[.int .i64 m'.kind,.string m'.name,.string m'.text,.slice m'.aA m'.attrs.length m'.aC,.int .i64 m'.parent,.slice m'.kA m'.kids.length m'.kC] 90):=⟨_,rfl⟩;rw [<- hV];have HVb:Hid (Below w.heap.size w V):=Hq (by rw [hV];exact HWb.out.alloc HWb.out.size _);have HVk:Hid (V.heap[wr.heap.size]? = some (.cells #[.int .i64 m.kind,.string m.name,.string m.text,.slice m.aA m.attrs.length m.aC,.int .i64 m.parent,.slice m.kA m.kids.length m.kC] 90 (0,0))):=Hq (by rw [hV,heap_alloc_old _ _ (lt_of_block HWk.out)];exact HWk.out);have HVl:Hid (V.heap[W.heap.size]? = some (.cells #[.int .i64 m'.kind,.string m'.name,.string m'.text,.slice m'.aA m'.attrs.length m'.aC,.int .i64 m'.parent,.slice m'.kA m'.kids.length m'.kC] 90 (0,0))):=Hq (by rw [hV];exact heap_alloc_new _ _);clear hV c0 c1 c2 c3 c4 c5;obtain ⟨x0,x1,x2,x3,x4,x5⟩:=block6 HVk.out;obtain ⟨y0,y1,y2,y3,y4,y5⟩:=block6 HVl.out;go_wp2_with fail;refine (HC2.out V HVb.out).mono ?_;rintro e w1 ⟨rfl,hb'⟩;have HB1:=Hq (HVb.out.trans (hb'.mono HVb.out.size));clear hb' x0 x1 x2 x3 x4 x5 y0 y1 y2 y3 y4 y5;cases X with
      | true =>
        go_wp2;go_roundw
        case rel => exact ⟨j+1,by omega,by go_num,HT2,HB1⟩
        case measure => simp [intOf]<;>omega
      | false =>
        have HRf:=Hq (HNo.out rfl);go_wp2;go_ret;exact ⟨ze HRf.out.symm,HB1.out⟩
    · obtain rfl:j=n:=by omega
      have HRt:Hid (R=true):=Hq (by rw [HR.out];exact HT.out);go_wp2;go_ret;exact ⟨ze HRt.out.symm,HB.out⟩
 · have hb:((n:Int) != (n':Int))=true:=by simp;omega
   have HEE:Hid (R=false):=Hq (by rw [HE.out,decide_eq_false hnn];rfl);go_wp2;go_ret;exact ⟨ze HEE.out.symm,Below.refl _ _⟩
theorem zkc (A B:Option Addr) (F G:List Mn) (c d:Nat) (w:World) (hF:FR w A F) (hG:FR w B G) (zF:Sz2 F) (zG:Sz2 G) :
 Calls Tryz.prog 38 #[.slice A F.length c,.slice B G.length d] w (GivesV (.bool (sameF F G)) w):=by
 have HC:=Hq (znp A B F G c d w hF hG zF zG);unfold same1F at HC;generalize sameF F G=R at *;generalize F.length=n at *;generalize G.length=n' at *;clear hF hG zF zG;go_enter Tryz.func38,Tryz.ntmps38;go_wp2_with fail;refine HC.out.mono ?_;rintro e w1 ⟨rfl,hb⟩;have HB:=Hq hb;clear hb;go_wp2;go_ret;exact ⟨rfl,HB.out⟩
def newM:Mn:=⟨0,⟨#[]⟩,⟨#[]⟩,[],-1,[],none,0,none,0⟩
theorem zev:mayB [newM]=true:=by decide +kernel
def setP (F:List Mn) (n:Nat) (p:Int):List Mn:=F.modify n fun m=>{ m with parent:=p }
def ncells (m:Mn):List Value:=[.int .i64 m.kind,.string m.name,.string m.text,.slice m.aA m.attrs.length m.aC,.int .i64 m.parent,.slice m.kA m.kids.length m.kC]
def fcells (F:List Mn):List Value:=F.flatMap ncells
theorem zfw (F:List Mn):(fcells F).length=F.length*6:=by
 induction F with
 | nil=>rfl
 | cons m F ih=>rw [fcells,List.flatMap_cons,List.length_append];rw [fcells] at ih;rw [ih];simp [ncells];omega
theorem znq (F:List Mn):∀ u∈fcells F,u.oneCell'=true:=by
 intro u hu;obtain ⟨m,-,hm⟩:=List.mem_flatMap.1 hu;simp only [ncells,List.mem_cons,List.not_mem_nil,or_false] at hm
 rcases hm with rfl|rfl|rfl|rfl|rfl|rfl<;>rfl
structure C6 (w:World) (g o:Nat) (m:Mn):Prop where
 c0:w.cell? ⟨g,o,none⟩=some (.int .i64 m.kind)
 c1:w.cell? ⟨g,o+1,none⟩=some (.string m.name)
 c2:w.cell? ⟨g,o+2,none⟩=some (.string m.text)
 c3:w.cell? ⟨g,o+3,none⟩=some (.slice m.aA m.attrs.length m.aC)
 c4:w.cell? ⟨g,o+4,none⟩=some (.int .i64 m.parent)
 c5:w.cell? ⟨g,o+5,none⟩=some (.slice m.kA m.kids.length m.kC)
def RowAt (w:World) (g o:Nat) (F:List Mn):Prop:=∀ i m,F[i]? = some m->C6 w g (o+i*6) m
theorem zuw {w:World} {g o:Nat} {F:List Mn} (h:FR w (some ⟨g,o,none⟩) F):RowAt w g o F:=fun i m hm=>by
 obtain ⟨-,g',o',hA,-,hn⟩:=h i m hm;cases hA;exact ⟨hn.c0,hn.c1,hn.c2,hn.c3,hn.c4,hn.c5⟩
theorem zi3 {w:World} {g:Nat}:∀ {F:List Mn} {o:Nat},RowAt w g o F->∀ j u,(fcells F)[j]? = some u->w.cell? ⟨g,o+j,none⟩=some u
 | [],o,h,j,u,hu=>by simp [fcells] at hu
 | m::F,o,h,j,u,hu=>by
   have h0:=h 0 m rfl;rw [Nat.zero_mul,Nat.add_zero] at h0;have hr:RowAt w g (o+6) F:=fun i m' hm=>by
    have:=h (i+1) m' (by simpa using hm);rw [show o+(i+1)*6=o+6+i*6 by omega] at this;exact this
   rw [fcells,List.flatMap_cons] at hu
   by_cases hj:j<6
   · rw [List.getElem?_append_left (by simpa [ncells] using hj)] at hu
     rcases j with _|_|_|_|_|_|j
     · simp [ncells] at hu;subst hu;exact h0.c0
     · simp [ncells] at hu;subst hu;exact h0.c1
     · simp [ncells] at hu;subst hu;exact h0.c2
     · simp [ncells] at hu;subst hu;exact h0.c3
     · simp [ncells] at hu;subst hu;exact h0.c4
     · simp [ncells] at hu;subst hu;exact h0.c5
     · omega
   · rw [List.getElem?_append_right (by simp [ncells];omega)] at hu;have:=zi3 hr (j - 6) u (by simpa [ncells,fcells] using hu);rw [show o+6+(j - 6)=o+j by omega] at this;exact this
theorem zf1 {w:World} {g:Nat}:∀ {F:List Mn} {o:Nat},(∀ j u,(fcells F)[j]? = some u->w.cell? ⟨g,o+j,none⟩=some u)->RowAt w g o F
 | [],o,h,i,m,hm=>by simp at hm
 | m::F,o,h,i,m',hm=>by
   cases i with
   | zero =>
     simp at hm;subst hm;rw [Nat.zero_mul,Nat.add_zero];have key:∀ j u,(ncells m)[j]? = some u->w.cell? ⟨g,o+j,none⟩=some u:=fun j u hu=>h j u (by
      rw [fcells,List.flatMap_cons,List.getElem?_append_left (List.getElem?_eq_some_iff.1 hu).1];exact hu)
     exact ⟨key 0 _ rfl,key 1 _ rfl,key 2 _ rfl,key 3 _ rfl,key 4 _ rfl,key 5 _ rfl⟩
   | succ i =>
     have hr:RowAt w g (o+6) F:=zf1 (fun j u hu=>by
      have:=h (6+j) u (by rw [fcells,List.flatMap_cons,List.getElem?_append_right (by simp [ncells])];simpa [ncells,fcells] using hu);rw [show o+(6+j)=o+6+j by omega] at this;exact this)
     have:=hr i m' (by simpa using hm);rw [show o+6+i*6=o+(i+1)*6 by omega] at this;exact this
def at2 (a:ByteArray × ByteArray):List Value:=[.string a.1,.string a.2]
def acells (l:List (ByteArray × ByteArray)):List Value:=l.flatMap at2
theorem zb1 (l:List (ByteArray × ByteArray)):(acells l).length=l.length*2:=by
 induction l with
 | nil=>rfl
 | cons m l ih=>rw [acells,List.flatMap_cons,List.length_append];rw [acells] at ih;rw [ih];simp [at2];omega
theorem zhz (l:List (ByteArray × ByteArray)):∀ u∈acells l,u.oneCell'=true:=by
 intro u hu;obtain ⟨m,-,hm⟩:=List.mem_flatMap.1 hu;simp only [at2,List.mem_cons,List.not_mem_nil,or_false] at hm
 rcases hm with rfl|rfl<;>rfl
theorem zgw {l:List Mn} {m:Mn}:fcells (l++[m])=fcells l++ncells m:=by
 rw [fcells,fcells,List.flatMap_append];simp
theorem zb7:∀ {l:List (ByteArray × ByteArray)} {j:Nat},j<l.length->(acells l)[j*2]? = some (.string (l.getD j default).1)/\(acells l)[j*2+1]? = some (.string (l.getD j default).2)
 | a::l,0,h=>by simp [acells,at2]
 | a::l,j+1,h=>by
   have:=zb7 (l:=l) (j:=j) (by simpa using h);have e:acells (a::l)=at2 a++acells l:=by simp [acells]
   rw [e,List.getElem?_append_right (by simp [at2];omega),List.getElem?_append_right (by simp [at2];omega)];simp only [at2,List.length_cons,List.length_nil];rw [show (j+1)*2 - (0+1+1)=j*2 by omega,show (j+1)*2+1 - (0+1+1)=j*2+1 by omega];simpa using this
theorem zpi {w:World} {base:Nat} {t:TypeId} {v:Value} {l:List (ByteArray × ByteArray)} (h:w.ownsRow base t 2 v l.length (acells l)):∃ p cap,v = .slice p l.length cap/\l.length<=cap/\cap<=maxLen/\AR w p l:=by
 rcases h.2 with ⟨rfl,h'⟩|⟨g,cap,cur,rfl,hb,hg,h1,h2,-⟩
 · have:l=[]:=List.eq_nil_of_length_eq_zero h';subst this;exact ⟨none,0,rfl,Nat.le_refl _,by simp [maxLen],fun j hj=>absurd hj (by simp)⟩
 · refine ⟨some ⟨g,0,none⟩,cap,rfl,h1,h2,fun j hj=>⟨g,0,rfl,(Array.getElem?_eq_some_iff.1 hg).1,?_,?_⟩⟩
   · have:=h.cells rfl _ _ (zb7 hj).1;rw [<- this,show (⟨g,0,none⟩:Addr).add (j*2)=⟨g,0+j*2,none⟩ by unfold Addr.add;split<;>simp_all]
   · have:=h.cells rfl _ _ (zb7 hj).2;rw [<- this,show (⟨g,0,none⟩:Addr).add (j*2+1)=⟨g,0+j*2+1,none⟩ by unfold Addr.add;split<;>simp_all]
def core (m:Mn):Mn:={ m with aA:=none,aC:=0,kA:=none,kC:=0 }
theorem zp {w:World} {base base' s s':Nat} {e t:TypeId} {v v':Value} {n n':Nat} {xs xs':List Value} (h:w.ownsRow base e s v n xs) (h':w.ownsRow base' t s' v' n' xs') (hne:e≠t):v.ownBlock=none\/v.ownBlock≠v'.ownBlock:=by
 rcases h'.2 with ⟨rfl,-⟩|⟨g,cap,cur,rfl,-,hg,-⟩
 · rcases hv:v.ownBlock with _|k
   · exact .inl rfl
   · exact .inr (by simp [Value.ownBlock])
 · exact .inr (by simpa [Value.ownBlock] using zi h hg hne)
theorem ziq (w:World) (a:ByteArray × ByteArray) (t:TypeId):∀ j u,(at2 a)[j]? = some u->(w.alloc (.cells #[.string a.1,.string a.2] t)).cell? ((⟨w.heap.size,0,none⟩:Addr).add j)=some u:=by
 intro j u hu;rw [add_plain,Nat.zero_add];obtain ⟨h1,h2⟩:=block2 (heap_alloc_new w (.cells #[.string a.1,.string a.2] t))
 match j,hu with
 | 0,hu=>cases hu;exact h1
 | 1,hu=>cases hu;exact h2
 | j+2,hu=>simp [at2] at hu
theorem zdo {P:Program} {ops:Array Oper} {o:Oper} {a:Act} {w:World} {K:Act->World->Prop} {Q:Exit->Act->World->Prop} {E:Prop}
 (hgd:o.guard=none) (s x:Operand) (t:TypeId) (ho:o.op = .call { callee:=.builtin .append,args:=#[s,x],argTypes:=#[t,t] })
 (base:Nat) (e:TypeId) (i:TypeInfo) (z:Value) (size bytes:Nat) (ht:P.underlying t=some (.slice e)) (hi:P.info? e=some i) (hz:i.zero=some z)
 (hsize:i.size=size) (hby:i.bytes=bytes) (hzs:z.cells.size=size) (hsz:0<size)
 (v:Value) (n:Nat) (xs:List Value) (hs:a.eval s=v) (hown:w.ownsRow base e size v n xs)
 (ad:Addr) (m c:Nat) (news:List Value) (hx:a.eval x = .slice (some ad) m c) (hl:news.length=m*size) (hnews:∀ j u,news[j]? = some u->w.cell? (ad.add j)=some u) (h1:∀ u∈news,u.oneCell'=true)
 (h63:n+m<=maxLen) (hbytes:(n+m)*bytes<=140737488355328) (hbase:base<=w.heap.size)
 (h:∀ v' w',w'.ownsRow base e size v' (n+m) (xs++news)->w.grownBy w' v.ownBlock->(v'.ownBlock=v.ownBlock\/v'.ownBlock=some w.heap.size)->K (a.put o.dst v') w') :
 if Region.wanted o (yielded ops a.tmps)=true then Oper.wp P o a w K Q else E:=by
 have hw:Region.wanted o (yielded ops a.tmps)=true:=by simp [Region.wanted,hgd]
 rw [if_pos hw];obtain ⟨v',w',hr,h2,h3,_,h5⟩:=run_append_own_at (P:=P) w base t o.type e i z size bytes ht hi hz hsize hby hzs hsz v n xs hown ad m c news hl hnews h1 h63 hbytes hbase;unfold Oper.wp execOp;simp only [ho,resolve,invoke,builtin,Sem.run_bind,Sem.run_pure,Result.andThen_ok,List.map_toArray,List.map_cons,List.map_nil,hs,hx,hr];exact h v' w' h2 h3 h5
theorem zj {w:World} {base size:Nat} {e:TypeId} {v:Value} {n:Nat} {xs:List Value} (h:w.ownsRow base e size v n xs):∃ p cap,v = .slice p n cap/\n<=cap/\cap<=maxLen:=by
 rcases h.2 with ⟨rfl,rfl⟩|⟨g,cap,cur,rfl,_,_,hnc,hcm,_⟩
 · exact ⟨none,0,rfl,Nat.le_refl _,by simp [maxLen]⟩
 · exact ⟨_,cap,rfl,hnc,hcm⟩
theorem zq {w:World} {base base':Nat} {e:TypeId} {size n:Nat} {v:Value} {xs:List Value} (h:w.ownsRow base e size v n xs) (hb:base'<=base):w.ownsRow base' e size v n xs:=by
 refine ⟨h.1,?_⟩
 rcases h.2 with h'|⟨g,cap,cur,h1,h2,h3,h4⟩
 · exact .inl h'
 · exact .inr ⟨g,cap,cur,h1,Nat.le_trans hb h2,h3,h4⟩
end Go.Proofs.YtdmecdjfbpblgaaGreatDoor
