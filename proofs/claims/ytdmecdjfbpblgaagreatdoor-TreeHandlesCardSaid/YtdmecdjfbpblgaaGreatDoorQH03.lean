/-
  Pools of chunks, and lists in them, as plain lists. No program here.
-/
import Derived.Test.YtdmecdjfbpblgaaGreatDoorQH02
import Derived.Test.YtdmecdjfbpblgaaGreatDoorQH00
import Derived.Lib.SliceRun
namespace Go.Proofs.YtdmecdjfbpblgaaGreatDoor.V
set_option maxRecDepth 100000
set_option maxHeartbeats 32000000
set_option linter.unusedVariables false
structure Pl where
 st:St
 ch:List (List Int)
def ix (h:Int):Nat:=(h % 16777216).toNat
def Pl.at (p:Pl) (h:Int):List Int:=p.ch.getD (ix h) []
def Pl.parts (p:Pl) (row:List Int):List Int:=row.flatMap p.at
def lvs (n:Nat):Nat:=if n=0 then 0 else if n<=4 then 1 else if n<=16 then 2 else if n<=64 then 3 else 4
def Pl.down (p:Pl):Nat->List Int->Option (List (List Int))
 | 0,_=>some []
 | L+1,row=>if row.all p.st.lv then (p.down L (p.parts row)).map (· ++ [row]) else none
def Pl.holds (p:Pl) (h:Int) (c:List Int):Bool:=decide (p.at h=c)
def Pl.tk (p:Pl) (i:Nat) (c:List Int):Pl:=⟨p.st.tk i,p.ch.set i c⟩
def Pl.gb (p:Pl) (i:Nat) (g:Int):Pl:=⟨p.st.gb i g,p.ch.set i []⟩
def Pl.place (p:Pl) (h:Int) (c:List Int):Option (Pl × Int) :=
 if h≠0/\p.at h=c then some (p,h)
 else match p.st.free.getLast? with
  | none=>none
  | some i=>some (p.tk i.toNat c,hd i (p.st.gens.getD i.toNat 0))
def fours:Nat->List Int->List (List Int)
 | 0,_=>[]
 | m+1,l=>l.take 4::fours m (l.drop 4)
def qs (n:Nat):Nat:=(n+3) / 4
def Pl.lays (p:Pl):List Int->List (List Int)->Option (Pl × List Int)
 | _,[]=>some (p,[])
 | old,c::cs=>match p.place (old.headD 0) c with
   | none=>none
   | some (q,h)=>(q.lays old.tail cs).map fun r=>(r.1,h::r.2)
def Pl.raise (p:Pl) (old:List (List Int)):Nat->List Int->Option (Pl × List (List Int))
 | 0,_=>some (p,[])
 | L+1,below=>match p.lays (old.headD []) (fours (qs below.length) below) with
   | none=>none
   | some (q,row)=>(q.raise old.tail L row).map fun r=>(r.1,row::r.2)
def atR (rows:List (List Int)) (l k:Nat):Int:=(rows.getD l []).getD k 0
def leftRow (new:List Int):Nat->List Int->List Int
 | _,[]=>[]
 | k,h::t=>if new.getD k 0=h then leftRow new (k+1) t else h::leftRow new (k+1) t
def left (rows:List (List Int)):Nat->List (List Int)->List Int
 | _,[]=>[]
 | l,row::t=>leftRow (rows.getD l []) 0 row++left rows (l+1) t
structure Vc where
 root:Int
 size:Nat
structure Told where
 p:Pl
 v:Vc
 gone:List Int
 e:Int
def Pl.change (p:Pl) (v:Vc) (items:List Int):Told :=
 if 200<items.length then ⟨p,v,[],1⟩
 else match p.down (lvs v.size) [v.root] with
  | none=>⟨p,v,[],30⟩
  | some old=>match p.raise old (lvs items.length) items with
    | none=>⟨p,v,[],2⟩
    | some (q,rows)=>⟨q,⟨atR rows (rows.length - 1) 0,items.length⟩,left rows 0 old,0⟩
def Pl.items (p:Pl) (v:Vc):Option (List Int):=match p.down (lvs v.size) [v.root] with
 | none=>none
 | some []=>some []
 | some (row::_)=>some (p.parts row)
open Go.ChangeShapes Go.WideShapes Go.ChangeAt Go.RowKit
def it (c:List Int) (j:Nat):Int:=c.getD j 0
def ccs (c:List Int):List Value:=[.int .i64 c.length,.int .u64 (it c 0),.int .u64 (it c 1),.int .u64 (it c 2),.int .u64 (it c 3)]
def cvs (l:List (List Int)):List Value:=l.flatMap ccs
def cval (c:List Int):Value:=.agg #[.int .i64 c.length,.int .u64 (it c 0),.int .u64 (it c 1),.int .u64 (it c 2),.int .u64 (it c 3)]
theorem zda (c:List Int):(ccs c).length=5:=rfl
theorem zck:∀ l:List (List Int),(cvs l).length=l.length*5
 | []=>rfl
 | c::l=>by
   have:=zck l;simp only [cvs,List.flatMap_cons,List.length_append,zda,List.length_cons] at this ⊢;omega
theorem zm8 (l:List (List Int)):∀ u∈cvs l,u.oneCell'=true:=by
 intro u hu;simp only [cvs,List.mem_flatMap] at hu;obtain ⟨c,_,hc⟩:=hu;simp only [ccs,List.mem_cons,List.not_mem_nil,or_false] at hc
 rcases hc with rfl|rfl|rfl|rfl|rfl<;>rfl
theorem zk3:∀ (l:List (List Int)) (i j:Nat),i<l.length->j<5->(cvs l)[i*5+j]? = (ccs (l.getD i []))[j]?
 | [],i,j,h,_=>by simp at h
 | c::l,0,j,_,hj=>by
   simp only [cvs,List.flatMap_cons,List.getD_cons_zero];rw [List.getElem?_append_left (by rw [zda];omega)];congr 1;omega
 | c::l,i+1,j,h,hj=>by
   have:=zk3 l i j (by simpa using h) hj;simp only [cvs,List.flatMap_cons,List.getD_cons_succ] at this ⊢;rw [List.getElem?_append_right (by rw [zda];omega),zda,<- this];congr 1;omega
theorem zm9:∀ (l:List (List Int)) (i:Nat) (c:List Int),i<l.length ->
 (((((cvs l).set (i*5) (.int .i64 c.length)).set (i*5+1) (.int .u64 (it c 0))).set (i*5+2) (.int .u64 (it c 1))).set (i*5+3) (.int .u64 (it c 2))).set (i*5+4) (.int .u64 (it c 3))=cvs (l.set i c)
 | [],i,c,h=>by simp at h
 | d::l,0,c,_=>by simp [cvs,ccs]
 | d::l,i+1,c,h=>by
   have:=zm9 l i c (by simpa using h);simp only [cvs,List.flatMap_cons,List.set_cons_succ,ccs,List.cons_append,List.nil_append] at this ⊢;rw [<- this];simp [show (i+1)*5=i*5+1+1+1+1+1 by omega,show i*5+5+1=i*5+1+1+1+1+1+1 by omega,show i*5+5+2=i*5+2+1+1+1+1+1 by omega,show i*5+5+3=i*5+3+1+1+1+1+1 by omega,show i*5+5+4=i*5+4+1+1+1+1+1 by omega,List.set_cons_succ]
theorem zse:∀ n:Nat,n<257->2<=n->(Lib.bitLen (n - 1)+1) / 2=lvs n:=by decide +kernel
theorem zof (n:Nat) (w:World) (h:1<=n) (h1:n<=256) :
 Calls Tryz.prog 147 #[.int .i64 n] w fun e w'=>e = .returned (.int .i64 (if n=1 then 0 else (lvs n:Int)))/\w=w':=by
 by_cases h2:n=1
 · subst h2;go_enter Tryz.func147,Tryz.ntmps147;go_wp2;go_ret;exact ⟨rfl,rfl⟩
 · rw [if_neg h2];have e:=zse n (by omega) (by omega);have hb:Lib.bitLen (n - 1)<=64:=Lib.bitLen_le (n - 1) 64 (by decide) (by omega);have L:=fun w=>zt0 ((n:Int) - 1) w (by omega) (by omega)
   rw [show ((n:Int) - 1).toNat=n - 1 by omega] at L;generalize Lib.bitLen (n - 1)=l at *;have HL:=Lib.hid L;have HE:=Lib.hid e;clear L e;have h3:¬ (n:Int)<2:=by omega
   go_enter Tryz.func147,Tryz.ntmps147
   go_wp2_with (go_at_call 167;refine (HL.out _).mono ?_;rintro e w' ⟨rfl,rfl⟩)
   go_ret;exact ⟨zeo (by have:=HE.out;omega),rfl⟩
theorem zbl (n:Nat):lvs n<=4:=by unfold lvs;(repeat' split)<;>omega
theorem zi0 {n:Nat} (h:0<n):1<=lvs n:=by unfold lvs;(repeat' split)<;>omega
theorem zfe (n:Nat) (w:World) (h1:n<=256) :
 Calls Tryz.prog 108 #[.int .i64 n] w fun e w'=>e = .returned (.int .i64 (lvs n))/\w=w':=by
 by_cases h:n=0
 · subst h;go_enter Tryz.func108,Tryz.ntmps108;go_wp2;go_ret;exact ⟨rfl,rfl⟩
 · have L:=fun w=>zof n w (by omega) h1
   have e:max 1 (if n=1 then 0 else (lvs n:Int))=lvs n:=by
    by_cases h2:n=1
    · subst h2;rfl
    · rw [if_neg h2];have:=zi0 (n:=n) (by omega);omega
   generalize (if n=1 then 0 else (lvs n:Int))=l at *;have HL:=Lib.hid L;have HE:=Lib.hid e;clear L e;have h3:¬ (n:Int)<=0:=by omega
   go_enter Tryz.func108,Tryz.ntmps108
   go_wp2_with (go_at_call 147;refine (HL.out _).mono ?_;rintro e w' ⟨rfl,rfl⟩)
   go_ret;exact ⟨zeo (by have:=HE.out;omega),rfl⟩
structure PA (w:World) (b:Nat) (vg vu vf vc:Value) (p:Pl):Prop where
 ar:Ar w b vg vu vf p.st
 cs:w.ownsRow b 119 5 vc p.ch.length (cvs p.ch)
theorem PA.below {w w':World} {b:Nat} {vg vu vf vc:Value} {p:Pl} (h:PA w b vg vu vf vc p) (hb:Below w.heap.size w w'):PA w' b vg vu vf vc p:=⟨h.ar.below hb,own_below h.cs hb⟩
theorem PA.drop {w:World} {b b':Nat} {vg vu vf vc:Value} {p:Pl} (h:PA w b vg vu vf vc p) (hb:b'<=b):PA w b' vg vu vf vc p:=⟨h.ar.drop hb,zo h.cs hb⟩
theorem za0 {w:World} {base size:Nat} {e:TypeId} {v:Value} {n:Nat} {xs:List Value} (h:w.ownsRow base e size v n xs):∃ p cap,v = .slice p n cap/\n<=cap/\cap<=maxLen:=by
 rcases h.2 with ⟨rfl,rfl⟩|⟨g,cap,cur,rfl,_,_,hnc,hcm,_⟩
 · exact ⟨none,0,rfl,Nat.le_refl _,by simp [maxLen]⟩
 · exact ⟨_,cap,rfl,hnc,hcm⟩
theorem zab {w:World} {base size:Nat} {e:TypeId} {p:Option Addr} {n cap:Nat} {xs:List Value} (h:w.ownsRow base e size (.slice p n cap) n xs) (hn:0<n):∃ g,p=some ⟨g,0,none⟩/\base<=g/\g<w.heap.size:=by
 rcases h.2 with ⟨_,rfl⟩|⟨g,cap',cur,hv,hb,hg,_⟩
 · omega
 · cases hv;exact ⟨g,rfl,hb,(Array.getElem?_eq_some_iff.1 hg).1⟩
theorem PA.form {w:World} {b:Nat} {vg vu vf vc:Value} {p:Pl} (h:PA w b vg vu vf vc p):∃ pg cg pu cu pf cf pc cc,vg = .slice pg p.st.gens.length cg/\vu = .slice pu p.st.used.length cu/\vf = .slice pf p.st.free.length cf/\vc = .slice pc p.ch.length cc:=by
 obtain ⟨pg,cg,pu,cu,pf,cf,e1,e2,e3⟩:=h.ar.form;obtain ⟨pc,cc,e4,_⟩:=za0 h.cs;exact ⟨pg,cg,pu,cu,pf,cf,pc,cc,e1,e2,e3,e4⟩
theorem zgc {w:World} {b g n cap i:Nat} {l:List (List Int)} (h:w.ownsRow b 119 5 (.slice (some ⟨g,0,none⟩) n cap) n (cvs l)) (hi:i<l.length) :
 w.cell? ⟨g,i*5,none⟩=some (.int .i64 (l.getD i []).length)/\w.cell? ⟨g,i*5+1,none⟩=some (.int .u64 (it (l.getD i []) 0))/\w.cell? ⟨g,i*5+2,none⟩=some (.int .u64 (it (l.getD i []) 1)) /\
 w.cell? ⟨g,i*5+3,none⟩=some (.int .u64 (it (l.getD i []) 2))/\w.cell? ⟨g,i*5+4,none⟩=some (.int .u64 (it (l.getD i []) 3)):=by
 have hc:∀ j,j<5->w.cell? ⟨g,i*5+j,none⟩=(ccs (l.getD i []))[j]?:=fun j hj=>by
  have e:=zk3 l i j hi hj;have hj':j<(ccs (l.getD i [])).length:=hj;rw [List.getElem?_eq_getElem hj'] at e ⊢;have:=h.cells rfl (i*5+j) _ e;rw [add_plain,Nat.zero_add] at this;exact this
 exact ⟨hc 0 (by omega),hc 1 (by omega),hc 2 (by omega),hc 3 (by omega),hc 4 (by omega)⟩
theorem zgd (h:Int) (vg vu vf vc:Value) (p:Pl) (b:Nat) (w:World) (hA:PA w b vg vu vf vc p) (h0:0<=h) (h1:h<=18446744073709551615) (hi:ix h<p.ch.length) (hl:p.ch.length<=1000) :
 Calls Tryz.prog 124 #[.agg #[vg,vu,vf,vc],.int .u64 h] w (GivesV (cval (p.at h)) w):=by
 obtain ⟨pg,cg,pu,cu,pf,cf,pc,cc,rfl,rfl,rfl,rfl⟩:=hA.form;obtain ⟨g,rfl,_,hg⟩:=zab hA.cs (by omega);obtain ⟨c0,c1,c2,c3,c4⟩:=zgc hA.cs hi;unfold Pl.at;have HX:Hid (h % 16777216=(ix h:Int)):=Lib.hid (by unfold ix;omega);generalize p.ch.getD (ix h) []=c at *;generalize ix h=i at *;have HA:=Lib.hid hA;clear hA;have i0:(0:Int)<=(i:Int):=by omega
 have i1:(i:Int)<(p.ch.length:Int):=by omega
 have ne:g≠w.heap.size:=by omega
 go_enter Tryz.func124,Tryz.ntmps124;go_wp2_with fail
 go_region_held3 (fun w'=>w'.cell? ⟨w.heap.size,3,none⟩=some (.slice (some ⟨g,0,none⟩) p.ch.length cc)/\w'.cell? ⟨g,i*5,none⟩=some (.int .i64 c.length)/\w'.cell? ⟨g,i*5+1,none⟩=some (.int .u64 (it c 0))/\w'.cell? ⟨g,i*5+2,none⟩=some (.int .u64 (it c 1))/\w'.cell? ⟨g,i*5+3,none⟩=some (.int .u64 (it c 2))/\w'.cell? ⟨g,i*5+4,none⟩=some (.int .u64 (it c 3)))
  (go_keep)
  (first
    | (go_at_call 21;refine (zap h _ h0 h1).mono ?_;rw [HX.out];rintro e w' ⟨rfl,rfl⟩))
 go_wp2;refine bodyPost_ret (v:=cval c) (by simp [results,Tryz.results124,go_sem,cval]) rfl ⟨rfl,?_⟩;exact (((Below.refl _ w).alloc (Nat.le_refl _) _).alloc (by simp) _).drew
set_option linter.unusedSimpArgs false
theorem zu9:(Tryz.prog.info? 37).map (·.size)=some 1:=by kernel_rfl
theorem zog {z o:Value} (c:List Int) (h:c.length<=4) (ho:o = .int .u64 0):splice [z,o,o,o,o] 1 (gvs c)=[z,.int .u64 (it c 0),.int .u64 (it c 1),.int .u64 (it c 2),.int .u64 (it c 3)]:=by
 subst ho
 match c,h with
 | [],_=>rfl
 | [_],_=>rfl
 | [_,_],_=>rfl
 | [_,_,_],_=>rfl
 | [_,_,_,_],_=>rfl
 | _::_::_::_::_::_,h=>simp at h
theorem zas (w:World) (o o':Obj):((w.alloc o).alloc o').heap[w.heap.size+1]? = some o':=(show (w.alloc o).heap.size=w.heap.size+1 by simp) ▸ heap_alloc_new _ _
theorem block5 {w:World} {k:Nat} {a b c d e:Value} {t:TypeId} (h:w.heap[k]? = some (.cells #[a,b,c,d,e] t (0,0))) :
 (w.cell? ⟨k,0,none⟩=some a/\w.cell? ⟨k,1,none⟩=some b/\w.cell? ⟨k,2,none⟩=some c/\w.cell? ⟨k,3,none⟩=some d/\w.cell? ⟨k,4,none⟩=some e) /\
 w.frozen? ⟨k,0,none⟩=false/\w.frozen? ⟨k,1,none⟩=false/\w.frozen? ⟨k,2,none⟩=false/\w.frozen? ⟨k,3,none⟩=false/\w.frozen? ⟨k,4,none⟩=false:=by
 simp [World.cell?,World.frozen?,h]
theorem set5 {w:World} {k:Nat} {a b c d e:Value} {t:TypeId} (h:w.heap[k]? = some (.cells #[a,b,c,d,e] t (0,0))) (x y z u v:Value) :
 (((((w.setCell ⟨k,0,none⟩ x).setCell ⟨k,1,none⟩ y).setCell ⟨k,2,none⟩ z).setCell ⟨k,3,none⟩ u).setCell ⟨k,4,none⟩ v).heap[k]? = some (.cells #[x,y,z,u,v] t (0,0)):=by
 simp [World.setCell,Array.getElem?_modify,h]
theorem zoh {a w:World} {B k:Nat} (h:Below B a w) (hk:B<=k) (x y z u v:Value):Below B a (((((w.setCell ⟨k,0,none⟩ x).setCell ⟨k,1,none⟩ y).setCell ⟨k,2,none⟩ z).setCell ⟨k,3,none⟩ u).setCell ⟨k,4,none⟩ v) :=
 ((((h.setCell hk _).setCell hk _).setCell hk _).setCell hk _).setCell hk _
theorem zoi (g off cap:Nat) (l:List Int) (w:World) (hg:g<w.heap.size) (hc:∀ j u,(gvs l)[j]? = some u->w.cell? ⟨g,off+j,none⟩=some u) (hl:l.length<=1000) (h0:0<l.length) :
 Calls Tryz.prog 160 #[.slice (some ⟨g,off,none⟩) l.length cap] w (GivesV (cval (l.take 4)) w):=by
 have HC:=Lib.hid hc;have HSZ:=Lib.hid zu9;have HL:Hid (l.take 4=l.take 4/\(gvs (l.take 4)).length=Nat.min l.length 4/\(l.take 4).length<=4):=Lib.hid ⟨rfl,by rw [zac,List.length_take];exact Nat.min_comm _ _,by simp;omega⟩;clear hc;go_enter Tryz.func160,Tryz.ntmps160
 go_wp2_with (with_reducible refine wpList_copy_splice rfl (.tmp 5) (.tmp 6) 26 26 rfl 37 Tryz.underlying26 HSZ.out (some ⟨w.heap.size+1,1,none⟩) (some ⟨g,off,none⟩) 4 4 l.length cap rfl rfl (w.heap.size+1) 1 [.int .i64 0,.int .u64 0,.int .u64 0,.int .u64 0,.int .u64 0] 119 ?hg (gvs (l.take 4)) ?hn ?hpos ?hfit (zcc _) (w.heap.size+1) (w.alloc (.cells #[.int .i64 0,.int .u64 0,.int .u64 0,.int .u64 0,.int .u64 0] 119)) ?hb (Nat.le_refl _) ?hk)
 case hg => exact (Array.getElem?_eq_some_iff.1 (zas _ _ _)).2
 case hn => exact HL.out.2.1
 case hpos =>
  intro _;intro j u hj;have hj':(gvs l)[j]? = some u:=by
   simp only [gvs,List.map_take] at hj ⊢;rw [List.getElem?_take] at hj
   split at hj
   · exact hj
   · cases hj
  exact HC.out j u hj'
 case hfit => have:=HL.out;rw [zac];simp;omega
 case hb => exact (Below.refl _ _).alloc (by simp) _
 case hk =>
  intro w' HG hb;rw [zog _ HL.out.2.2 rfl] at HG;rw [zac];have HB:=Lib.hid hb;have hs:=hb.size;obtain ⟨⟨f0,f1,f2,f3,f4⟩,y0,y1,y2,y3,y4⟩:=block5 ((hb.block w.heap.size (by omega)).trans (heap_alloc_new w _));clear hb;unfold cval;generalize l.take 4=c at *;obtain ⟨⟨d0,d1,d2,d3,d4⟩,z0,z1,z2,z3,z4⟩:=block5 HG.out;have ne:w.heap.size+1≠w.heap.size:=by omega
  have ne':w.heap.size≠w.heap.size+1:=by omega
  go_wp2;obtain ⟨W,hW⟩:∃ W,W=w'.setCell ⟨w.heap.size+1,0,none⟩ (.int .i64 c.length):=⟨_,rfl⟩;have hX:=(zw w' ⟨w.heap.size+1,0,none⟩ (.int .i64 c.length) (k:=w.heap.size) (by simp)).trans ((HB.out.block w.heap.size (by omega)).trans (heap_alloc_new w _));have hBW:Below w.heap.size w w':=((Below.refl _ w).alloc (Nat.le_refl _) _).trans (HB.out.mono (by omega));have hB2:=zoh (hBW.setCell (show w.heap.size<=(⟨w.heap.size+1,0,none⟩:Addr).block by simp) (.int .i64 c.length)) (Nat.le_refl _) (.int .i64 c.length) (.int .u64 (it c 0)) (.int .u64 (it c 1)) (.int .u64 (it c 2)) (.int .u64 (it c 3));have HB2:=Lib.hid hB2;rw [<- hW] at hX;obtain ⟨⟨k0,k1,k2,k3,k4⟩,-⟩:=block5 (set5 hX (.int .i64 c.length) (.int .u64 (it c 0)) (.int .u64 (it c 1)) (.int .u64 (it c 2)) (.int .u64 (it c 3)));rw [<- hW];rw [<- hW] at HB2;refine bodyPost_ret (v:=cval c) (by simp [results,Tryz.results160,go_sem,cval,k0,k1,k2,k3,k4]) rfl ⟨rfl,HB2.out⟩
theorem zk4 (W:World):(sizeOf 37).run Tryz.prog W = .ok 1 W:=by
 obtain ⟨i,hi,-⟩:=info_parts za4;rw [run_sizeOf W hi];exact congrArg (fun n=>Result.ok n W) (show Tryz.prog.cellsOf 37=1 by kernel_rfl)
theorem zcl (xs:Array Value) (off:Nat) (v:Value) (hx:xs[off]? = some v) (W:World):(part 37 xs off).run Tryz.prog W = .ok v W:=run_part_plain W (by kernel_rfl) hx
theorem eq4D (D:Nat) (a0 a1 a2 a3 b0 b1 b2 b3:Int) (W:World) (hD:∀ a b W,(Op.equalIn D 37 (.int .u64 a) (.int .u64 b)).run Tryz.prog W = .ok (a == b) W) :
 (Op.equalIn (D+1) 117 (.agg #[.int .u64 a0,.int .u64 a1,.int .u64 a2,.int .u64 a3]) (.agg #[.int .u64 b0,.int .u64 b1,.int .u64 b2,.int .u64 b3])).run Tryz.prog W = .ok (a0 == b0 && (a1 == b1 && (a2 == b2 && a3 == b3))) W:=by
 have h86:Tryz.prog.underlying 117=some (.array 4 37):=by kernel_rfl
 simp only [Op.equalIn,Sem.run_bind,run_underlying h86,Result.andThen_ok,zk4,Std.Legacy.Range.forIn_eq_forIn_range',Std.Legacy.Range.size];simp only [Nat.sub_zero,Nat.add_sub_cancel,Nat.div_one,List.range',List.forIn_cons,List.forIn_nil,Sem.run_bind,Nat.mul_one,Nat.zero_add];rw [zcl _ 0 (.int .u64 a0) rfl];simp only [Result.andThen_ok];rw [zcl _ 0 (.int .u64 b0) rfl];simp only [Result.andThen_ok,hD];cases (a0 == b0)
 · rfl
 simp only [Bool.not_true,Bool.false_eq_true,if_false,Sem.run_pure,Result.andThen_ok,Sem.run_bind,Bool.true_and];rw [zcl _ 1 (.int .u64 a1) rfl];simp only [Result.andThen_ok];rw [zcl _ 1 (.int .u64 b1) rfl];simp only [Result.andThen_ok,hD];cases (a1 == b1)
 · rfl
 simp only [Bool.not_true,Bool.false_eq_true,if_false,Sem.run_pure,Result.andThen_ok,Sem.run_bind,Bool.true_and];rw [zcl _ 2 (.int .u64 a2) rfl];simp only [Result.andThen_ok];rw [zcl _ 2 (.int .u64 b2) rfl];simp only [Result.andThen_ok,hD];cases (a2 == b2)
 · rfl
 simp only [Bool.not_true,Bool.false_eq_true,if_false,Sem.run_pure,Result.andThen_ok,Sem.run_bind,Bool.true_and];rw [zcl _ 3 (.int .u64 a3) rfl];simp only [Result.andThen_ok];rw [zcl _ 3 (.int .u64 b3) rfl];simp only [Result.andThen_ok,hD];cases (a3 == b3)
 · rfl
 simp only [Bool.not_true,Bool.false_eq_true,if_false,Sem.run_pure,Result.andThen_ok,Sem.run_bind,Bool.true_and]
theorem eq4 (a0 a1 a2 a3 b0 b1 b2 b3:Int) (W:World) :
 (Op.equalIn 10000 117 (.agg #[.int .u64 a0,.int .u64 a1,.int .u64 a2,.int .u64 a3]) (.agg #[.int .u64 b0,.int .u64 b1,.int .u64 b2,.int .u64 b3])).run Tryz.prog W = .ok (a0 == b0 && (a1 == b1 && (a2 == b2 && a3 == b3))) W :=
 eq4D 9999 a0 a1 a2 a3 b0 b1 b2 b3 W fun a b W=>run_equalIn_int W 9998 _ .u64 .u64 a b (by kernel_rfl)
theorem zva {c d:List Int} (hl:c.length=d.length) (h4:c.length<=4) (h:it c 0=it d 0/\it c 1=it d 1/\it c 2=it d 2/\it c 3=it d 3):c=d:=by
 apply List.ext_getElem hl;intro j h1 h2;have e:it c j=it d j:=by
  match j,h1 with
  | 0,_=>exact h.1
  | 1,_=>exact h.2.1
  | 2,_=>exact h.2.2.1
  | 3,_=>exact h.2.2.2
  | j+4,h1=>omega
 unfold it at e
 rwa [getD_at 0 h1,getD_at 0 h2] at e
theorem zqe (h:Int) (c:List Int) (vg vu vf vc:Value) (p:Pl) (b:Nat) (w:World) (hA:PA w b vg vu vf vc p) (h0:0<=h) (h1:h<=18446744073709551615) (hi:ix h<p.ch.length) (hl:p.ch.length<=1000) (h4:(p.at h).length<=4) :
 Calls Tryz.prog 130 #[.agg #[vg,vu,vf,vc],.int .u64 h,cval c] w (GivesV (.bool (p.holds h c)) w):=by
 unfold Pl.holds;have HA:=Lib.hid hA;clear hA;have CH:=fun W hW=>zgd h vg vu vf vc p b W (HA.out.below hW) h0 h1 hi hl
 unfold cval at CH ⊢;have HX:Hid (p.at h=c ↔ ((p.at h).length=c.length/\it (p.at h) 0=it c 0/\it (p.at h) 1=it c 1/\it (p.at h) 2=it c 2/\it (p.at h) 3=it c 3)):=Lib.hid ⟨fun e=>by rw [e];simp,fun e=>zva e.1 h4 e.2⟩;generalize p.at h=d at *;generalize ea:it d 0=a0 at *;generalize eb:it d 1=a1 at *;generalize ec:it d 2=a2 at *;generalize ed:it d 3=a3 at *;generalize it c 0=b0 at *;generalize it c 1=b1 at *;generalize it c 2=b2 at *;generalize it c 3=b3 at *;generalize en:d.length=dn at *;generalize em:c.length=cn at *;have HCH:=Lib.hid CH;clear CH;go_enter Tryz.func130,Tryz.ntmps130;go_wp2_with fail;refine (HCH.out _ ?_).mono ?_
 · exact ((Below.refl _ w).alloc (Nat.le_refl _) _).alloc (by simp) _
 rintro e w1 ⟨rfl,hb⟩;have hs:=hb.size;simp only [World.size_alloc] at hs;have hB2:=hb.block (w.heap.size+1) (by simp);rw [show ((w.alloc (.cells #[vg,vu,vf,vc] 34)).alloc (.cells #[.int .i64 cn,.int .u64 b0,.int .u64 b1,.int .u64 b2,.int .u64 b3] 119)).heap[w.heap.size+1]? = _ from (show (w.alloc (.cells #[vg,vu,vf,vc] 34)).heap.size=w.heap.size+1 by simp) ▸ heap_alloc_new _ _] at hB2;obtain ⟨⟨d0,d1,d2,d3,d4⟩,z0,z1,z2,z3,z4⟩:=block5 hB2;have ne:w.heap.size+1≠w1.heap.size:=by omega
 have ne':w1.heap.size≠w.heap.size+1:=by omega
 have ne2:w.heap.size+1<w1.heap.size:=by omega
 have HB:=Lib.hid hb;clear hb hB2
 by_cases hn:dn=cn
 · subst hn;have hE:=eq4 a0 a1 a2 a3 b0 b1 b2 b3;go_wp2;refine bodyPost_ret (v:=.bool (a0 == b0 && (a1 == b1 && (a2 == b2 && a3 == b3)))) (by simp [results,Tryz.results130,go_sem]) rfl ⟨ze ?_,?_⟩
   · rw [Bool.eq_iff_iff];simp only [Bool.and_eq_true,beq_iff_eq,decide_eq_true_eq,HX.out,true_and]
   · exact ((((Below.refl _ w).alloc (Nat.le_refl _) _).alloc (by simp) _).trans (HB.out.mono (by simp;omega))).alloc (by omega) _
 · have hn':((dn:Int) == (cn:Int))=false:=by simp;omega
   go_wp2;refine bodyPost_ret (v:=.bool false) (by simp [results,Tryz.results130,go_sem]) rfl ⟨ze ?_,?_⟩
   · rw [eq_comm,decide_eq_false_iff_not,HX.out];exact fun hc=>hn hc.1
   · exact ((((Below.refl _ w).alloc (Nat.le_refl _) _).alloc (by simp) _).trans (HB.out.mono (by simp;omega))).alloc (by omega) _
theorem block4 {w:World} {k:Nat} {a b c d:Value} {t:TypeId} (h:w.heap[k]? = some (.cells #[a,b,c,d] t (0,0))) :
 w.cell? ⟨k,0,none⟩=some a/\w.cell? ⟨k,1,none⟩=some b/\w.cell? ⟨k,2,none⟩=some c/\w.cell? ⟨k,3,none⟩=some d /\
 w.frozen? ⟨k,0,none⟩=false/\w.frozen? ⟨k,1,none⟩=false/\w.frozen? ⟨k,2,none⟩=false/\w.frozen? ⟨k,3,none⟩=false:=by
 simp [World.cell?,World.frozen?,h]
def Fit (p:Pl) (row:List Int):Prop:=∀ h∈row,0<=h/\h<=18446744073709551615/\ix h<p.ch.length/\(p.at h).length<=4
theorem zge {p:Pl}:∀ {row:List Int},Fit p row->(p.parts row).length<=4*row.length
 | [],_=>by simp [Pl.parts]
 | h::t,hf=>by
   have h1:=(hf h (by simp)).2.2.2;have h2:=zge (row:=t) (fun x hx=>hf x (by simp [hx]));simp only [Pl.parts,List.flatMap_cons,List.length_append,List.length_cons] at h2 ⊢;omega
theorem zie {p:Pl} {row:List Int} {k:Nat} (h:k<row.length):p.parts (row.take (k+1))=p.parts (row.take k)++p.at (row.getD k 0):=by
 rw [zaa h,getD_at 0 h,Pl.parts,List.flatMap_append];simp [Pl.parts]
theorem Fit.take {p:Pl} {row:List Int} (h:Fit p row) (k:Nat):Fit p (row.take k):=fun x hx=>h x (List.mem_of_mem_take hx)
theorem zff (a b:List Int):gvs (a++b)=gvs a++gvs b:=by simp [gvs]
theorem zqf {w:World} {k:Nat} (c:List Int) (hl:c.length<=4) (h:w.heap[k]? = some (.cells #[.int .i64 c.length,.int .u64 (it c 0),.int .u64 (it c 1),.int .u64 (it c 2),.int .u64 (it c 3)] 119 (0,0))) :
 ∀ j u,(gvs c)[j]? = some u->w.cell? ((⟨k,1,none⟩:Addr).add j)=some u:=by
 obtain ⟨⟨c0,c1,c2,c3,c4⟩,-⟩:=block5 h;intro j u hj;rw [add_plain];have hjl:j<c.length:=by
  rcases Nat.lt_or_ge j c.length with h|h
  · exact h
  · rw [List.getElem?_eq_none (by rw [zac];exact h)] at hj;cases hj
 have e:u = .int .u64 (it c j):=by
  simp only [gvs,List.getElem?_map,List.getElem?_eq_getElem hjl,Option.map_some,Option.some.injEq] at hj;rw [<- hj,it,getD_at 0 hjl]
 rw [e]
 match j,hjl with
 | 0,_=>exact c1
 | 1,_=>exact c2
 | 2,_=>exact c3
 | 3,_=>exact c4
 | j+4,h=>omega
theorem zd4 (row:List Int) (vr:Value) (b':Nat) (vg vu vf vc:Value) (p:Pl) (b:Nat) (w:World) (hA:PA w b vg vu vf vc p) (hR:w.ownsRow b' 37 1 vr row.length (gvs row)) (hF:Fit p row) (hl:p.ch.length<=1000) (hrl:row.length<=1000) :
 Calls Tryz.prog 66 #[.agg #[vg,vu,vf,vc],vr] w (GivesRow 37 (gvs (p.parts row)) w):=by
 obtain ⟨pr,cr,rfl,_,_,_⟩:=zh hR;have HA:=Lib.hid hA;have HR:=Lib.hid hR;have HF:=Lib.hid hF;clear hA hR hF;obtain ⟨i0',hi0,hz0,hz1,hz2⟩:=info_parts za4;have hI:=Lib.hid hi0;have hZ0:=Lib.hid hz0;have hZ1:=Lib.hid hz1;have hZ2:=Lib.hid hz2;clear hi0 hz0 hz1 hz2;obtain ⟨W,hW⟩:∃ W,W=w.alloc (.cells #[vg,vu,vf,vc] 34):=⟨_,rfl⟩;have HW:Hid (Below w.heap.size w W/\W.heap[w.heap.size]? = some (.cells #[vg,vu,vf,vc] 34 (0,0))/\W.heap.size=w.heap.size+1):=Lib.hid (by
  subst hW;exact ⟨(Below.refl _ w).alloc (Nat.le_refl _) _,heap_alloc_new w _,by simp⟩)
 have HWE:=Lib.hid hW;have HAW:=Lib.hid (HA.out.below HW.out.1);have HRW:=Lib.hid (own_below HR.out HW.out.1);have HSW:=Lib.hid HW.out.2.2;clear hW;obtain ⟨n,hn⟩:∃ n,row.length=n:=⟨_,rfl⟩;have HN:=Lib.hid hn;rw [hn] at hrl HRW ⊢;clear hn;go_enter Tryz.func66,Tryz.ntmps66;go_wp2;rw [<- HWE.out]
 go_loopw [5,11] (fun l i wr=>∃ (k:Nat) (q:Option Addr) (cap:Nat),k<=n/\i = .int .i64 k/\l = .slice q (p.parts (row.take k)).length cap /\
  Hid (wr.ownsRow (w.heap.size+1) 37 1 (.slice q (p.parts (row.take k)).length cap) (p.parts (row.take k)).length (gvs (p.parts (row.take k))))/\Hid (Below (w.heap.size+1) W wr)) (fun _ i _=>n - (intOf i).toNat)
 case atStart =>
  exact ⟨0,none,0,Nat.zero_le _,rfl,by simp [Pl.parts],Lib.hid (by simpa [Pl.parts,gvs] using World.ownsRow_nil _ _ _ _),Lib.hid (Below.refl _ _)⟩
 case round =>
  obtain ⟨k,q,cap,hk,rfl,rfl,HO,HB⟩:=hrel;have hpl:=zge (HF.out.take k);rw [List.length_take] at hpl;have hpl':(p.parts (row.take k)).length<=4*k:=by omega
  clear hpl;have HAr:=Lib.hid (HAW.out.below (HB.out.mono (by rw [HSW.out];exact Nat.le_refl _)));have HRr:=Lib.hid (own_below HRW.out (HB.out.mono (by rw [HSW.out];exact Nat.le_refl _)));have HKr:Hid (wr.heap[w.heap.size]? = some (.cells #[vg,vu,vf,vc] 34 (0,0))):=Lib.hid ((HB.out.block _ (by omega)).trans HW.out.2.1);obtain ⟨c0,c1,c2,c3,-⟩:=block4 HKr.out;have hBs:w.heap.size+1<=wr.heap.size:=by have:=HB.out.size;have:=HSW.out;omega
  by_cases hlt:k<n
  · have k0:(0:Int)<=(k:Int):=by omega
    have k1:(k:Int)<(n:Int):=by omega
    obtain ⟨gr,rfl,_,hgr⟩:=zag HRr.out (by omega);have cr0:=zau HRr.out hlt;have HX:Hid (0<=row.getD k 0/\row.getD k 0<=18446744073709551615/\ix (row.getD k 0)<p.ch.length/\(p.at (row.getD k 0)).length<=4):=Lib.hid (HF.out _ (by rw [getD_at 0 (by rw [HN.out];exact hlt)];exact List.getElem_mem _));have HS:=Lib.hid (zie (p:=p) (row:=row) (k:=k) (by rw [HN.out];exact hlt));generalize row.getD k 0=h at *;go_wp2_with fail;refine (zgd h vg vu vf vc p b wr HAr.out HX.out.1 HX.out.2.1 HX.out.2.2.1 hl).mono ?_;unfold cval;rintro e w1 ⟨rfl,hb1⟩;have h4:=HX.out.2.2.2;generalize p.at h=c at *;generalize p.parts (row.take k)=l at *;have HO1:=Lib.hid (own_below HO.out hb1);have HB1:Hid (Below (w.heap.size+1) W w1):=Lib.hid (HB.out.trans (hb1.mono hBs));have hs1:=hb1.size;have h4':(c.length:Int)<=4:=by omega
    have h4'':(0:Int)<=(c.length:Int):=by omega
    clear hb1;have HBX:Hid ((w1.alloc (.cells #[.int .i64 c.length,.int .u64 (it c 0),.int .u64 (it c 1),.int .u64 (it c 2),.int .u64 (it c 3)] 119)).heap[w1.heap.size]? = some (.cells #[.int .i64 c.length,.int .u64 (it c 0),.int .u64 (it c 1),.int .u64 (it c 2),.int .u64 (it c 3)] 119 (0,0))):=Lib.hid (heap_alloc_new _ _)
    go_wp2_with (at_builtin; refine wpList_append_own_at _ rfl _ _ 26 rfl (w.heap.size + 1) 37 i0' (.int .u64 0) 1 8 Tryz.underlying26 hI.out hZ0.out hZ1.out hZ2.out rfl (by decide) _ _ _ rfl (HO1.out.alloc _) ⟨w1.heap.size, 1, none⟩ c.length 4 (gvs c) rfl (by rw [zac, Nat.mul_one]) (zqf c h4 HBX.out) (zcc _) (by unfold maxLen; omega) (by omega) (by simp; omega) ?_; intro v' w5 hown' hgrow _ hat; obtain ⟨q', cap', rfl, -, -, -⟩ := zh hown'
                 have HO':=Lib.hid hown';have HGR:=Lib.hid hgrow;clear hown' hgrow hat)
    go_roundw
    case rel =>
     refine ⟨k+1,q',cap',by omega,by go_num,?_,Lib.hid ?_,Lib.hid ?_⟩
     · rw [HS.out,List.length_append]
     · rw [HS.out,List.length_append,zff];exact HO'.out
     · exact (HB1.out.alloc (by omega) _).grown HGR.out (by simp;omega) (fun q e=>(HO1.out.lt q e).1)
    case measure => simp [intOf]<;>omega
  · obtain rfl:k=n:=by omega
    go_wp2;go_ret;have e:row.take k=row:=List.take_of_length_le (by rw [HN.out];exact Nat.le_refl _);have HO':=HO.out;rw [e] at HO';rw [e];refine ⟨_,rfl,?_,HW.out.1.trans (HB.out.mono (by omega))⟩;rw [zac];exact zo HO' (by omega)
def RR (w:World) (b:Nat) (v:Value) (ls:List (List Int)):Prop :=
 ∃ vs:List Value,w.ownsRow b 26 1 v ls.length vs/\∀ i,i<ls.length->∃ x,vs[i]? = some x/\w.ownsRow b 37 1 x (ls.getD i []).length (gvs (ls.getD i []))
theorem RR.below {w w':World} {b:Nat} {v:Value} {ls:List (List Int)} (h:RR w b v ls) (hb:Below w.heap.size w w'):RR w' b v ls:=by
 obtain ⟨vs,h1,h2⟩:=h;exact ⟨vs,own_below h1 hb,fun i hi=>by obtain ⟨x,e,o⟩:=h2 i hi;exact ⟨x,e,own_below o hb⟩⟩
theorem RR.drop {w:World} {b b':Nat} {v:Value} {ls:List (List Int)} (h:RR w b v ls) (hb:b'<=b):RR w b' v ls:=by
 obtain ⟨vs,h1,h2⟩:=h;exact ⟨vs,zo h1 hb,fun i hi=>by obtain ⟨x,e,o⟩:=h2 i hi;exact ⟨x,e,zo o hb⟩⟩
theorem RR.form {w:World} {b:Nat} {v:Value} {ls:List (List Int)} (h:RR w b v ls):∃ p cap,v = .slice p ls.length cap/\ls.length<=cap/\cap<=maxLen:=by
 obtain ⟨vs,h1,h2⟩:=h;exact za0 h1
theorem RR.row {w:World} {b g cap:Nat} {ls:List (List Int)} {i:Nat} (h:RR w b (.slice (some ⟨g,0,none⟩) ls.length cap) ls) (hi:i<ls.length) :
 ∃ q c,w.cell? ⟨g,i,none⟩=some (.slice q (ls.getD i []).length c)/\w.ownsRow b 37 1 (.slice q (ls.getD i []).length c) (ls.getD i []).length (gvs (ls.getD i [])):=by
 obtain ⟨vs,h1,h2⟩:=h;obtain ⟨x,e,o⟩:=h2 i hi;obtain ⟨q,c,rfl,-⟩:=zh o;exact ⟨q,c,(h1.cellAt i (by omega)).trans e,o⟩
theorem at_in (l k:Nat) (rows:List (List Int)) (v:Value) (b:Nat) (w:World) (hR:RR w b v rows) (hl:rows.length<=1000) (hll:l<=1000) (hk:k<=1000) (hrl:∀ r∈rows,r.length<=1000) :
 Calls Tryz.prog 129 #[v,.int .i64 l,.int .i64 k] w fun e w'=>e = .returned (.int .u64 (atR rows l k))/\w=w':=by
 obtain ⟨p,c,rfl,-,-⟩:=hR.form;have hl0:((l:Int)<0)=False:=by simp
 by_cases h1:l<rows.length
 · obtain ⟨g,rfl,-,hg⟩:=zab hR.choose_spec.1 (by omega);obtain ⟨q,c',hc,ho⟩:=hR.row h1;unfold atR;have hr:=hrl (rows.getD l []) (by rw [getD_at [] h1];exact List.getElem_mem _);generalize rows.getD l []=r at *;have l0:(0:Int)<=(l:Int):=by omega
   have l1:(l:Int)<(rows.length:Int):=by omega
   clear hR
   by_cases h2:k<r.length
   · obtain ⟨g',rfl,-,hg'⟩:=zag ho (by omega);have cr:=zau ho h2;have k0:(0:Int)<=(k:Int):=by omega
     have k1:(k:Int)<(r.length:Int):=by omega
     generalize r.getD k 0=x at *;go_enter Tryz.func129,Tryz.ntmps129;go_wp2;go_ret;exact ⟨rfl,rfl⟩
   · have e:r.getD k 0=0:=by rw [List.getD,List.getElem?_eq_none (by omega)];rfl
     rw [e];have k1:(r.length:Int)<=(k:Int):=by omega
     go_enter Tryz.func129,Tryz.ntmps129;go_wp2;go_ret;exact ⟨rfl,rfl⟩
 · have e:atR rows l k=0:=by
    have:rows.getD l []=[]:=by rw [List.getD,List.getElem?_eq_none (by omega)];rfl
    unfold atR;rw [this];rfl
   rw [e];have l1:(rows.length:Int)<=(l:Int):=by omega
   go_enter Tryz.func129,Tryz.ntmps129;go_wp2;go_ret;exact ⟨rfl,rfl⟩
theorem zvb (v:Value) (w:World) :
 Calls Tryz.prog 129 #[v,.int .i64 (-1),.int .i64 0] w fun e w'=>e = .returned (.int .u64 0)/\w=w':=by
 go_enter Tryz.func129,Tryz.ntmps129;go_wp2;go_ret;exact ⟨rfl,rfl⟩
def GivesCl (e:TypeId) (size n:Nat) (xs:List Value) (w:World) (en:Ending) (w':World):Prop :=
 ∃ v,en = .returned v/\w'.ownsRow w.heap.size e size v n xs/\Below w.heap.size w w'
theorem zqg:(Tryz.prog.info? 119).map (fun i=>(i.zero,i.size,i.bytes))=some (some (.agg #[.int .i64 0,.int .u64 0,.int .u64 0,.int .u64 0,.int .u64 0]),5,40):=by kernel_rfl
theorem cloneG (v:Value) (n:Nat) (xs:List Value) (b:Nat) (w:World) (h:w.ownsRow b 37 1 v n xs) (h1:∀ u∈xs,u.oneCell'=true) (hl:n<=1000) :
 Calls Tryz.prog 74 #[v] w (GivesCl 37 1 n xs w):=by
 obtain ⟨i0',hi0,hz0,hz1,hz2⟩:=info_parts za4;have hI:=Lib.hid hi0;have hZ0:=Lib.hid hz0;have hZ1:=Lib.hid hz1;have hZ2:=Lib.hid hz2;clear hi0 hz0 hz1 hz2;have qE:∀ (w:World) (a:Option Addr) (n c n' c':Nat),(binOp .eql 26 (.slice a n c) (.slice none n' c')).run Tryz.prog w = .ok (.bool a.isNone) w:=fun w a n c n' c'=>Lib.run_eql_slice_nil w _ 37 a n c n' c' Tryz.underlying26
 rcases h.2 with ⟨rfl,rfl⟩|⟨g,cap,cur,rfl,hbg,hg,hnc,hcm,hcs,hct⟩
 · have hx:xs=[]:=List.eq_nil_of_length_eq_zero (h.1.trans (Nat.zero_mul _));subst hx;go_enter Tryz.func74,Tryz.ntmps74;go_wp2;go_ret;exact ⟨_,rfl,World.ownsRow_nil _ _ _ _,Below.refl _ _⟩
 · have HO:=Lib.hid h;have hgl:=(Array.getElem?_eq_some_iff.1 hg).1;clear h hg hct hcs;have HC:Hid (∀ j u,xs[j]? = some u->(w.alloc (.cells #[] 37)).cell? ((⟨g,0,none⟩:Addr).add j)=some u):=Lib.hid (fun j u hu=>by
    rw [World.cell?_alloc_lt _ _ _ (by rw [add_plain];exact hgl)];exact HO.out.cells rfl j u hu)
   have HN:Hid ((w.alloc (.cells #[] 37)).ownsRow w.heap.size 37 1 (.slice (some ⟨w.heap.size,0,none⟩) 0 0) 0 []):=Lib.hid ⟨by simp,.inr ⟨w.heap.size,0,#[],rfl,Nat.le_refl _,heap_alloc_new _ _,Nat.le_refl _,by simp [maxLen],by simp,by simp⟩⟩;go_enter Tryz.func74,Tryz.ntmps74
   go_wp2_with (at_builtin; refine wpList_append_own_at _ rfl _ _ 26 rfl w.heap.size 37 i0' (.int .u64 0) 1 8 Tryz.underlying26 hI.out hZ0.out hZ1.out hZ2.out rfl (by decide) _ _ _ rfl HN.out ⟨g, 0, none⟩ n cap xs rfl HO.out.1 HC.out h1 (by unfold maxLen; omega) (by omega) (by simp) ?_; intro v' w5 hown' hgrow _ hat; obtain ⟨q', cap', rfl, -, -⟩ := za0 hown'
                have HO':=Lib.hid hown';have HGR:=Lib.hid hgrow;clear hown' hgrow hat)
   go_ret;refine ⟨_,rfl,?_,?_⟩
   · have:=HO'.out;rw [List.nil_append] at this;simpa using this
   · exact ((Below.refl _ w).alloc (Nat.le_refl _) _).grown HGR.out (by simp) (fun q e=>(HN.out.lt q e).1)
theorem cloneU (v:Value) (n:Nat) (xs:List Value) (b:Nat) (w:World) (h:w.ownsRow b 4 1 v n xs) (h1:∀ u∈xs,u.oneCell'=true) (hl:n<=1000) :
 Calls Tryz.prog 75 #[v] w (GivesCl 4 1 n xs w):=by
 obtain ⟨i0',hi0,hz0,hz1,hz2⟩:=info_parts zk0;have hI:=Lib.hid hi0;have hZ0:=Lib.hid hz0;have hZ1:=Lib.hid hz1;have hZ2:=Lib.hid hz2;clear hi0 hz0 hz1 hz2;have qE:∀ (w:World) (a:Option Addr) (n c n' c':Nat),(binOp .eql 27 (.slice a n c) (.slice none n' c')).run Tryz.prog w = .ok (.bool a.isNone) w:=fun w a n c n' c'=>Lib.run_eql_slice_nil w _ 4 a n c n' c' Tryz.underlying27
 rcases h.2 with ⟨rfl,rfl⟩|⟨g,cap,cur,rfl,hbg,hg,hnc,hcm,hcs,hct⟩
 · have hx:xs=[]:=List.eq_nil_of_length_eq_zero (h.1.trans (Nat.zero_mul _));subst hx;go_enter Tryz.func75,Tryz.ntmps75;go_wp2;go_ret;exact ⟨_,rfl,World.ownsRow_nil _ _ _ _,Below.refl _ _⟩
 · have HO:=Lib.hid h;have hgl:=(Array.getElem?_eq_some_iff.1 hg).1;clear h hg hct hcs;have HC:Hid (∀ j u,xs[j]? = some u->(w.alloc (.cells #[] 4)).cell? ((⟨g,0,none⟩:Addr).add j)=some u):=Lib.hid (fun j u hu=>by
    rw [World.cell?_alloc_lt _ _ _ (by rw [add_plain];exact hgl)];exact HO.out.cells rfl j u hu)
   have HN:Hid ((w.alloc (.cells #[] 4)).ownsRow w.heap.size 4 1 (.slice (some ⟨w.heap.size,0,none⟩) 0 0) 0 []):=Lib.hid ⟨by simp,.inr ⟨w.heap.size,0,#[],rfl,Nat.le_refl _,heap_alloc_new _ _,Nat.le_refl _,by simp [maxLen],by simp,by simp⟩⟩;go_enter Tryz.func75,Tryz.ntmps75
   go_wp2_with (at_builtin; refine wpList_append_own_at _ rfl _ _ 27 rfl w.heap.size 4 i0' (.bool false) 1 1 Tryz.underlying27 hI.out hZ0.out hZ1.out hZ2.out rfl (by decide) _ _ _ rfl HN.out ⟨g, 0, none⟩ n cap xs rfl HO.out.1 HC.out h1 (by unfold maxLen; omega) (by omega) (by simp) ?_; intro v' w5 hown' hgrow _ hat; obtain ⟨q', cap', rfl, -, -⟩ := za0 hown'
                have HO':=Lib.hid hown';have HGR:=Lib.hid hgrow;clear hown' hgrow hat)
   go_ret;refine ⟨_,rfl,?_,?_⟩
   · have:=HO'.out;rw [List.nil_append] at this;simpa using this
   · exact ((Below.refl _ w).alloc (Nat.le_refl _) _).grown HGR.out (by simp) (fun q e=>(HN.out.lt q e).1)
theorem cloneF (v:Value) (n:Nat) (xs:List Value) (b:Nat) (w:World) (h:w.ownsRow b 3 1 v n xs) (h1:∀ u∈xs,u.oneCell'=true) (hl:n<=1000) :
 Calls Tryz.prog 76 #[v] w (GivesCl 3 1 n xs w):=by
 obtain ⟨i0',hi0,hz0,hz1,hz2⟩:=info_parts zic;have hI:=Lib.hid hi0;have hZ0:=Lib.hid hz0;have hZ1:=Lib.hid hz1;have hZ2:=Lib.hid hz2;clear hi0 hz0 hz1 hz2;have qE:∀ (w:World) (a:Option Addr) (n c n' c':Nat),(binOp .eql 28 (.slice a n c) (.slice none n' c')).run Tryz.prog w = .ok (.bool a.isNone) w:=fun w a n c n' c'=>Lib.run_eql_slice_nil w _ 3 a n c n' c' Tryz.underlying28
 rcases h.2 with ⟨rfl,rfl⟩|⟨g,cap,cur,rfl,hbg,hg,hnc,hcm,hcs,hct⟩
 · have hx:xs=[]:=List.eq_nil_of_length_eq_zero (h.1.trans (Nat.zero_mul _));subst hx;go_enter Tryz.func76,Tryz.ntmps76;go_wp2;go_ret;exact ⟨_,rfl,World.ownsRow_nil _ _ _ _,Below.refl _ _⟩
 · have HO:=Lib.hid h;have hgl:=(Array.getElem?_eq_some_iff.1 hg).1;clear h hg hct hcs;have HC:Hid (∀ j u,xs[j]? = some u->(w.alloc (.cells #[] 3)).cell? ((⟨g,0,none⟩:Addr).add j)=some u):=Lib.hid (fun j u hu=>by
    rw [World.cell?_alloc_lt _ _ _ (by rw [add_plain];exact hgl)];exact HO.out.cells rfl j u hu)
   have HN:Hid ((w.alloc (.cells #[] 3)).ownsRow w.heap.size 3 1 (.slice (some ⟨w.heap.size,0,none⟩) 0 0) 0 []):=Lib.hid ⟨by simp,.inr ⟨w.heap.size,0,#[],rfl,Nat.le_refl _,heap_alloc_new _ _,Nat.le_refl _,by simp [maxLen],by simp,by simp⟩⟩;go_enter Tryz.func76,Tryz.ntmps76
   go_wp2_with (at_builtin; refine wpList_append_own_at _ rfl _ _ 28 rfl w.heap.size 3 i0' (.int .i64 0) 1 8 Tryz.underlying28 hI.out hZ0.out hZ1.out hZ2.out rfl (by decide) _ _ _ rfl HN.out ⟨g, 0, none⟩ n cap xs rfl HO.out.1 HC.out h1 (by unfold maxLen; omega) (by omega) (by simp) ?_; intro v' w5 hown' hgrow _ hat; obtain ⟨q', cap', rfl, -, -⟩ := za0 hown'
                have HO':=Lib.hid hown';have HGR:=Lib.hid hgrow;clear hown' hgrow hat)
   go_ret;refine ⟨_,rfl,?_,?_⟩
   · have:=HO'.out;rw [List.nil_append] at this;simpa using this
   · exact ((Below.refl _ w).alloc (Nat.le_refl _) _).grown HGR.out (by simp) (fun q e=>(HN.out.lt q e).1)
theorem cloneC (v:Value) (n:Nat) (xs:List Value) (b:Nat) (w:World) (h:w.ownsRow b 119 5 v n xs) (h1:∀ u∈xs,u.oneCell'=true) (hl:n<=1000) :
 Calls Tryz.prog 44 #[v] w (GivesCl 119 5 n xs w):=by
 obtain ⟨i0',hi0,hz0,hz1,hz2⟩:=info_parts zqg;have hI:=Lib.hid hi0;have hZ0:=Lib.hid hz0;have hZ1:=Lib.hid hz1;have hZ2:=Lib.hid hz2;clear hi0 hz0 hz1 hz2;have qE:∀ (w:World) (a:Option Addr) (n c n' c':Nat),(binOp .eql 32 (.slice a n c) (.slice none n' c')).run Tryz.prog w = .ok (.bool a.isNone) w:=fun w a n c n' c'=>Lib.run_eql_slice_nil w _ 119 a n c n' c' Tryz.underlying32
 rcases h.2 with ⟨rfl,rfl⟩|⟨g,cap,cur,rfl,hbg,hg,hnc,hcm,hcs,hct⟩
 · have hx:xs=[]:=List.eq_nil_of_length_eq_zero (h.1.trans (Nat.zero_mul _));subst hx;go_enter Tryz.func44,Tryz.ntmps44;go_wp2;go_ret;exact ⟨_,rfl,World.ownsRow_nil _ _ _ _,Below.refl _ _⟩
 · have HO:=Lib.hid h;have hgl:=(Array.getElem?_eq_some_iff.1 hg).1;clear h hg hct hcs;have HC:Hid (∀ j u,xs[j]? = some u->(w.alloc (.cells #[] 119)).cell? ((⟨g,0,none⟩:Addr).add j)=some u):=Lib.hid (fun j u hu=>by
    rw [World.cell?_alloc_lt _ _ _ (by rw [add_plain];exact hgl)];exact HO.out.cells rfl j u hu)
   have HN:Hid ((w.alloc (.cells #[] 119)).ownsRow w.heap.size 119 5 (.slice (some ⟨w.heap.size,0,none⟩) 0 0) 0 []):=Lib.hid ⟨by simp,.inr ⟨w.heap.size,0,#[],rfl,Nat.le_refl _,heap_alloc_new _ _,Nat.le_refl _,by simp [maxLen],by simp,by simp⟩⟩;go_enter Tryz.func44,Tryz.ntmps44
   go_wp2_with (at_builtin; refine wpList_append_own_at _ rfl _ _ 32 rfl w.heap.size 119 i0' (.agg #[.int .i64 0, .int .u64 0, .int .u64 0, .int .u64 0, .int .u64 0]) 5 40 Tryz.underlying32 hI.out hZ0.out hZ1.out hZ2.out rfl (by decide) _ _ _ rfl HN.out ⟨g, 0, none⟩ n cap xs rfl HO.out.1 HC.out h1 (by unfold maxLen; omega) (by omega) (by simp) ?_; intro v' w5 hown' hgrow _ hat; obtain ⟨q', cap', rfl, -, -⟩ := za0 hown'
                have HO':=Lib.hid hown';have HGR:=Lib.hid hgrow;clear hown' hgrow hat)
   go_ret;refine ⟨_,rfl,?_,?_⟩
   · have:=HO'.out;rw [List.nil_append] at this;simpa using this
   · exact ((Below.refl _ w).alloc (Nat.le_refl _) _).grown HGR.out (by simp) (fun q e=>(HN.out.lt q e).1)
def GivesPl (p:Pl) (w:World) (en:Ending) (w':World):Prop :=
 ∃ vg vu vf vc,en = .returned (.agg #[vg,vu,vf,vc])/\PA w' w.heap.size vg vu vf vc p/\Below w.heap.size w w'
theorem keep4 {W w':World} {B k:Nat} {a b c d:Value} (h:W.heap[k]? = some (.cells #[a,b,c,d] 34 (0,0))) (hk:k<B) (hb:Below B W w') :
 w'.cell? ⟨k,0,none⟩=some a/\w'.cell? ⟨k,1,none⟩=some b/\w'.cell? ⟨k,2,none⟩=some c/\w'.cell? ⟨k,3,none⟩=some d/\Hid (Below B W w'):=by
 obtain ⟨c0,c1,c2,c3,-⟩:=block4 ((hb.block k hk).trans h);exact ⟨c0,c1,c2,c3,Lib.hid hb⟩
theorem zcv {w:World} {b k size:Nat} {e:TypeId} {v:Value} {n:Nat} {xs:List Value} (h:w.ownsRow b e size v n xs) (hk:k<b) (x y z u:Value):((((w.setCell ⟨k,0,none⟩ x).setCell ⟨k,1,none⟩ y).setCell ⟨k,2,none⟩ z).setCell ⟨k,3,none⟩ u).ownsRow b e size v n xs :=
 ownsRow_setCell_below (ownsRow_setCell_below (ownsRow_setCell_below (ownsRow_setCell_below h hk _) hk _) hk _) hk _
theorem Ar.set4 {w:World} {b k:Nat} {vg vu vf:Value} {s:St} (h:Ar w b vg vu vf s) (hk:k<b) (x y z u:Value):Ar ((((w.setCell ⟨k,0,none⟩ x).setCell ⟨k,1,none⟩ y).setCell ⟨k,2,none⟩ z).setCell ⟨k,3,none⟩ u) b vg vu vf s :=
 ⟨zcv h.g hk _ _ _ _,zcv h.u hk _ _ _ _,zcv h.f hk _ _ _ _⟩
theorem zbx {a w:World} {B k:Nat} (h:Below B a w) (hk:B<=k) (x y z u:Value):Below B a ((((w.setCell ⟨k,0,none⟩ x).setCell ⟨k,1,none⟩ y).setCell ⟨k,2,none⟩ z).setCell ⟨k,3,none⟩ u) :=
 (((h.setCell hk _).setCell hk _).setCell hk _).setCell hk _
theorem zd5 (vg vu vf vc:Value) (p:Pl) (b:Nat) (w:World) (h:PA w b vg vu vf vc p) (hg:p.st.gens.length<=1000) (hu:p.st.used.length<=1000) (hf:p.st.free.length<=1000) (hc:p.ch.length<=1000) :
 Calls Tryz.prog 52 #[.agg #[vg,vu,vf,vc]] w (GivesPl p w):=by
 obtain ⟨pg,cg,pu,cu,pf,cf,pc,cc,rfl,rfl,rfl,rfl⟩:=h.form;have HA:=Lib.hid h;clear h;go_enter Tryz.func52,Tryz.ntmps52;go_wp2_with fail;obtain ⟨W,hW⟩:∃ W,W=(w.alloc (.cells #[.slice pg p.st.gens.length cg,.slice pu p.st.used.length cu,.slice pf p.st.free.length cf,.slice pc p.ch.length cc] 34)).alloc (.cells #[.slice none 0 0,.slice none 0 0,.slice none 0 0,.slice none 0 0] 34):=⟨_,rfl⟩;have HW:Hid (Below w.heap.size w W/\W.heap.size=w.heap.size+2/\W.heap[w.heap.size]? = some (.cells #[.slice pg p.st.gens.length cg,.slice pu p.st.used.length cu,.slice pf p.st.free.length cf,.slice pc p.ch.length cc] 34 (0,0))/\W.heap[w.heap.size+1]? = some (.cells #[.slice none 0 0,.slice none 0 0,.slice none 0 0,.slice none 0 0] 34 (0,0))):=Lib.hid (by
  subst hW;refine ⟨((Below.refl _ w).alloc (Nat.le_refl _) _).alloc (by simp) _,by simp,?_,zas _ _ _⟩;rw [heap_alloc_old _ _ (by simp)];exact heap_alloc_new w _)
 rw [<- hW];clear hW;have HK:=Lib.hid HW.out.2.2.1;have HBW:=Lib.hid ((Below.refl (w.heap.size+2) W).drew);have HS:=Lib.hid HW.out.2.1;have HAW:=Lib.hid (HA.out.below HW.out.1);obtain ⟨x0,x1,x2,x3,-⟩:=block4 HK.out
 go_cut [3] from 4 to 16 (fun t wx=>∃ (k:Nat) (p1:Option Addr) (k1:Nat) (p2:Option Addr) (k2:Nat) (p3:Option Addr) (k3:Nat),t = .pointer (some ⟨k,0,none⟩) /\
  Hid (wx.heap[k]? = some (.cells #[.slice p1 p.st.gens.length k1,.slice p2 p.st.used.length k2,.slice p3 p.st.free.length k3] 30 (0,0))/\w.heap.size+2<=k/\Ar wx (w.heap.size+2) (.slice p1 p.st.gens.length k1) (.slice p2 p.st.used.length k2) (.slice p3 p.st.free.length k3) p.st/\Below (w.heap.size+2) W wx))
 case first =>
  go_region_held3 (fun w'=>w'.cell? ⟨w.heap.size,0,none⟩=some (.slice pg p.st.gens.length cg)/\w'.cell? ⟨w.heap.size,1,none⟩=some (.slice pu p.st.used.length cu)/\w'.cell? ⟨w.heap.size,2,none⟩=some (.slice pf p.st.free.length cf)/\w'.cell? ⟨w.heap.size,3,none⟩=some (.slice pc p.ch.length cc)/\Hid (Below (w.heap.size+2) W w'))
   (first
     | exact keep4 HK.out (by omega) HBW.out
     | exact keep4 HK.out (by omega) (HBW.out.alloc (by have:=HS.out;simp;omega) _)
     | exact keep4 HK.out (by omega) HB1.out
     | exact keep4 HK.out (by omega) (HB1.out.alloc (by have:=HS.out;have:=HB1.out.size;simp;omega) _)
     | exact keep4 HK.out (by omega) HB2.out
     | exact keep4 HK.out (by omega) (HB2.out.alloc (by have:=HS.out;have:=HB2.out.size;simp;omega) _)
     | exact keep4 HK.out (by omega) HB3.out
     | exact keep4 HK.out (by omega) (HB3.out.alloc (by have:=HS.out;have:=HB3.out.size;simp;omega) _)
     | exact keep4 HK.out (by omega) (((HB3.out.setCell (by have:=HS.out;simp;omega) _).setCell (by have:=HS.out;simp;omega) _).setCell (by have:=HS.out;simp;omega) _)
     | exact keep4 HK.out (by omega) (((HB3.out.setCell (by have:=HS.out;have:=HB1.out.size;simp;omega) _).setCell (by have:=HS.out;have:=HB1.out.size;simp;omega) _).setCell (by have:=HS.out;have:=HB1.out.size;simp;omega) _)
     | exact keep4 HK.out (by omega) (((HB3.out.setCell (by have:=HS.out;have:=HB2.out.size;simp;omega) _).setCell (by have:=HS.out;have:=HB2.out.size;simp;omega) _).setCell (by have:=HS.out;have:=HB2.out.size;simp;omega) _))
   (first
     | (go_at_call 74
        refine (cloneG _ _ _ b _ (own_below HAW.out.ar.g (((by first|exact HBW.out|exact HBW.out.alloc (by have:=HS.out;have:=HBW.out.size;simp;omega) _):Below (w.heap.size+2) W _).mono (by have:=HS.out;omega))) (zcc _) (by omega)).mono ?_;rintro e w1 ⟨v1,rfl,ho1,hb1⟩;obtain ⟨p1,k1,rfl,-,-,-⟩:=zh ho1;have HO1:=Lib.hid ho1;have HB1:Hid (Below (w.heap.size+2) W w1):=Lib.hid (Below.trans (by first|exact HBW.out|exact HBW.out.alloc (by have:=HS.out;have:=HBW.out.size;simp;omega) _) (hb1.mono (by have:=HS.out;have:=HBW.out.size;simp;omega)))
        first|(have HX1:Hid (w1.heap[W.heap.size]? = some (.cells #[.slice none 0 0,.slice none 0 0,.slice none 0 0] 30 (0,0))):=Lib.hid ((hb1.block _ (by simp)).trans (heap_alloc_new (W.drew) _));obtain ⟨d0,d1,d2,y0,y1,y2⟩:=block3 HX1.out)|skip
        clear hb1 ho1)
     | (go_at_call 75
        refine (cloneU _ _ _ b _ (own_below HAW.out.ar.u (((by first|exact HB1.out|exact HB1.out.alloc (by have:=HS.out;have:=HB1.out.size;simp;omega) _):Below (w.heap.size+2) W _).mono (by have:=HS.out;omega))) (ziz _) (by omega)).mono ?_;rintro e w2 ⟨v2,rfl,ho2,hb2⟩;obtain ⟨p2,k2,rfl,-,-,-⟩:=zh ho2;have HO2:=Lib.hid ho2;have HB2:Hid (Below (w.heap.size+2) W w2):=Lib.hid (Below.trans (by first|exact HB1.out|exact HB1.out.alloc (by have:=HS.out;have:=HB1.out.size;simp;omega) _) (hb2.mono (by have:=HS.out;have:=HB1.out.size;simp;omega)));have HO12:=Lib.hid (own_below (by first|exact HO1.out|exact HO1.out.alloc _) hb2)
        first|(have HX2:Hid (w2.heap[(w1).heap.size]? = some (.cells #[.slice none 0 0,.slice none 0 0,.slice none 0 0] 30 (0,0))):=Lib.hid ((hb2.block _ (by simp)).trans (heap_alloc_new (w1) _));obtain ⟨d0,d1,d2,y0,y1,y2⟩:=block3 HX2.out)|skip
        first|(have HX12:Hid (w2.heap[W.heap.size]? = some (.cells #[.slice none 0 0,.slice none 0 0,.slice none 0 0] 30 (0,0))):=Lib.hid ((hb2.block _ (lt_of_block HX1.out)).trans HX1.out);obtain ⟨d0,d1,d2,y0,y1,y2⟩:=block3 HX12.out)|skip
        clear hb2 ho2)
     | (go_at_call 76
        refine (cloneF _ _ _ b _ (own_below HAW.out.ar.f (((by first|exact HB2.out|exact HB2.out.alloc (by have:=HS.out;have:=HB2.out.size;simp;omega) _):Below (w.heap.size+2) W _).mono (by have:=HS.out;omega))) (zcs _) (by omega)).mono ?_;rintro e w3 ⟨v3,rfl,ho3,hb3⟩;obtain ⟨p3,k3,rfl,-,-,-⟩:=zh ho3;have HO3:=Lib.hid ho3;have HB3:Hid (Below (w.heap.size+2) W w3):=Lib.hid (Below.trans (by first|exact HB2.out|exact HB2.out.alloc (by have:=HS.out;have:=HB2.out.size;simp;omega) _) (hb3.mono (by have:=HS.out;have:=HB2.out.size;simp;omega)));have HO13:=Lib.hid (own_below (by first|exact HO12.out|exact HO12.out.alloc _) hb3);have HO23:=Lib.hid (own_below (by first|exact HO2.out|exact HO2.out.alloc _) hb3)
        first|(have HX3:Hid (w3.heap[(w2).heap.size]? = some (.cells #[.slice none 0 0,.slice none 0 0,.slice none 0 0] 30 (0,0))):=Lib.hid ((hb3.block _ (by simp)).trans (heap_alloc_new (w2) _));obtain ⟨d0,d1,d2,y0,y1,y2⟩:=block3 HX3.out)|skip
        first|(have HX13:Hid (w3.heap[W.heap.size]? = some (.cells #[.slice none 0 0,.slice none 0 0,.slice none 0 0] 30 (0,0))):=Lib.hid ((hb3.block _ (lt_of_block HX12.out)).trans HX12.out);obtain ⟨d0,d1,d2,y0,y1,y2⟩:=block3 HX13.out)|skip
        first|(have HX23:Hid (w3.heap[(w1).heap.size]? = some (.cells #[.slice none 0 0,.slice none 0 0,.slice none 0 0] 30 (0,0))):=Lib.hid ((hb3.block _ (lt_of_block HX2.out)).trans HX2.out);obtain ⟨d0,d1,d2,y0,y1,y2⟩:=block3 HX23.out)|skip
        clear hb3 ho3))
  all_goals
   go_wp2;go_meet;have hs0:=HS.out;have hs1:=HB1.out.size;have hs2:=HB2.out.size;have hs3:=HB3.out.size;have AR:Ar w3 (w.heap.size+2) (.slice p1 p.st.gens.length k1) (.slice p2 p.st.used.length k2) (.slice p3 p.st.free.length k3) p.st:=⟨zo HO13.out (by first|omega|(simp;omega)),zo HO23.out (by first|omega|(simp;omega)),zo HO3.out (by first|omega|(simp;omega))⟩
   first
    | exact ⟨w3.heap.size,_,_,_,_,_,_,rfl,Lib.hid ⟨heap_alloc_new _ _,by omega,AR.below ((Below.refl _ _).alloc (Nat.le_refl _) _),HB3.out.alloc (by omega) _⟩⟩
    | exact ⟨w2.heap.size,_,_,_,_,_,_,rfl,Lib.hid ⟨zc3 HX3.out _ _ _,by omega,AR.set3t HX3.out (by decide) (by decide) (by decide) _ _ _,zbi HB3.out (by omega) _ _ _⟩⟩
    | exact ⟨w1.heap.size,_,_,_,_,_,_,rfl,Lib.hid ⟨zc3 HX23.out _ _ _,by omega,AR.set3t HX23.out (by decide) (by decide) (by decide) _ _ _,zbi HB3.out (by omega) _ _ _⟩⟩
    | exact ⟨W.heap.size,_,_,_,_,_,_,rfl,Lib.hid ⟨zc3 HX13.out _ _ _,by omega,AR.set3t HX13.out (by decide) (by decide) (by decide) _ _ _,zbi HB3.out (by omega) _ _ _⟩⟩
 case rest =>
  obtain ⟨k,p1,k1,p2,k2,p3,k3,rfl,HM⟩:=hcut;clear x0 x1 x2 x3;have HK2:Hid (wc.heap[w.heap.size]? = some (.cells #[.slice pg p.st.gens.length cg,.slice pu p.st.used.length cu,.slice pf p.st.free.length cf,.slice pc p.ch.length cc] 34 (0,0))):=Lib.hid ((HM.out.2.2.2.block _ (by omega)).trans HK.out);have HR2:Hid (wc.heap[w.heap.size+1]? = some (.cells #[.slice none 0 0,.slice none 0 0,.slice none 0 0,.slice none 0 0] 34 (0,0))):=Lib.hid ((HM.out.2.2.2.block _ (by omega)).trans HW.out.2.2.2);have HBx:=Lib.hid HM.out.2.2.2;have HAx:=Lib.hid HM.out.2.2.1;have HKx:=Lib.hid HM.out.1;have hk:=HM.out.2.1;have hsx:=HBx.out.size;obtain ⟨x0,x1,x2,x3,-⟩:=block4 HK2.out;obtain ⟨c0,c1,c2,-⟩:=block3 HKx.out;have HCV:Hid (∀ w',Below (wc.heap.size) wc w'->w'.cell? ⟨w.heap.size,3,none⟩=some (.slice pc p.ch.length cc)/\w'.cell? ⟨k,0,none⟩=some (.slice p1 p.st.gens.length k1)/\w'.cell? ⟨k,1,none⟩=some (.slice p2 p.st.used.length k2)/\w'.cell? ⟨k,2,none⟩=some (.slice p3 p.st.free.length k3)):=Lib.hid (fun w' hb=>by
   obtain ⟨-,-,-,h3,-⟩:=block4 ((hb.block _ (lt_of_block HK2.out)).trans HK2.out);obtain ⟨e0,e1,e2,-⟩:=block3 ((hb.block _ (lt_of_block HKx.out)).trans HKx.out);exact ⟨h3,e0,e1,e2⟩)
  have HCS:Hid (∀ w' a1 a2 a3 a4,Below (wc.heap.size) wc w'->((((w'.setCell ⟨w.heap.size+1,0,none⟩ a1).setCell ⟨w.heap.size+1,1,none⟩ a2).setCell ⟨w.heap.size+1,2,none⟩ a3).setCell ⟨w.heap.size+1,3,none⟩ a4).cell? ⟨w.heap.size,3,none⟩=some (.slice pc p.ch.length cc)/\((((w'.setCell ⟨w.heap.size+1,0,none⟩ a1).setCell ⟨w.heap.size+1,1,none⟩ a2).setCell ⟨w.heap.size+1,2,none⟩ a3).setCell ⟨w.heap.size+1,3,none⟩ a4).cell? ⟨k,0,none⟩=some (.slice p1 p.st.gens.length k1)/\((((w'.setCell ⟨w.heap.size+1,0,none⟩ a1).setCell ⟨w.heap.size+1,1,none⟩ a2).setCell ⟨w.heap.size+1,2,none⟩ a3).setCell ⟨w.heap.size+1,3,none⟩ a4).cell? ⟨k,1,none⟩=some (.slice p2 p.st.used.length k2)/\((((w'.setCell ⟨w.heap.size+1,0,none⟩ a1).setCell ⟨w.heap.size+1,1,none⟩ a2).setCell ⟨w.heap.size+1,2,none⟩ a3).setCell ⟨w.heap.size+1,3,none⟩ a4).cell? ⟨k,2,none⟩=some (.slice p3 p.st.free.length k3)):=Lib.hid (fun w' a1 a2 a3 a4 hb=>by
   have hn:∀ j,j≠w.heap.size+1->((((w'.setCell ⟨w.heap.size+1,0,none⟩ a1).setCell ⟨w.heap.size+1,1,none⟩ a2).setCell ⟨w.heap.size+1,2,none⟩ a3).setCell ⟨w.heap.size+1,3,none⟩ a4).heap[j]? = w'.heap[j]?:=fun j hj=>by
    rw [zw _ _ _ (Ne.symm hj),zw _ _ _ (Ne.symm hj),zw _ _ _ (Ne.symm hj),zw _ _ _ (Ne.symm hj)]
   obtain ⟨-,-,-,h3,-⟩:=block4 ((hn w.heap.size (by omega)).trans ((hb.block _ (lt_of_block HK2.out)).trans HK2.out));obtain ⟨e0,e1,e2,-⟩:=block3 ((hn k (by omega)).trans ((hb.block _ (lt_of_block HKx.out)).trans HKx.out));exact ⟨h3,e0,e1,e2⟩)
  have HCX:Hid (wc.ownsRow b 119 5 (.slice pc p.ch.length cc) p.ch.length (cvs p.ch)):=Lib.hid (own_below HAW.out.cs (HBx.out.mono (by have:=HS.out;omega)));go_wp2_with fail
  go_region_held3 (fun w'=>w'.cell? ⟨w.heap.size,3,none⟩=some (.slice pc p.ch.length cc)/\w'.cell? ⟨k,0,none⟩=some (.slice p1 p.st.gens.length k1)/\w'.cell? ⟨k,1,none⟩=some (.slice p2 p.st.used.length k2)/\w'.cell? ⟨k,2,none⟩=some (.slice p3 p.st.free.length k3))
   (first
     | exact HCV.out _ (Below.refl _ _).drew
     | exact HCV.out _ HB4.out
     | exact HCS.out _ _ _ _ _ HB4.out)
   (first
     | (go_at_call 44
        refine (cloneC _ _ _ b _ (own_below HCX.out (Below.refl _ _).drew) (zm8 _) (by omega)).mono ?_;rintro e w4 ⟨v4,rfl,ho4,hb4⟩;obtain ⟨p4,k4,rfl,-,-⟩:=za0 ho4;have HO4:=Lib.hid ho4;have HB4:Hid (Below wc.heap.size wc w4):=Lib.hid ((Below.refl _ _).drew.trans hb4);have HR4:Hid (w4.heap[w.heap.size+1]? = some (.cells #[.slice none 0 0,.slice none 0 0,.slice none 0 0,.slice none 0 0] 34 (0,0))):=Lib.hid ((HB4.out.block _ (lt_of_block HR2.out)).trans HR2.out);obtain ⟨d0,d1,d2,d3,y0,y1,y2,y3⟩:=block4 HR4.out;clear hb4 ho4))
  go_wp2;have hs0:=HS.out;refine bodyPost_ret (v:=.agg #[.slice p1 p.st.gens.length k1,.slice p2 p.st.used.length k2,.slice p3 p.st.free.length k3,.slice p4 p.ch.length k4]) (by simp [results,Tryz.results52,go_sem,d0,d1,d2,d3]) rfl ⟨_,_,_,_,rfl,⟨?_,?_⟩,?_⟩
  · exact ((HAx.out.below HB4.out).set4 (by omega) _ _ _ _).drop (by omega)
  · exact zo (zcv (zo HO4.out (by show w.heap.size+2<=_;simp;omega)) (by omega) _ _ _ _) (by omega)
  · exact zbx ((HW.out.1.trans (HBx.out.mono (by omega))).trans (HB4.out.mono (by omega))) (by omega) _ _ _ _
structure But (k g:Nat) (w w':World):Prop where
 os:w'.os=w.os
 tape:w'.tape=w.tape
 output:w'.output=w.output
 size:w.heap.size<=w'.heap.size
 block:∀ j,j<w.heap.size->j≠k->j≠g->w'.heap[j]? = w.heap[j]?
theorem But.refl (k g:Nat) (w:World):But k g w w:=⟨rfl,rfl,rfl,Nat.le_refl _,fun _ _ _ _=>rfl⟩
theorem But.trans {k g:Nat} {a b c:World} (h:But k g a b) (h':But k g b c):But k g a c :=
 ⟨h'.os.trans h.os,h'.tape.trans h.tape,h'.output.trans h.output,Nat.le_trans h.size h'.size,fun j hj a b=>(h'.block j (Nat.lt_of_lt_of_le hj h.size) a b).trans (h.block j hj a b)⟩
theorem But.of_below {k g:Nat} {a b:World} (h:Below a.heap.size a b):But k g a b:=⟨h.os,h.tape,h.output,h.size,fun j hj _ _=>h.block j hj⟩
theorem But.below {k g B:Nat} {a b:World} (h:But k g a b) (hB:B<=a.heap.size) (hk:B<=k) (hg:B<=g):Below B a b:=⟨h.os,h.tape,h.output,h.size,fun j hj=>h.block j (by omega) (by omega) (by omega)⟩
theorem But.own {k g:Nat} {a b:World} {base:Nat} {e:TypeId} {size n:Nat} {v:Value} {xs:List Value} (h:But k g a b) (ho:a.ownsRow base e size v n xs) (hk:v.ownBlock≠some k) (hg:v.ownBlock≠some g):b.ownsRow base e size v n xs:=by
 refine ⟨ho.1,?_⟩
 rcases ho.2 with h'|⟨r,cap,cur,h1,h2,h3,h4⟩
 · exact .inl h'
 · subst h1;exact .inr ⟨r,cap,cur,rfl,h2,(h.block r (Array.getElem?_eq_some_iff.1 h3).1 (fun e=>hk (by rw [e];rfl)) (fun e=>hg (by rw [e];rfl))).trans h3,h4⟩
structure PB (w:World) (k g B:Nat) (cc:Nat) (vg vu vf:Value) (p:Pl):Prop where
 blk:w.heap[k]? = some (.cells #[vg,vu,vf,.slice (some ⟨g,0,none⟩) p.ch.length cc] 34 (0,0))
 pa:PA w B vg vu vf (.slice (some ⟨g,0,none⟩) p.ch.length cc) p
theorem zav {w:World} {base k size:Nat} {e t:TypeId} {v:Value} {n:Nat} {xs:List Value} {cs:Array Value} (h:w.ownsRow base e size v n xs) (hk:w.heap[k]? = some (.cells cs t (0,0))) (hne:e≠t):v.ownBlock≠some k:=by
 rcases h.2 with ⟨rfl,_⟩|⟨g,cap,cur,rfl,_,hg,_⟩
 · simp [Value.ownBlock]
 · intro he;obtain rfl:g=k:=by simpa [Value.ownBlock] using he
   rw [hg] at hk;cases hk;exact hne rfl
theorem zaq {w:World} {base size g n cap:Nat} {e:TypeId} {xs:List Value} (h:w.ownsRow base e size (.slice (some ⟨g,0,none⟩) n cap) n xs):∃ cur,w.heap[g]? = some (.cells cur e (0,0))/\base<=g:=by
 rcases h.2 with ⟨h',_⟩|⟨g',cap',cur,h1,h2,h3,_⟩
 · cases h'
 · cases h1;exact ⟨cur,h3,h2⟩
theorem PB.keeps {w w':World} {k g B cc:Nat} {vg vu vf:Value} {p:Pl} (h:PB w k g B cc vg vu vf p) (hb:But k g w w') {base:Nat} {e:TypeId} {size n:Nat} {v:Value} {xs:List Value} (ho:w.ownsRow base e size v n xs) (h1:e≠34) (h2:e≠119):w'.ownsRow base e size v n xs:=by
 obtain ⟨cur,hg,-⟩:=zaq h.pa.cs;exact hb.own ho (zav ho h.blk h1) (zav ho hg h2)
def Fresh (vg vg':Value) (w:World):Prop:=∀ r,r<w.heap.size->vg.ownBlock≠some r->vg'.ownBlock≠some r
def GivesB (k g B cc:Nat) (v0:Value) (p':Pl) (h e:Int) (w:World) (en:Ending) (w':World):Prop :=
 en = .returned (.tuple #[.int .u64 h,.int .i64 e])/\(∃ vg vu vf,PB w' k g B cc vg vu vf p'/\Fresh v0 vg w)/\But k g w w'
theorem zt7 (k g B cc:Nat) (c:List Int) (vg vu vf:Value) (p:Pl) (n:Nat) (G:Int) (w:World) (hP:PB w k g B cc vg vu vf p) (ho:Ok n G p.st) (hf:p.st.free=[]) :
 Calls Tryz.prog 131 #[.pointer (some ⟨k,0,none⟩),cval c] w (GivesB k g B cc vg p 0 2 w):=by
 obtain ⟨x0,x1,x2,x3,y0,y1,y2,y3⟩:=block4 hP.blk;have hk:=lt_of_block hP.blk;have HP:=Lib.hid hP;have HO:=Lib.hid ho;have HF:=Lib.hid hf;clear hP ho hf;unfold cval;have ne:k≠w.heap.size:=by omega
 go_enter Tryz.func131,Tryz.ntmps131;go_wp2_with fail;refine (takeN HO.out (HP.out.pa.ar.below ((Below.refl _ w).alloc (Nat.le_refl _) _)) HF.out).mono ?_;rintro e w1 ⟨v1,v2,v3,rfl,hA,hb⟩;obtain ⟨pg1,cg1,pu1,cu1,pf1,cf1,rfl,rfl,rfl⟩:=hA.form;have HB:Hid (Below w.heap.size w w1):=Lib.hid (((Below.refl _ w).alloc (Nat.le_refl _) _).trans (hb.mono (by simp)));clear hA hb;go_wp2;go_ret2;have hB2:Below w.heap.size w (w1.alloc (.cells #[.slice pg1 p.st.gens.length cg1,.slice pu1 p.st.used.length cu1,.slice pf1 p.st.free.length cf1] 30)):=HB.out.alloc HB.out.size _;exact ⟨rfl,⟨vg,vu,vf,⟨(hB2.block k hk).trans HP.out.blk,HP.out.pa.below hB2⟩,fun r _ h=>h⟩,But.of_below hB2⟩
theorem za5 (w:World) {k j:Nat} (o:Nat) (x:Value) (h:j≠k):(w.setCell ⟨k,o,none⟩ x).heap[j]? = w.heap[j]?:=zw _ _ _ (Ne.symm h)
def s3 (w:World) (k:Nat) (x y z:Value):World:=((w.setCell ⟨k,0,none⟩ x).setCell ⟨k,1,none⟩ y).setCell ⟨k,2,none⟩ z
def s5 (w:World) (g o:Nat) (a b c d e:Value):World:=((((w.setCell ⟨g,o,none⟩ a).setCell ⟨g,o+1,none⟩ b).setCell ⟨g,o+2,none⟩ c).setCell ⟨g,o+3,none⟩ d).setCell ⟨g,o+4,none⟩ e
theorem zk5 (w:World) {k j:Nat} (x y z:Value) (h:j≠k):(s3 w k x y z).heap[j]? = w.heap[j]?:=by
 unfold s3;rw [za5 _ _ _ h,za5 _ _ _ h,za5 _ _ _ h]
theorem zk6 (w:World) {g j:Nat} (o:Nat) (a b c d e:Value) (h:j≠g):(s5 w g o a b c d e).heap[j]? = w.heap[j]?:=by
 unfold s5;rw [za5 _ _ _ h,za5 _ _ _ h,za5 _ _ _ h,za5 _ _ _ h,za5 _ _ _ h]
theorem zdl (w:World) (k:Nat) (x y z:Value):(s3 w k x y z).heap.size=w.heap.size:=by simp [s3]
theorem zna (w:World) (g o:Nat) (a b c d e:Value):(s5 w g o a b c d e).heap.size=w.heap.size:=by simp [s5]
theorem zer {w w':World} {base size n:Nat} {e:TypeId} {v:Value} {xs:List Value} (h:w.ownsRow base e size v n xs) (hb:∀ j,v.ownBlock=some j->w'.heap[j]? = w.heap[j]?):w'.ownsRow base e size v n xs:=by
 refine ⟨h.1,?_⟩
 rcases h.2 with h'|⟨r,cap,cur,h1,h2,h3,h4⟩
 · exact .inl h'
 · subst h1;exact .inr ⟨r,cap,cur,rfl,h2,(hb r rfl).trans h3,h4⟩
theorem zqh {w:World} {b g cap i:Nat} {l:List (List Int)} (c:List Int) (h:w.ownsRow b 119 5 (.slice (some ⟨g,0,none⟩) l.length cap) l.length (cvs l)) (hi:i<l.length) :
 (s5 w g (i*5) (.int .i64 c.length) (.int .u64 (it c 0)) (.int .u64 (it c 1)) (.int .u64 (it c 2)) (.int .u64 (it c 3))).ownsRow b 119 5 (.slice (some ⟨g,0,none⟩) l.length cap) l.length (cvs (l.set i c)):=by
 rw [<- zm9 l i c hi];exact (((((h.stored (i*5) (.int .i64 c.length)).1.stored (i*5+1) (.int .u64 (it c 0))).1.stored (i*5+2) (.int .u64 (it c 1))).1.stored (i*5+3) (.int .u64 (it c 2))).1.stored (i*5+4) (.int .u64 (it c 3))).1
theorem PA.len {w:World} {b:Nat} {vg vu vf vc:Value} {p:Pl} (h:PA w b vg vu vf vc p):(cvs p.ch).length=p.ch.length*5:=zck _
theorem zal {w:World} {b g n cap:Nat} {e:TypeId} {xs:List Value} (h:w.ownsRow b e 5 (.slice (some ⟨g,0,none⟩) n cap) n xs) (o:Nat):w.frozen? ⟨g,o,none⟩=false:=by
 obtain ⟨cur,hg,-⟩:=zaq h;simp [World.frozen?,hg]
theorem zsf (k g B cc:Nat) (c:List Int) (vg vu vf:Value) (p:Pl) (n i:Nat) (fr:List Int) (G:Int) (w:World) (hP:PB w k g B cc vg vu vf p) (ho:Ok n G p.st) (hG:G<=1099511627775) (hfr:p.st.free=fr++[(i:Int)]) (hi:i<n) (hn:p.ch.length=n) (hBk:B<=k) :
 Calls Tryz.prog 131 #[.pointer (some ⟨k,0,none⟩),cval c] w (GivesB k g B cc vg (p.tk i c) (hd i (p.st.gens.getD i 0)) 0 w):=by
 obtain ⟨x0,x1,x2,x3,y0,y1,y2,y3⟩:=block4 hP.blk;have hk:=lt_of_block hP.blk;obtain ⟨cur,hgb,hBg⟩:=zaq hP.pa.cs;have hg:=lt_of_block hgb;have hkg:k≠g:=fun e=>by
  rw [<- e,hP.blk] at hgb;cases hgb
 have hsm:=ho.small;have hgen:=ho.gen hi;have HP:=Lib.hid hP;have HO:=Lib.hid ho;have HFR:=Lib.hid hfr;have HGB:=Lib.hid hgb;clear hP ho hfr hgb;unfold cval;have HH:Hid (0<=hd i (p.st.gens.getD i 0)/\hd i (p.st.gens.getD i 0)<=18446744073709551615/\hd i (p.st.gens.getD i 0) % 16777216=i):=Lib.hid (by unfold hd;omega);obtain ⟨z,hz⟩:∃ z,p.st.gens.getD i 0=z:=⟨_,rfl⟩;have T:=fun w hA=>takeO (w:=w) (vg:=vg) (vu:=vu) (vf:=vf) (b:=B) HO.out hG hA HFR.out hi
 generalize hd i (p.st.gens.getD i 0)=h at *;have HT:=Lib.hid T;clear T hz;have ne:k≠w.heap.size:=by omega
 have ne2:g≠w.heap.size:=by omega
 go_enter Tryz.func131,Tryz.ntmps131;go_wp2_with fail;refine (HT.out _ (HP.out.pa.ar.below ((Below.refl _ w).alloc (Nat.le_refl _) _))).mono ?_;rintro e w1 ⟨v1,v2,v3,rfl,hA,hb⟩;obtain ⟨pg1,cg1,pu1,cu1,pf1,cf1,rfl,rfl,rfl⟩:=hA.form;have HB0:Hid (w1.heap[w.heap.size]? = some (.cells #[.int .i64 c.length,.int .u64 (it c 0),.int .u64 (it c 1),.int .u64 (it c 2),.int .u64 (it c 3)] 119 (0,0))):=Lib.hid ((hb.block _ (by simp)).trans (heap_alloc_new w _));have HB:Hid (Below w.heap.size w w1):=Lib.hid (((Below.refl _ w).alloc (Nat.le_refl _) _).trans (hb.mono (by simp)));have HA:Hid (Ar w1 (w.heap.size+1) (.slice pg1 (p.st.tk i).gens.length cg1) (.slice pu1 (p.st.tk i).used.length cu1) (.slice pf1 (p.st.tk i).free.length cf1) (p.st.tk i)):=Lib.hid (hA.drop (by simp));have hs:w.heap.size+1<=w1.heap.size:=by have:=hb.size;simpa using this
 clear hA hb;generalize hs1:(p.st.tk i).gens.length=l1 at *;generalize hs2:(p.st.tk i).used.length=l2 at *;generalize hs3:(p.st.tk i).free.length=l3 at *;obtain ⟨q0,q1,q2,q3,r0,r1,r2,r3⟩:=block4 ((HB.out.block k hk).trans HP.out.blk);have ne3:k≠w1.heap.size:=by omega
 have ne4:g≠w1.heap.size:=by omega
 have ne5:k<w1.heap.size:=by omega
 have ne6:w1.heap.size≠k:=by omega
 go_upto_region 5 with fail
 obtain ⟨V,hV⟩:∃ V,V=(s3 w1 k (.slice pg1 l1 cg1) (.slice pu1 l2 cu1) (.slice pf1 l3 cf1)).alloc (.cells #[.slice pg1 l1 cg1,.slice pu1 l2 cu1,.slice pf1 l3 cf1] 30):=⟨_,rfl⟩;have hVj:∀ j,j<w1.heap.size->j≠k->V.heap[j]? = w1.heap[j]?:=fun j h1 h2=>by
  rw [hV];exact (heap_alloc_old _ _ (by rw [zdl];exact h1)).trans (zk5 _ _ _ _ h2)
 have HVs:Hid (V.heap.size=w1.heap.size+1):=Lib.hid (by rw [hV,World.size_alloc,zdl]);have hVk:V.heap[k]? = some (.cells #[.slice pg1 l1 cg1,.slice pu1 l2 cu1,.slice pf1 l3 cf1,.slice (some ⟨g,0,none⟩) p.ch.length cc] 34 (0,0)):=by
  rw [hV];refine (heap_alloc_old _ _ (by rw [zdl];omega)).trans ?_;have:w1.heap[k]? = some (.cells #[vg,vu,vf,.slice (some ⟨g,0,none⟩) p.ch.length cc] 34 (0,0)):=(HB.out.block k hk).trans HP.out.blk;simp [s3,World.setCell,Array.getElem?_modify,this]
 have HVA:Hid (Ar V (w.heap.size+1) (.slice pg1 l1 cg1) (.slice pu1 l2 cu1) (.slice pf1 l3 cf1) (p.st.tk i)):=Lib.hid (by
  have h0:∀ (e:TypeId) (v:Value) (m:Nat) (xs:List Value),w1.ownsRow (w.heap.size+1) e 1 v m xs->V.ownsRow (w.heap.size+1) e 1 v m xs:=fun e v m xs ho=>zer ho (fun j hj=>hVj j (ho.lt j hj).2 (by have:=(ho.lt j hj).1;omega))
  exact ⟨h0 _ _ _ _ HA.out.g,h0 _ _ _ _ HA.out.u,h0 _ _ _ _ HA.out.f⟩)
 have HVC:Hid (V.ownsRow B 119 5 (.slice (some ⟨g,0,none⟩) p.ch.length cc) p.ch.length (cvs p.ch)):=Lib.hid (zer (own_below HP.out.pa.cs HB.out) (fun j hj=>by
  obtain rfl:g=j:=by simpa [Value.ownBlock] using hj
  exact hVj g (by omega) (Ne.symm hkg)))
 have HVX:Hid (V.heap[w.heap.size]? = some (.cells #[.int .i64 c.length,.int .u64 (it c 0),.int .u64 (it c 1),.int .u64 (it c 2),.int .u64 (it c 3)] 119 (0,0))):=Lib.hid ((hVj _ (by omega) (Ne.symm ne)).trans HB0.out);have HVB:Hid (But k g w V):=Lib.hid ⟨by rw [hV];exact HB.out.os,by rw [hV];exact HB.out.tape,by rw [hV];exact HB.out.output,by have:=HVs.out;omega,fun j h1 h2 h3=>(hVj j (by omega) h2).trans (HB.out.block j h1)⟩;have HVK:=Lib.hid hVk;have e0:(s3 w1 k (.slice pg1 l1 cg1) (.slice pu1 l2 cu1) (.slice pf1 l3 cf1)).alloc (.cells #[.slice pg1 l1 cg1,.slice pu1 l2 cu1,.slice pf1 l3 cf1] 30)=V:=hV.symm;unfold s3 at e0;rw [e0];clear e0 hV hVj hVk;clear q0 q1 q2 q3 r0 r1 r2 r3 x0 x1 x2 x3 y0 y1 y2 y3;obtain ⟨q0,q1,q2,q3,-⟩:=block4 HVK.out;obtain ⟨⟨b0,b1,b2,b3,b4⟩,-⟩:=block5 HVX.out;obtain ⟨m0,m1,m2,m3,m4⟩:=zgc (i:=i) HVC.out (by omega);have f0:=zal HVC.out (i*5);have f1:=zal HVC.out (i*5+1);have f2:=zal HVC.out (i*5+2);have f3:=zal HVC.out (i*5+3);have f4:=zal HVC.out (i*5+4);have i0:(0:Int)<=(i:Int):=by omega
 have i1:(i:Int)<(p.ch.length:Int):=by omega
 have HIX:=Lib.hid HH.out.2.2;have hgk:g≠k:=Ne.symm hkg
 go_region_held3 (fun w'=>w'.cell? ⟨k,3,none⟩=some (.slice (some ⟨g,0,none⟩) p.ch.length cc)/\w'.cell? ⟨w.heap.size,0,none⟩=some (.int .i64 c.length)/\w'.cell? ⟨w.heap.size,1,none⟩=some (.int .u64 (it c 0))/\w'.cell? ⟨w.heap.size,2,none⟩=some (.int .u64 (it c 1))/\w'.cell? ⟨w.heap.size,3,none⟩=some (.int .u64 (it c 2))/\w'.cell? ⟨w.heap.size,4,none⟩=some (.int .u64 (it c 3)))
  (go_keep)
  (first
    | (go_at_call 21;refine (zap h _ HH.out.1 HH.out.2.1).mono ?_;rw [HIX.out];rintro e w' ⟨rfl,rfl⟩))
 go_wp2;go_ret2;obtain ⟨V5,hV5⟩:∃ V5,V5=s5 V g (i*5) (.int .i64 c.length) (.int .u64 (it c 0)) (.int .u64 (it c 1)) (.int .u64 (it c 2)) (.int .u64 (it c 3)):=⟨_,rfl⟩;have hc:=zqh (i:=i) c HVC.out (by omega);have hj:∀ j,j≠g->V5.heap[j]? = V.heap[j]?:=fun j h=>by rw [hV5];exact zk6 _ _ _ _ _ _ _ h
 have hsz:V5.heap.size=V.heap.size:=by rw [hV5];exact zna _ _ _ _ _ _ _ _
 have hfin:PB V5 k g B cc (.slice pg1 l1 cg1) (.slice pu1 l2 cu1) (.slice pf1 l3 cf1) (p.tk i c)/\But k g w V5:=by
  refine ⟨⟨?_,⟨?_,?_⟩⟩,⟨?_,?_,?_,?_,?_⟩⟩
  · rw [hj k hkg];simpa [Pl.tk] using HVK.out
  · have h0:∀ (e:TypeId) (v:Value) (m:Nat) (xs:List Value),V.ownsRow (w.heap.size+1) e 1 v m xs->V5.ownsRow B e 1 v m xs:=fun e v m xs ho=>zo (zer ho (fun j e=>hj j (by have:=(ho.lt j e).1;omega))) (by omega)
    exact ⟨h0 _ _ _ _ HVA.out.g,h0 _ _ _ _ HVA.out.u,h0 _ _ _ _ HVA.out.f⟩
  · rw [<- hV5] at hc;simpa [Pl.tk] using hc
  · rw [hV5];exact HVB.out.os
  · rw [hV5];exact HVB.out.tape
  · rw [hV5];exact HVB.out.output
  · rw [hsz];exact HVB.out.size
  · exact fun j h1 h2 h3=>(hj j h3).trans (HVB.out.block j h1 h2 h3)
 have hfin':PB V5.drew k g B cc (.slice pg1 l1 cg1) (.slice pu1 l2 cu1) (.slice pf1 l3 cf1) (p.tk i c)/\But k g w V5.drew:=⟨⟨hfin.1.blk,hfin.1.pa.below (Below.refl _ _).drew⟩,⟨hfin.2.os,hfin.2.tape,hfin.2.output,hfin.2.size,hfin.2.block⟩⟩;clear hfin hc hj hsz;subst hV5;unfold s5 at hfin';exact ⟨rfl,⟨_,_,_,hfin'.1,fun r h1 _ h2=>by have:=(HVA.out.g.lt r h2).1;omega⟩,hfin'.2⟩
def U64 (l:List Int):Prop:=∀ h∈l,0<=h/\h<=18446744073709551615
def deadF (k:Nat):Value:=.func (.func 110) #[] #[.pointer (some ⟨k,0,none⟩)]
theorem zsg (k:Nat) (h:Int) (vg vu vf vc:Value) (p:Pl) (b n:Nat) (G:Int) (w:World) (hk:w.heap[k]? = some (.cells #[vg,vu,vf,vc] 34 (0,0))) (hA:PA w b vg vu vf vc p) (ho:Ok n G p.st) (h0:0<=h) (h1:h<=18446744073709551615) :
 Calls Tryz.prog 110 #[.int .u64 h,.pointer (some ⟨k,0,none⟩)] w (GivesV (.bool (!p.st.lv h)) w):=by
 obtain ⟨x0,x1,x2,x3,-⟩:=block4 hk;have HA:=Lib.hid hA;have HO:=Lib.hid ho;clear hA ho hk;go_enter Tryz.func110,Tryz.ntmps110;go_wp2_with fail;refine (liveO HO.out HA.out.ar h0 h1).mono ?_;rintro e w1 ⟨rfl,hb⟩;have HB:=Lib.hid hb;clear hb;go_wp2;go_ret;exact ⟨rfl,HB.out⟩
theorem zqi {f:Int->Bool} {l:List Int} {k:Nat} (h1:k<l.length) (h2:f (l.getD k 0)=false):l.all f=false:=by
 rw [List.all_eq_false];refine ⟨l.getD k 0,by rw [getD_at 0 h1];exact List.getElem_mem _,fun h=>by rw [h2] at h;cases h⟩
theorem zoj (k:Nat) (row:List Int) (vr:Value) (b':Nat) (vg vu vf vc:Value) (p:Pl) (b n:Nat) (G:Int) (w:World) (hk:w.heap[k]? = some (.cells #[vg,vu,vf,vc] 34 (0,0))) (hA:PA w b vg vu vf vc p) (ho:Ok n G p.st)
 (hR:w.ownsRow b' 37 1 vr row.length (gvs row)) (hU:U64 row) (hl:row.length<=1000) :
 Calls Tryz.prog 148 #[vr,deadF k] w fun e w'=>∃ j:Int,e = .returned (.int .i64 j)/\(decide (0<=j) = !row.all p.st.lv)/\Below w.heap.size w w':=by
 obtain ⟨pr,cr,rfl,_,_,_⟩:=zh hR;have HA:=Lib.hid hA;have HO:=Lib.hid ho;have HR:=Lib.hid hR;have HU:=Lib.hid hU;have HK:=Lib.hid hk;clear hA hR hU ho hk;obtain ⟨m,hm⟩:∃ m,row.length=m:=⟨_,rfl⟩;have HN:=Lib.hid hm;rw [hm] at hl HR ⊢;clear hm;unfold deadF;go_enter Tryz.func148,Tryz.ntmps148;go_wp2
 go_loopw [8] (fun i wr=>∃ (q:Nat),q<=m/\i = .int .i64 q/\Hid ((row.take q).all p.st.lv=true)/\Hid (Below w.heap.size w wr)) (fun i _=>m - (intOf i).toNat)
 case atStart => exact ⟨0,Nat.zero_le _,rfl,Lib.hid (by simp),Lib.hid (Below.refl _ _)⟩
 case round =>
  obtain ⟨q,hq,rfl,HT,HB⟩:=hrel;have HAr:=Lib.hid (HA.out.below HB.out);have HRr:=Lib.hid (own_below HR.out HB.out);have HKr:=Lib.hid ((HB.out.block k (lt_of_block HK.out)).trans HK.out)
  by_cases hlt:q<m
  · have k0:(0:Int)<=(q:Int):=by omega
    have k1:(q:Int)<(m:Int):=by omega
    obtain ⟨gr,rfl,_,hgr⟩:=zag HRr.out (by omega);have cr0:=zau HRr.out hlt;have hql:q<row.length:=by rw [HN.out];exact hlt
    have HX:Hid (0<=row.getD q 0/\row.getD q 0<=18446744073709551615):=Lib.hid (HU.out _ (by rw [getD_at 0 hql];exact List.getElem_mem _));have HS:Hid ((row.take (q+1)).all p.st.lv=((row.take q).all p.st.lv && p.st.lv (row.getD q 0))):=Lib.hid (by rw [zaa hql,getD_at 0 hql,List.all_append,List.all_cons,List.all_nil,Bool.and_true]);have HF:Hid (p.st.lv (row.getD q 0)=false->row.all p.st.lv=false):=Lib.hid (fun h=>zqi hql h);generalize row.getD q 0=h at *;go_wp2_with fail;refine (zsg k h vg vu vf vc p b n G wr HKr.out HAr.out HO.out HX.out.1 HX.out.2).mono ?_;rintro e w1 ⟨rfl,hb1⟩;have HB1:Hid (Below w.heap.size w w1):=Lib.hid (HB.out.trans (hb1.mono HB.out.size));clear hb1
    rcases Bool.eq_false_or_eq_true (p.st.lv h) with hv|hv
    · rw [hv];have HV:=Lib.hid hv;clear hv;go_wp2;go_roundw
      case rel => exact ⟨q+1,by omega,by go_num,Lib.hid (by rw [HS.out,HT.out,HV.out];rfl),HB1⟩
      case measure => simp [intOf]<;>omega
    · rw [hv];have HV:=Lib.hid (HF.out hv);clear hv;go_wp2;go_ret;exact ⟨_,rfl,by rw [HV.out];simp,HB1.out⟩
  · obtain rfl:q=m:=by omega
    have e:row.take q=row:=List.take_of_length_le (by rw [HN.out];exact Nat.le_refl _);go_wp2;go_ret;have:=HT.out;rw [e] at this;exact ⟨_,rfl,by rw [this];rfl,HB.out⟩
theorem zj5 (k:Nat) (row:List Int) (vr:Value) (b':Nat) (vg vu vf vc:Value) (p:Pl) (b n:Nat) (G:Int) (w:World) (hk:w.heap[k]? = some (.cells #[vg,vu,vf,vc] 34 (0,0))) (hA:PA w b vg vu vf vc p) (ho:Ok n G p.st)
 (hR:w.ownsRow b' 37 1 vr row.length (gvs row)) (hU:U64 row) (hl:row.length<=1000) :
 Calls Tryz.prog 109 #[vr,deadF k] w (GivesV (.bool (!row.all p.st.lv)) w):=by
 have HC:=Lib.hid (zoj k row vr b' vg vu vf vc p b n G w hk hA ho hR hU hl);clear hk hA ho hR;go_enter Tryz.func109,Tryz.ntmps109;go_wp2_with fail;refine HC.out.mono ?_;rintro e w1 ⟨j,rfl,hj,hb⟩;have HJ:=Lib.hid hj;have HB:=Lib.hid hb;clear hj hb;go_wp2
 all_goals go_ret
 all_goals exact ⟨ze (by rw [<- HJ.out]),HB.out⟩
end Go.Proofs.YtdmecdjfbpblgaaGreatDoor.V
