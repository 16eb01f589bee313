/-
  What each step of apply does: its checks, one behind the other, then its change.
-/
import Derived.Test.YtdmecdjfbpblgaaGreatDoorQG14
import Derived.Test.YtdmecdjfbpblgaaGreatDoorQG15
import Derived.Test.YtdmecdjfbpblgaaGreatDoorQG08
namespace Go.Proofs.YtdmecdjfbpblgaaGreatDoor
set_option maxRecDepth 100000
set_option maxHeartbeats 32000000
open Go.ChangeShapes Go.WideShapes Go.ChangeAt Go.RowKit
set_option linter.unusedVariables false
set_option linter.unusedSimpArgs false
def firstE:List Int->Int
 | []=>0
 | e::l=>if e=0 then firstE l else e
theorem zm {b:Bool} {e:Int} {l:List Int} (he:e≠0):firstE (chkE b e::l)=if b=true then firstE l else e:=by
 cases b<;>simp [firstE,chkE,he]
theorem zr {p q:Prop} [Decidable p] [Decidable q] {a x y:Int} (h:p ↔ ¬ q) (hxy:¬ p->x=y):(if p then a else x)=(if q then y else a):=by
 by_cases hp:p
 · rw [if_pos hp,if_neg (h.1 hp)]
 · rw [if_neg hp,if_pos (Decidable.byContradiction fun hq=>hp (h.2 hq)),hxy hp]
theorem zje:∀ {l:List Int} {j:Nat},j<l.length->(∀ i,i<j->l.getD i 0=0)->l.getD j 0≠0->firstE l=l.getD j 0
 | [],j,h,_,_=>absurd h (by simp)
 | e::l,0,_,_,h=>by rw [firstE,if_neg (by simpa using h)];rfl
 | e::l,j+1,h,h0,h1=>by
   have he:e=0:=h0 0 (by omega);rw [firstE,if_pos he];exact zje (by simpa using h) (fun i hi=>by have:=h0 (i+1) (by omega);simpa using this) h1
theorem zak:∀ {l:List Int},(∀ j,j<l.length->l.getD j 0=0)->firstE l=0
 | [],_=>rfl
 | e::l,h=>by
   have he:e=0:=h 0 (by simp);rw [firstE,if_pos he];exact zak (fun j hj=>by have:=h (j+1) (by simpa using hj);simpa using this)
theorem chk0 {b:Bool} {e:Int} (he:e≠0) (h:chkE b e=0):b=true:=by
 cases b
 · exact absurd h he
 · rfl
def PostC (base g:Nat) (G:List Mn) (o:Ops.Po) (V:World) (v:Value) (w':World):Prop :=
 ∃ g' cap' G',v = .slice (some ⟨g',0,none⟩) G'.length cap'/\OF w' base (.slice (some ⟨g',0,none⟩) G'.length cap') G'/\G'.map core=(doP G o).map core/\Chg V w' g G g' G'
def StepRes (base g cap:Nat) (G:List Mn) (o:Ops.Po) (V:World) (e:Ending) (w':World):Prop :=
 (errP G o≠0/\e = .returned (.tuple #[.slice (some ⟨g,0,none⟩) G.length cap,.int .i64 (errP G o)])/\Below V.heap.size V w') \/
 (errP G o=0/\∃ v,e = .returned (.tuple #[v,.int .i64 0])/\PostC base g G o V v w')
theorem Chg.ahead {a b c:World} {g g':Nat} {G G':List Mn} (h:Below a.heap.size a b) (k:Chg b c g G g' G'):Chg a c g G g' G' :=
 Chg.trans (⟨h.os,h.tape,h.output,h.size,fun i hi _=>h.block i hi,fun _ ho=>.inl ho⟩:Chg a b g G g G) k
theorem zc7 {base g cap:Nat} {G:List Mn} {o:Ops.Po} {V:World} {L:List Int} (hE:errP G o=firstE L) {n:Nat} (hn:n=L.length) {e:Ending} {w':World}
 (h:(∃ j,j<n/\(∀ i,i<j->L.getD i 0=0)/\L.getD j 0≠0/\e = .returned (.tuple #[.slice (some ⟨g,0,none⟩) G.length cap,.int .i64 (L.getD j 0)])/\Below V.heap.size V w')\/((∀ j,j<n->L.getD j 0=0)/\∃ v V',Below V.heap.size V V'/\e = .returned (.tuple #[v,.int .i64 0])/\PostC base g G o V' v w')):StepRes base g cap G o V e w':=by
 subst hn
 rcases h with ⟨j,h1,h2,h3,h4,h5⟩|⟨h1,v,V',h2,h3,h4⟩
 · have:=zje h1 h2 h3;refine .inl ⟨by rw [hE,this];exact h3,by rw [hE,this];exact h4,h5⟩
 · obtain ⟨g',cap',G',a1,a2,a3,a4⟩:=h4;exact .inr ⟨by rw [hE];exact zak h1,v,h3,g',cap',G',a1,a2,a3,Chg.ahead h2 a4⟩
theorem zen {base g cap:Nat} {G G':List Mn} {o:Ops.Po} {V w':World} (h1:OF w' base (.slice (some ⟨g,0,none⟩) G.length cap) G') (h2:G'.map core=(doP G o).map core) (h3:Chg V w' g G g G') (hl:(doP G o).length=G.length):PostC base g G o V (.slice (some ⟨g,0,none⟩) G.length cap) w':=by
 have e:G'.length=G.length:=by rw [zbp h2,hl]
 exact ⟨g,cap,G',by rw [e],by rw [e];exact h1,h2,h3⟩
theorem zm4 {F:List Mn} (h:mayB F=true):Sz F :=
 ⟨by have:=(zaj h).1;omega,fun m hm=>by have:=zbh h m hm;omega,fun m hm=>by
  obtain ⟨a,b,c⟩:=zm0 h m hm;exact ⟨by omega,by omega,fun x hx=>by have:=c x hx;omega⟩⟩
theorem zcb {o:Ops.Po} (h:Ops.mayO o=true):o.name.size<=255/\o.text.size<=255:=by
 simp only [Ops.mayO,Bool.and_eq_true,decide_eq_true_eq] at h;exact h.2.2.2.2.2.2
theorem zp5 {F:List Mn} (h:mayB F=true):∀ k∈kidsOf F 0,∃ j:Nat,k=j/\j<F.length:=by
 obtain ⟨h1,-,h3,-⟩:=zv.1 h;intro k hk;obtain ⟨j,e,hj,-⟩:=(h3 0 h1.1).2 k hk;exact ⟨j,e,hj⟩
theorem zkz {w:World} {n1 kk:Nat} {l:List Int} (h:IdsAt w n1 kk l):∃ gk,w.heap[kk]? = some (.cells #[.slice (some ⟨gk,0,none⟩) l.length l.length] 28 (0,0))/\IR w (some ⟨gk,0,none⟩) l:=by
 obtain ⟨gk,h1,h2,-,-⟩:=h;refine ⟨gk,h1,fun j hj=>⟨gk,0,rfl,lt_of_block h2,?_⟩⟩;simp [World.cell?,h2,hj]
theorem err1 {G:List Mn} {o:Ops.Po} (hm:Ops.mayO o=true) (hk:o.kind=1):errP G o=firstE [chkE (nm o.name) 74,chkE (decide (G.length<60)) 2]:=by
 unfold errP;rw [if_neg (by simp [hm]),if_pos hk];unfold newE;rw [zm (by decide)];refine zr ?_ (fun _=>?_)
 · first|(simp;done)|(simp;omega)|(simp [eq_comm];done)|(simp;constructor<;>intro h<;>omega)
 rw [zm (by decide)];refine zr ?_ (fun _=>?_)
 · first|(simp;done)|(simp;omega)|(simp [eq_comm];done)|(simp;constructor<;>intro h<;>omega)
 rfl
theorem step1 {base g cap n1 kc kd:Nat} {V:World} (G:List Mn) (o:Ops.Po) {kx:Nat} (hx:KxAt V n1 kx 1) (hK:KindAt V n1 kc kd (addF kx) [(qF 82,74),(qF 83,2)]) (hO:OF V base (.slice (some ⟨g,0,none⟩) G.length cap) G) (hG:mayB G=true) (hm:Ops.mayO o=true) (hk:o.kind=1) :
 Calls Tryz.prog 133 #[.slice (some ⟨g,0,none⟩) G.length cap,Ops.opv o,.pointer (some ⟨kc,0,none⟩),.pointer (some ⟨kd,0,none⟩)] V (StepRes base g cap G o V):=by
 obtain ⟨gc,kq,ke,hS,-,-,-,hc⟩:=hK;have hE:=err1 (G:=G) hm hk;have hl:=(zaj hG).1;have hsz:=zcb hm;have hNode:chkE (isB G o.id) 70=0->∃ i:Nat,o.id=i/\i<G.length:=fun h=>zbc (chk0 (by decide) h)
 refine (zhj kx kc kd gc 2 kq ke (fun j=>[chkE (nm o.name) 74,chkE (decide (G.length<60)) 2].getD j 0) (some ⟨g,0,none⟩) G.length cap o (PostC base g G o) V (by omega) hS (fun j hj hp W hb=>?_) (fun ha W hb=>?_)).mono (fun e w' h=>zc7 hE rfl h)
 · match j,hj,hp with
   | 0,_,hp=>exact zgz _ _ _ _ G cap o W ((hc 0 (by simp)).1.below hb) (by omega)
   | 1,_,hp=>exact zf4 _ _ _ _ G cap o W ((hc 1 (by simp)).1.below hb) (by omega)
   | j+2,hj,_=>exact absurd hj (by omega)
 · have he:errP G o=0:=by rw [hE];exact zak (fun j hj=>ha j (by simpa using hj))
   refine (zfb kx 1 base g cap G o W (hO.below hb) (by omega) (hx.agr (Agr.below hb)).1 (by simp [I64])).mono ?_;rintro e w' ⟨g',cap',rfl,h1,h2⟩;have hd:doP G o=addP G 1 o.name o.text:=by unfold doP;rw [if_pos (by omega),hk]
   have hl2:(addP G 1 o.name o.text).length=G.length+1:=by simp [addP]
   exact ⟨_,rfl,g',cap',_,by rw [hl2],by rw [hl2];exact h1,by rw [hd],h2⟩
theorem err2 {G:List Mn} {o:Ops.Po} (hm:Ops.mayO o=true) (hk:o.kind=2):errP G o=firstE [chkE (decide (o.text.size<=60)) 74,chkE (decide (G.length<60)) 2]:=by
 unfold errP;rw [if_neg (by simp [hm]),if_neg (by omega),if_pos (by omega)];unfold newE;rw [zm (by decide)];refine zr ?_ (fun _=>?_)
 · first|(simp;done)|(simp;omega)|(simp [eq_comm];done)|(simp;constructor<;>intro h<;>omega)
 rw [zm (by decide)];refine zr ?_ (fun _=>?_)
 · first|(simp;done)|(simp;omega)|(simp [eq_comm];done)|(simp;constructor<;>intro h<;>omega)
 rfl
theorem step2 {base g cap n1 kc kd:Nat} {V:World} (G:List Mn) (o:Ops.Po) {kx:Nat} (hx:KxAt V n1 kx 2) (hK:KindAt V n1 kc kd (addF kx) [(qF 84,74),(qF 83,2)]) (hO:OF V base (.slice (some ⟨g,0,none⟩) G.length cap) G) (hG:mayB G=true) (hm:Ops.mayO o=true) (hk:o.kind=2) :
 Calls Tryz.prog 133 #[.slice (some ⟨g,0,none⟩) G.length cap,Ops.opv o,.pointer (some ⟨kc,0,none⟩),.pointer (some ⟨kd,0,none⟩)] V (StepRes base g cap G o V):=by
 obtain ⟨gc,kq,ke,hS,-,-,-,hc⟩:=hK;have hE:=err2 (G:=G) hm hk;have hl:=(zaj hG).1;have hsz:=zcb hm;have hNode:chkE (isB G o.id) 70=0->∃ i:Nat,o.id=i/\i<G.length:=fun h=>zbc (chk0 (by decide) h)
 refine (zhj kx kc kd gc 2 kq ke (fun j=>[chkE (decide (o.text.size<=60)) 74,chkE (decide (G.length<60)) 2].getD j 0) (some ⟨g,0,none⟩) G.length cap o (PostC base g G o) V (by omega) hS (fun j hj hp W hb=>?_) (fun ha W hb=>?_)).mono (fun e w' h=>zc7 hE rfl h)
 · match j,hj,hp with
   | 0,_,hp=>exact zcz _ _ _ _ G cap o W ((hc 0 (by simp)).1.below hb) (by omega)
   | 1,_,hp=>exact zf4 _ _ _ _ G cap o W ((hc 1 (by simp)).1.below hb) (by omega)
   | j+2,hj,_=>exact absurd hj (by omega)
 · have he:errP G o=0:=by rw [hE];exact zak (fun j hj=>ha j (by simpa using hj))
   refine (zfb kx 2 base g cap G o W (hO.below hb) (by omega) (hx.agr (Agr.below hb)).1 (by simp [I64])).mono ?_;rintro e w' ⟨g',cap',rfl,h1,h2⟩;have hd:doP G o=addP G 2 o.name o.text:=by unfold doP;rw [if_pos (by omega),hk]
   have hl2:(addP G 2 o.name o.text).length=G.length+1:=by simp [addP]
   exact ⟨_,rfl,g',cap',_,by rw [hl2],by rw [hl2];exact h1,by rw [hd],h2⟩
theorem err3 {G:List Mn} {o:Ops.Po} (hm:Ops.mayO o=true) (hk:o.kind=3):errP G o=firstE [chkE (decide (o.text.size<=60)) 74,chkE (decide (G.length<60)) 2]:=by
 unfold errP;rw [if_neg (by simp [hm]),if_neg (by omega),if_pos (by omega)];unfold newE;rw [zm (by decide)];refine zr ?_ (fun _=>?_)
 · first|(simp;done)|(simp;omega)|(simp [eq_comm];done)|(simp;constructor<;>intro h<;>omega)
 rw [zm (by decide)];refine zr ?_ (fun _=>?_)
 · first|(simp;done)|(simp;omega)|(simp [eq_comm];done)|(simp;constructor<;>intro h<;>omega)
 rfl
theorem step3 {base g cap n1 kc kd:Nat} {V:World} (G:List Mn) (o:Ops.Po) {kx:Nat} (hx:KxAt V n1 kx 3) (hK:KindAt V n1 kc kd (addF kx) [(qF 84,74),(qF 83,2)]) (hO:OF V base (.slice (some ⟨g,0,none⟩) G.length cap) G) (hG:mayB G=true) (hm:Ops.mayO o=true) (hk:o.kind=3) :
 Calls Tryz.prog 133 #[.slice (some ⟨g,0,none⟩) G.length cap,Ops.opv o,.pointer (some ⟨kc,0,none⟩),.pointer (some ⟨kd,0,none⟩)] V (StepRes base g cap G o V):=by
 obtain ⟨gc,kq,ke,hS,-,-,-,hc⟩:=hK;have hE:=err3 (G:=G) hm hk;have hl:=(zaj hG).1;have hsz:=zcb hm;have hNode:chkE (isB G o.id) 70=0->∃ i:Nat,o.id=i/\i<G.length:=fun h=>zbc (chk0 (by decide) h)
 refine (zhj kx kc kd gc 2 kq ke (fun j=>[chkE (decide (o.text.size<=60)) 74,chkE (decide (G.length<60)) 2].getD j 0) (some ⟨g,0,none⟩) G.length cap o (PostC base g G o) V (by omega) hS (fun j hj hp W hb=>?_) (fun ha W hb=>?_)).mono (fun e w' h=>zc7 hE rfl h)
 · match j,hj,hp with
   | 0,_,hp=>exact zcz _ _ _ _ G cap o W ((hc 0 (by simp)).1.below hb) (by omega)
   | 1,_,hp=>exact zf4 _ _ _ _ G cap o W ((hc 1 (by simp)).1.below hb) (by omega)
   | j+2,hj,_=>exact absurd hj (by omega)
 · have he:errP G o=0:=by rw [hE];exact zak (fun j hj=>ha j (by simpa using hj))
   refine (zfb kx 3 base g cap G o W (hO.below hb) (by omega) (hx.agr (Agr.below hb)).1 (by simp [I64])).mono ?_;rintro e w' ⟨g',cap',rfl,h1,h2⟩;have hd:doP G o=addP G 3 o.name o.text:=by unfold doP;rw [if_pos (by omega),hk]
   have hl2:(addP G 3 o.name o.text).length=G.length+1:=by simp [addP]
   exact ⟨_,rfl,g',cap',_,by rw [hl2],by rw [hl2];exact h1,by rw [hd],h2⟩
theorem err4 {G:List Mn} {o:Ops.Po} (hm:Ops.mayO o=true) (hk:o.kind=4):errP G o=firstE [chkE (isB G o.id) 70,chkE (isB G o.dst) 70,chkE (o.id != 0) 71,chkE (decide (o.dst=0\/kindOf G o.dst.toNat=1)) 71,chkE (decide (o.dst≠0) || docMay G o.id.toNat) 71,chkE (!belowB G o.id o.dst) 72,chkE (decide (0<=o.pos/\o.pos<=others G o.id o.dst)) 73]:=by
 unfold errP;rw [if_neg (by simp [hm]),if_neg (by omega),if_neg (by omega),if_pos hk];unfold insE;rw [zm (by decide)];refine zr ?_ (fun _=>?_)
 · first|(simp;done)|(simp;omega)|(simp [eq_comm];done)|(simp;constructor<;>intro h<;>omega)
 rw [zm (by decide)];refine zr ?_ (fun _=>?_)
 · first|(simp;done)|(simp;omega)|(simp [eq_comm];done)|(simp;constructor<;>intro h<;>omega)
 rw [zm (by decide)];refine zr ?_ (fun _=>?_)
 · first|(simp;done)|(simp;omega)|(simp [eq_comm];done)|(simp;constructor<;>intro h<;>omega)
 rw [zm (by decide)];refine zr ?_ (fun _=>?_)
 · first|(simp;done)|(simp;omega)|(simp [eq_comm];done)|(simp;constructor<;>intro h<;>omega)
 rw [zm (by decide)];refine zr ?_ (fun _=>?_)
 · first|(simp;done)|(simp;omega)|(simp [eq_comm];done)|(simp;constructor<;>intro h<;>omega)
 rw [zm (by decide)];refine zr ?_ (fun _=>?_)
 · first|(simp;done)|(simp;omega)|(simp [eq_comm];done)|(simp;constructor<;>intro h<;>omega)
 rw [zm (by decide)];refine zr ?_ (fun _=>?_)
 · first|(simp;done)|(simp;omega)|(simp [eq_comm];done)|(simp;constructor<;>intro h<;>omega)
 rfl
theorem step4 {base g cap n1 kc kd:Nat} {V:World} (G:List Mn) (o:Ops.Po) (hK:KindAt V n1 kc kd (qF 85) [(qF 86,70),(qF 87,70),(qF 88,71),(qF 89,71),(qF 90,71),(qF 91,72),(qF 92,73)]) (hO:OF V base (.slice (some ⟨g,0,none⟩) G.length cap) G) (hG:mayB G=true) (hm:Ops.mayO o=true) (hk:o.kind=4) :
 Calls Tryz.prog 133 #[.slice (some ⟨g,0,none⟩) G.length cap,Ops.opv o,.pointer (some ⟨kc,0,none⟩),.pointer (some ⟨kd,0,none⟩)] V (StepRes base g cap G o V):=by
 obtain ⟨gc,kq,ke,hS,-,-,-,hc⟩:=hK;have hE:=err4 (G:=G) hm hk;have hl:=(zaj hG).1;have hsz:=zcb hm;have hNode:chkE (isB G o.id) 70=0->∃ i:Nat,o.id=i/\i<G.length:=fun h=>zbc (chk0 (by decide) h)
 have hNode2:chkE (isB G o.dst) 70=0->∃ i:Nat,o.dst=i/\i<G.length:=fun h=>zbc (chk0 (by decide) h)
 refine (zmb kc kd gc 7 kq ke (fun j=>[chkE (isB G o.id) 70,chkE (isB G o.dst) 70,chkE (o.id != 0) 71,chkE (decide (o.dst=0\/kindOf G o.dst.toNat=1)) 71,chkE (decide (o.dst≠0) || docMay G o.id.toNat) 71,chkE (!belowB G o.id o.dst) 72,chkE (decide (0<=o.pos/\o.pos<=others G o.id o.dst)) 73].getD j 0) (some ⟨g,0,none⟩) G.length cap o (PostC base g G o) V (by omega) hS (fun j hj hp W hb=>?_) (fun ha W hb=>?_)).mono (fun e w' h=>zc7 hE rfl h)
 · match j,hj,hp with
   | 0,_,hp=>exact zch _ _ _ _ G cap o W ((hc 0 (by simp)).1.below hb) (by omega)
   | 1,_,hp=>exact znu _ _ _ _ G cap o W ((hc 1 (by simp)).1.below hb) (by omega)
   | 2,_,hp=>exact zg1 _ _ _ _ G cap o W ((hc 2 (by simp)).1.below hb)
   | 3,_,hp =>
     obtain ⟨i,hi,hil⟩:=hNode (hp 0 (by omega));obtain ⟨d,hd,hdl⟩:=hNode2 (hp 1 (by omega));have hdn:o.dst.toNat=d:=by rw [hd];rfl
     have hin:o.id.toNat=i:=by rw [hi];rfl
     have h:=zh6 _ _ _ _ G cap o W ((hc 3 (by simp)).1.below hb) (hO.below hb).fr (by omega) d hd hdl;show Calls _ _ _ _ (GivesV (.int .i64 (chkE (decide (o.dst=0\/kindOf G o.dst.toNat=1)) 71)) _);rw [hdn];exact h
   | 4,_,hp =>
     obtain ⟨i,hi,hil⟩:=hNode (hp 0 (by omega));have hin:o.id.toNat=i:=by rw [hi];rfl
     have h:=zfz _ _ _ _ G cap o W ((hc 4 (by simp)).1.below hb) (hO.below hb).fr (by omega) (fun m hm'=>by have:=zbh hG m hm';omega) (zp5 hG) i hi hil;show Calls _ _ _ _ (GivesV (.int .i64 (chkE (decide (o.dst≠0) || docMay G o.id.toNat) 71)) _);rw [hin];exact h
   | 5,_,hp =>
     obtain ⟨i,hi,hil⟩:=hNode (hp 0 (by omega));have hin:o.id.toNat=i:=by rw [hi];rfl
     have h:=zkq _ _ _ _ G cap o W ((hc 5 (by simp)).1.below hb) (hO.below hb).fr (zm4 hG);show Calls _ _ _ _ (GivesV (.int .i64 (chkE (!belowB G o.id o.dst) 72)) _);skip;exact h
   | 6,_,hp =>
     obtain ⟨i,hi,hil⟩:=hNode (hp 0 (by omega));obtain ⟨d,hd,hdl⟩:=hNode2 (hp 1 (by omega));have hdn:o.dst.toNat=d:=by rw [hd];rfl
     have hin:o.id.toNat=i:=by rw [hi];rfl
     have h:=zma _ _ _ _ G cap o W ((hc 6 (by simp)).1.below hb) (hO.below hb).fr (by omega) (fun m hm'=>by have:=zbh hG m hm';omega) i d hi hil hd hdl;show Calls _ _ _ _ (GivesV (.int .i64 (chkE (decide (0<=o.pos/\o.pos<=others G o.id o.dst)) 73)) _);rw [hi,hd];exact h
   | j+7,hj,_=>exact absurd hj (by omega)
 · have he:errP G o=0:=by rw [hE];exact zak (fun j hj=>ha j (by simpa using hj))
   obtain ⟨i,hi,hil⟩:=hNode (ha 0 (by omega));have hin:o.id.toNat=i:=by rw [hi];rfl
   obtain ⟨d,hd,hdl⟩:=hNode2 (ha 1 (by omega));have hdn:o.dst.toNat=d:=by rw [hd];rfl
   have hpl:=chk0 (by decide) (ha 6 (by omega):chkE (decide (0<=o.pos/\o.pos<=others G o.id o.dst)) 73=0);rw [decide_eq_true_eq] at hpl;obtain ⟨q,hq⟩:=Int.eq_ofNat_of_zero_le hpl.1;have hqn:o.pos.toNat=q:=by rw [hq];rfl
   have hpp:par G i = -1\/∃ p:Nat,par G i=p/\p<G.length:=by
    rcases zc6 (zv.1 hG).2.2.1 i hil with h|h
    · exact .inl h
    · exact .inr (zbc h)
   have hkk:(kidsOf (outP G i) d).length<=60:=by
    rw [zae (by rw [zcr];exact hdl)];exact zbh (zmv hG hil) _ (List.getElem_mem _)
   have hql:q<=(kidsOf (outP G i) d).length:=by
    have h2:=hpl.2;rw [hi,hd,zn3 hG hil hdl,hq] at h2;rw [zhh hG hil hdl];omega
   have hdo:doP G o=insP G i d q:=by
    unfold doP;rw [if_neg (by omega),if_pos hk,hin,hdn,hqn]
   refine (zky base g cap G o W (hO.below hb) (by omega) (fun m hm'=>by have:=zbh hG m hm';omega) i d q hi hd hq hil hdl hpp (by omega) hql).mono ?_;rintro e w' ⟨rfl,G',h1,h2,h3⟩;exact ⟨_,rfl,zen h1 (by rw [hdo];exact h2) h3 (by rw [hdo];exact zm2)⟩
theorem err5 {G:List Mn} {o:Ops.Po} (hm:Ops.mayO o=true) (hk:o.kind=5):errP G o=firstE [chkE (isB G o.id) 70,chkE (o.id != 0) 71,chkE (par G o.id.toNat != -1) 3]:=by
 unfold errP;rw [if_neg (by simp [hm]),if_neg (by omega),if_neg (by omega),if_neg (by omega),if_pos hk];unfold remE;rw [zm (by decide)];refine zr ?_ (fun _=>?_)
 · first|(simp;done)|(simp;omega)|(simp [eq_comm];done)|(simp;constructor<;>intro h<;>omega)
 rw [zm (by decide)];refine zr ?_ (fun _=>?_)
 · first|(simp;done)|(simp;omega)|(simp [eq_comm];done)|(simp;constructor<;>intro h<;>omega)
 rw [zm (by decide)];refine zr ?_ (fun _=>?_)
 · first|(simp;done)|(simp;omega)|(simp [eq_comm];done)|(simp;constructor<;>intro h<;>omega)
 rfl
theorem step5 {base g cap n1 kc kd:Nat} {V:World} (G:List Mn) (o:Ops.Po) (hK:KindAt V n1 kc kd (qF 93) [(qF 86,70),(qF 88,71),(qF 94,3)]) (hO:OF V base (.slice (some ⟨g,0,none⟩) G.length cap) G) (hG:mayB G=true) (hm:Ops.mayO o=true) (hk:o.kind=5) :
 Calls Tryz.prog 133 #[.slice (some ⟨g,0,none⟩) G.length cap,Ops.opv o,.pointer (some ⟨kc,0,none⟩),.pointer (some ⟨kd,0,none⟩)] V (StepRes base g cap G o V):=by
 obtain ⟨gc,kq,ke,hS,-,-,-,hc⟩:=hK;have hE:=err5 (G:=G) hm hk;have hl:=(zaj hG).1;have hsz:=zcb hm;have hNode:chkE (isB G o.id) 70=0->∃ i:Nat,o.id=i/\i<G.length:=fun h=>zbc (chk0 (by decide) h)
 refine (znv kc kd gc 3 kq ke (fun j=>[chkE (isB G o.id) 70,chkE (o.id != 0) 71,chkE (par G o.id.toNat != -1) 3].getD j 0) (some ⟨g,0,none⟩) G.length cap o (PostC base g G o) V (by omega) hS (fun j hj hp W hb=>?_) (fun ha W hb=>?_)).mono (fun e w' h=>zc7 hE rfl h)
 · match j,hj,hp with
   | 0,_,hp=>exact zch _ _ _ _ G cap o W ((hc 0 (by simp)).1.below hb) (by omega)
   | 1,_,hp=>exact zg1 _ _ _ _ G cap o W ((hc 1 (by simp)).1.below hb)
   | 2,_,hp =>
     obtain ⟨i,hi,hil⟩:=hNode (hp 0 (by omega));have hin:o.id.toNat=i:=by rw [hi];rfl
     have h:=zl9 _ _ _ _ G cap o W ((hc 2 (by simp)).1.below hb) (hO.below hb).fr (by omega) i hi hil;show Calls _ _ _ _ (GivesV (.int .i64 (chkE (par G o.id.toNat != -1) 3)) _);rw [hin];exact h
   | j+3,hj,_=>exact absurd hj (by omega)
 · have he:errP G o=0:=by rw [hE];exact zak (fun j hj=>ha j (by simpa using hj))
   obtain ⟨i,hi,hil⟩:=hNode (ha 0 (by omega));have hin:o.id.toNat=i:=by rw [hi];rfl
   have hpn:par G i ≠ -1:=by
    have:=chk0 (by decide) (ha 2 (by omega):chkE (par G o.id.toNat != -1) 3=0);rw [hin] at this;simpa using this
   obtain ⟨p,hp1,hp2⟩:=zbc ((zc6 (zv.1 hG).2.2.1 i hil).resolve_left hpn);have hdo:doP G o=remP G i:=by
    unfold doP;rw [if_neg (by omega),if_neg (by omega),if_pos hk,hin]
   refine (zg3 base g cap G o W (hO.below hb) (by omega) (fun m hm'=>by have:=zbh hG m hm';omega) i p hi hil hp1 hp2).mono ?_;rintro e w' ⟨rfl,G',h1,h2,h3⟩;exact ⟨_,rfl,zen h1 (by rw [hdo];exact h2) h3 (by rw [hdo];exact zdi)⟩
theorem err6 {G:List Mn} {o:Ops.Po} (hm:Ops.mayO o=true) (hk:o.kind=6):errP G o=firstE [chkE (isB G o.id) 70,chkE ([(1:Int)].any (fun y=>decide (y=kindOf G o.id.toNat))) 71,chkE (nm o.name) 74,chkE (decide (o.text.size<=60)) 74,chkE (hasA (attrsOf G o.id.toNat) o.name || decide ((attrsOf G o.id.toNat).length<8)) 75]:=by
 unfold errP;rw [if_neg (by simp [hm]),if_neg (by omega),if_neg (by omega),if_neg (by omega),if_neg (by omega),if_pos hk];unfold setE;rw [zm (by decide)];refine zr ?_ (fun _=>?_)
 · first|(simp;done)|(simp;omega)|(simp [eq_comm];done)|(simp;constructor<;>intro h<;>omega)
 rw [zm (by decide)];refine zr ?_ (fun _=>?_)
 · first|(simp;done)|(simp;omega)|(simp [eq_comm];done)|(simp;constructor<;>intro h<;>omega)
 rw [zm (by decide)];refine zr ?_ (fun _=>?_)
 · first|(simp;done)|(simp;omega)|(simp [eq_comm];done)|(simp;constructor<;>intro h<;>omega)
 rw [zm (by decide)];refine zr ?_ (fun _=>?_)
 · first|(simp;done)|(simp;omega)|(simp [eq_comm];done)|(simp;constructor<;>intro h<;>omega)
 rw [zm (by decide)];refine zr ?_ (fun _=>?_)
 · first|(simp;done)|(simp;omega)|(simp [eq_comm];done)|(simp;constructor<;>intro h<;>omega)
 rfl
theorem step6 {base g cap n1 kc kd:Nat} {V:World} (G:List Mn) (o:Ops.Po) {kk:Nat} (hx:IdsAt V n1 kk [1]) (hK:KindAt V n1 kc kd (qF 95) [(qF 86,70),(idsF kk,71),(qF 82,74),(qF 84,74),(qF 97,75)]) (hO:OF V base (.slice (some ⟨g,0,none⟩) G.length cap) G) (hG:mayB G=true) (hm:Ops.mayO o=true) (hk:o.kind=6) :
 Calls Tryz.prog 133 #[.slice (some ⟨g,0,none⟩) G.length cap,Ops.opv o,.pointer (some ⟨kc,0,none⟩),.pointer (some ⟨kd,0,none⟩)] V (StepRes base g cap G o V):=by
 obtain ⟨gc,kq,ke,hS,-,-,-,hc⟩:=hK;have hE:=err6 (G:=G) hm hk;have hl:=(zaj hG).1;have hsz:=zcb hm;have hNode:chkE (isB G o.id) 70=0->∃ i:Nat,o.id=i/\i<G.length:=fun h=>zbc (chk0 (by decide) h)
 refine (znw kc kd gc 5 kq ke (fun j=>[chkE (isB G o.id) 70,chkE ([(1:Int)].any (fun y=>decide (y=kindOf G o.id.toNat))) 71,chkE (nm o.name) 74,chkE (decide (o.text.size<=60)) 74,chkE (hasA (attrsOf G o.id.toNat) o.name || decide ((attrsOf G o.id.toNat).length<8)) 75].getD j 0) (some ⟨g,0,none⟩) G.length cap o (PostC base g G o) V (by omega) hS (fun j hj hp W hb=>?_) (fun ha W hb=>?_)).mono (fun e w' h=>zc7 hE rfl h)
 · match j,hj,hp with
   | 0,_,hp=>exact zch _ _ _ _ G cap o W ((hc 0 (by simp)).1.below hb) (by omega)
   | 1,_,hp =>
     obtain ⟨i,hi,hil⟩:=hNode (hp 0 (by omega));obtain ⟨gk,hk1,hk2⟩:=zkz (hx.agr (Agr.below hb));have hin:o.id.toNat=i:=by rw [hi];rfl
     have h:=zkr _ _ _ _ G cap o W kk ((hc 1 (by simp)).1.below hb) _ [1] _ hk1 hk2 (by simp) (hO.below hb).fr (by omega) i hi hil;show Calls _ _ _ _ (GivesV (.int .i64 (chkE ([(1:Int)].any (fun y=>decide (y=kindOf G o.id.toNat))) 71)) _);rw [hin];exact h
   | 2,_,hp=>exact zgz _ _ _ _ G cap o W ((hc 2 (by simp)).1.below hb) (by omega)
   | 3,_,hp=>exact zcz _ _ _ _ G cap o W ((hc 3 (by simp)).1.below hb) (by omega)
   | 4,_,hp =>
     obtain ⟨i,hi,hil⟩:=hNode (hp 0 (by omega));have hin:o.id.toNat=i:=by rw [hi];rfl
     have h:=zh7 _ _ _ _ G cap o W ((hc 4 (by simp)).1.below hb) (hO.below hb).fr (by omega) (fun m hm'=>by have:=(zaj hG).2 m hm';omega) i hi hil;show Calls _ _ _ _ (GivesV (.int .i64 (chkE (hasA (attrsOf G o.id.toNat) o.name || decide ((attrsOf G o.id.toNat).length<8)) 75)) _);rw [hin];exact h
   | j+5,hj,_=>exact absurd hj (by omega)
 · have he:errP G o=0:=by rw [hE];exact zak (fun j hj=>ha j (by simpa using hj))
   obtain ⟨i,hi,hil⟩:=hNode (ha 0 (by omega));have hin:o.id.toNat=i:=by rw [hi];rfl
   have hdo:doP G o=setAt G i (setA (attrsOf G i) o.name o.text):=by
    unfold doP;rw [if_neg (by omega),if_neg (by omega),if_neg (by omega),if_pos hk,hin]
   refine (zmf base g cap G o W (hO.below hb) (by omega) (fun m hm'=>by have:=(zaj hG).2 m hm';omega) i hi hil).mono ?_;rintro e w' ⟨rfl,G',h1,h2,h3⟩;exact ⟨_,rfl,zen h1 (by rw [hdo];exact h2) h3 (by rw [hdo];exact zdy)⟩
theorem err7 {G:List Mn} {o:Ops.Po} (hm:Ops.mayO o=true) (hk:o.kind=7):errP G o=firstE [chkE (isB G o.id) 70,chkE ([(1:Int)].any (fun y=>decide (y=kindOf G o.id.toNat))) 71,chkE (hasA (attrsOf G o.id.toNat) o.name) 75]:=by
 unfold errP;rw [if_neg (by simp [hm]),if_neg (by omega),if_neg (by omega),if_neg (by omega),if_neg (by omega),if_neg (by omega),if_pos hk];unfold delE;rw [zm (by decide)];refine zr ?_ (fun _=>?_)
 · first|(simp;done)|(simp;omega)|(simp [eq_comm];done)|(simp;constructor<;>intro h<;>omega)
 rw [zm (by decide)];refine zr ?_ (fun _=>?_)
 · first|(simp;done)|(simp;omega)|(simp [eq_comm];done)|(simp;constructor<;>intro h<;>omega)
 rw [zm (by decide)];refine zr ?_ (fun _=>?_)
 · first|(simp;done)|(simp;omega)|(simp [eq_comm];done)|(simp;constructor<;>intro h<;>omega)
 rfl
theorem step7 {base g cap n1 kc kd:Nat} {V:World} (G:List Mn) (o:Ops.Po) {kk:Nat} (hx:IdsAt V n1 kk [1]) (hK:KindAt V n1 kc kd (qF 98) [(qF 86,70),(idsF kk,71),(qF 99,75)]) (hO:OF V base (.slice (some ⟨g,0,none⟩) G.length cap) G) (hG:mayB G=true) (hm:Ops.mayO o=true) (hk:o.kind=7) :
 Calls Tryz.prog 133 #[.slice (some ⟨g,0,none⟩) G.length cap,Ops.opv o,.pointer (some ⟨kc,0,none⟩),.pointer (some ⟨kd,0,none⟩)] V (StepRes base g cap G o V):=by
 obtain ⟨gc,kq,ke,hS,-,-,-,hc⟩:=hK;have hE:=err7 (G:=G) hm hk;have hl:=(zaj hG).1;have hsz:=zcb hm;have hNode:chkE (isB G o.id) 70=0->∃ i:Nat,o.id=i/\i<G.length:=fun h=>zbc (chk0 (by decide) h)
 refine (ziw kc kd gc 3 kq ke (fun j=>[chkE (isB G o.id) 70,chkE ([(1:Int)].any (fun y=>decide (y=kindOf G o.id.toNat))) 71,chkE (hasA (attrsOf G o.id.toNat) o.name) 75].getD j 0) (some ⟨g,0,none⟩) G.length cap o (PostC base g G o) V (by omega) hS (fun j hj hp W hb=>?_) (fun ha W hb=>?_)).mono (fun e w' h=>zc7 hE rfl h)
 · match j,hj,hp with
   | 0,_,hp=>exact zch _ _ _ _ G cap o W ((hc 0 (by simp)).1.below hb) (by omega)
   | 1,_,hp =>
     obtain ⟨i,hi,hil⟩:=hNode (hp 0 (by omega));obtain ⟨gk,hk1,hk2⟩:=zkz (hx.agr (Agr.below hb));have hin:o.id.toNat=i:=by rw [hi];rfl
     have h:=zkr _ _ _ _ G cap o W kk ((hc 1 (by simp)).1.below hb) _ [1] _ hk1 hk2 (by simp) (hO.below hb).fr (by omega) i hi hil;show Calls _ _ _ _ (GivesV (.int .i64 (chkE ([(1:Int)].any (fun y=>decide (y=kindOf G o.id.toNat))) 71)) _);rw [hin];exact h
   | 2,_,hp =>
     obtain ⟨i,hi,hil⟩:=hNode (hp 0 (by omega));have hin:o.id.toNat=i:=by rw [hi];rfl
     have h:=zpt _ _ _ _ G cap o W ((hc 2 (by simp)).1.below hb) (hO.below hb).fr (by omega) (fun m hm'=>by have:=(zaj hG).2 m hm';omega) i hi hil;show Calls _ _ _ _ (GivesV (.int .i64 (chkE (hasA (attrsOf G o.id.toNat) o.name) 75)) _);rw [hin];exact h
   | j+3,hj,_=>exact absurd hj (by omega)
 · have he:errP G o=0:=by rw [hE];exact zak (fun j hj=>ha j (by simpa using hj))
   obtain ⟨i,hi,hil⟩:=hNode (ha 0 (by omega));have hin:o.id.toNat=i:=by rw [hi];rfl
   have hdo:doP G o=setAt G i (delA (attrsOf G i) o.name):=by
    unfold doP;rw [if_neg (by omega),if_neg (by omega),if_neg (by omega),if_neg (by omega),if_pos hk,hin]
   refine (zh9 base g cap G o W (hO.below hb) (by omega) (fun m hm'=>by have:=(zaj hG).2 m hm';omega) i hi hil).mono ?_;rintro e w' ⟨rfl,G',h1,h2,h3⟩;exact ⟨_,rfl,zen h1 (by rw [hdo];exact h2) h3 (by rw [hdo];exact zdy)⟩
theorem err8 {G:List Mn} {o:Ops.Po} (hm:Ops.mayO o=true) (hk:o.kind=8):errP G o=firstE [chkE (isB G o.id) 70,chkE ([(2:Int),(3:Int)].any (fun y=>decide (y=kindOf G o.id.toNat))) 71,chkE (decide (o.text.size<=60)) 74]:=by
 unfold errP;rw [if_neg (by simp [hm]),if_neg (by omega),if_neg (by omega),if_neg (by omega),if_neg (by omega),if_neg (by omega),if_neg (by omega)];unfold txE;rw [zm (by decide)];refine zr ?_ (fun _=>?_)
 · first|(simp;done)|(simp;omega)|(simp [eq_comm];done)|(simp;constructor<;>intro h<;>omega)
 rw [zm (by decide)];refine zr ?_ (fun _=>?_)
 · first|(simp;done)|(simp;omega)|(simp [eq_comm];done)|(simp;constructor<;>intro h<;>omega)
 rw [zm (by decide)];refine zr ?_ (fun _=>?_)
 · first|(simp;done)|(simp;omega)|(simp [eq_comm];done)|(simp;constructor<;>intro h<;>omega)
 rfl
theorem step8 {base g cap n1 kc kd:Nat} {V:World} (G:List Mn) (o:Ops.Po) {kk:Nat} (hx:IdsAt V n1 kk [2,3]) (hK:KindAt V n1 kc kd (qF 100) [(qF 86,70),(idsF kk,71),(qF 84,74)]) (hO:OF V base (.slice (some ⟨g,0,none⟩) G.length cap) G) (hG:mayB G=true) (hm:Ops.mayO o=true) (hk:o.kind=8) :
 Calls Tryz.prog 133 #[.slice (some ⟨g,0,none⟩) G.length cap,Ops.opv o,.pointer (some ⟨kc,0,none⟩),.pointer (some ⟨kd,0,none⟩)] V (StepRes base g cap G o V):=by
 obtain ⟨gc,kq,ke,hS,-,-,-,hc⟩:=hK;have hE:=err8 (G:=G) hm hk;have hl:=(zaj hG).1;have hsz:=zcb hm;have hNode:chkE (isB G o.id) 70=0->∃ i:Nat,o.id=i/\i<G.length:=fun h=>zbc (chk0 (by decide) h)
 refine (znx kc kd gc 3 kq ke (fun j=>[chkE (isB G o.id) 70,chkE ([(2:Int),(3:Int)].any (fun y=>decide (y=kindOf G o.id.toNat))) 71,chkE (decide (o.text.size<=60)) 74].getD j 0) (some ⟨g,0,none⟩) G.length cap o (PostC base g G o) V (by omega) hS (fun j hj hp W hb=>?_) (fun ha W hb=>?_)).mono (fun e w' h=>zc7 hE rfl h)
 · match j,hj,hp with
   | 0,_,hp=>exact zch _ _ _ _ G cap o W ((hc 0 (by simp)).1.below hb) (by omega)
   | 1,_,hp =>
     obtain ⟨i,hi,hil⟩:=hNode (hp 0 (by omega));obtain ⟨gk,hk1,hk2⟩:=zkz (hx.agr (Agr.below hb));have hin:o.id.toNat=i:=by rw [hi];rfl
     have h:=zkr _ _ _ _ G cap o W kk ((hc 1 (by simp)).1.below hb) _ [2,3] _ hk1 hk2 (by simp) (hO.below hb).fr (by omega) i hi hil;show Calls _ _ _ _ (GivesV (.int .i64 (chkE ([(2:Int),(3:Int)].any (fun y=>decide (y=kindOf G o.id.toNat))) 71)) _);rw [hin];exact h
   | 2,_,hp=>exact zcz _ _ _ _ G cap o W ((hc 2 (by simp)).1.below hb) (by omega)
   | j+3,hj,_=>exact absurd hj (by omega)
 · have he:errP G o=0:=by rw [hE];exact zak (fun j hj=>ha j (by simpa using hj))
   obtain ⟨i,hi,hil⟩:=hNode (ha 0 (by omega));have hin:o.id.toNat=i:=by rw [hi];rfl
   have hdo:doP G o=setTx G i o.text:=by
    unfold doP;rw [if_neg (by omega),if_neg (by omega),if_neg (by omega),if_neg (by omega),if_neg (by omega),hin]
   refine (zmc base g cap G o W (hO.below hb) (by omega) i hi hil).mono ?_;rintro e w' ⟨rfl,h1,h2⟩;exact ⟨_,rfl,zen h1 (by rw [hdo]) (Chg.grown h2 (fun x e=>.inl (Option.some.inj e).symm) (fun x hx=>.inl (zc0 (f:=fun m=>{ m with text:=o.text }) (fun _=>⟨rfl,rfl⟩) hx))) (by rw [hdo];exact zi5)⟩
end Go.Proofs.YtdmecdjfbpblgaaGreatDoor
namespace Go.Proofs.YtdmecdjfbpblgaaGreatDoor.Ops
open Go.ChangeShapes Go.WideShapes Go.ChangeAt Go.RowKit
def OL (w:World) (A:Option Addr) (l:List Po):Prop:=∀ i o,l[i]? = some o->Fit o/\∃ g off,A=some ⟨g,off,none⟩/\g<w.heap.size/\w.cell? ⟨g,off+i*6,none⟩=some (.int .i64 o.kind)/\w.cell? ⟨g,off+i*6+1,none⟩=some (.int .i64 o.id)/\w.cell? ⟨g,off+i*6+2,none⟩=some (.int .i64 o.dst)/\w.cell? ⟨g,off+i*6+3,none⟩=some (.int .i64 o.pos)/\w.cell? ⟨g,off+i*6+4,none⟩=some (.string o.name)/\w.cell? ⟨g,off+i*6+5,none⟩=some (.string o.text)
theorem OL.below {w w':World} {A:Option Addr} {l:List Po} (h:OL w A l) (hb:Below w.heap.size w w'):OL w' A l:=fun i o ho=>by
 obtain ⟨hf,g,off,hA,hg,a,b,c,d,e,f⟩:=h i o ho;have key:∀ j v,w.cell? ⟨g,j,none⟩=some v->w'.cell? ⟨g,j,none⟩=some v:=fun j v hv=>(hb.cell (p:=⟨g,j,none⟩) hg).trans hv
 exact ⟨hf,g,off,hA,Nat.lt_of_lt_of_le hg hb.size,key _ _ a,key _ _ b,key _ _ c,key _ _ d,key _ _ e,key _ _ f⟩
end Go.Proofs.YtdmecdjfbpblgaaGreatDoor.Ops
namespace Go.Proofs.YtdmecdjfbpblgaaGreatDoor
open Go.ChangeShapes Go.WideShapes Go.ChangeAt Go.RowKit
set_option linter.unusedVariables false
set_option linter.unusedSimpArgs false
theorem zoc {V:World} {n1:Nat} {L:List (Int × Value)} (hK:Known V n1 L) {o:Ops.Po} (hm:Ops.mayO o=true):∃ kc kd,Ent L o.kind (stepF kc kd) /\
 ∀ (base g cap:Nat) (G:List Mn),OF V base (.slice (some ⟨g,0,none⟩) G.length cap) G->mayB G=true->Calls Tryz.prog 133 #[.slice (some ⟨g,0,none⟩) G.length cap,Ops.opv o,.pointer (some ⟨kc,0,none⟩),.pointer (some ⟨kd,0,none⟩)] V (StepRes base g cap G o V):=by
 obtain ⟨⟨k1,k8⟩,-⟩:=zey hm;have hc:o.kind=1\/o.kind=2\/o.kind=3\/o.kind=4\/o.kind=5\/o.kind=6\/o.kind=7\/o.kind=8:=by omega
 rcases hc with e|e|e|e|e|e|e|e
 · obtain ⟨kx,hx,kc,kd,h1,h2⟩:=hK.k1;exact ⟨kc,kd,by rw [e];exact h1,fun base g cap G hO hG=>step1 G o hx h2 hO hG hm e⟩
 · obtain ⟨kx,hx,kc,kd,h1,h2⟩:=hK.k2;exact ⟨kc,kd,by rw [e];exact h1,fun base g cap G hO hG=>step2 G o hx h2 hO hG hm e⟩
 · obtain ⟨kx,hx,kc,kd,h1,h2⟩:=hK.k3;exact ⟨kc,kd,by rw [e];exact h1,fun base g cap G hO hG=>step3 G o hx h2 hO hG hm e⟩
 · obtain ⟨kc,kd,h1,h2⟩:=hK.k4;exact ⟨kc,kd,by rw [e];exact h1,fun base g cap G hO hG=>step4 G o h2 hO hG hm e⟩
 · obtain ⟨kc,kd,h1,h2⟩:=hK.k5;exact ⟨kc,kd,by rw [e];exact h1,fun base g cap G hO hG=>step5 G o h2 hO hG hm e⟩
 · obtain ⟨kx,hx,kc,kd,h1,h2⟩:=hK.k6;exact ⟨kc,kd,by rw [e];exact h1,fun base g cap G hO hG=>step6 G o hx h2 hO hG hm e⟩
 · obtain ⟨kx,hx,kc,kd,h1,h2⟩:=hK.k7;exact ⟨kc,kd,by rw [e];exact h1,fun base g cap G hO hG=>step7 G o hx h2 hO hG hm e⟩
 · obtain ⟨kx,hx,kc,kd,h1,h2⟩:=hK.k8;exact ⟨kc,kd,by rw [e];exact h1,fun base g cap G hO hG=>step8 G o hx h2 hO hG hm e⟩
theorem OF.mono {w:World} {base base':Nat} {v:Value} {G:List Mn} (h:OF w base v G) (hb:base'<=base):OF w base' v G :=
 ⟨zq h.row hb,h.fit,fun m hm=>(h.lst m hm).mono hb,h.apA,h.apK⟩
def AllRes (F:List Mn) (l:List Ops.Po) (w:World) (e:Ending) (w':World):Prop :=
 ∃ g cap G,e = .returned (.tuple #[.slice (some ⟨g,0,none⟩) G.length cap,.int .i64 (allP F l).2.1,.int .i64 (allP F l).2.2])/\OF w' w.heap.size (.slice (some ⟨g,0,none⟩) G.length cap) G/\G.map core=(allP F l).1.map core/\Below w.heap.size w w'
theorem zm5 {F:List Mn} {l:List Ops.Po} {k:Nat} {Fk:List Mn} {o:Ops.Po} {r:List Ops.Po} (h:runP F 0 l=runP Fk k (o::r)) (he:errP Fk o≠0):allP F l=(F,k,errP Fk o):=by
 unfold allP;rw [h,runP,if_neg he];rfl
theorem ztv (A:Option Addr) (F:List Mn) (c:Nat) (A':Option Addr) (l:List Ops.Po) (c':Nat) (w:World) (hF:FR w A F) (hG:mayB F=true) (hL:Ops.OL w A' l) (hl:l.length<=1000) (hKT:Ops.KT w) :
 Calls Tryz.prog 19 #[.slice A F.length c,.slice A' l.length c'] w (AllRes F l w):=by
 have HF:=Hq hF;have HGm:=Hq hG;have HL:=Hq hL;have HKT:=Hq hKT;have h60:=zaj hG;have h0:0<F.length:=(zv.1 hG).1.1;have HM:=Hq (zel A F c w hF (zm4 hG));rw [hG] at HM;have HCP:=Hq (fun (V:World) (hb:Below w.heap.size w V)=>zny A F c V (hF.below hb) (zm1 hG) h0);have hfl:F.length<=1000:=by omega
 obtain ⟨n,hnn⟩:∃ n,l.length=n:=⟨_,rfl⟩;have HNN:=Hq hnn;obtain ⟨fn,hfn⟩:∃ n,F.length=n:=⟨_,rfl⟩;have HFN:=Hq hfn;rw [hnn] at hl ⊢;rw [hfn] at HM HCP h0 hfl ⊢;clear hF hG hL hKT hnn hfn h60;go_enter Tryz.func19,Tryz.ntmps19;go_wp2_with fail;refine HM.out.mono ?_;rintro e w1 ⟨rfl,hb1⟩;have HB1:=Hq hb1;clear hb1;go_wp2_with fail;refine (HCP.out w1 HB1.out).mono ?_;rintro e w2 ⟨g0,cap0,G0,rfl,hO,hcore,hb⟩;have HO2:=Hq (hO.mono HB1.out.size);have HOW:Hid (∀ b,Own g0 G0 b->b<w2.heap.size):=Hq (fun b hb'=>(hO.own hb').2);have HC2:=Hq hcore;have HG0:Hid (G0.length=fn):=Hq (by rw [zbp hcore];exact HFN.out);have HB2:=Hq (HB1.out.trans (hb.mono HB1.out.size));clear hO hcore hb;go_wp2_with fail;refine (zp4 w2).mono ?_;rintro e w3 ⟨m,L,rfl,hm,hM,hK,hb⟩;have HMP:=Hq hM;have HKN:=Hq hK;have HB3:=Hq (HB2.out.trans (hb.mono HB2.out.size));have HO3:=Hq (HO2.out.below hb);have HOW3:Hid (∀ b,Own g0 G0 b->b<m\/w3.heap.size<=b):=Hq (fun b hb'=>.inl (Nat.lt_of_lt_of_le (HOW.out b hb') hm));have HMW:Hid (w.heap.size<=m):=Hq (Nat.le_trans HB2.out.size hm);clear hM hK hb hm HOW HO2;go_wp2_with fail
 go_loopw [7,23] (fun q7 q23 wr=>∃ (k g cap:Nat) (G Fk:List Mn),q7 = .slice (some ⟨g,0,none⟩) G.length cap/\q23 = .int .i64 k/\k<=n/\Hid (OF wr w.heap.size (.slice (some ⟨g,0,none⟩) G.length cap) G)/\Hid (G.map core=Fk.map core)/\Hid (mayB Fk=true)/\Hid (runP F 0 l=runP Fk k (l.drop k))/\Hid (Below w.heap.size w wr)/\Hid (Agr m w3 wr)/\Hid (∀ b,Own g G b->b<m\/w3.heap.size<=b)) (fun _ q23 _=>n - (intOf q23).toNat)
 case atStart => exact ⟨0,g0,cap0,G0,F,by rw [HG0.out],rfl,Nat.zero_le _,by rw [HG0.out];exact HO3,HC2,HGm,Hq rfl,HB3,Hq (Agr.refl _ _),HOW3⟩
 case round =>
  obtain ⟨k,g,cap,G,Fk,rfl,rfl,hk,HO,HC,HG,HR,HB,HA,HOW⟩:=hrel
  by_cases hlt:k<n
  · have k0:(0:Int)<=(k:Int):=by omega
    have k1:(k:Int)<(n:Int):=by omega
    have hkl:k<l.length:=by rw [HNN.out];exact hlt
    obtain ⟨-,gl,off,rfl,hgl,a0,a1,a2,a3,a4,a5⟩:=(HL.out.below HB.out) k l[k] (List.getElem?_eq_getElem hkl);have HRk:Hid (runP F 0 l=runP Fk k (l[k]::l.drop (k+1))):=Hq (by rw [<- List.drop_eq_getElem_cons hkl];exact HR.out);generalize l[k]=o at *;obtain ⟨W,hW⟩:∃ W,W=wr.alloc (.cells #[.int .i64 o.kind,.int .i64 o.id,.int .i64 o.dst,.int .i64 o.pos,.string o.name,.string o.text] 59):=⟨_,rfl⟩;have HWb:Hid (Below wr.heap.size wr W):=Hq (by rw [hW];exact Bq _ _);have HWk:Hid (OpAt W wr.heap.size o):=Hq (by rw [hW];exact heap_alloc_new _ _);have HBW:Hid (Below w.heap.size w W):=Hq (HB.out.trans (HWb.out.mono HB.out.size));have HMY:=Hq (Ops.zel o W (HKT.out.below HBW.out));have HOW1:=Hq (HO.out.below HWb.out);have HA1:Hid (Agr m w3 W):=Hq (HA.out.trans (Agr.below HWb.out));go_upto_region 7 with fail
    rw [<- hW];clear hW a0 a1 a2 a3 a4 a5 hkl;obtain ⟨x0,x1,x2,x3,x4,x5⟩:=block6 HWk.out;go_wp2_with fail;refine HMY.out.mono ?_;rintro e W2 ⟨rfl,hb⟩;have HB2':Hid (Below w.heap.size w W2):=Hq (HBW.out.trans (hb.mono HBW.out.size));have HO2':=Hq (HOW1.out.below hb);have HA2:Hid (Agr m w3 W2):=Hq (HA1.out.trans (Agr.below hb));have HWk2:=Hq (HWk.out.below hb);clear hb x0 x1 x2 x3 x4 x5
    rcases Bool.eq_false_or_eq_true (Ops.mayO o) with hmo|hmo
    · rw [hmo];obtain ⟨kc,kd,hent,hst⟩:=zoc (HKN.out.agr (HA2.out.mono (Nat.le_succ _))) hmo;have HST:=Hq (hst w.heap.size g cap G HO2'.out (by rw [zjb HC.out];exact HG.out));obtain ⟨ix,hfind⟩:=zp3 hent;have hmap:W2.heap[m]? = some (.map (ents L) L.length):=(HA2.out.2 m (Nat.le_refl _) (lt_of_block HMP.out)).trans HMP.out;have hlk:=zr0 (r:=m) hmap hfind;unfold stepF at hlk;clear hent hst hfind hmap;obtain ⟨x0,x1,x2,x3,x4,x5⟩:=block6 HWk2.out;unfold Ops.opv at HST;go_wp2_with fail;refine HST.out.mono ?_;rintro e W3 hres
      rcases hres with ⟨he,rfl,hb⟩|⟨he,v,rfl,g',cap',G',rfl,hO',hC',hch⟩
      · have HB3':Hid (Below w.heap.size w W3):=Hq (HB2'.out.trans (hb.mono HB2'.out.size));have HEF:Hid (errP Fk o=errP G o):=Hq (ze4 HC.out o).symm;have HAE:=Hq (zm5 HRk.out (by rw [HEF.out];exact he));have HHE:=Hq he;have hne:(errP G o != 0)=true:=by simpa using he
        clear he hb hlk x0 x1 x2 x3 x4 x5;generalize errP G o=er at *;go_wp2_with fail;refine (HCP.out W3 HB3'.out).mono ?_;rintro e W4 ⟨g4,cap4,G4,rfl,hO4,hc4,hb4⟩;have HO4:=Hq (hO4.mono HB3'.out.size);have HC4:=Hq hc4;have HB4:=Hq (HB3'.out.trans (hb4.mono HB3'.out.size));clear hO4 hc4 hb4;have e4:G4.length=fn:=by rw [zbp HC4.out];exact HFN.out
        have HE4:=Hq e4;clear e4;go_wp2
        go_ret3
        refine ⟨g4,cap4,G4,?_,?_,?_,HB4.out⟩
        · rw [HAE.out,HEF.out,HE4.out];rfl
        · rw [HE4.out];exact HO4.out
        · rw [HAE.out];exact HC4.out
      · have HCH:=Hq hch;have HB3':Hid (Below w.heap.size w W3):=Hq (HB2'.out.trans (hch.below HO2'.out));have HOn:=Hq hO';have HAn:Hid (Agr m w3 W3):=Hq ⟨Nat.le_trans HA2.out.1 hch.size,fun x h1 h2=>(hch.keep x (Nat.lt_of_lt_of_le h2 HA2.out.1) (fun ho=>by have:=HOW.out x ho;omega)).trans (HA2.out.2 x h1 h2)⟩;have HOWn:Hid (∀ b,Own g' G' b->b<m\/w3.heap.size<=b):=Hq (fun b hb'=>(hch.new b hb').elim (HOW.out b) (fun hh=>.inr (Nat.le_trans HA2.out.1 hh)));have HCn:Hid (G'.map core=(doP Fk o).map core):=Hq (hC'.trans (zix HC.out o));have heF:errP Fk o=0:=by rw [<- ze4 HC.out];exact he
        have HGn:Hid (mayB (doP Fk o)=true):=Hq (zkl HG.out heF);have HRn:Hid (runP F 0 l=runP (doP Fk o) (k+1) (l.drop (k+1))):=Hq (by rw [HRk.out,runP,if_pos heF]);clear hch hO' hC' he heF hlk x0 x1 x2 x3 x4 x5;go_wp2;go_roundw
        case rel => exact ⟨k+1,g',cap',G',doP Fk o,rfl,by go_num,by omega,HOn,HCn,HGn,HRn,HB3',HAn,HOWn⟩
        case measure => simp [intOf]<;>omega
    · rw [hmo];have her:errP Fk o=1:=by unfold errP;rw [if_pos hmo]
      have HAE:Hid (allP F l=(F,k,1)):=Hq (by rw [<- her];exact zm5 HRk.out (by rw [her];decide));clear her;go_wp2_with fail;refine (HCP.out W2 HB2'.out).mono ?_;rintro e W4 ⟨g4,cap4,G4,rfl,hO4,hc4,hb4⟩;have HO4:=Hq (hO4.mono HB2'.out.size);have HC4:=Hq hc4;have HB4:=Hq (HB2'.out.trans (hb4.mono HB2'.out.size));clear hO4 hc4 hb4;have HE4:Hid (G4.length=fn):=Hq (by rw [zbp HC4.out];exact HFN.out);go_wp2
      go_ret3
      refine ⟨g4,cap4,G4,?_,?_,?_,HB4.out⟩
      · rw [HAE.out,HE4.out];rfl
      · rw [HE4.out];exact HO4.out
      · rw [HAE.out];exact HC4.out
  · obtain rfl:k=n:=by omega
    have hd:l.drop k=[]:=List.drop_eq_nil_of_le (by rw [HNN.out];exact Nat.le_refl _);have HAE:Hid (allP F l=(Fk,k,0)):=Hq (by unfold allP;rw [HR.out,hd];rfl);clear hd;go_wp2
    go_ret3
    exact ⟨g,cap,G,by rw [HAE.out];rfl,HO.out,by rw [HAE.out];exact HC.out,HB.out⟩
def opBd (o:Ops.Po):Bool:=decide (o.name.size<=300) && decide (o.text.size<=300)
def bdO (l:List Ops.Po):Bool:=l.all opBd && decide (l.length<=150)
theorem zr1 {α:Type} {f:α->Bool} {l:List α} {k:Nat} (hk:k<l.length) (h:(l.take k).all f=true):(l.take (k+1)).all f=f l[k]:=by
 rw [zaa hk,List.all_append,h];simp
theorem ztw {α:Type} {f:α->Bool} {l:List α} {x:α} (hx:x∈l) (h:f x=false):l.all f=false:=List.all_eq_false.2 ⟨x,hx,by rw [h];simp⟩
theorem zr2 {F G:List Mn} (h:G.map core=F.map core) (o:Ops.Po):(oneP G o).1.map core=(oneP F o).1.map core:=by
 unfold oneP;rw [ze4 h]
 split
 · exact zix h o
 · exact h
structure OneAt (w:World) (l:List Ops.Po) (k:Nat) (A:Option Addr) (G:List Mn):Prop where
 fr:FR w A G
 like:G.map core=(onesP [newM] (l.take k)).map core
theorem OneAt.may {w:World} {l:List Ops.Po} {k:Nat} {A:Option Addr} {G:List Mn} (h:OneAt w l k A G):mayB G=true:=by
 rw [zjb h.like];exact zrw zev _
theorem OneAt.below {w w':World} {l:List Ops.Po} {k:Nat} {A:Option Addr} {G:List Mn} (h:OneAt w l k A G) (hb:Below w.heap.size w w'):OneAt w' l k A G:=⟨h.fr.below hb,h.like⟩
theorem OneAt.step {w:World} {l:List Ops.Po} {k:Nat} {A:Option Addr} {G:List Mn} (h:OneAt w l k A G) (hk:k<l.length) {w':World} {base g cap:Nat} {G':List Mn} (hO:OF w' base (.slice (some ⟨g,0,none⟩) G'.length cap) G') (hc:G'.map core=(oneP G l[k]).1.map core):OneAt w' l (k+1) (some ⟨g,0,none⟩) G' :=
 ⟨hO.fr,by rw [hc,zr2 h.like,<- zpv,<- zaa hk]⟩
theorem zm6 (F:List Mn):∀ (f i:Nat),pr (F.map core) f i=pr F f i
 | 0,_=>rfl
 | f+1,i=>by
   rw [pr,pr,List.getElem?_map];cases F[i]? with
   | none=>rfl
   | some m =>
     simp only [Option.map_some];have hk:∀ ks:List Int,ks.flatMap (fun k=>pr (F.map core) f k.toNat)=ks.flatMap (fun k=>pr F f k.toNat):=fun ks=>by
      congr 1;exact funext fun k=>zm6 F f k.toNat
     show (if m.kind=3 then _ else if m.kind=2 then _ else if m.kind=1 then openL m++m.kids.flatMap (fun k=>pr (F.map core) f k.toNat)++_ else if m.kind=0 then m.kids.flatMap (fun k=>pr (F.map core) f k.toNat) else _)=_;rw [hk];rfl
theorem zib (F:List Mn) (f:Nat) (x:Int):printB (F.map core) f x=printB F f x:=by
 unfold printB;rw [za3,ze2,zm6]
theorem zm7 (F:List Mn):bdB (F.map core)=bdB F:=by
 unfold bdB;rw [List.all_map,List.length_map];rfl
theorem zod {F G:List Mn} (h:G.map core=F.map core) (f:Nat) (x:Int):printB G f x=printB F f x:=by rw [<- zib G,h,zib]
theorem ztx {F G:List Mn} (h:G.map core=F.map core):bdB G=bdB F:=by rw [<- zm7 G,h,zm7]
def s7a:Ops.Po:=⟨1,0,0,0,⟨#[97]⟩,⟨#[]⟩⟩
def s7b:Ops.Po:=⟨4,1,0,0,⟨#[]⟩,⟨#[]⟩⟩
def s7F:List Mn:=[⟨0,⟨#[]⟩,⟨#[]⟩,[],-1,[1],none,0,none,0⟩,⟨1,⟨#[97]⟩,⟨#[]⟩,[],0,[],none,0,none,0⟩]
theorem zu5:allP [newM] [s7a,s7b]=(s7F,2,0):=by kernel_rfl
theorem s7_bd:bdB s7F=true:=by kernel_rfl
theorem zr3:printB s7F 2 0=[60,97,62,60,47,97,62]:=by kernel_rfl
theorem zu6 {X:World} {k:Nat} {o p:Ops.Po} (hf:Ops.Fit o) (hg:Ops.Fit p) (h:X.heap[k]? = some (.cells #[.int .i64 o.kind,.int .i64 o.id,.int .i64 o.dst,.int .i64 o.pos,.string o.name,.string o.text,.int .i64 p.kind,.int .i64 p.id,.int .i64 p.dst,.int .i64 p.pos,.string p.name,.string p.text] 59 (0,0))):Ops.OL X (some ⟨k,0,none⟩) [o,p]:=fun i o' ho=>by
 match i,ho with
 | 0,ho =>
   cases ho;exact ⟨hf,k,0,rfl,lt_of_block h,by simp [World.cell?,h],by simp [World.cell?,h],by simp [World.cell?,h],by simp [World.cell?,h],by simp [World.cell?,h],by simp [World.cell?,h]⟩
 | 1,ho =>
   cases ho;exact ⟨hg,k,0,rfl,lt_of_block h,by simp [World.cell?,h],by simp [World.cell?,h],by simp [World.cell?,h],by simp [World.cell?,h],by simp [World.cell?,h],by simp [World.cell?,h]⟩
 | i+2,ho=>simp at ho
theorem fit7 (o:Ops.Po) (h:Ops.mayO o=true/\0<=o.id/\o.id<=9/\0<=o.dst/\o.dst<=9/\0<=o.pos/\o.pos<=9):Ops.Fit o:=by
 obtain ⟨⟨k1,k8⟩,-⟩:=zey h.1;refine ⟨?_,?_,?_,?_⟩<;>unfold Ops.I64<;>omega
end Go.Proofs.YtdmecdjfbpblgaaGreatDoor
