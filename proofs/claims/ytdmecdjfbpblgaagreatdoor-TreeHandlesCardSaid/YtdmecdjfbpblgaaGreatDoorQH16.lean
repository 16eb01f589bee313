/-
  (*growth).grow.
-/
import Derived.Test.YtdmecdjfbpblgaaGreatDoorQH15
namespace Go.Proofs.YtdmecdjfbpblgaaGreatDoor
set_option maxRecDepth 100000
set_option maxHeartbeats 32000000
open Go.ChangeShapes Go.WideShapes Go.ChangeAt Go.RowKit
set_option linter.unusedVariables false
set_option linter.unusedSimpArgs false
theorem zg7 (F:List Mn) (old:List Int):∀ (l l':List Mn) (s:Gs) (k:Nat),runG F old s k (l++l')=(runG F old s k l).bind fun s'=>runG F old s' (k+l.length) l'
 | [],l',s,k=>rfl
 | y::l,l',s,k=>by
   show (stepG F old s k y).bind (fun s'=>runG F old s' (k+1) (l++l'))=((stepG F old s k y).bind fun s'=>runG F old s' (k+1) l).bind _;cases stepG F old s k y with
   | none=>rfl
   | some a =>
     show runG F old a (k+1) (l++l')=(runG F old a (k+1) l).bind _;rw [zg7 F old l l' a (k+1),List.length_cons,show k+1+l.length=k+(l.length+1) by omega]
theorem zss {F F':List Mn} {old:List Int} {s0 s:Gs} {k:Nat} {x:Mn} (h:runG F old s0 0 (F'.take k)=some s) (hx:F'[k]? = some x) (hn:stepG F old s k x=none):runG F old s0 0 F'=none:=by
 have hk:=(List.getElem?_eq_some_iff.1 hx).1;have e:F'=F'.take k++(x::F'.drop (k+1)):=by
  have h1:=List.take_append_drop k F';have h2:F'.drop k=x::F'.drop (k+1):=by
   rw [List.drop_eq_getElem_cons hk];rw [List.getElem?_eq_getElem hk] at hx;cases hx;rfl
  rw [h2] at h1;exact h1.symm
 rw [e,zg7,h];show (stepG F old s (0+(F'.take k).length) x).bind _=none;rw [List.length_take,Nat.min_eq_left (by omega),Nat.zero_add,hn];rfl
structure Fgr (F:List Mn):Prop where
 len:F.length<=200
 z:Sz2 F
 kl:∀ x∈F,x.kids.length<=200
 kb:∀ x∈F,∀ y∈x.kids,0<=y/\y<=9223372036854775807
theorem zst {n m:Nat} {G:Int} {t:Tm} {v:V.Vc} {F F':List Mn} {hs:List Int} {vs:List V.Vc} {ks:List (List (List Int))} {rows:List (List Int)} {k:Nat} {s s':Gs} {x:Mn} (h:GS n m G t F F' hs vs ks k s) (hv:Ver t v F hs vs ks rows) (e:stepG F hs s k x=some s'):s'.cs.length<=s.cs.length+1024/\s'.rs.length<=s.rs.length+1:=by
 have hT:TK n m G s.t:=by obtain ⟨vk,kk,Nr,Nc,hg,-⟩:=h;exact hg.tk
 unfold stepG at e
 split at e
 · cases e;exact ⟨Nat.le_add_right _ _,Nat.le_succ _⟩
 · obtain ⟨⟨u,hd,gn⟩,ht,e2⟩:=Option.map_eq_some_iff.1 e;cases e2;obtain ⟨-,i,-,-,-,rfl⟩:=zdg ht;refine ⟨?_,by split<;>simp⟩;rw [List.length_append];refine Nat.add_le_add_left ?_ _
   by_cases hk:k<F.length
   · obtain ⟨y,-,-,-,hrc,hw⟩:=h.kidsOf hv hk;rw [if_pos hk,hrc];exact zfq hT.pk hw
   · rw [if_neg hk];exact zfq hT.pk (V.WF.empty _)
theorem zq3 (Y:World) (b0 b kg B bF:Nat) (r:Value) (s:Gs) (kw ki ko kp:Nat) (A:Option Addr) (c:Nat) (F:List Mn) (A':Option Addr) (c':Nat) (F':List Mn) (po:Option Addr) (co:Nat) (hs:List Int) (hE:GE Y kw ki ko kp kg bF A c F A' c' F' po co hs) (hGB:GB Y b kg B r s.t s.rs s.cs) (hb0:b0<=b) (hb1:b0<=kg) (hb2:b0<=B) (hbB:b<=B) (hBY:B<=Y.heap.size) (hoB:∀ j,(Value.slice po hs.length co).ownBlock=some j->j<B)
 (n m:Nat) (G:Int) (t:Tm) (v:V.Vc) (vs:List V.Vc) (ks:List (List (List Int))) (rows:List (List Int)) (hv:Ver t v F hs vs ks rows) (k:Nat) (hgs:GS n m G t F F' hs vs ks k s) (hG:G<=1099511627775) (hm0:0<m) (x:Mn) (hx:F'[k]? = some x) (hF:Fgr F) (hF':Fgr F') (hcl:s.cs.length<=900000) (hrl:s.rs.length<=100000) :
 Calls Tryz.prog 37 #[.int .i64 k,.pointer (some ⟨kw,0,none⟩),.pointer (some ⟨ki,0,none⟩),.pointer (some ⟨ko,0,none⟩),.pointer (some ⟨kp,0,none⟩)] Y (GivesSt (stepG F hs s k x) s b0 b kg B r Y):=by
 have hT:TK n m G s.t:=by obtain ⟨vk,kk,Nr,Nc,hg,-⟩:=hgs;exact hg.tk
 have hxm:=List.mem_of_getElem? hx;have hal:=hF'.z.attrs x hxm
 by_cases hk:k<F.length
 · obtain ⟨y,hy⟩:∃ y,F[k]? = some y:=⟨_,List.getElem?_eq_getElem hk⟩;cases hsm:sameN2 y x with
   | true=>exact zox Y b0 b kg B bF r s kw ki ko kp A c F A' c' F' po co hs hE hGB hb0 hb1 hb2 hbB hBY k x y hx hy hF.len hF'.len hF.z hF'.z hv.len hsm
   | false =>
     obtain ⟨y',hy',hl,h64,hrc,hw⟩:=hgs.kidsOf hv hk;exact zoy Y b0 b kg B bF r s kw ki ko kp A c F A' c' F' po co hs hE hGB hb0 hb1 hb2 hbB hBY hoB k x y hx hy hF.len hF'.len hF.z hF'.z hv.len hsm (hF'.kl x hxm) (hF'.kb x hxm) (by omega) n m G hT hG hm0 hcl hrl hl h64 y'.kids (ks.getD k []) (by rw [hrc];exact hw)
 · exact zq1 Y b0 b kg B bF r s kw ki ko kp A c F A' c' F' po co hs hE hGB hb0 hb1 hb2 hbB hBY k x hx (by omega) hF'.len (hF'.kl x hxm) (hF'.kb x hxm) (by omega) n m G hT hG hm0 hcl
theorem zai {w:World} {b kh sz n j:Nat} {e:TypeId} {v x:Value} {xs:List Value} (h:w.ownsRow b e sz v n xs) (hne:v.ownBlock≠some kh):(w.setCell ⟨kh,j,none⟩ x).ownsRow b e sz v n xs :=
 ownsRow_setCell_other h (a:=⟨kh,j,none⟩) hne _
theorem GB.setH {Y:World} {b kg kh:Nat} {r:Value} {t:Tm} {rs cs:List Int} {xs:Array Value} (h:GB Y b kg (kh+1) r t rs cs) (hk:Y.heap[kh]? = some (.cells xs 37 (0,0))) (j:Nat) (x:Value):GB (Y.setCell ⟨kh,j,none⟩ x) b kg (kh+1) r t rs cs:=by
 obtain ⟨g,u,f,pg,pu,pf,pc,gr,gc,L,h1,h2,h3⟩:=h;have nt:∀ {e:TypeId} {sz n:Nat} {v:Value} {ys:List Value},Y.ownsRow b e sz v n ys->e≠37->v.ownBlock≠some kh:=fun ho hne=>zi ho hk hne
 have n1:g.ownBlock≠some kh:=fun e=>h3.2.1 kh e rfl
 have n2:pg.ownBlock≠some kh:=fun e=>h3.2.2 kh e rfl
 have n3:gr.ownBlock≠some kh:=fun e=>by have:=h2 kh e;omega
 have n4:gc.ownBlock≠some kh:=fun e=>by have:=h3.1 kh e;omega
 refine ⟨g,u,f,pg,pu,pf,pc,gr,gc,L,⟨so h1.blk (zk hk h1.blk (by decide)).1,⟨⟨zai h1.ta.ar.g n1,zai h1.ta.ar.u (nt h1.ta.ar.u (by decide)),zai h1.ta.ar.f (nt h1.ta.ar.f (by decide))⟩,⟨⟨zai h1.ta.pa.ar.g n2,zai h1.ta.pa.ar.u (nt h1.ta.pa.ar.u (by decide)),zai h1.ta.pa.ar.f (nt h1.ta.pa.ar.f (by decide))⟩,zai h1.ta.pa.cs (nt h1.ta.pa.cs (by decide))⟩,zai h1.ta.row (nt h1.ta.row (by decide)),h1.ta.like,fun y hy=>zai (h1.ta.att y hy) (nt (h1.ta.att y hy) (by decide))⟩,zai h1.rr n3,zai h1.cc n4,h1.gC,h1.pC,h1.rC,h1.gR,h1.pR,h1.cR⟩,h2,h3⟩
theorem GE.setH {Y:World} {kw ki ko kp kg bF kh:Nat} {A:Option Addr} {c:Nat} {F:List Mn} {A':Option Addr} {c':Nat} {F':List Mn} {po:Option Addr} {co:Nat} {old:List Int} {xs:Array Value} (h:GE Y kw ki ko kp kg bF A c F A' c' F' po co old) (hk:Y.heap[kh]? = some (.cells xs 37 (0,0))) (ho:(Value.slice po old.length co).ownBlock≠some kh) (j:Nat) (x:Value):GE (Y.setCell ⟨kh,j,none⟩ x) kw ki ko kp kg bF A c F A' c' F' po co old:=by
 have of:∀ {v:Value} {H:List Mn},OF Y bF v H->OF (Y.setCell ⟨kh,j,none⟩ x) bF v H:=fun {v H} h=>⟨zai h.row (zi h.row hk (by decide)),h.fit,fun m hm=>⟨zai (h.lst m hm).at_ (zi (h.lst m hm).at_ hk (by decide)),zai (h.lst m hm).ki (zi (h.lst m hm).ki hk (by decide))⟩,h.apA,h.apK⟩
 exact ⟨so h.w (zk hk h.w (by decide)).1,so h.i (zk hk h.i (by decide)).1,so h.o (zk hk h.o (by decide)).1,so h.p (zk hk h.p (by decide)).1,of h.fF,of h.fG,zai h.ro ho⟩
structure LG (X Y:World) (b0 b kg kh bF:Nat) (r:Value) (kw ki ko kp kv kz:Nat) (A:Option Addr) (c:Nat) (F:List Mn) (A':Option Addr) (c':Nat) (F':List Mn) (po:Option Addr) (co:Nat) (hs:List Int) (n m:Nat) (G:Int) (t:Tm) (rt:Int) (sz:Nat) (vs:List V.Vc) (ks:List (List (List Int))) (k:Nat) (s:Gs):Prop where
 ge:GE Y kw ki ko kp kg bF A c F A' c' F' po co hs
 gb:GB Y b kg (kh+1) r s.t s.rs s.cs
 hr:Y.ownsRow kh 37 1 (.slice (some ⟨kh,0,none⟩) F'.length F'.length) F'.length (V.gvs (s.hs++List.replicate (F'.length - k) 0))
 be:Below b0 X Y
 bv:Y.heap[kv]? = some (.cells #[.int .u64 rt,.int .i64 sz] 41 (0,0))
 br:Y.heap[kz]? = some (.cells #[.int .u64 0,.int .i64 0] 41 (0,0))
 sz:kh+1<=Y.heap.size
 gs:GS n m G t F F' hs vs ks k s
 run:runG F hs ⟨t,[],[],[]⟩ 0 (F'.take k)=some s
 cl:s.cs.length<=1024*k/\s.rs.length<=k
theorem zlq {w:World} {b kh n c:Nat} {xs:List Value} (h:w.ownsRow b 37 1 (.slice (some ⟨kh,0,none⟩) n c) n xs):∃ cur,w.heap[kh]? = some (.cells cur 37 (0,0)):=by
 rcases h.2 with ⟨hn,-⟩|⟨g,cap,cur,hv,-,hg,-⟩
 · cases hn
 · have e:=congrArg Value.ownBlock hv;simp [Value.ownBlock] at e;subst e;exact ⟨cur,hg⟩
theorem LG.step {X Y Y':World} {b0 b kg kh bF:Nat} {r:Value} {kw ki ko kp kv kz:Nat} {A:Option Addr} {c:Nat} {F:List Mn} {A':Option Addr} {c':Nat} {F':List Mn} {po:Option Addr} {co:Nat} {hs:List Int} {n m:Nat} {G:Int} {t:Tm} {rt:Int} {sz:Nat} {v:V.Vc} {vs:List V.Vc} {ks:List (List (List Int))} {rows:List (List Int)} {k:Nat} {s s':Gs} {h:Int} {x:Mn} (hL:LG X Y b0 b kg kh bF r kw ki ko kp kv kz A c F A' c' F' po co hs n m G t rt sz vs ks k s) (hG:G<=1099511627775) (hv:Ver t v F hs vs ks rows) (hF':Fgr F') (hx:F'[k]? = some x) (e:stepG F hs s k x=some s') (hh:s'.hs=s.hs++[h]) (hgb:GB Y' b kg (kh+1) r s'.t s'.rs s'.cs) (hkw:KW b0 (kh+1) kg r Y Y') (hb0:b0<=kh) (ho:∀ j,(Value.slice po hs.length co).ownBlock=some j->j<kh) :
 (∃ v0,Y'.cell? ⟨kh,k,none⟩=some v0)/\Y'.frozen? ⟨kh,k,none⟩=false/\LG X (Y'.setCell ⟨kh,k,none⟩ (.int .u64 h)) b0 b kg kh bF r kw ki ko kp kv kz A c F A' c' F' po co hs n m G t rt sz vs ks (k+1) s':=by
 have hk:=(List.getElem?_eq_some_iff.1 hx).1;have hgbY:=hL.gb;obtain ⟨g,u,f,pg,pu,pf,pc,gr,gc,L,hga,-⟩:=hgbY;have hr1:=hkw.own hL.hr (fun j ej=>by cases ej;exact Nat.lt_succ_self _) hga.blk (by decide) (zp hL.hr hga.ta.row (by decide));obtain ⟨cur,hcur⟩:=zlq hr1;have hge:=hL.ge.kw hkw hL.gb (fun j ej=>by have:=ho j ej;omega);have hxm:=List.mem_of_getElem? hx;have hgs':=hL.gs.step hG hv hx (hF'.kl x hxm) (fun y hy=>by have:=hF'.kb x hxm y hy;omega) e;obtain ⟨l1,l2⟩:=zst hL.gs hv e;have hlen:s.hs.length=k:=by obtain ⟨vk,kk,Nr,Nc,hg,-⟩:=hL.gs;exact hg.hl
 have hst:=(hr1.stored k (.int .u64 h)).1;have hset:(V.gvs (s.hs++List.replicate (F'.length - k) 0)).set k (.int .u64 h)=V.gvs (s'.hs++List.replicate (F'.length - (k+1)) 0):=by
  rw [hh,show F'.length - k=(F'.length - (k+1))+1 by omega,List.replicate_succ];simp only [V.gvs,List.map_append,List.map_cons,List.map_nil];rw [List.set_append_right _ _ (by rw [List.length_map,hlen];exact Nat.le_refl _),List.length_map,hlen,Nat.sub_self,List.set_cons_zero,List.append_assoc];rfl
 rw [hset] at hst;have hcell:∃ v0,Y'.cell? ⟨kh,k,none⟩=some v0:=by
  have hlt:k<(V.gvs (s.hs++List.replicate (F'.length - k) 0)).length:=by
   simp [V.gvs,hlen];omega
  have h2:=hr1.cells rfl k _ (List.getElem?_eq_getElem hlt);rw [show (⟨kh,0,none⟩:Addr).add k=⟨kh,0+k,none⟩ by unfold Addr.add;split<;>simp_all,Nat.zero_add] at h2;exact ⟨_,h2⟩
 refine ⟨hcell,za hcur k,⟨hge.setH hcur (fun ej=>by have:=ho kh ej;omega) k _,hgb.setH hcur k _,hst,(hL.be.trans hkw.be).setCell (p:=⟨kh,k,none⟩) hb0 _,so ((hkw.ty _ _ _ (by decide) (by decide) (by decide) hL.bv).trans hL.bv) (fun e'=>by rw [e'] at hcur;have e2:=(hkw.ty _ _ _ (by decide) (by decide) (by decide) hL.bv).trans hL.bv;rw [hcur] at e2;cases e2),so ((hkw.ty _ _ _ (by decide) (by decide) (by decide) hL.br).trans hL.br) (fun e'=>by rw [e'] at hcur;have e2:=(hkw.ty _ _ _ (by decide) (by decide) (by decide) hL.br).trans hL.br;rw [hcur] at e2;cases e2),by have:=hkw.be.size;have:=hL.sz;simp;omega,hgs',?_,by have:=hL.cl;omega⟩⟩;rw [za7 hx,zjs,hL.run];show stepG F hs s (0+(F'.take k).length) x=some s';rw [List.length_take,Nat.min_eq_left (by omega),Nat.zero_add];exact e
def OldAt (W wx:World) (ko:Nat) (po:Option Addr) (co:Nat) (hs:List Int):Prop :=
 Hid (wx.heap[ko]? = some (.cells #[.slice po hs.length co] 26 (0,0)))/\Hid (wx.ownsRow W.heap.size 37 1 (.slice po hs.length co) hs.length (V.gvs hs))/\Hid (Below W.heap.size W wx)
theorem oldA {W wt:World} {po:Option Addr} {co:Nat} {hs:List Int} (ho:wt.ownsRow W.heap.size 37 1 (.slice po hs.length co) hs.length (V.gvs hs)) (hb:Below W.heap.size W wt):OldAt W (wt.alloc (.cells #[.slice po hs.length co] 26)) wt.heap.size po co hs :=
 ⟨Hq (hnew _ _),Hq (ho.alloc _),Hq (alloc' hb _)⟩
theorem oldB {W wt:World} {ko:Nat} {v0:Value} {po:Option Addr} {co:Nat} {hs:List Int} (ho:wt.ownsRow W.heap.size 37 1 (.slice po hs.length co) hs.length (V.gvs hs)) (hb:Below W.heap.size W wt) (hk:wt.heap[ko]? = some (.cells #[v0] 26 (0,0))) (hw:W.heap.size<=ko):OldAt W (wt.setCell ⟨ko,0,none⟩ (.slice po hs.length co)) ko po co hs :=
 ⟨Hq (by rw [zb hk];simp),Hq (ownsRow_setCell_other ho (a:=⟨ko,0,none⟩) (zi ho hk (by decide)) _),Hq (hb.setCell (p:=⟨ko,0,none⟩) hw _)⟩
def GR (X:World) (b0 b kg:Nat) (r:Value) (t:Tm) (rs cs:List Int):Prop :=
 ∃ g u f pg pu pf pc gr gc L,GA X b kg g u f r pg pu pf pc gr gc L t rs cs/\(∀ k,gr.ownBlock=some k->b0<=k)/\∀ k,gc.ownBlock=some k->b0<=k
def GivesGr (o:Option (Tm × V.Vc × List Int × List Int)) (b0 b kg:Nat) (r:Value) (X:World) (e:Ending) (X':World):Prop :=
 Below b0 X X'/\match o with
 | none=>∃ (a:Int) (z:Nat),e = .returned (.tuple #[.agg #[.int .u64 a,.int .i64 z],.int .i64 2])
 | some (u,v',gr,gc)=>e = .returned (.tuple #[.agg #[.int .u64 v'.root,.int .i64 v'.size],.int .i64 0])/\GR X' b0 b kg r u gr gc
theorem LG.at_ {X Y Y':World} {b0 b kg kh bF:Nat} {r:Value} {kw ki ko kp kv kz:Nat} {A:Option Addr} {c:Nat} {F:List Mn} {A':Option Addr} {c':Nat} {F':List Mn} {po:Option Addr} {co:Nat} {hs:List Int} {n m:Nat} {G:Int} {t:Tm} {rt:Int} {sz:Nat} {vs:List V.Vc} {ks:List (List (List Int))} {k:Nat} {s:Gs} (hL:LG X Y b0 b kg kh bF r kw ki ko kp kv kz A c F A' c' F' po co hs n m G t rt sz vs ks k s) (hk:k<F'.length) (hkw:KW b0 (kh+1) kg r Y Y') :
 (∃ v0,Y'.cell? ⟨kh,k,none⟩=some v0)/\Y'.frozen? ⟨kh,k,none⟩=false/\Y'.heap[kv]? = some (.cells #[.int .u64 rt,.int .i64 sz] 41 (0,0))/\Y'.heap[kz]? = some (.cells #[.int .u64 0,.int .i64 0] 41 (0,0))/\kv≠kh/\kz≠kh:=by
 have hgbY:=hL.gb;obtain ⟨g,u,f,pg,pu,pf,pc,gr,gc,L,hga,-⟩:=hgbY;have hr1:=hkw.own hL.hr (fun j ej=>by cases ej;exact Nat.lt_succ_self _) hga.blk (by decide) (zp hL.hr hga.ta.row (by decide));obtain ⟨cur,hcur⟩:=zlq hr1;have hlen:s.hs.length=k:=by obtain ⟨vk,kk,Nr,Nc,hg,-⟩:=hL.gs;exact hg.hl
 have hbv:=(hkw.ty _ _ _ (by decide) (by decide) (by decide) hL.bv).trans hL.bv;have hbr:=(hkw.ty _ _ _ (by decide) (by decide) (by decide) hL.br).trans hL.br;refine ⟨?_,za hcur k,hbv,hbr,(zk hbv hcur (by decide)).1,(zk hbr hcur (by decide)).1⟩;have hlt:k<(V.gvs (s.hs++List.replicate (F'.length - k) 0)).length:=by
  simp [V.gvs,hlen];omega
 have h2:=hr1.cells rfl k _ (List.getElem?_eq_getElem hlt);rw [show (⟨kh,0,none⟩:Addr).add k=⟨kh,0+k,none⟩ by unfold Addr.add;split<;>simp_all,Nat.zero_add] at h2;exact ⟨_,h2⟩
theorem zlr (X:World) (b0 b kg bF:Nat) (g u f r pg pu pf pc:Value) (L:List Rm) (t:Tm) (hga:GA X b kg g u f r pg pu pf pc (.slice none 0 0) (.slice none 0 0) L t [] []) (hb0:b0<=b) (hb1:b0<=kg) (hbX:b<=X.heap.size) (v:V.Vc) (A:Option Addr) (c:Nat) (F:List Mn) (hF:OF X bF (.slice A F.length c) F) (A':Option Addr) (c':Nat) (F':List Mn) (hF':OF X bF (.slice A' F'.length c') F') (hbF:bF<=X.heap.size)
 (n m:Nat) (G:Int) (hT:TK n m G t) (hG:G<=1099511627775) (hm0:0<m) (hs:List Int) (vs:List V.Vc) (ks:List (List (List Int))) (rows:List (List Int)) (hv:Ver t v F hs vs ks rows) (fF:Fgr F) (fG:Fgr F') (hle:F.length<=F'.length) :
 Calls Tryz.prog 16 #[.pointer (some ⟨kg,0,none⟩),.agg #[.int .u64 v.root,.int .i64 v.size],.slice A F.length c,.slice A' F'.length c'] X (GivesGr (t.grown v hs F F') b0 b kg r X):=by
 have hkX:kg<X.heap.size:=lt_of_block hga.blk;have HVL:Hid (hs.length=F.length):=Hq hv.len;have hsz:v.size<=256:=by have:=hv.ixw.size;have:=hv.ixw.small;omega
 have hb64:=hv.ixw.b64;obtain ⟨agp,cgp,aup,cup,afp,cfp,acp,ccp,rfl,rfl,rfl,rfl⟩:=hga.ta.pa.form;obtain ⟨rt,sz⟩:=v;obtain ⟨W,hW⟩:∃ W,W=(((((X.alloc (.cells #[.pointer (some ⟨kg,0,none⟩)] 106)).alloc (.cells #[.int .u64 rt,.int .i64 sz] 41)).alloc (.cells #[.slice A F.length c] 61)).alloc (.cells #[.slice A' F'.length c'] 61)).alloc (.cells #[.int .u64 0,.int .i64 0] 41)):=⟨_,rfl⟩;have hWf:Below X.heap.size X W/\W.heap.size=X.heap.size+5/\W.heap[X.heap.size]? = some (.cells #[.pointer (some ⟨kg,0,none⟩)] 106 (0,0))/\W.heap[X.heap.size+1]? = some (.cells #[.int .u64 rt,.int .i64 sz] 41 (0,0))/\W.heap[X.heap.size+1+1]? = some (.cells #[.slice A F.length c] 61 (0,0))/\W.heap[X.heap.size+1+1+1]? = some (.cells #[.slice A' F'.length c'] 61 (0,0))/\W.heap[X.heap.size+1+1+1+1]? = some (.cells #[.int .u64 0,.int .i64 0] 41 (0,0)):=by
  rw [hW];have s1:∀ (w:World) (o:Obj),(w.alloc o).heap.size=w.heap.size+1:=fun w o=>by simp
  refine ⟨((((((Below.refl _ X).alloc (Nat.le_refl _) _).alloc (by simp) _).alloc (by simp;omega) _).alloc (by simp;omega) _).alloc (by simp;omega) _),by simp,?_,?_,?_,?_,?_⟩
  · rw [hold _ _ (by first|(simp;done)|(simp;omega)),hold _ _ (by first|(simp;done)|(simp;omega)),hold _ _ (by first|(simp;done)|(simp;omega)),hold _ _ (by first|(simp;done)|(simp;omega))];exact hnew _ _
  · rw [hold _ _ (by first|(simp;done)|(simp;omega)),hold _ _ (by first|(simp;done)|(simp;omega)),hold _ _ (by first|(simp;done)|(simp;omega))];exact s1 X _ ▸ hnew _ _
  · rw [hold _ _ (by first|(simp;done)|(simp;omega)),hold _ _ (by first|(simp;done)|(simp;omega))];have:=hnew ((X.alloc (.cells #[.pointer (some ⟨kg,0,none⟩)] 106)).alloc (.cells #[.int .u64 rt,.int .i64 sz] 41)) (.cells #[.slice A F.length c] 61);simpa only [s1] using this
  · rw [hold _ _ (by first|(simp;done)|(simp;omega))];have:=hnew (((X.alloc (.cells #[.pointer (some ⟨kg,0,none⟩)] 106)).alloc (.cells #[.int .u64 rt,.int .i64 sz] 41)).alloc (.cells #[.slice A F.length c] 61)) (.cells #[.slice A' F'.length c'] 61);simpa only [s1] using this
  · have:=hnew ((((X.alloc (.cells #[.pointer (some ⟨kg,0,none⟩)] 106)).alloc (.cells #[.int .u64 rt,.int .i64 sz] 41)).alloc (.cells #[.slice A F.length c] 61)).alloc (.cells #[.slice A' F'.length c'] 61)) (.cells #[.int .u64 0,.int .i64 0] 41);simpa only [s1] using this
 obtain ⟨hbW,hWs,hW0,hW1,hW2,hW3,hW4⟩:=hWf;have HBW:=Hq hbW;have HWS:=Hq hWs;have HW0:=Hq hW0;have HW1:=Hq hW1;have HW2:=Hq hW2;have HW3:=Hq hW3;have HW4:=Hq hW4;have HWE:=Hq hW;have HGW:=Hq (hga.below hbW);have HFW:=Hq (hF.below hbW);have HGf:=Hq (hF'.below hbW);have HT:=Hq hT;have HV:=Hq hv;have HFF:=Hq fF;have HFG:=Hq fG;have HIT:Hid (∀ V1,Below W.heap.size W V1->Calls Tryz.prog 36 #[.agg #[.slice agp t.pl.st.gens.length cgp,.slice aup t.pl.st.used.length cup,.slice afp t.pl.st.free.length cfp,.slice acp t.pl.ch.length ccp],.agg #[.int .u64 rt,.int .i64 sz]] V1 (fun e X'=>∃ vi,e = .returned (.tuple #[vi,.int .i64 0])/\X'.ownsRow V1.heap.size 37 1 vi hs.length (V.gvs hs)/\Below V1.heap.size V1 X')):=Hq (fun V1 hb=>(V.zk8 rt sz _ _ _ _ t.pl b m G V1 (HGW.out.ta.pa.below hb) HT.out.pk hb64.1 hb64.2 hsz).mono (by
  rintro e X' ⟨(⟨hn,rfl⟩|⟨l,v,hl,rfl,ho⟩),hb'⟩
  · rw [HV.out.ixw.items] at hn;cases hn
  · rw [HV.out.ixw.items] at hl;cases hl;exact ⟨v,rfl,ho,hb'⟩))
 have HJ:Hid (∀ V1,Below W.heap.size W V1->V1.cell? ⟨X.heap.size,0,none⟩=some (.pointer (some ⟨kg,0,none⟩))/\V1.cell? ⟨kg,4,none⟩=some (.slice agp t.pl.st.gens.length cgp)/\V1.cell? ⟨kg,5,none⟩=some (.slice aup t.pl.st.used.length cup)/\V1.cell? ⟨kg,6,none⟩=some (.slice afp t.pl.st.free.length cfp)/\V1.cell? ⟨kg,7,none⟩=some (.slice acp t.pl.ch.length ccp)/\V1.cell? ⟨X.heap.size+1,0,none⟩=some (.int .u64 rt)/\V1.cell? ⟨X.heap.size+1,1,none⟩=some (.int .i64 sz)):=Hq (fun V1 hb=>by
  have hk:=(hb.block _ (lt_of_block HGW.out.blk)).trans HGW.out.blk;obtain ⟨e0,e1⟩:=block2 ((hb.block _ (lt_of_block HW1.out)).trans HW1.out);refine ⟨block1 ((hb.block _ (lt_of_block HW0.out)).trans HW0.out),?_,?_,?_,?_,e0,e1⟩<;>simp [World.cell?,hk])
 obtain ⟨fl,hfl⟩:∃ z,F.length=z:=⟨_,rfl⟩;obtain ⟨gl,hgl⟩:∃ z,F'.length=z:=⟨_,rfl⟩;have hglm:gl<=200:=by rw [<- hgl];exact fG.len
 have HFL:=Hq hfl;have HGL:=Hq hgl;have hwf:=hv.ixw;rw [hfl,hgl];rw [hfl] at HWE;rw [hgl] at HWE;clear hbW hW0 hW1 hW2 hW3 hW4 hWs hW hga hF hF' hT hv fF fG hfl hgl hsz hwf;go_enter Tryz.func16,Tryz.ntmps16;go_upto_region 1 with fail
 rw [<- HWE.out];obtain ⟨x0,x1,x2,x3,x4,x5,x6⟩:=HJ.out W (Below.refl _ _)
 go_cut [10,11] from 16 to 26 (fun a b wx=>∃ (ko:Nat) (po:Option Addr) (co:Nat),a = .pointer (some ⟨ko,0,none⟩)/\b = .int .i64 0/\OldAt W wx ko po co hs)
 case first =>
  go_region_held3 (fun V1=>V1.cell? ⟨X.heap.size,0,none⟩=some (.pointer (some ⟨kg,0,none⟩))/\V1.cell? ⟨kg,4,none⟩=some (.slice agp t.pl.st.gens.length cgp)/\V1.cell? ⟨kg,5,none⟩=some (.slice aup t.pl.st.used.length cup)/\V1.cell? ⟨kg,6,none⟩=some (.slice afp t.pl.st.free.length cfp)/\V1.cell? ⟨kg,7,none⟩=some (.slice acp t.pl.ch.length ccp)/\V1.cell? ⟨X.heap.size+1,0,none⟩=some (.int .u64 rt)/\V1.cell? ⟨X.heap.size+1,1,none⟩=some (.int .i64 sz))
   ((refine HJ.out _ ?_
     repeat' (first
      | with_reducible exact HBt.out
      | with_reducible exact Below.refl _ _
      | with_reducible refine alloc' ?_ _
      | with_reducible refine Below.drew ?_
      | ((with_reducible refine Below.setCell ?_ ?_ _);rotate_left;focus (first|(show _<=_;omega)|(show _<=_;simp;omega)|(show _<=_;simp;done))))))
   (first
     | (go_at_call 36
        refine (HIT.out _ (by repeat' (first|with_reducible exact Below.refl _ _|with_reducible refine alloc' ?_ _|with_reducible refine Below.drew ?_))).mono ?_;rintro e wt ⟨vi,rfl,hol5,hb5⟩;obtain ⟨po,co,rfl,-,-⟩:=zj hol5;have HOt:Hid (wt.ownsRow W.heap.size 37 1 (.slice po hs.length co) hs.length (V.gvs hs)):=Hq (zq hol5 (by first|(show _<=_;simp;done)|(show _<=_;simp;omega)));have HBt:Hid (Below W.heap.size W wt):=Hq (Below.trans (by repeat' (first|with_reducible exact Below.refl _ _|with_reducible refine alloc' ?_ _|with_reducible refine Below.drew ?_)) (hb5.mono (by first|(show _<=_;simp;done)|(show _<=_;simp;omega))));have hst:=HBt.out.size
        first
         | (have HP5:Hid (wt.heap[W.heap.size]? = some (.cells #[.slice none 0 0] 26 (0,0))):=Hq ((hb5.block _ (lt_of_block (hnew _ _))).trans (hnew _ _));have d0:=block1 HP5.out;have y0:=za HP5.out 0;obtain ⟨p5a,p5b,p5c⟩:=lt_ne HP5.out)
         | skip
        clear hol5 hb5))
  all_goals
   go_wp2;go_meet
   first
    | with_reducible exact ⟨_,_,_,rfl,rfl,oldB HOt.out HBt.out HP5.out (by first|omega|(simp;done)|(simp;omega))⟩
    | with_reducible exact ⟨_,_,_,rfl,rfl,oldA HOt.out HBt.out⟩
 case rest =>
  obtain ⟨ko,po,co,rfl,rfl,HKO,HRO,HBc⟩:=hcut;clear x0 x1 x2 x3 x4 x5 x6 HIT HJ;have HEc:Hid (GE wc (X.heap.size+1+1) (X.heap.size+1+1+1) ko X.heap.size kg bF A c F A' c' F' po co hs):=Hq ⟨(HBc.out.block _ (lt_of_block HW2.out)).trans HW2.out,(HBc.out.block _ (lt_of_block HW3.out)).trans HW3.out,HKO.out,(HBc.out.block _ (lt_of_block HW0.out)).trans HW0.out,HFW.out.below HBc.out,HGf.out.below HBc.out,zq HRO.out (by rw [HWS.out];omega)⟩;have HGc:=Hq (HGW.out.below HBc.out);have HV1c:=Hq ((HBc.out.block _ (lt_of_block HW1.out)).trans HW1.out);have HV4c:=Hq ((HBc.out.block _ (lt_of_block HW4.out)).trans HW4.out);have hXc:X.heap.size+5<=wc.heap.size:=by rw [<- HWS.out];exact HBc.out.size
  have hmk:=fun W:World=>run_make_row' (P:=Tryz.prog) 26 37 (.int .u64 0) 8 Tryz.underlying26 V.za4 rfl .i64 .i64 gl (by omega) (by omega) W
  have z3:wc.cell? ⟨X.heap.size+1+1+1,0,none⟩=some (.slice A' gl c'):=by rw [<- HGL.out];exact block1 HEc.out.i
  have z3a:=fun o:Obj=>Lib.cell?_alloc_some o z3
  go_wp2_with fail;clear hmk z3 z3a;obtain ⟨kh,hkh⟩:∃ k,k=wc.heap.size:=⟨_,rfl⟩;obtain ⟨W1,hW1⟩:∃ W1,W1=wc.alloc (.cells (madeCells #[.int .u64 0] gl) 37):=⟨_,rfl⟩;rw [<- hW1,<- hkh];have hb1':Below wc.heap.size wc W1:=by rw [hW1];exact Bq _ _
  have hs1:W1.heap.size=kh+1:=by rw [hW1,hkh];simp
  have hrow:W1.ownsRow kh 37 1 (.slice (some ⟨kh,0,none⟩) gl gl) gl (V.gvs (List.replicate gl 0)):=by
   have:=V.zbr (base:=kh) (show W1.heap[kh]? = some (.cells (madeCells #[.int .u64 0] gl) 37 (0,0)) by rw [hW1,hkh];exact hnew _ _) (Nat.le_refl _) (by omega);simpa [V.gvs] using this
  have HLG0:Hid (LG X W1 b0 b kg kh bF r (X.heap.size+1+1) (X.heap.size+1+1+1) ko X.heap.size (X.heap.size+1) (X.heap.size+1+1+1+1) A c F A' c' F' po co hs n m G t rt sz vs ks 0 ⟨t,[],[],[]⟩):=Hq (by
   refine ⟨HEc.out.below hb1',⟨g,u,f,_,_,_,_,_,_,L,HGc.out.below hb1',fun k e=>(by cases e),fun k e=>(by cases e),fun k e=>?_,fun k e=>?_⟩,?_,(HBW.out.mono (by omega)).trans ((HBc.out.mono (by rw [HWS.out];omega)).trans (hb1'.mono (by omega))),(hb1'.block _ (lt_of_block HV1c.out)).trans HV1c.out,(hb1'.block _ (lt_of_block HV4c.out)).trans HV4c.out,by omega,GS.start F F' hs vs ks HT.out,rfl,Nat.zero_le _,Nat.zero_le _⟩
   · have:=(HGc.out.ta.ar.g.lt k e).2;omega
   · have:=(HGc.out.ta.pa.ar.g.lt k e).2;omega
   · rw [HGL.out];simpa using hrow)
  have HOB:Hid (∀ j,(Value.slice po hs.length co).ownBlock=some j->j<kh):=Hq (fun j e=>by have:=(HRO.out.lt j e).2;omega);have hbk:b0<=kh:=by omega
  have hbk2:b<=kh:=by omega
  clear hW1 hb1' hs1 hrow hkh HRO HKO HV1c HV4c HGc HEc
  go_loopw [11,14,37] (fun ev _ i Y=>∃ (k:Nat) (s:Gs),k<=gl/\ev = .int .i64 0/\i = .int .i64 k/\Hid (LG X Y b0 b kg kh bF r (X.heap.size+1+1) (X.heap.size+1+1+1) ko X.heap.size (X.heap.size+1) (X.heap.size+1+1+1+1) A c F A' c' F' po co hs n m G t rt sz vs ks k s)) (fun _ _ i _=>gl - (intOf i).toNat)
  case atStart => exact ⟨0,_,Nat.zero_le _,rfl,rfl,HLG0⟩
  case round =>
   obtain ⟨k,s,hk,rfl,rfl,HL⟩:=hrel
   by_cases hlt:k<gl
   · have k0:(0:Int)<=(k:Int):=by omega
     have k1:(k:Int)<(gl:Int):=by omega
     obtain ⟨x,hx⟩:∃ x,F'[k]? = some x:=⟨_,List.getElem?_eq_getElem (by rw [HGL.out];exact hlt)⟩;have HX:=Hq hx;have hcl:=HL.out.cl;have HC:Hid (Calls Tryz.prog 37 #[.int .i64 k,.pointer (some ⟨X.heap.size+1+1,0,none⟩),.pointer (some ⟨X.heap.size+1+1+1,0,none⟩),.pointer (some ⟨ko,0,none⟩),.pointer (some ⟨X.heap.size,0,none⟩)] wr (GivesSt (stepG F hs s k x) s b0 b kg (kh+1) r wr)):=Hq (zq3 wr b0 b kg (kh+1) bF r s _ _ ko _ A c F A' c' F' po co hs HL.out.ge HL.out.gb hb0 hb1 (by omega) (by omega) HL.out.sz (fun j e=>by have:=HOB.out j e;omega) n m G t ⟨rt,sz⟩ vs ks rows HV.out k HL.out.gs hG hm0 x hx HFF.out HFG.out (by omega) (by omega));clear hx hcl;have hkl:k<F'.length:=by rw [HGL.out];exact hlt
     have HAT:Hid (∀ Y',KW b0 (kh+1) kg r wr Y'->(∃ v0,Y'.cell? ⟨kh,k,none⟩=some v0)/\Y'.frozen? ⟨kh,k,none⟩=false/\Y'.heap[X.heap.size+1]? = some (.cells #[.int .u64 rt,.int .i64 sz] 41 (0,0))/\Y'.heap[X.heap.size+1+1+1+1]? = some (.cells #[.int .u64 0,.int .i64 0] 41 (0,0))/\X.heap.size+1≠kh/\X.heap.size+1+1+1+1≠kh):=Hq (fun Y' hk=>HL.out.at_ hkl hk);clear hkl;cases hst:stepG F hs s k x with
     | none =>
       rw [hst] at HC;have HRN:Hid (t.grown ⟨rt,sz⟩ hs F F'=none):=Hq (by unfold Tm.grown;rw [zss HL.out.run HX.out hst];rfl);clear hst;go_upto_region 10 with (go_at_call 37;refine HC.out.mono ?_;rintro e w3 ⟨rfl,hkw⟩;have HKW:=Hq hkw;obtain ⟨⟨v0,hv0⟩,hf0,hb1',hb2',hn1,hn2⟩:=HAT.out w3 hkw;have HB1:=Hq hb1';have HB2:=Hq hb2';have HN:=Hq (And.intro hn1 hn2);clear hkw hb1' hb2' hn1 hn2)
       obtain ⟨Z,hZ⟩:∃ Z,Z=w3.setCell ⟨kh,k,none⟩ (.int .u64 0):=⟨_,rfl⟩;rw [<- hZ];have hbZ1:Z.heap[X.heap.size+1]? = some (.cells #[.int .u64 rt,.int .i64 sz] 41 (0,0)):=by rw [hZ];exact so HB1.out HN.out.1.symm
       have hbZ2:Z.heap[X.heap.size+1+1+1+1]? = some (.cells #[.int .u64 0,.int .i64 0] 41 (0,0)):=by rw [hZ];exact so HB2.out HN.out.2.symm
       have HBZ:Hid (Below b0 X Z):=Hq (by rw [hZ];exact (HL.out.be.trans HKW.out.be).setCell (p:=⟨kh,k,none⟩) hbk _);obtain ⟨e0,e1⟩:=block2 hbZ1;obtain ⟨e2,e3⟩:=block2 hbZ2;have f0:=za hbZ2 0;have f1:=za hbZ2 1;have HBZ2:=Hq hbZ2;clear hZ hv0 hf0 hbZ1 hbZ2;go_wp2;obtain ⟨q0,q1⟩:=block2 (za1 HBZ2.out (.int .u64 rt) (.int .i64 sz));refine bodyPost_ret (v:=.tuple #[.agg #[.int .u64 rt,.int .i64 sz],.int .i64 2]) (by simp [results,Tryz.results16,go_sem,q0,q1]) rfl ⟨?_,?_⟩
       · exact (HBZ.out.setCell (p:=⟨X.heap.size+1+1+1+1,0,none⟩) (show b0<=X.heap.size+1+1+1+1 by omega) _).setCell (p:=⟨X.heap.size+1+1+1+1,1,none⟩) (show b0<=X.heap.size+1+1+1+1 by omega) _
       · rw [HRN.out];exact ⟨rt,sz,rfl⟩
     | some s' =>
       rw [hst] at HC;have HST:=Hq hst;clear hst;go_upto_region 10 with (go_at_call 37;refine HC.out.mono ?_;rintro e w3 ⟨h,rfl,hh,hgb,hkw⟩;have HKW:=Hq hkw;have HLs:=Hq (HL.out.step hG HV.out HFG.out HX.out HST.out hh hgb hkw hbk HOB.out);obtain ⟨⟨v0,hv0⟩,hf0,-⟩:=HAT.out w3 hkw;clear hkw hgb hh)
       have HLn:=Hq HLs.out.2.2;clear HLs hv0 hf0;generalize w3.setCell ⟨kh,k,none⟩ (.int .u64 h)=Z at *;go_wp2;go_roundw
       case rel => exact ⟨k+1,s',by omega,rfl,by go_num,HLn⟩
       case measure => simp [intOf]<;>omega
   · obtain rfl:k=gl:=by omega
     have HRUN:Hid (runG F hs ⟨t,[],[],[]⟩ 0 F'=some s):=Hq (by
      have:=HL.out.run;rw [List.take_of_length_le (by rw [HGL.out];exact Nat.le_refl _)] at this;exact this)
     have hlen:s.hs.length=k:=by obtain ⟨vk,kk,Nr,Nc,hg,-⟩:=HL.out.gs;exact hg.hl
     have hTs:TK n m G s.t:=by obtain ⟨vk,kk,Nr,Nc,hg,-⟩:=HL.out.gs;exact hg.tk
     have hTE:TE t s.t:=by obtain ⟨vk,kk,Nr,Nc,hg,-⟩:=HL.out.gs;exact hg.te
     have hUs:V.U64 s.hs:=by
      obtain ⟨vk,kk,Nr,Nc,hg,-⟩:=HL.out.gs;intro h hm;obtain ⟨i,hi⟩:=List.mem_iff_getElem?.1 hm;obtain ⟨hlt2,-⟩:=List.getElem?_eq_some_iff.1 hi;rw [hg.hl] at hlt2;have hi2:i<F'.length:=by rw [HGL.out];exact hlt2
      exact (hg.at_ i (F'[i]'hi2) h hlt2 (List.getElem?_eq_getElem hi2) hi).b64
     have hwS:=HV.out.ixw.ext hTE.pl;have hgl:=zfq (items:=s.hs) hTs.pk hwS;have htwo:=zde hTs.pk hG hwS (by rw [hlen];omega) hUs;have hrow:wr.ownsRow kh 37 1 (.slice (some ⟨kh,0,none⟩) s.hs.length k) s.hs.length (V.gvs s.hs):=by
      have:=HL.out.hr;rw [HGL.out,Nat.sub_self,List.replicate_zero,List.append_nil] at this;rw [hlen];exact this
     have hcl:=HL.out.cl;obtain ⟨T,hT⟩:∃ T,s.t.pl.change ⟨rt,sz⟩ s.hs=T:=⟨_,rfl⟩;have HC:Hid (Calls Tryz.prog 40 #[.pointer (some ⟨kg,0,none⟩),.agg #[.int .u64 rt,.int .i64 sz],.slice (some ⟨kh,0,none⟩) k k] wr (fun e X'=>e = .returned (.tuple #[.agg #[.int .u64 T.v.root,.int .i64 T.v.size],.int .i64 T.e])/\GB X' b kg (kh+1) r ⟨s.t.st,s.t.recs,T.p⟩ s.rs (s.cs++T.gone)/\KW b0 (kh+1) kg r wr X')):=Hq (by
      have hszv:sz<=256:=by have:=HV.out.ixw.size;have:=HV.out.ixw.small;simp only [] at *;omega
      have:=zg6 wr b0 b kg (kh+1) r s.t s.rs s.cs HL.out.gb hb0 hb1 (by omega) (by omega) HL.out.sz rt sz s.hs (some ⟨kh,0,none⟩) k (V.RL.of_own hrow) (by omega) (by omega) (by omega) hUs hb64.1 hb64.2 hszv m G hTs.pk hG hm0 (by omega) hgl;rw [hT,hlen] at this;exact this)
     have HTW:Hid ((T.e=2/\t.grown ⟨rt,sz⟩ hs F F'=none)\/(T.e=0/\t.grown ⟨rt,sz⟩ hs F F'=some (⟨s.t.st,s.t.recs,T.p⟩,T.v,s.rs,s.cs++T.gone))):=Hq (by
      rw [hT] at htwo;unfold Tm.grown;rw [HRUN.out];simp only [Option.bind_some,hT]
      rcases htwo with ⟨h1,-⟩|⟨h1,-⟩
      · exact .inl ⟨h1,by rw [if_neg (by omega)]⟩
      · exact .inr ⟨h1,by rw [if_pos h1]⟩)
     have y0:=block1 HL.out.ge.p;obtain ⟨y1,y2⟩:=block2 HL.out.bv;clear hlen hTs hTE hUs hwS hgl htwo hrow hcl hT
     go_wp2_with (go_at_call 40;refine HC.out.mono ?_;rintro e w3 ⟨rfl,hgb,hkw⟩;have HKW:=Hq hkw;have HGB:=Hq hgb;have hz:=(hkw.ty _ _ _ (by decide) (by decide) (by decide) HL.out.br).trans HL.out.br;have HZ:=Hq hz;obtain ⟨e2,e3⟩:=block2 hz;have e2a:=fun o:Obj=>Lib.cell?_alloc_some o e2;have e3a:=fun o:Obj=>Lib.cell?_alloc_some o e3;have f0:=za hz 0;have f1:=za hz 1;have f0a:=fun o:Obj=>za (up1 hz o) 0;have f1a:=fun o:Obj=>za (up1 hz o) 1;clear hkw hgb hz)
     have hZa:=up1 HZ.out (.cells #[.int .u64 T.v.root,.int .i64 T.v.size] 39);have hbe:=HL.out.be.trans HKW.out.be;have hX3:=hbe.size;obtain ⟨q0,q1⟩:=block2 (za1 hZa (.int .u64 T.v.root) (.int .i64 T.v.size));refine bodyPost_ret (v:=.tuple #[.agg #[.int .u64 T.v.root,.int .i64 T.v.size],.int .i64 T.e]) (by simp [results,Tryz.results16,go_sem,q0,q1]) rfl ⟨?_,?_⟩
     · exact ((hbe.alloc (by omega) _).setCell (p:=⟨X.heap.size+1+1+1+1,0,none⟩) (show b0<=X.heap.size+1+1+1+1 by omega) _).setCell (p:=⟨X.heap.size+1+1+1+1,1,none⟩) (show b0<=X.heap.size+1+1+1+1 by omega) _
     · rcases HTW.out with ⟨h1,h2⟩|⟨h1,h2⟩
       · rw [h2,h1];exact ⟨_,_,rfl⟩
       · rw [h2,h1];refine ⟨rfl,?_⟩;obtain ⟨g1,u1,f1,pg1,pu1,pf1,pc1,gr1,gc1,L1,k1,k2,k3⟩:=HGB.out;have k1a:=k1.below ((Below.refl _ w3).alloc (Nat.le_refl _) (.cells #[.int .u64 T.v.root,.int .i64 T.v.size] 39));exact ⟨g1,u1,f1,pg1,pu1,pf1,pc1,gr1,gc1,L1,(k1a.setV hZa (by decide) (by decide) (by decide) (by decide) (by decide) (by decide) (by decide) 0 _).setV (zb hZa 0 (.int .u64 T.v.root)) (by decide) (by decide) (by decide) (by decide) (by decide) (by decide) (by decide) 1 _,fun j hj=>by have:=k2 j hj;omega,fun j hj=>by have:=k3.1 j hj;omega⟩
open V (St Pl Vc Told WF Ok PK Ext Laid Just Lv Tr left leftRow keptAll zcw zcn zcm zcd zds B64 ix hd lvs atR zad U64 za6 zaw need zdd)
theorem zg8 {m:Nat} {G:Int} {p:Pl} {v:Vc} {l items:List Int} {old:List (List Int)} (hP:PK m G p) (hG:G<=1099511627775) (hv:WF p v l old) (hi:items.length<=200) (hU:U64 items) (hn:need (lvs items.length) items.length<=p.st.free.length) :
 (p.change v items).e=0/\p.st.free.length<=(p.change v items).p.st.free.length+need (lvs items.length) items.length:=by
 obtain ⟨q,rows,h1,h2⟩:=zdd (old:=old) hn;obtain ⟨e,-⟩:=zcd hP hG hv hi hU h1;rw [e];exact ⟨rfl,h2⟩
def needN (x:Mn):Nat:=need (lvs x.kids.length) x.kids.length
theorem GS.old {n m:Nat} {G:Int} {t:Tm} {v:Vc} {F F':List Mn} {hs:List Int} {vs:List Vc} {ks:List (List (List Int))} {rows:List (List Int)} {k:Nat} {s:Gs} (h:GS n m G t F F' hs vs ks k s) (hv:Ver t v F hs vs ks rows):∃ (old:List Int) (rw0:List (List Int)),WF s.t.pl (if k<F.length then (s.t.rc (hs.getD k 0)).kids else ⟨0,0⟩) old rw0:=by
 by_cases hk:k<F.length
 · obtain ⟨y,hy,-,-,hrc,hw⟩:=h.kidsOf hv hk;rw [if_pos hk,hrc];exact ⟨_,_,hw⟩
 · rw [if_neg hk];exact ⟨[],[],WF.empty _⟩
theorem zq4 {n m:Nat} {G:Int} {t:Tm} {v:Vc} {F F':List Mn} {hs:List Int} {vs:List Vc} {ks:List (List (List Int))} {rows:List (List Int)} {k:Nat} {s:Gs} {x:Mn} (h:GS n m G t F F' hs vs ks k s) (hG:G<=1099511627775) (hv:Ver t v F hs vs ks rows) (hl:x.kids.length<=200) (hu:U64 x.kids) (hr:0<s.t.st.free.length) (hn:needN x<=s.t.pl.st.free.length) :
 ∃ s',stepG F hs s k x=some s'/\s.t.st.free.length<=s'.t.st.free.length+1/\s.t.pl.st.free.length<=s'.t.pl.st.free.length+needN x:=by
 have hT:TK n m G s.t:=by obtain ⟨vk,kk,Nr,Nc,hg,-⟩:=h;exact hg.tk
 obtain ⟨old,rw0,hw⟩:=h.old hv;unfold stepG
 split
 · exact ⟨_,rfl,by simp,by simp⟩
 · generalize (if k<F.length then (s.t.rc (hs.getD k 0)).kids else ⟨0,0⟩:Vc)=kv at *;obtain ⟨h1,h2⟩:=zg8 hT.pk hG hw hl hu hn;obtain ⟨i,hi⟩:∃ i,s.t.st.free.getLast? = some i:=by
    cases e:s.t.st.free.getLast? with
    | none=>rw [List.getLast?_eq_none_iff] at e;rw [e] at hr;simp at hr
    | some i=>exact ⟨i,rfl⟩
   unfold Tm.taken;rw [if_pos h1,hi];refine ⟨_,rfl,?_,?_⟩
   · simp [Tm.tk,V.St.tk];omega
   · exact h2
theorem zls {n m:Nat} {G:Int} {t:Tm} {v:Vc} {F F':List Mn} {hs:List Int} {vs:List Vc} {ks:List (List (List Int))} {rows:List (List Int)} (hG:G<=1099511627775) (hv:Ver t v F hs vs ks rows) (hl:∀ x∈F',x.kids.length<=200/\U64 x.kids) :
 ∀ (l:List Mn) (k:Nat) (s:Gs),F'.drop k=l->GS n m G t F F' hs vs ks k s->l.length<=s.t.st.free.length->(l.map needN).sum<=s.t.pl.st.free.length->∃ s',runG F hs s k l=some s'/\s.t.pl.st.free.length<=s'.t.pl.st.free.length+(l.map needN).sum
 | [],k,s,_,_,_,_=>⟨s,rfl,by simp⟩
 | x::l,k,s,hd,h,h1,h2=>by
   rw [List.length_cons] at h1;rw [List.map_cons,List.sum_cons] at h2 ⊢;have hx:F'[k]? = some x:=by
    have:=congrArg (·[0]?) hd;simpa [List.getElem?_drop] using this
   have hd2:F'.drop (k+1)=l:=by rw [<- List.drop_drop,hd];rfl
   have hm:=hl x (List.mem_of_getElem? hx);obtain ⟨s',e,e1,e2⟩:=zq4 h hG hv hm.1 hm.2 (by omega) (by omega);obtain ⟨r,f1,f2⟩:=zls hG hv hl l (k+1) s' hd2 (h.step hG hv hx hm.1 hm.2 e) (by omega) (by omega);refine ⟨r,?_,by omega⟩;show (stepG F hs s k x).bind (fun s'=>runG F hs s' (k+1) l)=some r;rw [e];exact f1
theorem GS.u64 {n m:Nat} {G:Int} {t:Tm} {F F':List Mn} {hs:List Int} {vs:List Vc} {ks:List (List (List Int))} {k:Nat} {s:Gs} (h:GS n m G t F F' hs vs ks k s) (hk:k<=F'.length):U64 s.hs/\s.hs.length=k:=by
 obtain ⟨vk,kk,Nr,Nc,hg,-⟩:=h;refine ⟨fun h hm=>?_,hg.hl⟩;obtain ⟨i,hi⟩:=List.mem_iff_getElem?.1 hm;obtain ⟨hlt,-⟩:=List.getElem?_eq_some_iff.1 hi;rw [hg.hl] at hlt;exact (hg.at_ i (F'[i]'(by omega)) h hlt (List.getElem?_eq_getElem (by omega)) hi).b64
theorem zoz {n m:Nat} {G:Int} {t:Tm} {v:Vc} {F F':List Mn} {hs:List Int} {vs:List Vc} {ks:List (List (List Int))} {rows:List (List Int)} (hG:G<=1099511627775) (hT:TK n m G t) (hv:Ver t v F hs vs ks rows) (hF2:F'.length<=200) (hl:∀ x∈F',x.kids.length<=200/\U64 x.kids)
 (hr:F'.length<=t.st.free.length) (hc:(F'.map needN).sum+need (lvs F'.length) F'.length<=t.pl.st.free.length):∃ r,t.grown v hs F F'=some r:=by
 obtain ⟨s,h1,h2⟩:=zls hG hv hl F' 0 ⟨t,[],[],[]⟩ (by simp) (GS.start F F' hs vs ks hT) hr (by show _<=t.pl.st.free.length;omega);have hg:=zi1 hG hv hl F' 0 _ s (by simp) (GS.start F F' hs vs ks hT) h1;rw [Nat.zero_add] at hg;obtain ⟨hU,hlen⟩:=hg.u64 (Nat.le_refl _);obtain ⟨vk,kk,Nr,Nc,hg2,-⟩:=hg;have h2':t.pl.st.free.length<=s.t.pl.st.free.length+(F'.map needN).sum:=h2;obtain ⟨h3,-⟩:=zg8 hg2.tk.pk hG (hv.ixw.ext hg2.te.pl) (by rw [hlen];exact hF2) hU (by rw [hlen];omega);unfold Tm.grown;rw [h1,Option.bind_some,if_pos h3];exact ⟨_,rfl⟩
theorem zcx {F:List Mn} (h:mayB F=true):Fgr F:=by
 refine ⟨by have:=(zaj h).1;omega,zm1 h,fun x hx=>by have:=zbh h x hx;omega,fun x hx y hy=>?_⟩;have hz:=(zaj h).1;obtain ⟨i,hi,rfl⟩:=List.mem_iff_getElem.1 hx;obtain ⟨h1,h2,h3,-⟩:=zv.1 h;have hk:kidsOf F i=F[i].kids:=zae hi;obtain ⟨j,e,hj,-⟩:=(h3 i hi).2 y (by rw [hk];exact hy);omega
theorem zuj:Fgr []:=⟨by decide,⟨by decide,fun m hm=>by simp at hm,fun m hm=>by simp at hm,fun m hm=>by simp at hm⟩,fun x hx=>by simp at hx,fun x hx=>by simp at hx⟩
def freshT (n m:Nat):Tm:=⟨V.fresh n,List.replicate n zRk,V.freshP m⟩
theorem zgn {n m:Nat} (h:n<=500) (h2:m<=500):TK n m 1 (freshT n m):=⟨V.zk2 h,by simp [freshT],V.zqn h2⟩
theorem zhr (t:Tm):Ver t ⟨0,0⟩ [] [] [] [] []:=⟨WF.empty _,rfl,rfl,rfl,fun i m h hm=>by simp at hm⟩
theorem zo0 {n m:Nat} (h1:1<=n) (h2:1<=m) (h:n<=500) (h':m<=500):∃ u v' gr gc hs vs ks rows,(freshT n m).grown ⟨0,0⟩ [] [] [newM]=some (u,v',gr,gc)/\Grn n m 1 (freshT n m) ⟨0,0⟩ [] [newM] [] [] [] u v' gr gc hs vs ks rows:=by
 have hl:∀ x∈[newM],x.kids.length<=200/\U64 x.kids:=by
  intro x hx;rw [List.mem_singleton.1 hx];exact ⟨by decide,fun y hy=>by simp [newM] at hy⟩
 obtain ⟨⟨u,v',gr,gc⟩,e⟩:=zoz (by decide) (zgn h h') (zhr _) (by decide) hl (by simp [freshT,V.fresh,V.zbq];omega) (by
  have:([newM].map needN).sum+need (lvs [newM].length) [newM].length=1:=by decide +kernel
  rw [this];simp [freshT,V.freshP,V.fresh,V.zbq];omega)
 obtain ⟨hs',vs',ks',rows',hh⟩:=zlj (by decide) (zgn h h') (zhr _) (by decide) (by decide) hl e;exact ⟨u,v',gr,gc,hs',vs',ks',rows',e,hh⟩
theorem newO (w:World) :
 Calls Tryz.prog 17 #[] w fun e w'=>∃ k,e = .returned (.slice (some ⟨k,0,none⟩) 1 1)/\OF w' w.heap.size (.slice (some ⟨k,0,none⟩) 1 1) [newM]/\Below w.heap.size w w':=by
 go_enter Tryz.func17,Tryz.ntmps17;go_wp2_with fail;go_ret;refine ⟨_,rfl,⟨⟨rfl,.inr ⟨w.heap.size,1,_,rfl,Nat.le_refl _,heap_alloc_new _ _,Nat.le_refl _,by unfold maxLen;omega,rfl,rfl⟩⟩,fun m hm=>?_,fun m hm=>?_,?_,?_⟩,Bq _ _⟩
 · rw [List.mem_singleton.1 hm];exact ⟨by simp [newM,I64],by simp [newM,I64],by simp [newM],by simp [newM],by simp [newM]⟩
 · rw [List.mem_singleton.1 hm];exact ⟨World.ownsRow_nil _ _ _ _,World.ownsRow_nil _ _ _ _⟩
 all_goals
  intro i j m n hi hj hij;have h1:=(List.getElem?_eq_some_iff.1 hi).1;have h2:=(List.getElem?_eq_some_iff.1 hj).1;simp at h1 h2;omega
def zR:Array Value:=#[.int .i64 0,.int .i64 0,.string ⟨#[]⟩,.string ⟨#[]⟩,.slice none 0 0,.int .u64 0,.int .i64 0]
theorem zq5 (n:Nat):(madeCells zR (n*7)).toList=rmcs (List.replicate n ⟨zRk,none,0⟩):=by
 apply List.ext_getElem?;intro j
 rcases Nat.lt_or_ge j (n*7) with hj|hj
 · have h1:=zgu (l:=List.replicate n ⟨zRk,none,0⟩) (i:=j / 7) (by simp;omega) (d:=j % 7) (by omega);rw [show j / 7*7+j % 7=j by omega] at h1;rw [h1,List.getElem_replicate,Array.getElem?_toList,madeCells,Array.getElem?_map,Array.getElem?_range,if_pos hj];show some (zR[j % 7]!)=_;have h5:j % 7<7:=by omega
   generalize j % 7=r at *
   match r,h5 with
   | 0,_=>rfl
   | 1,_=>rfl
   | 2,_=>rfl
   | 3,_=>rfl
   | 4,_=>rfl
   | 5,_=>rfl
   | 6,_=>rfl
   | r+7,h=>omega
 · rw [List.getElem?_eq_none (by rw [Array.length_toList,size_madeCells];exact hj),List.getElem?_eq_none (by rw [zc4];simp;exact hj)]
theorem zsu {w:World} {n g base:Nat} (h:w.heap[g]? = some (.cells (madeCells zR (n*7)) 80 (0,0))) (hb:base<=g) (hn:n<=500):w.ownsRow base 80 7 (.slice (some ⟨g,0,none⟩) n n) (List.replicate n (⟨zRk,none,0⟩:Rm)).length (rmcs (List.replicate n ⟨zRk,none,0⟩)):=by
 refine ⟨by rw [zc4],.inr ⟨g,n,madeCells zR (n*7),by simp,hb,h,by simp,by unfold maxLen;omega,size_madeCells _ _,?_⟩⟩;rw [zq5];exact List.take_of_length_le (by rw [zc4];exact Nat.le_refl _)
theorem zsv {w:World} {n m g b:Nat} {vg vu vf pg pu pf pc:Value} (h1:V.Ar w b vg vu vf (V.fresh n)) (h2:V.PA w b pg pu pf pc (V.freshP m)) (h:w.heap[g]? = some (.cells (madeCells zR (n*7)) 80 (0,0))) (hb:b<=g) (hn:n<=500):TA w b vg vu vf (.slice (some ⟨g,0,none⟩) n n) pg pu pf pc (List.replicate n ⟨zRk,none,0⟩) (freshT n m) :=
 ⟨h1,h2,zsu h hb hn,by simp [freshT],fun x hx=>by rw [List.eq_of_mem_replicate hx];exact World.ownsRow_nil _ _ _ _⟩
theorem zdt (v:Value):Ap v (.slice none 0 0):=by
 unfold Ap;cases v.ownBlock with
 | none=>exact .inl rfl
 | some k=>exact .inr (by simp [Value.ownBlock])
theorem zvg (v:Value):Ap (.slice none 0 0) v:=.inl rfl
theorem ga_of {w:World} {b kg:Nat} {g u f r pg pu pf pc:Value} {L:List Rm} {t:Tm} (h:TA w b g u f r pg pu pf pc L t) (hk:w.heap[kg]? = some (.cells #[g,u,f,r,pg,pu,pf,pc,.slice none 0 0,.slice none 0 0] 70 (0,0))):GA w b kg g u f r pg pu pf pc (.slice none 0 0) (.slice none 0 0) L t [] [] :=
 ⟨hk,h,World.ownsRow_nil _ _ _ _,World.ownsRow_nil _ _ _ _,zdt _,zdt _,zdt _,zdt _,zdt _,zdt _⟩
theorem block3n {w:World} {k:Nat} {x y z:Value} {t:TypeId} (h:w.heap[k]? = some (.cells #[x,y,z] t (0,0))):w.cell? ⟨k,0,none⟩=some x/\w.cell? ⟨k,1,none⟩=some y/\w.cell? ⟨k,2,none⟩=some z:=by
 simp [World.cell?,h]
def NwAt (X wx:World) (kg ga n:Nat) (cs:Array Value):Prop :=
 Hid (wx.heap[kg]? = some (.cells cs 70 (0,0)))/\Hid (wx.heap[ga]? = some (.cells (madeCells zR (n*7)) 80 (0,0)))/\X.heap.size<=kg/\X.heap.size<=ga/\Hid (Below X.heap.size X wx)
theorem nwA {X:World} {n:Nat} {cs:Array Value}:NwAt X (((X.alloc (.cells (madeCells zR (n*7)) 80)).alloc (.cells cs 70)).drew) (X.heap.size+1) X.heap.size n cs :=
 ⟨Hq (hnew1 X _ _),Hq (hnew0 X _ _),by omega,Nat.le_refl _,Hq ((Bq _ _).alloc (by simp) _).drew⟩
theorem nwB {X:World} {n:Nat} {cs:Array Value}:NwAt X (((X.alloc (.cells cs 70)).alloc (.cells (madeCells zR (n*7)) 80)).drew) X.heap.size (X.heap.size+1) n cs :=
 ⟨Hq (hnew0 X _ _),Hq (hnew1 X _ _),Nat.le_refl _,by omega,Hq ((Bq _ _).alloc (by simp) _).drew⟩
theorem zq6 {w0 Y:World} {b b' k k':Nat} {g u f r pg pu pf pc e0 e1 e2 e3 e4 e5 e6 e7 x y:Value} {L:List Rm} {t:Tm} (h:TA Y b g u f r pg pu pf pc L t) (hk:Y.heap[k]? = some (.cells #[e0,e1,e2,e3,e4,e5,e6,e7] 36 (0,0))) (hk':Y.heap[k']? = some (.cells #[x,y] 41 (0,0))) (hb:b'<=k) (hb2:b'<=k') (hB:Below b' w0 Y) (root size:Value) :
 TA (((set8 Y k g u f r pg pu pf pc).setCell ⟨k',0,none⟩ root).setCell ⟨k',1,none⟩ size) b g u f r pg pu pf pc L t /\
 (((set8 Y k g u f r pg pu pf pc).setCell ⟨k',0,none⟩ root).setCell ⟨k',1,none⟩ size).heap[k]? = some (.cells #[g,u,f,r,pg,pu,pf,pc] 36 (0,0)) /\
 (((set8 Y k g u f r pg pu pf pc).setCell ⟨k',0,none⟩ root).setCell ⟨k',1,none⟩ size).heap[k']? = some (.cells #[root,size] 41 (0,0)) /\
 Below b' w0 (((set8 Y k g u f r pg pu pf pc).setCell ⟨k',0,none⟩ root).setCell ⟨k',1,none⟩ size):=by
 obtain ⟨n1,n2⟩:=zk hk hk' (by decide);obtain ⟨h1,h2,h3⟩:=TA.set8 h hk hb g u f r pg pu pf pc;have hk2:(set8 Y k g u f r pg pu pf pc).heap[k']? = some (.cells #[x,y] 41 (0,0)):=by
  unfold set8;exact so (so (so (so (so (so (so (so hk' n1) n1) n1) n1) n1) n1) n1) n1
 have hB2:=h3 w0 hB;generalize set8 Y k g u f r pg pu pf pc=Z at *;refine ⟨?_,so (so h2 n2) n2,za1 hk2 _ _,(hB2.setCell (p:=⟨k',0,none⟩) hb2 _).setCell (p:=⟨k',1,none⟩) hb2 _⟩;exact (h1.setT hk2 (by decide) (by decide) (by decide) (by decide) (by decide) (by decide) 0 _).setT (zb hk2 0 root) (by decide) (by decide) (by decide) (by decide) (by decide) (by decide) 1 _
def GivesNw (n m:Nat) (w:World) (e:Ending) (w':World):Prop :=
 ∃ u v' gr gc hs vs ks rows vg vu vf vr pg pu pf pc L,(freshT n m).grown ⟨0,0⟩ [] [] [newM]=some (u,v',gr,gc)/\Grn n m 1 (freshT n m) ⟨0,0⟩ [] [newM] [] [] [] u v' gr gc hs vs ks rows /\
  e = .returned (.tuple #[tval vg vu vf vr pg pu pf pc,.agg #[.int .u64 v'.root,.int .i64 v'.size],.int .i64 0])/\TA w' w.heap.size vg vu vf vr pg pu pf pc L u/\Below w.heap.size w w'
theorem zlt (n m:Nat) (w:World) (h1:1<=n) (h2:1<=m) (h:n<=500) (h':m<=500) :
 Calls Tryz.prog 6 #[.int .i64 n,.int .i64 m] w (GivesNw n m w):=by
 obtain ⟨i0',hi0,hz0,hz1,hz2⟩:=info_parts V.zne;have mk:∀ W:World,(Instr.makeSlice 31 (.int .i64 (n:Int)) (.int .i64 (n:Int))).run Tryz.prog W = .ok (.slice (some ⟨W.heap.size,0,none⟩) n n) (W.alloc (.cells (madeCells zR (n*7)) 80)):=fun W=>by
  have hr:=run_make (P:=Tryz.prog) W 31 80 i0' _ Tryz.underlying31 hi0 hz0 .i64 .i64 n n (by omega) (Int.le_refl _) (by rw [hz2];omega) (by omega);simp only [Int.toNat_natCast,hz1] at hr;exact hr
 clear hi0 hz0 hz1 hz2;have HMK:=Hq mk;clear mk;obtain ⟨u,v',gr,gc,hs,vs,ks,rows,hgr,hgn⟩:=zo0 h1 h2 h h';have HGR:=Hq hgr;have HGN:=Hq hgn;clear hgr hgn;obtain ⟨W,hW⟩:∃ W,W=(w.alloc (.cells zT8 36)).alloc (.cells #[.int .u64 0,.int .i64 0] 41):=⟨_,rfl⟩;have HW:Hid (Below w.heap.size w W/\W.heap.size=w.heap.size+2/\W.heap[w.heap.size]? = some (.cells zT8 36 (0,0))/\W.heap[w.heap.size+1]? = some (.cells #[.int .u64 0,.int .i64 0] 41 (0,0))):=Hq (by
  subst hW;exact ⟨((Below.refl _ w).alloc (Nat.le_refl _) _).alloc (by simp) _,by simp,hnew0 _ _ _,hnew1 _ _ _⟩)
 go_enter Tryz.func6,Tryz.ntmps6;go_upto_region 1 with fail
 rw [<- hW];clear hW;have hsW:w.heap.size+2<=W.heap.size:=by rw [HW.out.2.1];exact Nat.le_refl _
 go_wp2_with fail;refine (V.zqd n _ h).mono ?_;rintro e w1 ⟨g1,g2,g3,rfl,hA,hb⟩;obtain ⟨pg1,cg1,pu1,cu1,pf1,cf1,rfl,rfl,rfl⟩:=hA.form;have HA:=Hq hA;have HB:=Hq hb;have hs1:=hb.size;clear hA hb;go_wp2_with fail;refine (V.zua m _ h').mono ?_;rintro e w2 ⟨a1,a2,a3,a4,rfl,hP,hb⟩;obtain ⟨pg2,cg2,pu2,cu2,pf2,cf2,pc2,cc2,rfl,rfl,rfl,rfl⟩:=hP.form;have HP:=Hq hP;have HB2:=Hq hb;have hs2:=hb.size;clear hP hb;go_upto_region 7 with fail
 obtain ⟨X,hX⟩:∃ X,X=w2.alloc (.cells #[.slice pg2 (V.freshP m).st.gens.length cg2,.slice pu2 (V.freshP m).st.used.length cu2,.slice pf2 (V.freshP m).st.free.length cf2,.slice pc2 (V.freshP m).ch.length cc2] 34):=⟨_,rfl⟩;rw [<- hX];have hsz:(w1.alloc (.cells #[.slice pg1 (V.fresh n).gens.length cg1,.slice pu1 (V.fresh n).used.length cu1,.slice pf1 (V.fresh n).free.length cf1] 30)).heap.size=w1.heap.size+1:=by simp
 rw [hsz] at hs2;have HBX:Hid (Below w2.heap.size w2 X):=Hq (by rw [hX];exact Bq _ _);have HK9:Hid (X.heap[w2.heap.size]? = some (.cells #[.slice pg2 (V.freshP m).st.gens.length cg2,.slice pu2 (V.freshP m).st.used.length cu2,.slice pf2 (V.freshP m).st.free.length cf2,.slice pc2 (V.freshP m).ch.length cc2] 34 (0,0))):=Hq (by rw [hX];exact hnew _ _);have HB1X:Hid (Below w1.heap.size w1 X):=Hq ((((Below.refl _ w1).alloc (Nat.le_refl _) (.cells #[.slice pg1 (V.fresh n).gens.length cg1,.slice pu1 (V.fresh n).used.length cu1,.slice pf1 (V.fresh n).free.length cf1] 30)).trans (HB2.out.mono (by rw [hsz];omega))).trans (HBX.out.mono (by omega)));have HK7:Hid (X.heap[w1.heap.size]? = some (.cells #[.slice pg1 (V.fresh n).gens.length cg1,.slice pu1 (V.fresh n).used.length cu1,.slice pf1 (V.fresh n).free.length cf1] 30 (0,0))):=Hq ((HBX.out.block _ (by omega)).trans ((HB2.out.block _ (by rw [hsz];omega)).trans (hnew _ _)));have HBwX:Hid (Below w.heap.size w X):=Hq ((HW.out.1.trans (HB.out.mono (by omega))).trans (HB1X.out.mono (by omega)));have HAX:Hid (V.Ar X W.heap.size (.slice pg1 (V.fresh n).gens.length cg1) (.slice pu1 (V.fresh n).used.length cu1) (.slice pf1 (V.fresh n).free.length cf1) (V.fresh n)):=Hq (HA.out.below HB1X.out);have HPX:Hid (V.PA X W.heap.size (.slice pg2 (V.freshP m).st.gens.length cg2) (.slice pu2 (V.freshP m).st.used.length cu2) (.slice pf2 (V.freshP m).st.free.length cf2) (.slice pc2 (V.freshP m).ch.length cc2) (V.freshP m)):=Hq ((HP.out.below HBX.out).drop (by rw [hsz];omega));have hWX:W.heap.size<=X.heap.size:=by have:=HBX.out.size;omega
 have HT4:Hid (X.heap[w.heap.size]? = some (.cells zT8 36 (0,0))):=Hq ((HB1X.out.block _ (by omega)).trans ((HB.out.block _ (by omega)).trans HW.out.2.2.1));have HT5:Hid (X.heap[w.heap.size+1]? = some (.cells #[.int .u64 0,.int .i64 0] 41 (0,0))):=Hq ((HB1X.out.block _ (by omega)).trans ((HB.out.block _ (by omega)).trans HW.out.2.2.2));clear hX hsz;obtain ⟨d0,d1,d2⟩:=block3n HK7.out;obtain ⟨e0,e1,e2,e3⟩:=block4c HK9.out;have d0a:=fun o:Obj=>Lib.cell?_alloc_some o d0
 have d1a:=fun o:Obj=>Lib.cell?_alloc_some o d1
 have d2a:=fun o:Obj=>Lib.cell?_alloc_some o d2
 have e0a:=fun o:Obj=>Lib.cell?_alloc_some o e0
 have e1a:=fun o:Obj=>Lib.cell?_alloc_some o e1
 have e2a:=fun o:Obj=>Lib.cell?_alloc_some o e2
 have e3a:=fun o:Obj=>Lib.cell?_alloc_some o e3
 have d0b:=fun o o':Obj=>Lib.cell?_alloc_some o' (d0a o)
 have d1b:=fun o o':Obj=>Lib.cell?_alloc_some o' (d1a o)
 have d2b:=fun o o':Obj=>Lib.cell?_alloc_some o' (d2a o)
 have e0b:=fun o o':Obj=>Lib.cell?_alloc_some o' (e0a o)
 have e1b:=fun o o':Obj=>Lib.cell?_alloc_some o' (e1a o)
 have e2b:=fun o o':Obj=>Lib.cell?_alloc_some o' (e2a o)
 have e3b:=fun o o':Obj=>Lib.cell?_alloc_some o' (e3a o)
 have mk:=HMK.out
 go_cut [10] from 32 to 37 (fun a wx=>∃ (kg ga:Nat),a = .pointer (some ⟨kg,0,none⟩)/\NwAt X wx kg ga n #[.slice pg1 (V.fresh n).gens.length cg1,.slice pu1 (V.fresh n).used.length cu1,.slice pf1 (V.fresh n).free.length cf1,.slice (some ⟨ga,0,none⟩) n n,.slice pg2 (V.freshP m).st.gens.length cg2,.slice pu2 (V.freshP m).st.used.length cu2,.slice pf2 (V.freshP m).st.free.length cf2,.slice pc2 (V.freshP m).ch.length cc2,.slice none 0 0,.slice none 0 0])
 case first =>
  go_region
  all_goals go_wp2
  all_goals go_meet
  all_goals
   first
    | with_reducible exact ⟨_,_,rfl,nwB⟩
    | with_reducible exact ⟨_,_,rfl,nwA⟩
 case rest =>
  obtain ⟨kg,ga,rfl,HG1,HG2,hkg,hga,HBc⟩:=hcut;clear d0 d1 d2 e0 e1 e2 e3 d0a d1a d2a e0a e1a e2a e3a d0b d1b d2b e0b e1b e2b e3b mk HMK;have hcs:=HBc.out.size;have HTA:Hid (TA wc W.heap.size (.slice pg1 (V.fresh n).gens.length cg1) (.slice pu1 (V.fresh n).used.length cu1) (.slice pf1 (V.fresh n).free.length cf1) (.slice (some ⟨ga,0,none⟩) n n) (.slice pg2 (V.freshP m).st.gens.length cg2) (.slice pu2 (V.freshP m).st.used.length cu2) (.slice pf2 (V.freshP m).st.free.length cf2) (.slice pc2 (V.freshP m).ch.length cc2) (List.replicate n ⟨zRk,none,0⟩) (freshT n m)):=Hq (zsv (HAX.out.below HBc.out) (HPX.out.below HBc.out) HG2.out (by omega) h);have HGA:=Hq (ga_of HTA.out HG1.out);have HT4c:=Hq ((HBc.out.block _ (by omega)).trans HT4.out);have HT5c:=Hq ((HBc.out.block _ (by omega)).trans HT5.out);have hkc:kg<wc.heap.size:=lt_of_block HG1.out;have HF:Hid (Fgr [newM]):=Hq (zcx zev);have HFn:Hid (Fgr []):=Hq zuj;have HGR':Hid (∀ (Y:World) (k:Nat),Below wc.heap.size wc Y->OF Y wc.heap.size (.slice (some ⟨k,0,none⟩) 1 1) [newM]->Calls Tryz.prog 16 #[.pointer (some ⟨kg,0,none⟩),.agg #[.int .u64 0,.int .i64 0],.slice none 0 0,.slice (some ⟨k,0,none⟩) 1 1] Y (fun e Y'=>e = .returned (.tuple #[.agg #[.int .u64 v'.root,.int .i64 v'.size],.int .i64 0])/\Below W.heap.size Y Y'/\∃ g u2 f r pg pu pf pc L rr cc,Y'.heap[kg]? = some (.cells #[g,u2,f,r,pg,pu,pf,pc,rr,cc] 70 (0,0))/\TA Y' W.heap.size g u2 f r pg pu pf pc L u)):=Hq (fun Y k hb hO=>by
   have hYs:=hb.size;have hn0:OF Y wc.heap.size (.slice none ([]:List Mn).length 0) []:=zng (World.ownsRow_nil _ _ _ _);have:=zlr Y W.heap.size W.heap.size kg wc.heap.size _ _ _ _ _ _ _ _ _ _ (HGA.out.below hb) (Nat.le_refl _) (by omega) (by omega) ⟨0,0⟩ none 0 [] hn0 (some ⟨k,0,none⟩) 1 [newM] hO (by omega) n m 1 (zgn h h') (by decide) (by omega) [] [] [] [] (zhr _) HFn.out HF.out (by decide);refine Calls.mono this ?_;rintro e Y' ⟨hb',h2⟩;rw [HGR.out] at h2;obtain ⟨rfl,g,u2,f,pg,pu,pf,pc,rr,cc,L,hG,-,-⟩:=h2;exact ⟨rfl,hb',g,u2,f,_,pg,pu,pf,pc,L,rr,cc,hG.blk,hG.ta⟩)
  go_wp2_with fail;refine (newO _).mono ?_;rintro e w3 ⟨kf,rfl,hO,hb⟩;have HO:=Hq hO;have HB3:=Hq hb;clear hO hb;go_wp2_with fail;refine (HGR'.out w3 kf HB3.out HO.out).mono ?_;rintro e w4 ⟨rfl,hb,g,u2,f,r,pg,pu,pf,pc,L,rr,cc,hG,hTA⟩;obtain ⟨t1,l1,t2,l2,t3,l3,t4,l4,t5,l5,t6,l6,t7,l7,t8,l8,rfl,rfl,rfl,rfl,rfl,rfl,rfl,rfl⟩:=hTA.form;have HB4:=Hq hb;have HG4:=Hq hG;have HTA4:=Hq hTA;clear hb hG hTA HGR';go_upto_region 11 with fail
  obtain ⟨V5,hV5⟩:∃ V5,V5=w4.alloc (.cells #[.int .u64 v'.root,.int .i64 v'.size] 41):=⟨_,rfl⟩;rw [<- hV5];have hs3:=HB3.out.size;have hs4:=HB4.out.size;have HB5:Hid (Below w4.heap.size w4 V5):=Hq (by rw [hV5];exact Bq _ _);have HV5:Hid (V5.heap[w4.heap.size]? = some (.cells #[.int .u64 v'.root,.int .i64 v'.size] 41 (0,0))):=Hq (by rw [hV5];exact hnew _ _);have HG5:=Hq ((HB5.out.block _ (lt_of_block HG4.out)).trans HG4.out);have HT5':Hid (V5.heap[w.heap.size+1]? = some (.cells #[.int .u64 0,.int .i64 0] 41 (0,0))):=Hq ((HB5.out.block _ (by omega)).trans ((HB4.out.block _ (by omega)).trans ((HB3.out.block _ (by omega)).trans HT5c.out)));have HT4':Hid (V5.heap[w.heap.size]? = some (.cells zT8 36 (0,0))):=Hq ((HB5.out.block _ (by omega)).trans ((HB4.out.block _ (by omega)).trans ((HB3.out.block _ (by omega)).trans HT4c.out)));have HTA5:=Hq (HTA4.out.below HB5.out);have HBw5:Hid (Below w.heap.size w V5):=Hq ((((HBwX.out.trans (HBc.out.mono (by omega))).trans (HB3.out.mono (by omega))).trans (HB4.out.mono (by omega))).trans (HB5.out.mono (by omega)));have hblk:=HG5.out;have y0:V5.cell? ⟨kg,0,none⟩=some (.slice t1 u.st.gens.length l1):=by simp [World.cell?,hblk]
  have y1:V5.cell? ⟨kg,1,none⟩=some (.slice t2 u.st.used.length l2):=by simp [World.cell?,hblk]
  have y2:V5.cell? ⟨kg,2,none⟩=some (.slice t3 u.st.free.length l3):=by simp [World.cell?,hblk]
  have y3:V5.cell? ⟨kg,3,none⟩=some (.slice t4 L.length l4):=by simp [World.cell?,hblk]
  have y4:V5.cell? ⟨kg,4,none⟩=some (.slice t5 u.pl.st.gens.length l5):=by simp [World.cell?,hblk]
  have y5:V5.cell? ⟨kg,5,none⟩=some (.slice t6 u.pl.st.used.length l6):=by simp [World.cell?,hblk]
  have y6:V5.cell? ⟨kg,6,none⟩=some (.slice t7 u.pl.st.free.length l7):=by simp [World.cell?,hblk]
  have y7:V5.cell? ⟨kg,7,none⟩=some (.slice t8 u.pl.ch.length l8):=by simp [World.cell?,hblk]
  obtain ⟨e0,e1⟩:=block2 HV5.out;obtain ⟨d0,d1,d2,d3,d4,d5,d6,d7⟩:=block8 HT4'.out;obtain ⟨c0,c1⟩:=block2 HT5'.out;have z0:=za HT4'.out 0;have z1:=za HT4'.out 1;have z2:=za HT4'.out 2;have z3:=za HT4'.out 3;have z4:=za HT4'.out 4;have z5:=za HT4'.out 5;have z6:=za HT4'.out 6;have z7:=za HT4'.out 7;have q0:=za HT5'.out 0;have q1:=za HT5'.out 1;have n1:w.heap.size≠w4.heap.size:=by omega
  have n2:w.heap.size≠w.heap.size+1:=by omega
  have n3:w.heap.size+1≠w4.heap.size:=by omega
  have n4:=(zk HG5.out HT4'.out (by decide)).2;clear hblk hV5
  go_region
  all_goals go_wp2
  have hr:=zq6 HTA5.out HT4'.out HT5'.out (Nat.le_refl _) (Nat.le_succ _) HBw5.out (.int .u64 v'.root) (.int .i64 v'.size);obtain ⟨Z,hZ⟩:∃ Z,Z=(((set8 V5 w.heap.size (.slice t1 u.st.gens.length l1) (.slice t2 u.st.used.length l2) (.slice t3 u.st.free.length l3) (.slice t4 L.length l4) (.slice t5 u.pl.st.gens.length l5) (.slice t6 u.pl.st.used.length l6) (.slice t7 u.pl.st.free.length l7) (.slice t8 u.pl.ch.length l8)).setCell ⟨w.heap.size+1,0,none⟩ (.int .u64 v'.root)).setCell ⟨w.heap.size+1,1,none⟩ (.int .i64 v'.size)):=⟨_,rfl⟩;rw [<- hZ] at hr;show bodyPost _ _ _ _ _ ((((set8 V5 w.heap.size (.slice t1 u.st.gens.length l1) (.slice t2 u.st.used.length l2) (.slice t3 u.st.free.length l3) (.slice t4 L.length l4) (.slice t5 u.pl.st.gens.length l5) (.slice t6 u.pl.st.used.length l6) (.slice t7 u.pl.st.free.length l7) (.slice t8 u.pl.ch.length l8)).setCell ⟨w.heap.size+1,0,none⟩ (.int .u64 v'.root)).setCell ⟨w.heap.size+1,1,none⟩ (.int .i64 v'.size)).drew);rw [<- hZ];have HRZ:=Hq hr;clear hZ hr d0 d1 d2 d3 d4 d5 d6 d7 c0 c1 y0 y1 y2 y3 y4 y5 y6 y7 z0 z1 z2 z3 z4 z5 z6 z7 q0 q1 e0 e1;obtain ⟨d0,d1,d2,d3,d4,d5,d6,d7⟩:=block8 (show Z.drew.heap[w.heap.size]? = _ from HRZ.out.2.1);obtain ⟨c0,c1⟩:=block2 (show Z.drew.heap[w.heap.size+1]? = _ from HRZ.out.2.2.1);refine bodyPost_ret (v:=.tuple #[tval (.slice t1 u.st.gens.length l1) (.slice t2 u.st.used.length l2) (.slice t3 u.st.free.length l3) (.slice t4 L.length l4) (.slice t5 u.pl.st.gens.length l5) (.slice t6 u.pl.st.used.length l6) (.slice t7 u.pl.st.free.length l7) (.slice t8 u.pl.ch.length l8),.agg #[.int .u64 v'.root,.int .i64 v'.size],.int .i64 0]) (by simp [results,Tryz.results6,go_sem,d0,d1,d2,d3,d4,d5,d6,d7,c0,c1]) rfl ⟨u,v',gr,gc,hs,vs,ks,rows,_,_,_,_,_,_,_,_,L,HGR.out,HGN.out,rfl,(HRZ.out.1.drop HW.out.1.size).below (Below.refl _ _).drew,HRZ.out.2.2.2.drew⟩
open V (St Pl Vc Told WF Ok PK Ext Laid Just Lv Tr U64 B64)
theorem zlu {F H:List Mn} (h:H.map core=F.map core) {i:Nat} {x:Mn} (hx:F[i]? = some x):∃ y,H[i]? = some y/\core y=core x:=by
 have e:=congrArg (·[i]?) h;simp only [List.getElem?_map,hx,Option.map_some] at e;cases hy:H[i]? with
 | none=>rw [hy] at e;cases e
 | some y=>rw [hy] at e;exact ⟨y,rfl,Option.some.inj e⟩
theorem zbz {F H:List Mn} (h:H.map core=F.map core):H.length=F.length:=by
 have:=congrArg List.length h;simpa using this
theorem Ver.like {t:Tm} {v:Vc} {F H:List Mn} {hs:List Int} {vs:List Vc} {ks:List (List (List Int))} {rows:List (List Int)} (h:Ver t v F hs vs ks rows) (e:H.map core=F.map core):Ver t v H hs vs ks rows:=by
 have hl:=zbz e;refine ⟨h.ixw,by rw [hl];exact h.len,by rw [hl];exact h.vl,by rw [hl];exact h.kl,fun i m x hm hx=>?_⟩;obtain ⟨y,hy,hc⟩:=zlu e.symm hm;exact (h.at_ i y x hy hx).like hc
theorem zo1 {F H:List Mn} (e:H.map core=F.map core) {x y:Mn} (hc:core y=core x) (k:Nat):keepB H k y=keepB F k x:=by
 unfold keepB;cases hx:F[k]? with
 | none =>
   have:H[k]? = none:=by
    rw [List.getElem?_eq_none_iff] at hx ⊢;rw [zbz e];exact hx
   rw [this]
 | some a =>
   obtain ⟨b,hb,hab⟩:=zlu e hx;rw [hb];show sameN2 b y=sameN2 a x;rw [Bool.eq_iff_iff,zfm,zfm,hab,hc]
theorem zo2 {t:Tm} {x y:Mn} (hc:core y=core x) (kv:Vc):t.taken y kv=t.taken x kv:=by
 have hk:y.kids=x.kids:=show (core y).kids=(core x).kids by rw [hc]
 unfold Tm.taken;rw [hk,zjo hc]
theorem zo3 {F H:List Mn} (e:H.map core=F.map core) {x y:Mn} (hc:core y=core x) (old:List Int) (s:Gs) (k:Nat):stepG H old s k y=stepG F old s k x:=by
 unfold stepG;rw [zo1 e hc,zbz e]
 split
 · rfl
 · rw [zo2 hc]
theorem zjv {F H:List Mn} (e:H.map core=F.map core) (old:List Int):∀ {l l':List Mn} (he:l'.map core=l.map core) (s:Gs) (k:Nat),runG H old s k l'=runG F old s k l
 | [],[],_,_,_=>rfl
 | [],y::l',he,_,_=>by simp at he
 | x::l,[],he,_,_=>by simp at he
 | x::l,y::l',he,s,k=>by
   rw [List.map_cons,List.map_cons,List.cons.injEq] at he;show (stepG H old s k y).bind (fun s'=>runG H old s' (k+1) l')=(stepG F old s k x).bind (fun s'=>runG F old s' (k+1) l);rw [zo3 e he.1];cases stepG F old s k x with
   | none=>rfl
   | some s'=>exact zjv e old he.2 s' (k+1)
theorem zo4 {F H F' H':List Mn} (e:H.map core=F.map core) (e':H'.map core=F'.map core) (t:Tm) (v:Vc) (old:List Int):t.grown v old H H'=t.grown v old F F':=by
 unfold Tm.grown;rw [zjv e old e']
theorem zjw:∀ {F G:List Mn} (h:G.map core=F.map core) (k:Nat) (l:List Ops.Po),(runP G k l).2=(runP F k l).2/\(runP G k l).1.map (fun x=>x.map core)=(runP F k l).1.map (fun x=>x.map core)
 | F,G,h,k,[]=>⟨rfl,by simp only [runP,Option.map_some,h]⟩
 | F,G,h,k,o::l=>by
   rw [runP,runP,ze4 h]
   split
   · exact zjw (zix h o) (k+1) l
   · exact ⟨rfl,rfl⟩
theorem zq7 {F G:List Mn} (h:G.map core=F.map core) (l:List Ops.Po):(allP G l).2=(allP F l).2/\(allP G l).1.map core=(allP F l).1.map core:=by
 obtain ⟨h1,h2⟩:=zjw h 0 l;unfold allP;refine ⟨h1,?_⟩;show ((runP G 0 l).1.getD G).map core=((runP F 0 l).1.getD F).map core;cases e:(runP F 0 l).1 with
 | none =>
   rw [e] at h2;cases e2:(runP G 0 l).1 with
   | none=>exact h
   | some y=>rw [e2] at h2;cases h2
 | some x =>
   rw [e] at h2;cases e2:(runP G 0 l).1 with
   | none=>rw [e2] at h2;cases h2
   | some y=>rw [e2] at h2;exact Option.some.inj h2
theorem zlv {F:List Mn} (h:mayB F=true) (l:List Ops.Po):mayB (allP F l).1=true:=by
 unfold allP;cases e:runP F 0 l with
 | mk x r =>
   cases x with
   | none=>exact h
   | some F'=>exact ztr h e
theorem zuk {F F':List Mn} {k:Nat} {l:List Ops.Po} {r:Nat × Int} (e:runP F k l=(some F',r)):F.length<=F'.length/\F'.length<=F.length+l.length:=by
 induction l generalizing F k with
 | nil=>cases e;simp
 | cons o l ih =>
   rw [runP] at e
   split at e
   · have:=ih e;have hd:=zu4 (F:=F) (o:=o);rw [List.length_cons]
     split at hd<;>omega
   · cases e
theorem znh {F:List Mn} (l:List Ops.Po):F.length<=(allP F l).1.length/\(allP F l).1.length<=F.length+l.length:=by
 unfold allP;cases e:runP F 0 l with
 | mk x r =>
   cases x with
   | none=>simp
   | some F'=>exact zuk e
def nrm (m:Mn):Mn:={ m with aC:=m.attrs.length,kC:=m.kids.length }
theorem zdu (F:List Mn):(F.map nrm).map core=F.map core:=by
 rw [List.map_map];exact List.map_congr_left fun m _=>rfl
theorem zni {F:List Mn} (h:mayB F=true):∀ x∈F.map nrm,Fit x/\x.attrs.length<=100:=by
 intro x hx;obtain ⟨m,hm,rfl⟩:=List.mem_map.1 hx;have hz:=zaj h;have hk:=zbh h m hm;have ha:=hz.2 m hm;have hkb:=(zcx h).kb m hm;obtain ⟨i,hi,rfl⟩:=List.mem_iff_getElem.1 hm;obtain ⟨h1,h2,h3,-⟩:=zv.1 h;have hp:=(h3 i hi).1;rw [zby hi] at hp;have ho:=(h2 i hi).2;refine ⟨⟨?_,?_,fun y hy=>?_,⟨Nat.le_refl _,?_⟩,⟨Nat.le_refl _,?_⟩⟩,?_⟩
 · show I64 F[i].kind;have:F[i].kind=0\/F[i].kind=1\/F[i].kind=2\/F[i].kind=3:=by
    unfold ownB at ho
    split at ho
    · omega
    split at ho
    · omega
    split at ho
    · omega
    · cases ho
   unfold I64;omega
 · show I64 F[i].parent;unfold I64
   rcases hp with hp|⟨-,j,e,hj,-⟩
   · omega
   · omega
 · have:=hkb y hy;unfold I64;omega
 · show F[i].attrs.length<=_;omega
 · show F[i].kids.length<=_;omega
 · show F[i].attrs.length<=_;omega
def AttOk (t:Tm):Prop:=∀ x∈t.recs,x.attrs.length<=1000
theorem zq8 {t u:Tm} {x:Mn} {kv:Vc} {h:Int} {l:List Int} (ht:AttOk t) (hx:x.attrs.length<=8) (e:t.taken x kv=some (u,h,l)):AttOk u:=by
 obtain ⟨-,i,-,rfl,-,-⟩:=zdg e;intro y hy
 rcases List.mem_or_eq_of_mem_set hy with hy|rfl
 · exact ht y hy
 · show (flatA x.attrs).length<=1000;rw [zbt];omega
theorem zlw {F:List Mn} {old:List Int}:∀ {l:List Mn} {s s':Gs} {k:Nat},AttOk s.t->(∀ x∈l,x.attrs.length<=8)->runG F old s k l=some s'->AttOk s'.t
 | [],s,s',k,h,_,e=>by cases e;exact h
 | x::l,s,s',k,h,hl,e=>by
   have e':(stepG F old s k x).bind (fun s'=>runG F old s' (k+1) l)=some s':=e;obtain ⟨s1,h1,h2⟩:=Option.bind_eq_some_iff.1 e';refine zlw ?_ (fun y hy=>hl y (List.mem_cons_of_mem _ hy)) h2;unfold stepG at h1
   split at h1
   · cases h1;exact h
   · obtain ⟨⟨u,hd,gn⟩,ht,rfl⟩:=Option.map_eq_some_iff.1 h1;exact zq8 h (hl x (List.mem_cons_self ..)) ht
theorem zjx {t u:Tm} {v v':Vc} {old:List Int} {F F':List Mn} {gr gc:List Int} (ht:AttOk t) (hl:∀ x∈F',x.attrs.length<=8) (e:t.grown v old F F'=some (u,v',gr,gc)):AttOk u:=by
 obtain ⟨s,h1,-,rfl,-⟩:=zfn e;exact zlw (s':=s) ht hl h1
structure Tree (n m:Nat) (G:Int) (t:Tm) (v:Vc) (F:List Mn) (hs:List Int) (vs:List Vc) (ks:List (List (List Int))) (rows:List (List Int)):Prop where
 tk:TK n m G t
 ver:Ver t v F hs vs ks rows
 may:mayB F=true
 att:AttOk t
structure Ap5 where
 t:Tm
 v:Vc
 gr:List Int
 gc:List Int
 n:Nat
 e:Int
def Tm.apply (t:Tm) (v:Vc) (hs:List Int) (F:List Mn) (l:List Ops.Po):Ap5 :=
 if (allP F l).2.2=0 then match t.grown v hs F (allP F l).1 with
  | some (u,v',gr,gc)=>⟨u,v',gr,gc,(allP F l).2.1,0⟩
  | none=>⟨t,v,[],[],(allP F l).2.1,2⟩
 else ⟨t,v,[],[],(allP F l).2.1,(allP F l).2.2⟩
theorem zul {F:List Mn} (h:mayB F=true):∀ x∈F,x.kids.length<=200/\U64 x.kids:=fun x hx =>
 ⟨(zcx h).kl x hx,fun y hy=>by have:=(zcx h).kb x hx y hy;exact ⟨by omega,by omega⟩⟩
theorem Tree.apply {n m:Nat} {G:Int} {t:Tm} {v:Vc} {F:List Mn} {hs:List Int} {vs:List Vc} {ks:List (List (List Int))} {rows:List (List Int)} (h:Tree n m G t v F hs vs ks rows) (hG:G<=1099511627775) (l:List Ops.Po) :
 ((t.apply v hs F l).e≠0/\(t.apply v hs F l).t=t/\(t.apply v hs F l).v=v/\(t.apply v hs F l).gr=[]/\(t.apply v hs F l).gc=[]/\((allP F l).2.2≠0/\(t.apply v hs F l).e=(allP F l).2.2\/(allP F l).2.2=0/\(t.apply v hs F l).e=2/\t.grown v hs F (allP F l).1=none)) \/
 ((t.apply v hs F l).e=0/\(allP F l).2.2=0/\∃ hs' vs' ks' rows',Grn n m G t v F (allP F l).1 hs ks rows (t.apply v hs F l).t (t.apply v hs F l).v (t.apply v hs F l).gr (t.apply v hs F l).gc hs' vs' ks' rows'/\Tree n m G (t.apply v hs F l).t (t.apply v hs F l).v (allP F l).1 hs' vs' ks' rows'):=by
 have hm:=zlv h.may l;unfold Tm.apply
 by_cases h0:(allP F l).2.2=0
 · rw [if_pos h0];cases e:t.grown v hs F (allP F l).1 with
   | none=>exact .inl ⟨show (2:Int)≠0 by decide,rfl,rfl,rfl,rfl,.inr ⟨h0,rfl,rfl⟩⟩
   | some r =>
     obtain ⟨u,v',gr,gc⟩:=r;obtain ⟨hs',vs',ks',rows',hh⟩:=zlj hG h.tk h.ver (znh l).1 (zcx hm).len (zul hm) e;exact .inr ⟨rfl,h0,hs',vs',ks',rows',hh,hh.tk,hh.ver,hm,zjx h.att (zaj hm).2 e⟩
 · rw [if_neg h0];exact .inl ⟨h0,rfl,rfl,rfl,rfl,.inl ⟨h0,rfl⟩⟩
theorem zio {n m:Nat} {u:Tm} {v':Vc} {gr gc hs:List Int} {vs:List Vc} {ks:List (List (List Int))} {rows:List (List Int)} (e:(freshT n m).grown ⟨0,0⟩ [] [] [newM]=some (u,v',gr,gc)) (h:Grn n m 1 (freshT n m) ⟨0,0⟩ [] [newM] [] [] [] u v' gr gc hs vs ks rows):Tree n m 1 u v' [newM] hs vs ks rows :=
 ⟨h.tk,h.ver,zev,zjx (fun x hx=>by rw [List.eq_of_mem_replicate hx];decide) (fun x hx=>by rw [List.mem_singleton.1 hx];decide) e⟩
end Go.Proofs.YtdmecdjfbpblgaaGreatDoor
