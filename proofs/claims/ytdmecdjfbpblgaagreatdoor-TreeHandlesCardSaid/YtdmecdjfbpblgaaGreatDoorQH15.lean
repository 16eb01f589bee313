/-
  (*growth).change.
-/
import Derived.Test.YtdmecdjfbpblgaaGreatDoorQH14
namespace Go.Proofs.YtdmecdjfbpblgaaGreatDoor
set_option maxRecDepth 100000
set_option maxHeartbeats 32000000
open Go.ChangeShapes Go.WideShapes Go.ChangeAt Go.RowKit
set_option linter.unusedVariables false
set_option linter.unusedSimpArgs false
theorem alloc' {a w:World} (h:Below a.heap.size a w) (o:Obj):Below a.heap.size a (w.alloc o):=h.alloc h.size _
theorem up1 {w:World} {n:Nat} {o:Obj} (h:w.heap[n]? = some o) (o':Obj):(w.alloc o').heap[n]? = some o:=(hold w o' (lt_of_block h)).trans h
theorem so {w:World} {n k j:Nat} {o:Obj} {u:Value} (h:w.heap[n]? = some o) (hne:k≠n):(w.setCell ⟨k,j,none⟩ u).heap[n]? = some o:=(Below.heap_setCell w ⟨k,j,none⟩ u n (fun e=>hne e.symm)).trans h
theorem zk {w:World} {a b:Nat} {cs cs':Array Value} {t t':TypeId} (h:w.heap[a]? = some (.cells cs t (0,0))) (h':w.heap[b]? = some (.cells cs' t' (0,0))) (hne:t≠t'):a≠b/\b≠a:=by
 have:a≠b:=by
  rintro rfl;rw [h] at h';cases h';exact hne rfl
 exact ⟨this,Ne.symm this⟩
theorem lt_ne {w:World} {a:Nat} {o:Obj} (h:w.heap[a]? = some o):a<w.heap.size/\a≠w.heap.size/\w.heap.size≠a:=by
 have:=lt_of_block h;omega
theorem za1 {w:World} {k:Nat} {a b:Value} {t:TypeId} (h:w.heap[k]? = some (.cells #[a,b] t (0,0))) (x y:Value):((w.setCell ⟨k,0,none⟩ x).setCell ⟨k,1,none⟩ y).heap[k]? = some (.cells #[x,y] t (0,0)):=by
 rw [zb (zb h 0 x) 1 y];simp
theorem zi2 {w:World} {k:Nat} {a b c d:Value} {t:TypeId} (h:w.heap[k]? = some (.cells #[a,b,c,d] t (0,0))) (x y z u:Value):((((w.setCell ⟨k,0,none⟩ x).setCell ⟨k,1,none⟩ y).setCell ⟨k,2,none⟩ z).setCell ⟨k,3,none⟩ u).heap[k]? = some (.cells #[x,y,z,u] t (0,0)):=by
 rw [zb (zb (zb (zb h 0 x) 1 y) 2 z) 3 u];simp
structure C0 (W wt:World) (vg vu vf vc vl:Value) (T:V.Told):Prop where
 pa:V.PA wt W.heap.size vg vu vf vc T.p
 ro:wt.ownsRow W.heap.size 37 1 vl T.gone.length (V.gvs T.gone)
 be:Below W.heap.size W wt
theorem C0.alloc {W wt:World} {vg vu vf vc vl:Value} {T:V.Told} (h:C0 W wt vg vu vf vc vl T) (o:Obj):C0 W (wt.alloc o) vg vu vf vc vl T :=
 ⟨h.pa.below (Bq _ _),own_below h.ro (Bq _ _),alloc' h.be o⟩
theorem C0.set {W wt:World} {vg vu vf vc vl:Value} {T:V.Told} (h:C0 W wt vg vu vf vc vl T) {k:Nat} {cs:Array Value} {t:TypeId} (hk:wt.heap[k]? = some (.cells cs t (0,0))) (h1:37≠t) (h2:4≠t) (h3:3≠t) (h4:119≠t) (hw:W.heap.size<=k) (j:Nat) (v:Value):C0 W (wt.setCell ⟨k,j,none⟩ v) vg vu vf vc vl T :=
 ⟨zc8 h.pa hk h1 h2 h3 h4 j v,ownsRow_setCell_other h.ro (a:=⟨k,j,none⟩) (zi h.ro hk h1) _,h.be.setCell (p:=⟨k,j,none⟩) hw _⟩
theorem C0.setP {W wt:World} {vg vu vf vc vl:Value} {T:V.Told} (h:C0 W wt vg vu vf vc vl T) {k:Nat} {a b c d:Value} (hk:wt.heap[k]? = some (.cells #[a,b,c,d] 34 (0,0))) (hw:W.heap.size<=k) (x y z u:Value):C0 W ((((wt.setCell ⟨k,0,none⟩ x).setCell ⟨k,1,none⟩ y).setCell ⟨k,2,none⟩ z).setCell ⟨k,3,none⟩ u) vg vu vf vc vl T :=
 (((h.set hk (by decide) (by decide) (by decide) (by decide) hw 0 x).set (zb hk 0 x) (by decide) (by decide) (by decide) (by decide) hw 1 y).set (zb (zb hk 0 x) 1 y) (by decide) (by decide) (by decide) (by decide) hw 2 z).set (zb (zb (zb hk 0 x) 1 y) 2 z) (by decide) (by decide) (by decide) (by decide) hw 3 u
theorem C0.setV {W wt:World} {vg vu vf vc vl:Value} {T:V.Told} (h:C0 W wt vg vu vf vc vl T) {k:Nat} {a b:Value} (hk:wt.heap[k]? = some (.cells #[a,b] 39 (0,0))) (hw:W.heap.size<=k) (x y:Value):C0 W ((wt.setCell ⟨k,0,none⟩ x).setCell ⟨k,1,none⟩ y) vg vu vf vc vl T :=
 (h.set hk (by decide) (by decide) (by decide) (by decide) hw 0 x).set (zb hk 0 x) (by decide) (by decide) (by decide) (by decide) hw 1 y
def CR (W wx:World) (k8 k9:Nat) (vg vu vf vc vl:Value) (T:V.Told):Prop :=
 Hid (wx.heap[k8]? = some (.cells #[vg,vu,vf,vc] 34 (0,0)))/\Hid (wx.heap[k9]? = some (.cells #[.int .u64 T.v.root,.int .i64 T.v.size] 39 (0,0)))/\Hid (C0 W wx vg vu vf vc vl T)
section
variable {W wt:World} {vg vu vf vc vl:Value} {T:V.Told}
theorem crA1 (h:C0 W wt vg vu vf vc vl T):CR W ((wt.alloc (.cells #[vg,vu,vf,vc] 34)).alloc (.cells #[.int .u64 T.v.root,.int .i64 T.v.size] 39)) wt.heap.size (wt.heap.size+1) vg vu vf vc vl T :=
 ⟨Hq (hnew0 _ _ _),Hq (hnew1 _ _ _),Hq ((h.alloc _).alloc _)⟩
theorem crA2 (h:C0 W wt vg vu vf vc vl T):CR W ((wt.alloc (.cells #[.int .u64 T.v.root,.int .i64 T.v.size] 39)).alloc (.cells #[vg,vu,vf,vc] 34)) (wt.heap.size+1) wt.heap.size vg vu vf vc vl T :=
 ⟨Hq (hnew1 _ _ _),Hq (hnew0 _ _ _),Hq ((h.alloc _).alloc _)⟩
theorem crB {k:Nat} {a b c d:Value} (h:C0 W wt vg vu vf vc vl T) (hk:wt.heap[k]? = some (.cells #[a,b,c,d] 34 (0,0))) (hw:W.heap.size<=k):CR W (((((wt.setCell ⟨k,0,none⟩ vg).setCell ⟨k,1,none⟩ vu).setCell ⟨k,2,none⟩ vf).setCell ⟨k,3,none⟩ vc).alloc (.cells #[.int .u64 T.v.root,.int .i64 T.v.size] 39)) k wt.heap.size vg vu vf vc vl T :=
 ⟨Hq (up1 (zi2 hk _ _ _ _) _),Hq (by have:=hnew ((((wt.setCell ⟨k,0,none⟩ vg).setCell ⟨k,1,none⟩ vu).setCell ⟨k,2,none⟩ vf).setCell ⟨k,3,none⟩ vc) (.cells #[.int .u64 T.v.root,.int .i64 T.v.size] 39);simpa using this),Hq ((h.setP hk hw _ _ _ _).alloc _)⟩
theorem crB2 {k:Nat} {a b c d:Value} (h:C0 W wt vg vu vf vc vl T) (hk:wt.heap[k]? = some (.cells #[a,b,c,d] 34 (0,0))) (hw:W.heap.size<=k):CR W (((((wt.alloc (.cells #[.int .u64 T.v.root,.int .i64 T.v.size] 39)).setCell ⟨k,0,none⟩ vg).setCell ⟨k,1,none⟩ vu).setCell ⟨k,2,none⟩ vf).setCell ⟨k,3,none⟩ vc) k wt.heap.size vg vu vf vc vl T:=by
 have h':=up1 hk (.cells #[.int .u64 T.v.root,.int .i64 T.v.size] 39);have hlt:=lt_of_block hk;exact ⟨Hq (zi2 h' _ _ _ _),Hq (so (so (so (so (hnew _ _) (by omega)) (by omega)) (by omega)) (by omega)),Hq ((h.alloc _).setP h' hw _ _ _ _)⟩
theorem crC {k:Nat} {a b:Value} (h:C0 W wt vg vu vf vc vl T) (hk:wt.heap[k]? = some (.cells #[a,b] 39 (0,0))) (hw:W.heap.size<=k):CR W (((wt.setCell ⟨k,0,none⟩ (.int .u64 T.v.root)).setCell ⟨k,1,none⟩ (.int .i64 T.v.size)).alloc (.cells #[vg,vu,vf,vc] 34)) wt.heap.size k vg vu vf vc vl T :=
 ⟨Hq (by have:=hnew ((wt.setCell ⟨k,0,none⟩ (.int .u64 T.v.root)).setCell ⟨k,1,none⟩ (.int .i64 T.v.size)) (.cells #[vg,vu,vf,vc] 34);simpa using this),Hq (up1 (za1 hk _ _) _),Hq ((h.setV hk hw _ _).alloc _)⟩
theorem crC2 {k:Nat} {a b:Value} (h:C0 W wt vg vu vf vc vl T) (hk:wt.heap[k]? = some (.cells #[a,b] 39 (0,0))) (hw:W.heap.size<=k):CR W (((wt.alloc (.cells #[vg,vu,vf,vc] 34)).setCell ⟨k,0,none⟩ (.int .u64 T.v.root)).setCell ⟨k,1,none⟩ (.int .i64 T.v.size)) wt.heap.size k vg vu vf vc vl T:=by
 have h':=up1 hk (.cells #[vg,vu,vf,vc] 34);have hlt:=lt_of_block hk;exact ⟨Hq (so (so (hnew _ _) (by omega)) (by omega)),Hq (za1 h' _ _),Hq ((h.alloc _).setV h' hw _ _)⟩
theorem crD {k k':Nat} {a b c d e f:Value} (h:C0 W wt vg vu vf vc vl T) (hk:wt.heap[k]? = some (.cells #[a,b,c,d] 34 (0,0))) (hk':wt.heap[k']? = some (.cells #[e,f] 39 (0,0))) (hw:W.heap.size<=k) (hw':W.heap.size<=k'):CR W ((((((wt.setCell ⟨k,0,none⟩ vg).setCell ⟨k,1,none⟩ vu).setCell ⟨k,2,none⟩ vf).setCell ⟨k,3,none⟩ vc).setCell ⟨k',0,none⟩ (.int .u64 T.v.root)).setCell ⟨k',1,none⟩ (.int .i64 T.v.size)) k k' vg vu vf vc vl T:=by
 obtain ⟨n1,n2⟩:=zk hk hk' (by decide);have h2:((((wt.setCell ⟨k,0,none⟩ vg).setCell ⟨k,1,none⟩ vu).setCell ⟨k,2,none⟩ vf).setCell ⟨k,3,none⟩ vc).heap[k']? = some (.cells #[e,f] 39 (0,0)):=so (so (so (so hk' n1) n1) n1) n1;exact ⟨Hq (so (so (zi2 hk _ _ _ _) n2) n2),Hq (za1 h2 _ _),Hq ((h.setP hk hw _ _ _ _).setV h2 hw' _ _)⟩
end
theorem TA.setT {w:World} {b k:Nat} {g u f r pg pu pf pc:Value} {L:List Rm} {t:Tm} {cs:Array Value} {ty:TypeId} (h:TA w b g u f r pg pu pf pc L t) (hk:w.heap[k]? = some (.cells cs ty (0,0))) (h1:37≠ty) (h2:4≠ty) (h3:3≠ty) (h4:119≠ty) (h5:80≠ty) (h6:9≠ty) (j:Nat) (v:Value):TA (w.setCell ⟨k,j,none⟩ v) b g u f r pg pu pf pc L t :=
 ⟨zlf h.ar hk h1 h2 h3 j v,zc8 h.pa hk h1 h2 h3 h4 j v,ownsRow_setCell_other h.row (a:=⟨k,j,none⟩) (zi h.row hk h5) _,h.like,fun x hx=>ownsRow_setCell_other (h.att x hx) (a:=⟨k,j,none⟩) (zi (h.att x hx) hk h6) _⟩
theorem GA.setV {w:World} {b kg k:Nat} {g u f r pg pu pf pc gr gc:Value} {L:List Rm} {t:Tm} {rs cs:List Int} {xs:Array Value} {ty:TypeId} (h:GA w b kg g u f r pg pu pf pc gr gc L t rs cs) (hk:w.heap[k]? = some (.cells xs ty (0,0))) (h1:37≠ty) (h2:4≠ty) (h3:3≠ty) (h4:119≠ty) (h5:80≠ty) (h6:9≠ty) (h7:ty≠70) (j:Nat) (v:Value):GA (w.setCell ⟨k,j,none⟩ v) b kg g u f r pg pu pf pc gr gc L t rs cs :=
 ⟨so h.blk (zk hk h.blk h7).1,h.ta.setT hk h1 h2 h3 h4 h5 h6 j v,ownsRow_setCell_other h.rr (a:=⟨k,j,none⟩) (zi h.rr hk h1) _,ownsRow_setCell_other h.cc (a:=⟨k,j,none⟩) (zi h.cc hk h1) _,h.gC,h.pC,h.rC,h.gR,h.pR,h.cR⟩
theorem zg6 (X:World) (b0 b kg B:Nat) (r:Value) (t:Tm) (rs cs:List Int) (h:GB X b kg B r t rs cs) (hb0:b0<=b) (hb1:b0<=kg) (hb2:b0<=B) (hbB:b<=B) (hBX:B<=X.heap.size) (root:Int) (size:Nat) (items:List Int) (pi:Option Addr) (ci:Nat) (hI:V.RL X pi items) (hci:items.length<=ci) (hcm:ci<=9223372036854775807) (hil:items.length<=200) (hiU:V.U64 items) (h0:0<=root) (h1:root<=18446744073709551615) (hs:size<=256) (m:Nat) (G:Int) (hP:V.PK m G t.pl) (hG:G<=1099511627775) (hm0:0<m) (hcl:cs.length<=1000000) (hgl:(t.pl.change ⟨root,size⟩ items).gone.length<=1024) :
 Calls Tryz.prog 40 #[.pointer (some ⟨kg,0,none⟩),.agg #[.int .u64 root,.int .i64 size],.slice pi items.length ci] X (fun e X'=>e = .returned (.tuple #[.agg #[.int .u64 (t.pl.change ⟨root,size⟩ items).v.root,.int .i64 (t.pl.change ⟨root,size⟩ items).v.size],.int .i64 (t.pl.change ⟨root,size⟩ items).e]) /\
  GB X' b kg B r ⟨t.st,t.recs,(t.pl.change ⟨root,size⟩ items).p⟩ rs (cs++(t.pl.change ⟨root,size⟩ items).gone)/\KW b0 B kg r X X'):=by
 obtain ⟨g,u,f,pg,pu,pf,pc,gr,gc,L,hg,hgr,hgc⟩:=h;obtain ⟨agp,cgp,aup,cup,afp,cfp,acp,ccp,rfl,rfl,rfl,rfl⟩:=hg.ta.pa.form;obtain ⟨qc,cc0,rfl,-,-⟩:=zj hg.cc;obtain ⟨T,hT⟩:∃ T,t.pl.change ⟨root,size⟩ items=T:=⟨_,rfl⟩;have HC:Hid (∀ w',Below X.heap.size X w'->Calls Tryz.prog 73 #[.agg #[.slice agp t.pl.st.gens.length cgp,.slice aup t.pl.st.used.length cup,.slice afp t.pl.st.free.length cfp,.slice acp t.pl.ch.length ccp],.agg #[.int .u64 root,.int .i64 size],.slice pi items.length ci] w' (V.GivesC T w')):=Hq (fun w' hb=>by
  rw [<- hT];exact V.zqm root size items pi ci _ _ _ _ t.pl b m G w' (hg.ta.pa.below hb) hP (hI.below hb) hci hcm hil hiU h0 h1 hs hG hm0)
 rw [hT] at hgl ⊢;have HGA:=Hq hg;have HGR:=Hq hgr;have HGC:=Hq hgc;have hgs:=hg.ta.pa.ar;clear hT hI hci hcm hiU hP hg hgr hgc hgs;obtain ⟨W,hW⟩:∃ W,W=(X.alloc (.cells #[.int .u64 root,.int .i64 size] 39)).alloc (.cells #[.int .u64 0,.int .i64 0] 39):=⟨_,rfl⟩;have HBW:Hid (Below X.heap.size X W):=Hq (by rw [hW];exact (Bq _ _).alloc (by simp) _);have HV:Hid (W.heap[X.heap.size]? = some (.cells #[.int .u64 root,.int .i64 size] 39 (0,0))):=Hq (by rw [hW];exact hnew0 _ _ _);have HZ:Hid (W.heap[X.heap.size+1]? = some (.cells #[.int .u64 0,.int .i64 0] 39 (0,0))):=Hq (by rw [hW];exact hnew1 _ _ _);have HS:Hid (W.heap.size=X.heap.size+2):=Hq (by rw [hW];simp);have HGW:=Hq (HGA.out.below HBW.out);have HWE:=Hq hW;have hkX:kg<X.heap.size:=lt_of_block HGA.out.blk;have HKX:=Hq hkX;clear hW hkX;have HKP:Hid (∀ w',Below W.heap.size W w'->w'.cell? ⟨kg,4,none⟩=some (.slice agp t.pl.st.gens.length cgp)/\w'.cell? ⟨kg,5,none⟩=some (.slice aup t.pl.st.used.length cup)/\w'.cell? ⟨kg,6,none⟩=some (.slice afp t.pl.st.free.length cfp)/\w'.cell? ⟨kg,7,none⟩=some (.slice acp t.pl.ch.length ccp)/\w'.cell? ⟨X.heap.size,0,none⟩=some (.int .u64 root)/\w'.cell? ⟨X.heap.size,1,none⟩=some (.int .i64 size)):=Hq (fun w' hb=>by
  have hk:=(hb.block _ (lt_of_block HGW.out.blk)).trans HGW.out.blk;obtain ⟨e0,e1⟩:=block2 ((hb.block _ (lt_of_block HV.out)).trans HV.out);refine ⟨?_,?_,?_,?_,e0,e1⟩<;>simp [World.cell?,hk])
 have HCW:Hid (∀ w',Below W.heap.size W w'->Calls Tryz.prog 73 #[.agg #[.slice agp t.pl.st.gens.length cgp,.slice aup t.pl.st.used.length cup,.slice afp t.pl.st.free.length cfp,.slice acp t.pl.ch.length ccp],.agg #[.int .u64 root,.int .i64 size],.slice pi items.length ci] w' (V.GivesC T w')):=Hq (fun w' hb=>HC.out w' (HBW.out.trans (hb.mono HBW.out.size)));clear HC;go_enter Tryz.func40,Tryz.ntmps40;go_upto_region 1 with fail
 rw [<- HWE.out];obtain ⟨x0,x1,x2,x3,u0,u1⟩:=HKP.out W (Below.refl _ _)
 go_cut [8,9,10,11] from 12 to 24 (fun a b c d wx=>∃ (k8 k9:Nat) (vg vu vf vc vl:Value),a = .pointer (some ⟨k8,0,none⟩)/\b = .pointer (some ⟨k9,0,none⟩)/\c=vl/\d = .int .i64 T.e/\CR W wx k8 k9 vg vu vf vc vl T)
 case first =>
  go_region_held3 (fun w'=>w'.cell? ⟨kg,4,none⟩=some (.slice agp t.pl.st.gens.length cgp)/\w'.cell? ⟨kg,5,none⟩=some (.slice aup t.pl.st.used.length cup)/\w'.cell? ⟨kg,6,none⟩=some (.slice afp t.pl.st.free.length cfp)/\w'.cell? ⟨kg,7,none⟩=some (.slice acp t.pl.ch.length ccp)/\w'.cell? ⟨X.heap.size,0,none⟩=some (.int .u64 root)/\w'.cell? ⟨X.heap.size,1,none⟩=some (.int .i64 size))
   ((refine HKP.out _ ?_
     repeat' (first
      | with_reducible exact HBt.out
      | with_reducible exact Below.refl _ _
      | with_reducible refine alloc' ?_ _
      | with_reducible refine Below.drew ?_
      | ((with_reducible refine Below.setCell ?_ ?_ _);rotate_left;focus (first|(show _<=_;omega)|(show _<=_;simp;omega)|(show _<=_;simp;done))))))
   (first
     | (go_at_call 73
        refine (HCW.out _ (by repeat' (first|with_reducible exact Below.refl _ _|with_reducible refine alloc' ?_ _|with_reducible refine Below.drew ?_))).mono ?_;rintro e wt ⟨b1,b2,b3,b4,b5,rfl,hpa5,hol5,hb5⟩;obtain ⟨pg5,cg5,pu5,cu5,pf5,cf5,pc5,cc5,rfl,rfl,rfl,rfl⟩:=hpa5.form;obtain ⟨q5,r5,rfl,-,-⟩:=zj hol5;have HC0:Hid (C0 W wt (.slice pg5 T.p.st.gens.length cg5) (.slice pu5 T.p.st.used.length cu5) (.slice pf5 T.p.st.free.length cf5) (.slice pc5 T.p.ch.length cc5) (.slice q5 T.gone.length r5) T):=Hq ⟨hpa5.drop (by first|(show _<=_;simp;done)|(show _<=_;simp;omega)),zq hol5 (by first|(show _<=_;simp;done)|(show _<=_;simp;omega)),Below.trans (by repeat' (first|with_reducible exact Below.refl _ _|with_reducible refine alloc' ?_ _|with_reducible refine Below.drew ?_)) (hb5.mono (by first|(show _<=_;simp;done)|(show _<=_;simp;omega)))⟩;have HBt:Hid (Below W.heap.size W wt):=Hq HC0.out.be;have hst:=HBt.out.size
        first
         | (have HP5:Hid (wt.heap[W.heap.size]? = some (.cells #[.slice none 0 0,.slice none 0 0,.slice none 0 0,.slice none 0 0] 34 (0,0))):=Hq ((hb5.block _ (lt_of_block (by first|exact hnew _ _|exact hnew0 _ _ _))).trans (by first|exact hnew _ _|exact hnew0 _ _ _));obtain ⟨d0,d1,d2,d3⟩:=block4c HP5.out;have y0:=za HP5.out 0;have y1:=za HP5.out 1;have y2:=za HP5.out 2;have y3:=za HP5.out 3;obtain ⟨p5a,p5b,p5c⟩:=lt_ne HP5.out)
         | (have HP5:Hid (wt.heap[W.heap.size+1]? = some (.cells #[.slice none 0 0,.slice none 0 0,.slice none 0 0,.slice none 0 0] 34 (0,0))):=Hq ((hb5.block _ (lt_of_block (hnew1 _ _ _))).trans (hnew1 _ _ _));obtain ⟨d0,d1,d2,d3⟩:=block4c HP5.out;have y0:=za HP5.out 0;have y1:=za HP5.out 1;have y2:=za HP5.out 2;have y3:=za HP5.out 3;obtain ⟨p5a,p5b,p5c⟩:=lt_ne HP5.out)
         | skip
        first
         | (have HQ5:Hid (wt.heap[W.heap.size]? = some (.cells #[.int .u64 0,.int .i64 0] 39 (0,0))):=Hq ((hb5.block _ (lt_of_block (by first|exact hnew _ _|exact hnew0 _ _ _))).trans (by first|exact hnew _ _|exact hnew0 _ _ _));obtain ⟨e0,e1⟩:=block2 HQ5.out;have f0:=za HQ5.out 0;have f1:=za HQ5.out 1;obtain ⟨q5a,q5b,q5c⟩:=lt_ne HQ5.out)
         | (have HQ5:Hid (wt.heap[W.heap.size+1]? = some (.cells #[.int .u64 0,.int .i64 0] 39 (0,0))):=Hq ((hb5.block _ (lt_of_block (hnew1 _ _ _))).trans (hnew1 _ _ _));obtain ⟨e0,e1⟩:=block2 HQ5.out;have f0:=za HQ5.out 0;have f1:=za HQ5.out 1;obtain ⟨q5a,q5b,q5c⟩:=lt_ne HQ5.out)
         | skip
        first|(have hpq:=zk HP5.out HQ5.out (by decide);obtain ⟨pq5,qp5⟩:=hpq)|skip
        clear hpa5 hol5 hb5))
  all_goals
   go_wp2;go_meet
   first
    | with_reducible exact ⟨_,_,_,_,_,_,_,rfl,rfl,rfl,rfl,crD HC0.out HP5.out HQ5.out (by first|omega|(simp;done)|(simp;omega)) (by first|omega|(simp;done)|(simp;omega))⟩
    | with_reducible exact ⟨_,_,_,_,_,_,_,rfl,rfl,rfl,rfl,crB HC0.out HP5.out (by first|omega|(simp;done)|(simp;omega))⟩
    | with_reducible exact ⟨_,_,_,_,_,_,_,rfl,rfl,rfl,rfl,crC HC0.out HQ5.out (by first|omega|(simp;done)|(simp;omega))⟩
    | with_reducible exact ⟨_,_,_,_,_,_,_,rfl,rfl,rfl,rfl,crA1 HC0.out⟩
    | with_reducible exact ⟨_,_,_,_,_,_,_,rfl,rfl,rfl,rfl,crA2 HC0.out⟩
    | with_reducible exact ⟨_,_,_,_,_,_,_,rfl,rfl,rfl,rfl,crB2 HC0.out HP5.out (by first|omega|(simp;done)|(simp;omega))⟩
    | with_reducible exact ⟨_,_,_,_,_,_,_,rfl,rfl,rfl,rfl,crC2 HC0.out HQ5.out (by first|omega|(simp;done)|(simp;omega))⟩
 case rest =>
  obtain ⟨k8,k9,vg,vu,vf,vc,vl,rfl,rfl,rfl,rfl,HX8,HV9,HC0⟩:=hcut;obtain ⟨q5,r5,rfl,-,-⟩:=zj HC0.out.ro;obtain ⟨pg5,cg5,pu5,cu5,pf5,cf5,pc5,cc5,rfl,rfl,rfl,rfl⟩:=HC0.out.pa.form;clear x0 x1 x2 x3 u0 u1 HCW HKP;have HGc:=Hq (HGW.out.below HC0.out.be);have hWb:b<=W.heap.size:=by have:=HBW.out.size;omega
  have HPn:Hid (V.PA wc b (.slice pg5 T.p.st.gens.length cg5) (.slice pu5 T.p.st.used.length cu5) (.slice pf5 T.p.st.free.length cf5) (.slice pc5 T.p.ch.length cc5) T.p):=Hq (HC0.out.pa.drop hWb);have HGp:=Hq (HGc.out.pool HPn.out (Ap.fresh HGW.out.cc HC0.out.pa.ar.g) (Ap.fresh HGW.out.rr HC0.out.pa.ar.g));obtain ⟨Z,hZ⟩:∃ Z,Z=((((wc.setCell ⟨kg,4,none⟩ (.slice pg5 T.p.st.gens.length cg5)).setCell ⟨kg,5,none⟩ (.slice pu5 T.p.st.used.length cu5)).setCell ⟨kg,6,none⟩ (.slice pf5 T.p.st.free.length cf5)).setCell ⟨kg,7,none⟩ (.slice pc5 T.p.ch.length cc5)):=⟨_,rfl⟩;rw [<- hZ] at HGp;have HKc:Hid (KW b0 B kg r X wc):=Hq ((KW.of_below HBW.out (by omega) hBX).trans (KW.of_below HC0.out.be (by omega) (by have:=HBW.out.size;omega)));have HKZ:Hid (KW b0 B kg r X Z):=Hq (by rw [hZ];exact (((HKc.out.set hb1 HGc.out.blk 4 _).set hb1 (zb HGc.out.blk 4 _) 5 _).set hb1 (zb (zb HGc.out.blk 4 _) 5 _) 6 _).set hb1 (zb (zb (zb HGc.out.blk 4 _) 5 _) 6 _) 7 _);have n9:=(zk HV9.out HGc.out.blk (by decide)).2;have H9Z:Hid (Z.heap[k9]? = some (.cells #[.int .u64 T.v.root,.int .i64 T.v.size] 39 (0,0))):=Hq (by rw [hZ];exact so (so (so (so HV9.out n9) n9) n9) n9);have hkR:wc.heap[X.heap.size+1]? = some (.cells #[.int .u64 0,.int .i64 0] 39 (0,0)):=(HC0.out.be.block _ (by rw [HS.out];omega)).trans HZ.out;have nR:=(zk hkR HGc.out.blk (by decide)).2;have HRZ:Hid (Z.heap[X.heap.size+1]? = some (.cells #[.int .u64 0,.int .i64 0] 39 (0,0))):=Hq (by rw [hZ];exact so (so (so (so hkR nR) nR) nR) nR);have HOZ:Hid (Z.ownsRow W.heap.size 37 1 (.slice q5 T.gone.length r5) T.gone.length (V.gvs T.gone)):=Hq (by
   rw [hZ];have st:∀ {Y:World} {cs:Array Value} (j:Nat) (v:Value),Y.heap[kg]? = some (.cells cs 70 (0,0))->Y.ownsRow W.heap.size 37 1 (.slice q5 T.gone.length r5) T.gone.length (V.gvs T.gone)->(Y.setCell ⟨kg,j,none⟩ v).ownsRow W.heap.size 37 1 (.slice q5 T.gone.length r5) T.gone.length (V.gvs T.gone):=fun j v h1 h2=>ownsRow_setCell_other h2 (a:=⟨kg,j,none⟩) (zi h2 h1 (by decide)) _
   have e0:=HGc.out.blk;have e1:=zb e0 4 (.slice pg5 T.p.st.gens.length cg5);have e2:=zb e1 5 (.slice pu5 T.p.st.used.length cu5);have e3:=zb e2 6 (.slice pf5 T.p.st.free.length cf5);exact st _ _ e3 (st _ _ e2 (st _ _ e1 (st _ _ e0 HC0.out.ro))))
  obtain ⟨d0,d1,d2,d3⟩:=block4c HX8.out;have hblk:=HGc.out.blk;have y4:wc.cell? ⟨kg,4,none⟩=some (.slice agp t.pl.st.gens.length cgp):=by simp [World.cell?,hblk]
  have y5:wc.cell? ⟨kg,5,none⟩=some (.slice aup t.pl.st.used.length cup):=by simp [World.cell?,hblk]
  have y6:wc.cell? ⟨kg,6,none⟩=some (.slice afp t.pl.st.free.length cfp):=by simp [World.cell?,hblk]
  have y7:wc.cell? ⟨kg,7,none⟩=some (.slice acp t.pl.ch.length ccp):=by simp [World.cell?,hblk]
  have z4:=za hblk 4;have z5:=za hblk 5;have z6:=za hblk 6;have z7:=za hblk 7;have HZE:=Hq hZ;clear hblk hkR nR n9 hZ;go_upto_region 3 with fail
  rw [<- HZE.out];clear d0 d1 d2 d3 y4 y5 y6 y7 z4 z5 z6 z7 HZE;obtain ⟨i0,hI1,hI2,hI3,hI4⟩:=info_parts V.za4;have HI:=Hq (And.intro hI1 (And.intro hI2 (And.intro hI3 hI4)));have hblk:=HGp.out.blk;have y9:Z.cell? ⟨kg,9,none⟩=some (.slice qc cs.length cc0):=by simp [World.cell?,hblk]
  have hBZ:B<=Z.heap.size:=Nat.le_trans hBX HKZ.out.be.size;have HSR:=Hq (zhq HOZ.out (V.zcc _));have HCC:=Hq HGp.out.cc;have HFIN:Hid (∀ V4 p' c',Z.grownBy V4 (Value.slice qc cs.length cc0).ownBlock->V4.ownsRow b 37 1 (.slice p' (cs.length+T.gone.length) c') (cs.length+T.gone.length) (V.gvs cs++V.gvs T.gone)->((Value.slice p' (cs.length+T.gone.length) c').ownBlock=(Value.slice qc cs.length cc0).ownBlock\/(Value.slice p' (cs.length+T.gone.length) c').ownBlock=some Z.heap.size) ->
   V4.cell? ⟨kg,9,none⟩=some (.slice qc cs.length cc0)/\V4.frozen? ⟨kg,9,none⟩=false/\(V4.setCell ⟨kg,9,none⟩ (.slice p' (cs.length+T.gone.length) c')).heap[k9]? = some (.cells #[.int .u64 T.v.root,.int .i64 T.v.size] 39 (0,0))/\(V4.setCell ⟨kg,9,none⟩ (.slice p' (cs.length+T.gone.length) c')).heap[X.heap.size+1]? = some (.cells #[.int .u64 0,.int .i64 0] 39 (0,0))/\GB (V4.setCell ⟨kg,9,none⟩ (.slice p' (cs.length+T.gone.length) c')) b kg B r ⟨t.st,t.recs,T.p⟩ rs (cs++T.gone)/\KW b0 B kg r X (V4.setCell ⟨kg,9,none⟩ (.slice p' (cs.length+T.gone.length) c'))):=Hq (fun V4 p' c' hg ho hb=>by
   have hk4:=zc5 HGp.out.cc hg HGp.out.blk;have keep:∀ {j:Nat} {xs:Array Value},Z.heap[j]? = some (.cells xs 39 (0,0))->(V4.setCell ⟨kg,9,none⟩ (.slice p' (cs.length+T.gone.length) c')).heap[j]? = some (.cells xs 39 (0,0)):=fun {j xs} hj=>by
    have h4:=(hg.block j (lt_of_block hj) (fun e=>zi HGp.out.cc hj (by decide) e.symm)).trans hj;exact so h4 (zk h4 hk4 (by decide)).2
   refine ⟨by simp [World.cell?,hk4],za hk4 9,keep H9Z.out,keep HRZ.out,⟨_,_,_,_,_,_,_,_,_,L,HGp.out.chunks hg (cs':=cs++T.gone) (by rw [List.length_append,V.gvs,List.map_append];exact ho) hb,HGR.out,fun k hk=>?_,HGC.out.2.1,fun k hk=>by have h1:=(HC0.out.pa.ar.g.lt k hk).1;have h2:=HBW.out.size;omega⟩,?_⟩
   · rcases hb with hb|hb
     · exact HGC.out.1 k (by rw [<- hb];exact hk)
     · rw [hb] at hk;cases hk;exact hBZ
   · exact (HKZ.out.grown HGp.out.cc hg HGC.out.1 hb2 hBZ).set hb1 hk4 9 _)
  clear hblk hI1 hI2 hI3 hI4;obtain ⟨cn,hcn⟩:∃ z,cs.length=z:=⟨_,rfl⟩;obtain ⟨gn,hgn⟩:∃ z,T.gone.length=z:=⟨_,rfl⟩;rw [hcn] at hcl y9 HFIN HCC;rw [hgn] at hgl HFIN HSR;simp only [hgn]
  go_wp2_with (at_builtin;refine zfp rfl _ _ rfl rfl Tryz.underlying26 HI.out.1 HI.out.2.1 HI.out.2.2.1 HI.out.2.2.2 rfl (by decide) rfl HCC.out r5 rfl HSR.out (by unfold maxLen;omega) (by omega) (by omega) ?_;intro v4 V4 ho hg hb;obtain ⟨p',c',rfl,-,-⟩:=zj ho;have HF:=Hq (HFIN.out V4 p' c' hg ho hb);clear ho hg hb;have y9':=HF.out.1;have f9':=HF.out.2.1;obtain ⟨e0,e1⟩:=block2 HF.out.2.2.1;obtain ⟨e2,e3⟩:=block2 HF.out.2.2.2.1;have f0:=za HF.out.2.2.2.1 0;have f1:=za HF.out.2.2.2.1 1)
  have hfin:=za1 HF.out.2.2.2.1 (.int .u64 T.v.root) (.int .i64 T.v.size);obtain ⟨q0,q1⟩:=block2 hfin;refine bodyPost_ret (v:=.tuple #[.agg #[.int .u64 T.v.root,.int .i64 T.v.size],.int .i64 T.e]) (by simp [results,Tryz.results40,go_sem,q0,q1]) rfl ⟨rfl,?_,?_⟩
  · obtain ⟨g1,u1,f1,pg1,pu1,pf1,pc1,gr1,gc1,L1,k1,k2,k3⟩:=HF.out.2.2.2.2.1;have r0:=HF.out.2.2.2.1;exact ⟨g1,u1,f1,pg1,pu1,pf1,pc1,gr1,gc1,L1,(k1.setV r0 (by decide) (by decide) (by decide) (by decide) (by decide) (by decide) (by decide) 0 _).setV (zb r0 0 (.int .u64 T.v.root)) (by decide) (by decide) (by decide) (by decide) (by decide) (by decide) (by decide) 1 _,k2,k3⟩
  · have kk:=HF.out.2.2.2.2.2;have hX:=HKX.out;refine ⟨(kk.be.setCell (p:=⟨X.heap.size+1,0,none⟩) (show b0<=X.heap.size+1 by omega) _).setCell (p:=⟨X.heap.size+1,1,none⟩) (show b0<=X.heap.size+1 by omega) _,fun j h1 h2 h3=>?_,fun j xs ty h1 h2 h3 h4=>?_⟩
    · rw [Below.heap_setCell _ ⟨X.heap.size+1,1,none⟩ _ j (show j≠X.heap.size+1 by omega),Below.heap_setCell _ ⟨X.heap.size+1,0,none⟩ _ j (show j≠X.heap.size+1 by omega)];exact kk.same j h1 h2 h3
    · have:=lt_of_block h4;rw [Below.heap_setCell _ ⟨X.heap.size+1,1,none⟩ _ j (show j≠X.heap.size+1 by omega),Below.heap_setCell _ ⟨X.heap.size+1,0,none⟩ _ j (show j≠X.heap.size+1 by omega)];exact kk.ty j xs ty h1 h2 h3 h4
theorem KW.setN {b0 B kg k:Nat} {r:Value} {X Y:World} (h:KW b0 B kg r X Y) (h1:X.heap.size<=k) (h0:b0<=X.heap.size) (hB:B<=X.heap.size) (j:Nat) (v:Value):KW b0 B kg r X (Y.setCell ⟨k,j,none⟩ v) :=
 ⟨h.be.setCell (p:=⟨k,j,none⟩) (show b0<=k by omega) v,fun i hi h2 h3=>(Below.heap_setCell Y ⟨k,j,none⟩ v i (show i≠k by omega)).trans (h.same i hi h2 h3),fun i xs t a b c hi=>(Below.heap_setCell Y ⟨k,j,none⟩ v i (show i≠k by have:=lt_of_block hi;omega)).trans (h.ty i xs t a b c hi)⟩
theorem zfr {w:World} {b kg:Nat} {g u f r pg pu pf pc gr gc:Value} {L:List Rm} {t:Tm} {rs cs:List Int} (h:GA w b kg g u f r pg pu pf pc gr gc L t rs cs):w.cell? ⟨kg,0,none⟩=some g/\w.cell? ⟨kg,1,none⟩=some u/\w.cell? ⟨kg,2,none⟩=some f/\w.cell? ⟨kg,3,none⟩=some r:=by
 have hb:=h.blk;simp [World.cell?,hb]
theorem block3c {w:World} {k:Nat} {a b c:Value} {t:TypeId} (h:w.heap[k]? = some (.cells #[a,b,c] t (0,0))):w.cell? ⟨k,0,none⟩=some a/\w.cell? ⟨k,1,none⟩=some b/\w.cell? ⟨k,2,none⟩=some c:=by
 simp [World.cell?,h]
theorem zjt {w:World} {k o kg:Nat} (h:k≠kg) (a0 a1 a2 a3 a4 a5 a6:Value):(((((((w.setCell ⟨k,o,none⟩ a0).setCell ⟨k,o+1,none⟩ a1).setCell ⟨k,o+2,none⟩ a2).setCell ⟨k,o+3,none⟩ a3).setCell ⟨k,o+4,none⟩ a4).setCell ⟨k,o+5,none⟩ a5).setCell ⟨k,o+6,none⟩ a6).heap[kg]? = w.heap[kg]?:=by
 have st:∀ (X:World) (j:Nat) (x:Value),(X.setCell ⟨k,j,none⟩ x).heap[kg]? = X.heap[kg]?:=fun X j x=>Below.heap_setCell X ⟨k,j,none⟩ x kg (fun e=>h e.symm)
 rw [st,st,st,st,st,st,st]
theorem zin {b0 k o:Nat} {w X:World} (h:Below b0 w X) (hk:b0<=k) (y:Rm):Below b0 w (setR X k o y) :=
 ((((((h.setCell (p:=⟨k,o,none⟩) hk _).setCell (p:=⟨k,o+1,none⟩) hk _).setCell (p:=⟨k,o+2,none⟩) hk _).setCell (p:=⟨k,o+3,none⟩) hk _).setCell (p:=⟨k,o+4,none⟩) hk _).setCell (p:=⟨k,o+5,none⟩) hk _).setCell (p:=⟨k,o+6,none⟩) hk _
theorem KW.record {b0 B kg kr o:Nat} {r:Value} {X Y:World} {cs:Array Value} (h:KW b0 B kg r X Y) (hr:r.ownBlock=some kr) (hk:Y.heap[kr]? = some (.cells cs 80 (0,0))) (hb:b0<=kr) (y:Rm):KW b0 B kg r X (setR Y kr o y) :=
 ⟨zin h.be hb y,fun i h1 h2 h3=>(zd9 y (fun e=>h3 (by rw [hr,e]))).trans (h.same i h1 h2 h3),fun i xs t h1 h2 h3 h4=>by
  have e:=h.ty i xs t h1 h2 h3 h4;refine (zd9 y (fun e'=>?_)).trans e;rw [<- e',hk] at e;have e2:=e.trans (e' ▸ h4);cases e2;exact h3 rfl⟩
def GivesTk (o:Option (Tm × Int × List Int)) (b0 b kg B:Nat) (r:Value) (rs cs:List Int) (X:World) (e:Ending) (X':World):Prop :=
 match o with
 | none=>e = .returned (.tuple #[.int .u64 0,.int .i64 2])/\KW b0 B kg r X X'
 | some (u,hd,gn)=>e = .returned (.tuple #[.int .u64 hd,.int .i64 0])/\GB X' b kg B r u rs (cs++gn)/\KW b0 B kg r X X'
theorem AR.kw {b0 B kg:Nat} {r:Value} {w w':World} {A:Option Addr} {l:List (ByteArray × ByteArray)} (h:AR w A l) (hk:∀ g off,A=some ⟨g,off,none⟩->w'.heap[g]? = w.heap[g]?) (hs:w.heap.size<=w'.heap.size):AR w' A l:=fun j hj=>by
 obtain ⟨g,off,hA,hg,hc,hd⟩:=h j hj;have e:=hk g off hA;exact ⟨g,off,hA,Nat.lt_of_lt_of_le hg hs,(zaf e _).trans hc,(zaf e _).trans hd⟩
theorem zju (X:World) (b0 b kg B:Nat) (r:Value) (t:Tm) (rs cs:List Int) (h:GB X b kg B r t rs cs) (hb0:b0<=b) (hb1:b0<=kg) (hb2:b0<=B) (hbB:b<=B) (hBX:B<=X.heap.size) (M:Mn) (hAR:∀ Y,KW b0 B kg r X Y->AR Y M.aA M.attrs) (hIR:IR X M.kA M.kids) (hkl:M.kids.length<=200) (hkb:∀ x∈M.kids,0<=x/\x<=9223372036854775807) (hal:M.attrs.length<=1000)
 (kv:V.Vc) (okids:List Int) (rw0:List (List Int)) (hwf:V.WF t.pl kv okids rw0) (n m:Nat) (G:Int) (hT:TK n m G t) (hG:G<=1099511627775) (hm0:0<m) (hcl:cs.length<=900000) :
 Calls Tryz.prog 39 #[.pointer (some ⟨kg,0,none⟩),nval M,.agg #[.int .u64 kv.root,.int .i64 kv.size]] X (GivesTk (t.taken M kv) b0 b kg B r rs cs X):=by
 have hb64:=hwf.b64;have hsz:kv.size<=256:=by have:=hwf.size;have:=hwf.small;omega
 have hU:V.U64 M.kids:=fun x hx=>by have:=hkb x hx;omega
 have hgl:=zfq (items:=M.kids) hT.pk hwf;have htwo:=zde hT.pk hG hwf hkl hU;obtain ⟨T,hTT⟩:∃ T,t.pl.change kv M.kids=T:=⟨_,rfl⟩;have HCH:Hid (∀ (Y:World) (p:Option Addr) (c:Nat),Below X.heap.size X Y->Y.ownsRow X.heap.size 37 1 (.slice p M.kids.length c) M.kids.length (V.gvs M.kids)->Calls Tryz.prog 40 #[.pointer (some ⟨kg,0,none⟩),.agg #[.int .u64 kv.root,.int .i64 kv.size],.slice p M.kids.length c] Y (fun e X'=>e = .returned (.tuple #[.agg #[.int .u64 T.v.root,.int .i64 T.v.size],.int .i64 T.e])/\GB X' b kg B r ⟨t.st,t.recs,T.p⟩ rs (cs++T.gone)/\KW b0 B kg r Y X')):=Hq (fun Y p c hb ho=>by
  obtain ⟨p',c',hv,h1,h2⟩:=zj ho;cases hv;unfold maxLen at h2;have:=zg6 Y b0 b kg B r t rs cs (h.below hb) hb0 hb1 hb2 hbB (Nat.le_trans hBX hb.size) kv.root kv.size M.kids p c (V.RL.of_own ho) h1 (by omega) hkl hU hb64.1 hb64.2 hsz m G hT.pk hG hm0 (by omega) hgl;rw [<- hTT];exact this)
 have HTW:Hid ((T.e=2/\t.taken M kv=none)\/(T.e=0/\T.p.st.free.length=T.p.st.free.length/\((t.st.free=[]/\t.taken M kv=none)\/∃ (fr:List Int) (i:Nat),t.st.free=fr++[(i:Int)]/\i<n/\t.taken M kv=some ((⟨t.st,t.recs,T.p⟩:Tm).tk i (recP M T.v),t.hd i,T.gone)))):=Hq (by
  rw [hTT] at htwo
  rcases htwo with ⟨h1,-⟩|⟨h1,-⟩
  · left
    exact ⟨h1,by unfold Tm.taken;rw [hTT,if_neg (by omega)]⟩
  · right
    refine ⟨h1,rfl,?_⟩;unfold Tm.taken;rw [hTT,if_pos h1]
    by_cases hf:t.st.free=[]
    · exact .inl ⟨hf,by rw [hf];rfl⟩
    · obtain ⟨fr,i,hfr,hi⟩:=hT.ok.last hf;exact .inr ⟨fr,i,hfr,hi,by rw [hfr,List.getLast?_concat];rfl⟩)
 have HAR:=Hq hAR;have HIR:=Hq hIR;have HKB:=Hq hkb;have HT:=Hq hT;have HGB:=Hq h;clear hb64 hsz hU hgl htwo hTT hAR hIR hkb hT h hwf;obtain ⟨rt,sz⟩:=kv;obtain ⟨kd,nm,tx,ats,par,kids,xa,xc,ya,yc⟩:=M;unfold nval;simp only [] at HCH HTW HAR HIR HKB hkl hal ⊢;obtain ⟨kn,hkn⟩:∃ z,kids.length=z:=⟨_,rfl⟩;have HKN:=Hq hkn;obtain ⟨an,han⟩:∃ z,ats.length=z:=⟨_,rfl⟩;have HAN:=Hq han;simp only [hkn] at HCH hkl;rw [han] at hal;simp only [hkn,han];clear hkn han;obtain ⟨o,ho⟩:∃ o,t.taken ⟨kd,nm,tx,ats,par,kids,xa,xc,ya,yc⟩ ⟨rt,sz⟩=o:=⟨_,rfl⟩;rw [ho] at HTW ⊢;clear ho;obtain ⟨W,hW⟩:∃ W,W=(X.alloc (.cells #[.int .i64 kd,.string nm,.string tx,.slice xa an xc,.int .i64 par,.slice ya kn yc] 90)).alloc (.cells #[.int .u64 rt,.int .i64 sz] 39):=⟨_,rfl⟩;have HBW:Hid (Below X.heap.size X W):=Hq (by rw [hW];exact (Bq _ _).alloc (by simp) _);have HN0:Hid (W.heap[X.heap.size]? = some (.cells #[.int .i64 kd,.string nm,.string tx,.slice xa an xc,.int .i64 par,.slice ya kn yc] 90 (0,0))):=Hq (by rw [hW];exact hnew0 _ _ _);have HV0:Hid (W.heap[X.heap.size+1]? = some (.cells #[.int .u64 rt,.int .i64 sz] 39 (0,0))):=Hq (by rw [hW];exact hnew1 _ _ _);have HS:Hid (W.heap.size=X.heap.size+2):=Hq (by rw [hW];simp);have HWE:=Hq hW;clear hW;obtain ⟨i0,hI1,hI2,hI3,hI4⟩:=info_parts V.za4;have HI:=Hq (And.intro hI1 (And.intro hI2 (And.intro hI3 hI4)));clear hI1 hI2 hI3 hI4;go_enter Tryz.func39,Tryz.ntmps39;go_upto_region 2 with fail
 rw [<- HWE.out];have x5:=(block6 HN0.out).2.2.2.2.2;go_wp2_with fail;clear x5
 go_loopw [8,10,17] (fun a _ i Y=>∃ (j:Nat) (p:Option Addr) (c:Nat),j<=kn/\a = .slice p j c/\i = .int .i64 j/\Hid (Y.ownsRow W.heap.size 37 1 (.slice p j c) j (V.gvs (kids.take j)))/\Hid (Below W.heap.size W Y)) (fun _ _ i _=>kn - (intOf i).toNat)
 case atStart => exact ⟨0,none,0,Nat.zero_le _,rfl,rfl,Hq ⟨rfl,.inl ⟨rfl,rfl⟩⟩,Hq (Below.refl _ _)⟩
 case round =>
  obtain ⟨j,p,c,hj,rfl,rfl,HO,HB⟩:=hrel;have hbs:=HB.out.size
  by_cases hlt:j<kn
  · have j0:(0:Int)<=(j:Int):=by omega
    have j1:(j:Int)<(kn:Int):=by omega
    have hjl:j<kids.length:=by rw [HKN.out];exact hlt
    obtain ⟨ga,oa,hA,hga,hc0⟩:=(HIR.out.below (HBW.out.trans (HB.out.mono HBW.out.size))) j hjl;have hslot:Value.slice ya kn yc=Value.slice (some ⟨ga,oa,none⟩) kn yc:=by rw [hA]
    have HTK:Hid (V.gvs (kids.take (j+1))=V.gvs (kids.take j)++[.int .u64 (kids.getD j 0)]):=Hq (by rw [za7 (zah 0 hjl),V.gvs,List.map_append];rfl);have hx:=HKB.out (kids.getD j 0) (List.mem_of_getElem? (zah 0 hjl));obtain ⟨x,hxe⟩:∃ x,kids.getD j 0=x:=⟨_,rfl⟩;rw [hxe] at HTK hx hc0;have hxw:IntKind.u64.wrap x=x:=by rw [IntKind.wrap_u64];omega
    have hx1:=hx.1;have hx2:=hx.2;rw [hslot];clear hslot hA hga hjl hxe hx;have HRo:=Hq (HO.out.alloc (.cells #[.int .u64 x] 37))
    go_wp2_with (at_builtin;refine wpList_append_own_at _ rfl _ _ 26 rfl W.heap.size 37 i0 (.int .u64 0) 1 8 Tryz.underlying26 HI.out.1 HI.out.2.1 HI.out.2.2.1 HI.out.2.2.2 rfl (by decide) _ _ _ rfl HRo.out ⟨wr.heap.size,0,none⟩ 1 1 [.int .u64 x] rfl rfl (cell_one_new _ _ _) (by simp [Value.oneCell']) (by unfold maxLen;omega) (by omega) (by simp;omega) ?_;intro v' Z hown' hgrow _ hat;obtain ⟨q',c',rfl,-,-⟩:=zj hown';have HO':=Hq hown';have HBz:Hid (Below W.heap.size W Z):=Hq ((HB.out.alloc HB.out.size _).grown hgrow (by simp;omega) (fun r e=>(HO.out.lt r e).1));clear hown' hgrow hat)
    go_roundw
    case rel => exact ⟨j+1,q',c',by omega,rfl,by go_num,Hq (by rw [HTK.out];exact HO'.out),HBz⟩
    case measure => simp [intOf]<;>omega
  · obtain rfl:j=kn:=by omega
    have htk:kids.take j=kids:=List.take_of_length_le (by rw [HKN.out];exact Nat.le_refl _);rw [htk] at HO;clear htk;have hXW:=HBW.out.size;have HBX2:Hid (Below X.heap.size X wr):=Hq (HBW.out.trans (HB.out.mono hXW));have HCW:=Hq (HCH.out wr p c HBX2.out (zq HO.out hXW));obtain ⟨y0,y1⟩:=block2 ((HB.out.block _ (lt_of_block HV0.out)).trans HV0.out);clear HCH;go_upto_region 8 with (go_at_call 40;refine HCW.out.mono ?_;rintro e w1 ⟨rfl,hgb,hkw⟩;have HG1:=Hq hgb;have HK1:=Hq hkw;have hv1:=(hkw.ty _ _ _ (by decide) (by decide) (by decide) ((HB.out.block _ (lt_of_block HV0.out)).trans HV0.out)).trans ((HB.out.block _ (lt_of_block HV0.out)).trans HV0.out);have HV1:=Hq hv1;obtain ⟨y0',y1'⟩:=block2 hv1;have f0:=za hv1 0;have f1:=za hv1 1;clear hgb hkw hv1)
    obtain ⟨Z,hZ⟩:∃ Z,Z=((w1.setCell ⟨X.heap.size+1,0,none⟩ (.int .u64 T.v.root)).setCell ⟨X.heap.size+1,1,none⟩ (.int .i64 T.v.size)):=⟨_,rfl⟩;rw [<- hZ];have hXn:X.heap.size<=X.heap.size+1:=Nat.le_succ _;have HKZ:Hid (KW b0 B kg r X Z):=Hq (by rw [hZ];exact (((KW.of_below HBX2.out (by omega) hBX).trans HK1.out).setN hXn (by omega) hBX 0 _).setN hXn (by omega) hBX 1 _);have HNZ:Hid (Z.heap[X.heap.size]? = some (.cells #[.int .i64 kd,.string nm,.string tx,.slice xa an xc,.int .i64 par,.slice ya j yc] 90 (0,0))):=Hq (by
     have e0:=(HB.out.block _ (lt_of_block HN0.out)).trans HN0.out;have e1:=(HK1.out.ty _ _ _ (by decide) (by decide) (by decide) e0).trans e0;rw [hZ];exact so (so e1 (by omega)) (by omega))
    have HVZ:Hid (Z.heap[X.heap.size+1]? = some (.cells #[.int .u64 T.v.root,.int .i64 T.v.size] 39 (0,0))):=Hq (by rw [hZ];exact za1 HV1.out _ _);have HGZ:Hid (GB Z b kg B r ⟨t.st,t.recs,T.p⟩ rs (cs++T.gone)):=Hq (by
     obtain ⟨g1,u1,f1,pg1,pu1,pf1,pc1,gr1,gc1,L1,k1,k2,k3⟩:=HG1.out;rw [hZ];exact ⟨g1,u1,f1,pg1,pu1,pf1,pc1,gr1,gc1,L1,(k1.setV HV1.out (by decide) (by decide) (by decide) (by decide) (by decide) (by decide) (by decide) 0 _).setV (zb HV1.out 0 (.int .u64 T.v.root)) (by decide) (by decide) (by decide) (by decide) (by decide) (by decide) (by decide) 1 _,k2,k3⟩)
    clear y0 y1 y0' y1' f0 f1 hZ HG1 HK1 HV1 HCW
    rcases HTW.out with ⟨he,ho⟩|⟨he,-,hrest⟩
    · rw [he];subst ho;clear he HTW;go_wp2;go_ret2;exact ⟨rfl,HKZ.out⟩
    · rw [he];clear he HTW;have HRS:=Hq hrest;clear hrest;obtain ⟨g1,u1,f1,pg1,pu1,pf1,pc1,gr1,gc1,L1,hga,hgr,hgc⟩:=HGZ.out;have hfm:=hga.ta.form;obtain ⟨ag,cg,au,cu,af,cf,ar,cr,agp,cgp,aup,cup,afp,cfp,acp,ccp,rfl,rfl,rfl,hr,rfl,rfl,rfl,rfl⟩:=hfm;obtain ⟨z0,z1,z2,z3⟩:=zfr hga;have fz0:=za hga.blk 0;have fz1:=za hga.blk 1;have fz2:=za hga.blk 2;have HGA:=Hq hga;have HGR:=Hq hgr;have HGC:=Hq hgc;have HRf:=Hq hr;clear hga hgr hgc hr HGZ
      rcases HRS.out with ⟨hf,ho⟩|⟨fr,i,hfr,hi,ho⟩
      · subst ho;have HTA:=Hq (V.takeN HT.out.ok HGA.out.ta.ar hf);clear hf fz0 fz1 fz2 HRS
        go_wp2_with (go_at_call 71;refine HTA.out.mono ?_;rintro e w2 ⟨g2,u2,f2,rfl,hAr,hb2'⟩;obtain ⟨pg2,cg2,pu2,cu2,pf2,cf2,rfl,rfl,rfl⟩:=hAr.form;have HB2:=Hq hb2';clear hb2' hAr)
        go_ret2;have hZs:=HKZ.out.be.size;have h2s:=HB2.out.size;exact ⟨rfl,HKZ.out.trans (KW.of_below (HB2.out.alloc h2s _) (by omega) (by omega))⟩
      · subst ho;have hsm:=HT.out.ok.small;have HTA:=Hq (V.takeO HT.out.ok hG HGA.out.ta.ar hfr hi);obtain ⟨s1,s2,s3,s4,s5,s6,s7,s8⟩:=znd HT.out hG hfr hi (recP ⟨kd,nm,tx,ats,par,kids,xa,xc,ya,yc⟩ T.v);have HHD:Hid (t.hd i=V.hd i (t.st.gens.getD i 0)):=Hq rfl;have HB64:Hid (V.B64 (t.hd i)):=Hq s4;have HIX:Hid (t.hd i % 16777216=(i:Int)):=Hq (V.zdq (by omega));have HIN:Hid (i<n):=Hq hi;rw [<- HHD.out] at HTA;generalize t.hd i=hd at *;clear s1 s2 s3 s4 s5 s6 s7 s8 hfr hi HRS hsm HHD;go_upto_region 11 with (go_at_call 71;refine HTA.out.mono ?_;rintro e w2 ⟨g2,u2,f2,rfl,hAr,hb2'⟩;obtain ⟨pg2,cg2,pu2,cu2,pf2,cf2,rfl,rfl,rfl⟩:=hAr.form;have HB2:=Hq hb2';have HAr:=Hq hAr;clear hb2' hAr)
        obtain ⟨V2,hV2⟩:∃ V2,V2=w2.alloc (.cells #[.slice pg2 (t.st.tk i).gens.length cg2,.slice pu2 (t.st.tk i).used.length cu2,.slice pf2 (t.st.tk i).free.length cf2] 30):=⟨_,rfl⟩;rw [<- hV2];have hZs:=HKZ.out.be.size;have h2s:=HB2.out.size;have hV2s:V2.heap.size=w2.heap.size+1:=by rw [hV2];simp
        have HBV:Hid (Below Z.heap.size Z V2):=Hq (by rw [hV2];exact HB2.out.alloc h2s _);have HSt:Hid (V2.heap[w2.heap.size]? = some (.cells #[.slice pg2 (t.st.tk i).gens.length cg2,.slice pu2 (t.st.tk i).used.length cu2,.slice pf2 (t.st.tk i).free.length cf2] 30 (0,0))):=Hq (by rw [hV2];exact hnew _ _);have HAV:=Hq (HAr.out.below (show Below w2.heap.size w2 V2 by rw [hV2];exact Bq _ _));have HGV:=Hq (HGA.out.below HBV.out);have hbZ:b<=Z.heap.size:=by omega
        have HGs:=Hq (HGV.out.slots (HAV.out.drop hbZ) (Ap.fresh HGA.out.cc HAV.out.g) (Ap.fresh HGA.out.rr HAV.out.g));obtain ⟨Y,hY⟩:∃ Y,Y=(((V2.setCell ⟨kg,0,none⟩ (.slice pg2 (t.st.tk i).gens.length cg2)).setCell ⟨kg,1,none⟩ (.slice pu2 (t.st.tk i).used.length cu2)).setCell ⟨kg,2,none⟩ (.slice pf2 (t.st.tk i).free.length cf2)):=⟨_,rfl⟩;rw [<- hY] at HGs;have HKY:Hid (KW b0 B kg r X Y):=Hq (by
         rw [hY];have k0:=HGV.out.blk;exact (((HKZ.out.trans (KW.of_below HBV.out (by omega) (by omega))).set hb1 k0 0 _).set hb1 (zb k0 0 _) 1 _).set hb1 (zb (zb k0 0 _) 1 _) 2 _)
        have kp:∀ {j:Nat} {xs:Array Value} {ty:TypeId},ty≠70->V2.heap[j]? = some (.cells xs ty (0,0))->Y.heap[j]? = some (.cells xs ty (0,0)):=fun {j xs ty} hne hj=>by
         have n1:=(zk hj HGV.out.blk hne).2;rw [hY];exact so (so (so hj n1) n1) n1
        have HNY:=Hq (kp (by decide) ((HBV.out.block _ (lt_of_block HNZ.out)).trans HNZ.out));have HVY:=Hq (kp (by decide) ((HBV.out.block _ (lt_of_block HVZ.out)).trans HVZ.out));clear z0 z1 z2 z3 fz0 fz1 fz2;obtain ⟨z0,z1,z2,z3⟩:=zfr HGV.out;have fz0:=za HGV.out.blk 0;have fz1:=za HGV.out.blk 1;have fz2:=za HGV.out.blk 2;obtain ⟨d0,d1,d2⟩:=block3c HSt.out;have HYE:=Hq hY;have HV2S:=Hq hV2s;clear hV2 hY kp hV2s;go_upto_region 14 with fail
        rw [<- HYE.out];clear z0 z1 z2 z3 fz0 fz1 fz2 d0 d1 d2 HYE;have hL:i<L1.length:=by
         have e1:=HGs.out.ta.like;have e2:=HT.out.len;have e3:=HIN.out;have e4:=congrArg List.length e1;rw [List.length_map] at e4;show i<L1.length;have e5:L1.length=t.recs.length:=e4;omega
        have HL:=Hq hL;have hrow:=HGs.out.ta.row;rw [HRf.out] at hrow;obtain ⟨kr,hkr,-,-⟩:=V.zab hrow (by omega);subst hkr;have HRr:Hid (r = .slice (some ⟨kr,0,none⟩) L1.length cr):=HRf;have hbr:∃ cs',Y.heap[kr]? = some (.cells cs' 80 (0,0)):=by
         rcases hrow.2 with ⟨hn,-⟩|⟨g9,cap9,cur9,hv9,-,hg9,-⟩
         · cases hn
         · cases hv9;exact ⟨_,hg9⟩
        obtain ⟨csr,hcsr⟩:=hbr;have HKR:=Hq hcsr;have HBKr:Hid (b<=kr):=Hq (hrow.lt kr rfl).1;have HGr:Hid (GA Y b kg _ _ _ (.slice (some ⟨kr,0,none⟩) L1.length cr) _ _ _ _ _ _ L1 ⟨t.st.tk i,t.recs,T.p⟩ rs (cs++T.gone)):=Hq (by have:=HGs.out;rw [HRr.out] at this;exact this);have HCE:Hid (∀ (W':World),Below Y.heap.size Y W'->∃ v0 v1 v2 v3 v4 v5 v6,W'.cell? ⟨kr,i*7,none⟩=some v0/\W'.cell? ⟨kr,i*7+1,none⟩=some v1/\W'.cell? ⟨kr,i*7+2,none⟩=some v2/\W'.cell? ⟨kr,i*7+3,none⟩=some v3/\W'.cell? ⟨kr,i*7+4,none⟩=some v4/\W'.cell? ⟨kr,i*7+5,none⟩=some v5/\W'.cell? ⟨kr,i*7+6,none⟩=some v6):=Hq (fun W' hW'=>⟨_,_,_,_,_,_,_,(HGr.out.ta.below hW').cells hL⟩);have HJ:Hid (∀ W',Below Y.heap.size Y W'->W'.cell? ⟨kg,3,none⟩=some (.slice (some ⟨kr,0,none⟩) L1.length cr)/\W'.cell? ⟨X.heap.size,0,none⟩=some (.int .i64 kd)/\W'.cell? ⟨X.heap.size,1,none⟩=some (.string nm)/\W'.cell? ⟨X.heap.size,2,none⟩=some (.string tx)/\W'.cell? ⟨X.heap.size,3,none⟩=some (.slice xa an xc)/\W'.cell? ⟨X.heap.size,4,none⟩=some (.int .i64 par)/\W'.cell? ⟨X.heap.size,5,none⟩=some (.slice ya j yc)/\W'.cell? ⟨X.heap.size+1,0,none⟩=some (.int .u64 T.v.root)/\W'.cell? ⟨X.heap.size+1,1,none⟩=some (.int .i64 T.v.size)):=Hq (fun W' hW'=>by
         obtain ⟨a0,a1,a2,a3,a4,a5⟩:=block6 ((hW'.block _ (lt_of_block HNY.out)).trans HNY.out);obtain ⟨b0',b1'⟩:=block2 ((hW'.block _ (lt_of_block HVY.out)).trans HVY.out);exact ⟨(zfr (HGr.out.below hW')).2.2.2,a0,a1,a2,a3,a4,a5,b0',b1'⟩)
        have HCR:Hid (∀ W',Below Y.heap.size Y W'->Calls Tryz.prog 72 #[.agg #[.int .i64 kd,.string nm,.string tx,.slice xa an xc,.int .i64 par,.slice ya j yc],.agg #[.int .u64 T.v.root,.int .i64 T.v.size]] W' (GivesRk (recP ⟨kd,nm,tx,ats,par,kids,xa,xc,ya,yc⟩ T.v) W')):=Hq (fun W' hW'=>by
         have:=zqs ⟨kd,nm,tx,ats,par,kids,xa,xc,ya,yc⟩ T.v W' ((HAR.out Y HKY.out).below hW') (by show ats.length<=1000;rw [HAN.out];exact hal);unfold nval at this;simp only [HAN.out,HKN.out] at this;exact this)
        have ngr:kr≠kg:=(zk hcsr HGr.out.blk (by decide)).1;have nnr:kr≠X.heap.size:=(zk hcsr HNY.out (by decide)).1;have nvr:kr≠X.heap.size+1:=(zk hcsr HVY.out (by decide)).1;have HJS:Hid (∀ W' (a0 a1 a2 a3 a4 a5 a6:Value),Below Y.heap.size Y W'->(((((((W'.setCell ⟨kr,i*7,none⟩ a0).setCell ⟨kr,i*7+1,none⟩ a1).setCell ⟨kr,i*7+2,none⟩ a2).setCell ⟨kr,i*7+3,none⟩ a3).setCell ⟨kr,i*7+4,none⟩ a4).setCell ⟨kr,i*7+5,none⟩ a5).setCell ⟨kr,i*7+6,none⟩ a6).cell? ⟨kg,3,none⟩=some (.slice (some ⟨kr,0,none⟩) L1.length cr)/\(((((((W'.setCell ⟨kr,i*7,none⟩ a0).setCell ⟨kr,i*7+1,none⟩ a1).setCell ⟨kr,i*7+2,none⟩ a2).setCell ⟨kr,i*7+3,none⟩ a3).setCell ⟨kr,i*7+4,none⟩ a4).setCell ⟨kr,i*7+5,none⟩ a5).setCell ⟨kr,i*7+6,none⟩ a6).cell? ⟨X.heap.size,0,none⟩=some (.int .i64 kd)/\(((((((W'.setCell ⟨kr,i*7,none⟩ a0).setCell ⟨kr,i*7+1,none⟩ a1).setCell ⟨kr,i*7+2,none⟩ a2).setCell ⟨kr,i*7+3,none⟩ a3).setCell ⟨kr,i*7+4,none⟩ a4).setCell ⟨kr,i*7+5,none⟩ a5).setCell ⟨kr,i*7+6,none⟩ a6).cell? ⟨X.heap.size,1,none⟩=some (.string nm)/\(((((((W'.setCell ⟨kr,i*7,none⟩ a0).setCell ⟨kr,i*7+1,none⟩ a1).setCell ⟨kr,i*7+2,none⟩ a2).setCell ⟨kr,i*7+3,none⟩ a3).setCell ⟨kr,i*7+4,none⟩ a4).setCell ⟨kr,i*7+5,none⟩ a5).setCell ⟨kr,i*7+6,none⟩ a6).cell? ⟨X.heap.size,2,none⟩=some (.string tx)/\(((((((W'.setCell ⟨kr,i*7,none⟩ a0).setCell ⟨kr,i*7+1,none⟩ a1).setCell ⟨kr,i*7+2,none⟩ a2).setCell ⟨kr,i*7+3,none⟩ a3).setCell ⟨kr,i*7+4,none⟩ a4).setCell ⟨kr,i*7+5,none⟩ a5).setCell ⟨kr,i*7+6,none⟩ a6).cell? ⟨X.heap.size,3,none⟩=some (.slice xa an xc)/\(((((((W'.setCell ⟨kr,i*7,none⟩ a0).setCell ⟨kr,i*7+1,none⟩ a1).setCell ⟨kr,i*7+2,none⟩ a2).setCell ⟨kr,i*7+3,none⟩ a3).setCell ⟨kr,i*7+4,none⟩ a4).setCell ⟨kr,i*7+5,none⟩ a5).setCell ⟨kr,i*7+6,none⟩ a6).cell? ⟨X.heap.size,4,none⟩=some (.int .i64 par)/\(((((((W'.setCell ⟨kr,i*7,none⟩ a0).setCell ⟨kr,i*7+1,none⟩ a1).setCell ⟨kr,i*7+2,none⟩ a2).setCell ⟨kr,i*7+3,none⟩ a3).setCell ⟨kr,i*7+4,none⟩ a4).setCell ⟨kr,i*7+5,none⟩ a5).setCell ⟨kr,i*7+6,none⟩ a6).cell? ⟨X.heap.size,5,none⟩=some (.slice ya j yc)/\(((((((W'.setCell ⟨kr,i*7,none⟩ a0).setCell ⟨kr,i*7+1,none⟩ a1).setCell ⟨kr,i*7+2,none⟩ a2).setCell ⟨kr,i*7+3,none⟩ a3).setCell ⟨kr,i*7+4,none⟩ a4).setCell ⟨kr,i*7+5,none⟩ a5).setCell ⟨kr,i*7+6,none⟩ a6).cell? ⟨X.heap.size+1,0,none⟩=some (.int .u64 T.v.root)/\(((((((W'.setCell ⟨kr,i*7,none⟩ a0).setCell ⟨kr,i*7+1,none⟩ a1).setCell ⟨kr,i*7+2,none⟩ a2).setCell ⟨kr,i*7+3,none⟩ a3).setCell ⟨kr,i*7+4,none⟩ a4).setCell ⟨kr,i*7+5,none⟩ a5).setCell ⟨kr,i*7+6,none⟩ a6).cell? ⟨X.heap.size+1,1,none⟩=some (.int .i64 T.v.size)):=Hq (fun W' a0 a1 a2 a3 a4 a5 a6 hW'=>by
         obtain ⟨e0,e1,e2,e3,e4,e5,e6,e7,e8⟩:=HJ.out W' hW';have q:∀ {k j:Nat},kr≠k->(((((((W'.setCell ⟨kr,i*7,none⟩ a0).setCell ⟨kr,i*7+1,none⟩ a1).setCell ⟨kr,i*7+2,none⟩ a2).setCell ⟨kr,i*7+3,none⟩ a3).setCell ⟨kr,i*7+4,none⟩ a4).setCell ⟨kr,i*7+5,none⟩ a5).setCell ⟨kr,i*7+6,none⟩ a6).cell? ⟨k,j,none⟩=W'.cell? ⟨k,j,none⟩:=fun {k j} hne=>zaf (zjt hne a0 a1 a2 a3 a4 a5 a6) j
         exact ⟨(q ngr).trans e0,(q nnr).trans e1,(q nnr).trans e2,(q nnr).trans e3,(q nnr).trans e4,(q nnr).trans e5,(q nnr).trans e6,(q nvr).trans e7,(q nvr).trans e8⟩)
        have HJ1:=Hq (HJ.out Y (Below.refl _ _));have HJ2:=Hq (HJ.out Y.drew (Below.refl _ _).drew);obtain ⟨x0,x1,x2,x3,x4,x5,x6,x7,x8⟩:=HJ1.out;have q0:(0:Int)<=(i:Int):=by omega
        have q1:(i:Int)<(L1.length:Int):=by omega
        clear hrow hcsr hL ngr nnr nvr hZs h2s hbZ
        go_region_held3 (fun W'=>W'.cell? ⟨kg,3,none⟩=some (.slice (some ⟨kr,0,none⟩) L1.length cr)/\W'.cell? ⟨X.heap.size,0,none⟩=some (.int .i64 kd)/\W'.cell? ⟨X.heap.size,1,none⟩=some (.string nm)/\W'.cell? ⟨X.heap.size,2,none⟩=some (.string tx)/\W'.cell? ⟨X.heap.size,3,none⟩=some (.slice xa an xc)/\W'.cell? ⟨X.heap.size,4,none⟩=some (.int .i64 par)/\W'.cell? ⟨X.heap.size,5,none⟩=some (.slice ya j yc)/\W'.cell? ⟨X.heap.size+1,0,none⟩=some (.int .u64 T.v.root)/\W'.cell? ⟨X.heap.size+1,1,none⟩=some (.int .i64 T.v.size))
         (first
           | with_reducible exact HJ4.out
           | with_reducible exact HJ3.out
           | with_reducible exact HJ1.out
           | with_reducible exact HJ2.out)
         (first
           | (go_at_call 21
              refine (V.zap hd _ HB64.out.1 HB64.out.2).mono ?_;rw [HIX.out];rintro e w' ⟨rfl,rfl⟩)
           | (go_at_call 72
              refine (HCR.out _ (Below.refl _ _).drew).mono ?_;rintro e w3 ⟨pA,cA,rfl,hoA,hbA⟩;have HB3:Hid (Below Y.heap.size Y w3):=Hq ((show Below Y.heap.size Y Y.drew from (Below.refl _ _).drew).trans (hbA.mono (Nat.le_refl _)));have HOA:Hid (w3.ownsRow Y.heap.size 9 1 (.slice pA (flatA ats).length cA) (flatA ats).length (bsv (flatA ats))):=Hq hoA;have HJ3:=Hq (HJ.out w3 HB3.out);have HJ4:=Hq (HJS.out w3 (.int .i64 kd) (.int .i64 par) (.string nm) (.string tx) (.slice pA (flatA ats).length cA) (.int .u64 T.v.root) (.int .i64 T.v.size) HB3.out);obtain ⟨v0,v1,v2,v3,v4,v5,v6,c0,c1,c2,c3,c4,c5,c6⟩:=HCE.out w3 HB3.out;have hk3:=(HB3.out.block _ (lt_of_block HKR.out)).trans HKR.out;have f0:=za hk3 (i*7);have f1:=za hk3 (i*7+1);have f2:=za hk3 (i*7+2);have f3:=za hk3 (i*7+3);have f4:=za hk3 (i*7+4);have f5:=za hk3 (i*7+5);have f6:=za hk3 (i*7+6);unfold rmc recP;simp only [];clear hk3 hoA hbA))
        go_wp2;go_ret2;refine ⟨rfl,?_,?_⟩
        · have hra:=(HGr.out.below HB3.out).record (y:=⟨recP ⟨kd,nm,tx,ats,par,kids,xa,xc,ya,yc⟩ T.v,pA,cA⟩) HL.out (zq HOA.out (by have:=HKY.out.be.size;omega));have hr':=HRr.out;subst hr';exact ⟨_,_,_,_,_,_,_,_,_,_,hra,HGR.out,HGC.out.1,fun k hk=>by have h1:=(HAV.out.g.lt k hk).1;have h2:=HKZ.out.be.size;omega,HGC.out.2.2⟩
        · have hk3:=(HB3.out.block _ (lt_of_block HKR.out)).trans HKR.out;exact (HKY.out.trans (KW.of_below HB3.out (by have:=HKY.out.be.size;omega) (by have:=HKY.out.be.size;omega))).record (by rw [HRr.out];rfl) hk3 (by have:=HBKr.out;omega) ⟨recP ⟨kd,nm,tx,ats,par,kids,xa,xc,ya,yc⟩ T.v,pA,cA⟩
def tkA:Option (Tm × Int × List Int)->Int
 | none=>0
 | some (_,hd,_)=>hd
def tkE:Option (Tm × Int × List Int)->Int
 | none=>2
 | some _=>0
theorem GivesTk.out {o:Option (Tm × Int × List Int)} {b0 b kg B:Nat} {r:Value} {rs cs:List Int} {X:World} {e:Ending} {X':World} (h:GivesTk o b0 b kg B r rs cs X e X'):e = .returned (.tuple #[.int .u64 (tkA o),.int .i64 (tkE o)])/\KW b0 B kg r X X'/\∀ u hd gn,o=some (u,hd,gn)->GB X' b kg B r u rs (cs++gn):=by
 match o,h with
 | none,h=>exact ⟨h.1,h.2,fun _ _ _ e=>by cases e⟩
 | some (u,hd,gn),h=>exact ⟨h.1,h.2.2,fun _ _ _ e=>by cases e;exact h.2.1⟩
theorem zlo {b0 B kg b s n:Nat} {r v:Value} {e:TypeId} {xs:List Value} {X Y:World} (h:KW b0 B kg r X Y) (ho:X.ownsRow b e s v n xs) (h1:e≠37) (h2:e≠70) (h3:e≠80):Y.ownsRow b e s v n xs:=by
 rcases ho.2 with hn|⟨g,cap,cur,rfl,hb,hg,h4,h5,h6⟩
 · exact ⟨ho.1,.inl hn⟩
 · exact ⟨ho.1,.inr ⟨g,cap,cur,rfl,hb,(h.ty g _ e h1 h2 h3 hg).trans hg,h4,h5,h6⟩⟩
theorem OF.kw {b0 B kg base:Nat} {r v:Value} {X Y:World} {F:List Mn} (h:OF X base v F) (hk:KW b0 B kg r X Y):OF Y base v F :=
 ⟨zlo hk h.row (by decide) (by decide) (by decide),h.fit,fun m hm=>⟨zlo hk (h.lst m hm).at_ (by decide) (by decide) (by decide),zlo hk (h.lst m hm).ki (by decide) (by decide) (by decide)⟩,h.apA,h.apK⟩
theorem FR.one {w:World} {A:Option Addr} {F:List Mn} {k:Nat} {m:Mn} (h:FR w A F) (hm:F[k]? = some m):∃ g off,A=some ⟨g,off,none⟩/\FR w (some ⟨g,off+k*6,none⟩) [m]:=by
 obtain ⟨h1,g,off,hA,hg,hc⟩:=h k m hm;refine ⟨g,off,hA,fun i x hx=>?_⟩;cases i with
 | zero =>
   cases hx;exact ⟨h1,g,off+k*6,rfl,hg,by rw [Nat.zero_mul,Nat.add_zero];exact hc⟩
 | succ i=>simp at hx
theorem zlp (m n:Mn):sameF [m] [n]=sameN2 m n:=by
 unfold sameF;simp [pairB,List.range,List.range.loop]
theorem zq0 (W:World):(sizeOf 90).run Tryz.prog W = .ok 6 W:=by
 obtain ⟨i,hi,hz0,hz1,hz2⟩:=info_parts zgr;rw [run_sizeOf W hi];exact congrArg (fun n=>Result.ok n W) (show Tryz.prog.cellsOf 90=6 by kernel_rfl)
theorem zea (g off n c k:Nat) (h:(k:Int)+1<=c) (W:World):Sem.run Tryz.prog (Instr.slice 61 (.slice (some ⟨g,off,none⟩) n c) (some (.int .i64 (k:Int))) (some (.int .i64 ((k:Int)+1))) none) W = .ok (.slice (some ⟨g,off+k*6,none⟩) 1 (c - k)) W:=by
 rw [run_slice_lh (P:=Tryz.prog) W 61 _ n c Tryz.underlying61 .i64 .i64 (k:Int) ((k:Int)+1) (by omega) (by omega) (by omega)];rw [show ((sizeOf (Tryz.prog.elem 61)).run Tryz.prog W) = .ok 6 W from zq0 W];have e1:((k:Int)+1).toNat - k=1:=by omega
 have e2:¬ c=k:=by omega
 simp only [Result.andThen,sliced,Int.toNat_natCast,e1,if_neg e2,Option.map_some];simp [add_plain]
structure GE (Y:World) (kw ki ko kp kg bF:Nat) (A:Option Addr) (c:Nat) (F:List Mn) (A':Option Addr) (c':Nat) (F':List Mn) (po:Option Addr) (co:Nat) (old:List Int):Prop where
 w:Y.heap[kw]? = some (.cells #[.slice A F.length c] 61 (0,0))
 i:Y.heap[ki]? = some (.cells #[.slice A' F'.length c'] 61 (0,0))
 o:Y.heap[ko]? = some (.cells #[.slice po old.length co] 26 (0,0))
 p:Y.heap[kp]? = some (.cells #[.pointer (some ⟨kg,0,none⟩)] 106 (0,0))
 fF:OF Y bF (.slice A F.length c) F
 fG:OF Y bF (.slice A' F'.length c') F'
 ro:Y.ownsRow bF 37 1 (.slice po old.length co) old.length (V.gvs old)
theorem GE.below {X Y:World} {kw ki ko kp kg bF:Nat} {A:Option Addr} {c:Nat} {F:List Mn} {A':Option Addr} {c':Nat} {F':List Mn} {po:Option Addr} {co:Nat} {old:List Int} (h:GE X kw ki ko kp kg bF A c F A' c' F' po co old) (hb:Below X.heap.size X Y):GE Y kw ki ko kp kg bF A c F A' c' F' po co old :=
 ⟨(hb.block _ (lt_of_block h.w)).trans h.w,(hb.block _ (lt_of_block h.i)).trans h.i,(hb.block _ (lt_of_block h.o)).trans h.o,(hb.block _ (lt_of_block h.p)).trans h.p,h.fF.below hb,h.fG.below hb,own_below h.ro hb⟩
theorem GE.kw {b0 B b:Nat} {r:Value} {t:Tm} {rs cs:List Int} {X Y:World} {kw ki ko kp kg bF:Nat} {A:Option Addr} {c:Nat} {F:List Mn} {A':Option Addr} {c':Nat} {F':List Mn} {po:Option Addr} {co:Nat} {old:List Int} (h:GE X kw ki ko kp kg bF A c F A' c' F' po co old) (hk:KW b0 B kg r X Y) (hG:GB X b kg B r t rs cs) (ho:∀ k,(Value.slice po old.length co).ownBlock=some k->k<B):GE Y kw ki ko kp kg bF A c F A' c' F' po co old:=by
 obtain ⟨g,u,f,pg,pu,pf,pc,gr,gc,L,hga,-⟩:=hG;exact ⟨(hk.ty _ _ _ (by decide) (by decide) (by decide) h.w).trans h.w,(hk.ty _ _ _ (by decide) (by decide) (by decide) h.i).trans h.i,(hk.ty _ _ _ (by decide) (by decide) (by decide) h.o).trans h.o,(hk.ty _ _ _ (by decide) (by decide) (by decide) h.p).trans h.p,h.fF.kw hk,h.fG.kw hk,hk.own h.ro ho hga.blk (by decide) (zp h.ro hga.ta.row (by decide))⟩
def GivesSt (o:Option Gs) (s:Gs) (b0 b kg B:Nat) (r:Value) (X:World) (e:Ending) (X':World):Prop :=
 match o with
 | none=>e = .returned (.tuple #[.int .u64 0,.int .i64 2])/\KW b0 B kg r X X'
 | some s'=>∃ h,e = .returned (.tuple #[.int .u64 h,.int .i64 0])/\s'.hs=s.hs++[h]/\GB X' b kg B r s'.t s'.rs s'.cs/\KW b0 B kg r X X'
theorem zox (Y:World) (b0 b kg B bF:Nat) (r:Value) (s:Gs) (kw ki ko kp:Nat) (A:Option Addr) (c:Nat) (F:List Mn) (A':Option Addr) (c':Nat) (F':List Mn) (po:Option Addr) (co:Nat) (old:List Int) (hE:GE Y kw ki ko kp kg bF A c F A' c' F' po co old) (hGB:GB Y b kg B r s.t s.rs s.cs) (hb0:b0<=b) (hb1:b0<=kg) (hb2:b0<=B) (hbB:b<=B) (hBY:B<=Y.heap.size) (k:Nat) (x y:Mn) (hx:F'[k]? = some x) (hy:F[k]? = some y) (hF:F.length<=200) (hF':F'.length<=200) (zF:Sz2 F) (zG:Sz2 F') (hol:old.length=F.length) (hs:sameN2 y x=true) :
 Calls Tryz.prog 37 #[.int .i64 k,.pointer (some ⟨kw,0,none⟩),.pointer (some ⟨ki,0,none⟩),.pointer (some ⟨ko,0,none⟩),.pointer (some ⟨kp,0,none⟩)] Y (GivesSt (stepG F old s k x) s b0 b kg B r Y):=by
 have hkF:k<F.length:=(List.getElem?_eq_some_iff.1 hy).1;have hkG:k<F'.length:=(List.getElem?_eq_some_iff.1 hx).1;have hst:stepG F old s k x=some ⟨s.t,s.hs++[old.getD k 0],s.rs,s.cs⟩:=by
  unfold stepG keepB;rw [hy];simp only [];rw [if_pos hs]
 rw [hst];obtain ⟨g,off,hA,h1⟩:=hE.fF.fr.one hy;obtain ⟨g',off',hA',h1'⟩:=hE.fG.fr.one hx;subst hA hA';obtain ⟨W,hW⟩:∃ W,W=Y.alloc (.cells #[.int .u64 0,.int .i64 0] 39):=⟨_,rfl⟩;have HBW:Hid (Below Y.heap.size Y W):=Hq (by rw [hW];exact Bq _ _);have HEW:=Hq (hE.below HBW.out);have zx:Sz2 [x]:=⟨by simp,fun m hm=>by rw [List.mem_singleton.1 hm];exact zG.kids x (List.mem_of_getElem? hx),fun m hm=>by rw [List.mem_singleton.1 hm];exact zG.attrs x (List.mem_of_getElem? hx),fun m hm=>by rw [List.mem_singleton.1 hm];exact zG.str x (List.mem_of_getElem? hx)⟩;have zy:Sz2 [y]:=⟨by simp,fun m hm=>by rw [List.mem_singleton.1 hm];exact zF.kids y (List.mem_of_getElem? hy),fun m hm=>by rw [List.mem_singleton.1 hm];exact zF.attrs y (List.mem_of_getElem? hy),fun m hm=>by rw [List.mem_singleton.1 hm];exact zF.str y (List.mem_of_getElem? hy)⟩;have HSM:Hid (∀ (V:World) (c1 c2:Nat),Below W.heap.size W V->Calls Tryz.prog 38 #[.slice (some ⟨g,off+k*6,none⟩) 1 c1,.slice (some ⟨g',off'+k*6,none⟩) 1 c2] V (GivesV (.bool true) V)):=Hq (fun V c1 c2 hb=>by
  have hb':Below Y.heap.size Y V:=HBW.out.trans (hb.mono HBW.out.size);have:=zkc (some ⟨g,off+k*6,none⟩) (some ⟨g',off'+k*6,none⟩) [y] [x] c1 c2 V (h1.below hb') (h1'.below hb') zy zx;rw [zlp,hs] at this;exact this)
 obtain ⟨pz,cz,hv1,hc1,hc2⟩:=zj hE.fF.row;cases hv1;obtain ⟨pz2,cz2,hv1,hc3,hc4⟩:=zj hE.fG.row;cases hv1;obtain ⟨gv,hgv,hcv1,hcv2⟩:=zfo rfl hE.ro;obtain ⟨hpo,hgv1,hgv2⟩:=hgv (by omega);have hold:=(HBW.out.cell (p:=⟨gv,k,none⟩) hgv1).trans (hgv2 k (by omega));have hwY:=lt_of_block hE.w;have hiY:=lt_of_block hE.i;have hoY:=lt_of_block hE.o;subst hpo;have HGB:=Hq hGB;have HWE:=Hq hW;obtain ⟨fl,hfl⟩:∃ z,F.length=z:=⟨_,rfl⟩;obtain ⟨gl,hgl⟩:∃ z,F'.length=z:=⟨_,rfl⟩;obtain ⟨ol,hol2⟩:∃ z,old.length=z:=⟨_,rfl⟩;obtain ⟨xo,hxo⟩:∃ z,old.getD k 0=z:=⟨_,rfl⟩;have HEW1:=Hq (And.intro HEW.out.w (And.intro HEW.out.i HEW.out.o));simp only [hfl,hgl,hol2] at hkF hkG hc1 hc2 hc3 hc4 hcv1 HEW1 hF hF' hol;rw [hxo] at hold ⊢;unfold maxLen at hc2 hc4 hcv2;have hgvW:gv<W.heap.size:=Nat.lt_of_lt_of_le hgv1 HBW.out.size;clear hW hE hGB h1 h1' zx zy zF zG hs hgv hgv1 hgv2 hfl hgl hol2 hxo hst hx hy HEW;have k0:(0:Int)<=(k:Int):=by omega
 have k1:(k:Int)<(fl:Int):=by omega
 have k2:(k:Int)<(gl:Int):=by omega
 have k3:(k:Int)<(ol:Int):=by omega
 have k4:(k:Int)+1<=(c:Int):=by omega
 have k5:(k:Int)+1<=(c':Int):=by omega
 have k6:IntKind.i64.wrap ((k:Int)+1)=(k:Int)+1:=by rw [IntKind.wrap_i64];omega
 have sl1:=zea g off fl c k k4;have sl2:=zea g' off' gl c' k k5;have x0:=block1 HEW1.out.1;have x1:=block1 HEW1.out.2.1;have x2:=block1 HEW1.out.2.2;have HJ:Hid (∀ V,Below W.heap.size W V->V.cell? ⟨kw,0,none⟩=some (.slice (some ⟨g,off,none⟩) fl c)/\V.cell? ⟨ki,0,none⟩=some (.slice (some ⟨g',off',none⟩) gl c')):=Hq (fun V hb=>⟨(hb.cell (p:=⟨kw,0,none⟩) (lt_of_block HEW1.out.1)).trans x0,(hb.cell (p:=⟨ki,0,none⟩) (lt_of_block HEW1.out.2.1)).trans x1⟩);go_enter Tryz.func37,Tryz.ntmps37;go_upto_region 2 with fail
 rw [<- HWE.out];go_upto_region 3 with fail
 have HJ1:=Hq (HJ.out W (Below.refl _ _));have HJ2:=Hq (HJ.out W.drew (Below.refl _ _).drew)
 go_region_held3 (fun V=>V.cell? ⟨kw,0,none⟩=some (.slice (some ⟨g,off,none⟩) fl c)/\V.cell? ⟨ki,0,none⟩=some (.slice (some ⟨g',off',none⟩) gl c'))
  (first
    | with_reducible exact HJ3.out
    | with_reducible exact HJ1.out
    | with_reducible exact HJ2.out)
  (first
    | (go_at_call 38
       refine (HSM.out _ _ _ (Below.refl _ _).drew).mono ?_;rintro e w3 ⟨rfl,hb3⟩;have HB3:Hid (Below W.heap.size W w3):=Hq ((show Below W.heap.size W W.drew from (Below.refl _ _).drew).trans (hb3.mono (Nat.le_refl _)));have HJ3:=Hq (HJ.out w3 HB3.out);clear hb3))
 have x2':=(HB3.out.cell (p:=⟨ko,0,none⟩) (lt_of_block HEW1.out.2.2)).trans x2;have hold':=(HB3.out.cell (p:=⟨gv,k,none⟩) hgvW).trans hold;clear x0 x1 x2 hold;go_wp2;go_ret2;have hYW:=HBW.out.size;have hb:Below Y.heap.size Y w3:=HBW.out.trans (HB3.out.mono hYW);exact ⟨xo,rfl,rfl,HGB.out.below hb,KW.of_below hb (by omega) hBY⟩
theorem zsr {F:List Mn} {old:List Int} {s:Gs} {k:Nat} {x:Mn} (hk:F.length<=k):stepG F old s k x=(s.t.taken x ⟨0,0⟩).map fun r=>⟨r.1,s.hs++[r.2.1],s.rs,s.cs++r.2.2⟩:=by
 have h1:keepB F k x=false:=by unfold keepB;rw [List.getElem?_eq_none hk]
 unfold stepG;rw [h1,if_neg (by simp),if_neg (by omega)];simp only [if_neg (show ¬ k<F.length by omega)]
theorem zq1 (Y:World) (b0 b kg B bF:Nat) (r:Value) (s:Gs) (kw ki ko kp:Nat) (A:Option Addr) (c:Nat) (F:List Mn) (A':Option Addr) (c':Nat) (F':List Mn) (po:Option Addr) (co:Nat) (old:List Int) (hE:GE Y kw ki ko kp kg bF A c F A' c' F' po co old) (hGB:GB Y b kg B r s.t s.rs s.cs) (hb0:b0<=b) (hb1:b0<=kg) (hb2:b0<=B) (hbB:b<=B) (hBY:B<=Y.heap.size) (k:Nat) (x:Mn) (hx:F'[k]? = some x) (hF:F.length<=k) (hF':F'.length<=200) (hkl:x.kids.length<=200) (hkb:∀ y∈x.kids,0<=y/\y<=9223372036854775807) (hal:x.attrs.length<=1000)
 (n m:Nat) (G:Int) (hT:TK n m G s.t) (hG:G<=1099511627775) (hm0:0<m) (hcl:s.cs.length<=900000) :
 Calls Tryz.prog 37 #[.int .i64 k,.pointer (some ⟨kw,0,none⟩),.pointer (some ⟨ki,0,none⟩),.pointer (some ⟨ko,0,none⟩),.pointer (some ⟨kp,0,none⟩)] Y (GivesSt (stepG F old s k x) s b0 b kg B r Y):=by
 have hkG:k<F'.length:=(List.getElem?_eq_some_iff.1 hx).1;rw [zsr hF];obtain ⟨-,g',off',hA',hg',hnd⟩:=hE.fG.fr k x hx;subst hA';obtain ⟨W,hW⟩:∃ W,W=Y.alloc (.cells #[.int .u64 0,.int .i64 0] 39):=⟨_,rfl⟩;have HBW:Hid (Below Y.heap.size Y W):=Hq (by rw [hW];exact Bq _ _);have HEW:=Hq (hE.below HBW.out);have HGW:=Hq (hGB.below HBW.out);have hYW:=HBW.out.size;obtain ⟨o,ho⟩:∃ o,s.t.taken x ⟨0,0⟩=o:=⟨_,rfl⟩;have HTK:Hid (∀ V,Below W.heap.size W V->Calls Tryz.prog 39 #[.pointer (some ⟨kg,0,none⟩),.agg #[.int .i64 x.kind,.string x.name,.string x.text,.slice x.aA x.attrs.length x.aC,.int .i64 x.parent,.slice x.kA x.kids.length x.kC],.agg #[.int .u64 0,.int .i64 0]] V (fun e X'=>e = .returned (.tuple #[.int .u64 (tkA o),.int .i64 (tkE o)])/\KW b0 B kg r V X'/\∀ u hd gn,o=some (u,hd,gn)->GB X' b kg B r u s.rs (s.cs++gn))):=Hq (fun V1 hV=>by
  have hE':=HEW.out.below hV;obtain ⟨-,g2,o2,-,-,hn2⟩:=hE'.fG.fr k x hx;have:=zju V1 b0 b kg B r s.t s.rs s.cs (HGW.out.below hV) hb0 hb1 hb2 hbB (by have:=hV.size;omega) x (fun Y' hk=>by
   obtain ⟨-,g3,o3,-,-,hn3⟩:=(hE'.fG.kw hk).fr k x hx;exact hn3.ar) hn2.ir hkl hkb hal ⟨0,0⟩ [] [] (V.WF.empty _) n m G hT hG hm0 hcl
  rw [ho] at this;exact this.mono (fun e X' h=>h.out))
 have HND:Hid (∀ V,KW b0 B kg r W V\/Below W.heap.size W V->V.cell? ⟨g',off'+k*6,none⟩=some (.int .i64 x.kind)/\V.cell? ⟨g',off'+k*6+1,none⟩=some (.string x.name)/\V.cell? ⟨g',off'+k*6+2,none⟩=some (.string x.text)/\V.cell? ⟨g',off'+k*6+3,none⟩=some (.slice x.aA x.attrs.length x.aC)/\V.cell? ⟨g',off'+k*6+4,none⟩=some (.int .i64 x.parent)/\V.cell? ⟨g',off'+k*6+5,none⟩=some (.slice x.kA x.kids.length x.kC)):=Hq (fun V hV=>by
  have hfr:FR V (some ⟨g',off',none⟩) F':=by
   rcases hV with hV|hV
   · exact (HEW.out.fG.kw hV).fr
   · exact (HEW.out.fG.below hV).fr
  obtain ⟨-,g3,o3,hA3,-,hn3⟩:=hfr k x hx;cases hA3;exact ⟨hn3.c0,hn3.c1,hn3.c2,hn3.c3,hn3.c4,hn3.c5⟩)
 have hk8:W.heap[Y.heap.size]? = some (.cells #[.int .u64 0,.int .i64 0] 39 (0,0)):=by rw [hW];exact hnew _ _
 have HJ:Hid (∀ V,KW b0 B kg r W V\/Below W.heap.size W V->V.cell? ⟨kp,0,none⟩=some (.pointer (some ⟨kg,0,none⟩))/\V.cell? ⟨ki,0,none⟩=some (.slice (some ⟨g',off',none⟩) F'.length c')/\(V.cell? ⟨g',off'+k*6,none⟩=some (.int .i64 x.kind)/\V.cell? ⟨g',off'+k*6+1,none⟩=some (.string x.name)/\V.cell? ⟨g',off'+k*6+2,none⟩=some (.string x.text)/\V.cell? ⟨g',off'+k*6+3,none⟩=some (.slice x.aA x.attrs.length x.aC)/\V.cell? ⟨g',off'+k*6+4,none⟩=some (.int .i64 x.parent)/\V.cell? ⟨g',off'+k*6+5,none⟩=some (.slice x.kA x.kids.length x.kC))/\V.cell? ⟨Y.heap.size,0,none⟩=some (.int .u64 0)/\V.cell? ⟨Y.heap.size,1,none⟩=some (.int .i64 0)):=Hq (fun V hV=>by
  have q:∀ {j:Nat} {cs:Array Value} {t:TypeId},t≠37->t≠70->t≠80->W.heap[j]? = some (.cells cs t (0,0))->V.heap[j]? = some (.cells cs t (0,0)):=fun {j cs t} h1 h2 h3 h4=>by
   rcases hV with hV|hV
   · exact (hV.ty _ _ _ h1 h2 h3 h4).trans h4
   · exact (hV.block _ (lt_of_block h4)).trans h4
  obtain ⟨e0,e1⟩:=block2 (q (by decide) (by decide) (by decide) hk8);exact ⟨block1 (q (by decide) (by decide) (by decide) HEW.out.p),block1 (q (by decide) (by decide) (by decide) HEW.out.i),HND.out V hV,e0,e1⟩)
 have HWE:=Hq hW;have HO:=Hq ho;have HEw:=Hq (block1 HEW.out.w);obtain ⟨fl,hfl⟩:∃ z,F.length=z:=⟨_,rfl⟩;obtain ⟨gl,hgl⟩:∃ z,F'.length=z:=⟨_,rfl⟩;simp only [hfl,hgl] at hkG hF hF' HJ HEw;clear hW hE hGB hfl hgl hx HND hk8 ho hnd HEW hT hkb;obtain ⟨kd,nm,tx,ats,par,kids,xa,xc,ya,yc⟩:=x;simp only [] at HTK HJ hkl hal HO ⊢;obtain ⟨an,han⟩:∃ z,ats.length=z:=⟨_,rfl⟩;obtain ⟨kn,hkn⟩:∃ z,kids.length=z:=⟨_,rfl⟩;simp only [han,hkn] at HTK HJ hkl hal;clear han hkn;have k0:(0:Int)<=(k:Int):=by omega
 have k1:¬ (k:Int)<(fl:Int):=by omega
 have k2:(k:Int)<(gl:Int):=by omega
 have x0:=HEw.out;go_enter Tryz.func37,Tryz.ntmps37;go_upto_region 2 with fail
 rw [<- HWE.out];go_upto_region 7 with fail
 clear x0;have HJ1:=Hq (HJ.out W (.inr (Below.refl _ _)));have HJ2:=Hq (HJ.out W.drew (.inr (Below.refl _ _).drew));obtain ⟨x0,x1,⟨y0,y1,y2,y3,y4,y5⟩,x2,x3⟩:=HJ1.out
 go_region_held3 (fun V=>V.cell? ⟨kp,0,none⟩=some (.pointer (some ⟨kg,0,none⟩))/\V.cell? ⟨ki,0,none⟩=some (.slice (some ⟨g',off',none⟩) gl c')/\(V.cell? ⟨g',off'+k*6,none⟩=some (.int .i64 kd)/\V.cell? ⟨g',off'+k*6+1,none⟩=some (.string nm)/\V.cell? ⟨g',off'+k*6+2,none⟩=some (.string tx)/\V.cell? ⟨g',off'+k*6+3,none⟩=some (.slice xa an xc)/\V.cell? ⟨g',off'+k*6+4,none⟩=some (.int .i64 par)/\V.cell? ⟨g',off'+k*6+5,none⟩=some (.slice ya kn yc))/\V.cell? ⟨Y.heap.size,0,none⟩=some (.int .u64 0)/\V.cell? ⟨Y.heap.size,1,none⟩=some (.int .i64 0))
  (first
    | with_reducible exact HJ3.out
    | with_reducible exact HJ1.out
    | with_reducible exact HJ2.out)
  (first
    | (go_at_call 39
       refine (HTK.out _ (Below.refl _ _).drew).mono ?_;rintro e w3 ⟨rfl,hk3,hg3⟩;have HK3:Hid (KW b0 B kg r W w3):=Hq ((KW.of_below (show Below W.heap.size W W.drew from (Below.refl _ _).drew) (by omega) (by omega)).trans hk3);have HG3:=Hq hg3;have HJ3:=Hq (HJ.out w3 (.inl HK3.out));clear hk3 hg3))
 go_wp2;go_ret2;have hkw:KW b0 B kg r Y w3:=(KW.of_below HBW.out (by omega) hBY).trans HK3.out;rw [HO.out]
 rcases o with _|⟨u,hd,gn⟩
 · exact ⟨rfl,hkw⟩
 · exact ⟨hd,rfl,rfl,HG3.out u hd gn rfl,hkw⟩
theorem zq2 {F:List Mn} {old:List Int} {s:Gs} {k:Nat} {x y:Mn} (hy:F[k]? = some y) (hs:sameN2 y x=false):stepG F old s k x=(s.t.taken x (s.t.rc (old.getD k 0)).kids).map fun r=>⟨r.1,s.hs++[r.2.1],s.rs++[old.getD k 0],s.cs++r.2.2⟩:=by
 have hk:k<F.length:=(List.getElem?_eq_some_iff.1 hy).1;have h1:keepB F k x=false:=by unfold keepB;rw [hy];exact hs
 unfold stepG;rw [h1,if_neg (by simp),if_pos hk];simp only [if_pos hk]
theorem zoy (Y:World) (b0 b kg B bF:Nat) (r:Value) (s:Gs) (kw ki ko kp:Nat) (A:Option Addr) (c:Nat) (F:List Mn) (A':Option Addr) (c':Nat) (F':List Mn) (po:Option Addr) (co:Nat) (old:List Int) (hE:GE Y kw ki ko kp kg bF A c F A' c' F' po co old) (hGB:GB Y b kg B r s.t s.rs s.cs) (hb0:b0<=b) (hb1:b0<=kg) (hb2:b0<=B) (hbB:b<=B) (hBY:B<=Y.heap.size) (hoB:∀ j,(Value.slice po old.length co).ownBlock=some j->j<B) (k:Nat) (x y:Mn) (hx:F'[k]? = some x) (hy:F[k]? = some y) (hF:F.length<=200) (hF':F'.length<=200) (zF:Sz2 F) (zG:Sz2 F') (hol:old.length=F.length) (hs:sameN2 y x=false)
 (hkl:x.kids.length<=200) (hkb:∀ y∈x.kids,0<=y/\y<=9223372036854775807) (hal:x.attrs.length<=1000) (n m:Nat) (G:Int) (hT:TK n m G s.t) (hG:G<=1099511627775) (hm0:0<m) (hcl:s.cs.length<=900000) (hrl:s.rs.length<=100000)
 (hlv:s.t.st.lv (old.getD k 0)=true) (h64:V.B64 (old.getD k 0)) (okids:List Int) (rw0:List (List Int)) (hwf:V.WF s.t.pl (s.t.rc (old.getD k 0)).kids okids rw0) :
 Calls Tryz.prog 37 #[.int .i64 k,.pointer (some ⟨kw,0,none⟩),.pointer (some ⟨ki,0,none⟩),.pointer (some ⟨ko,0,none⟩),.pointer (some ⟨kp,0,none⟩)] Y (GivesSt (stepG F old s k x) s b0 b kg B r Y):=by
 have hkF:k<F.length:=(List.getElem?_eq_some_iff.1 hy).1;have hkG:k<F'.length:=(List.getElem?_eq_some_iff.1 hx).1;rw [zq2 hy hs];obtain ⟨g,off,hA,h1⟩:=hE.fF.fr.one hy;obtain ⟨g',off',hA',h1'⟩:=hE.fG.fr.one hx;subst hA hA';obtain ⟨W,hW⟩:∃ W,W=Y.alloc (.cells #[.int .u64 0,.int .i64 0] 39):=⟨_,rfl⟩;have HBW:Hid (Below Y.heap.size Y W):=Hq (by rw [hW];exact Bq _ _);have HWS:Hid (W.heap.size=Y.heap.size+1):=Hq (by rw [hW];simp);have HEW:=Hq (hE.below HBW.out);have HGW:=Hq (hGB.below HBW.out);have hYW:=HBW.out.size;have hk8:W.heap[Y.heap.size]? = some (.cells #[.int .u64 0,.int .i64 0] 39 (0,0)):=by rw [hW];exact hnew _ _
 have HK8:=Hq hk8;have zx:Sz2 [x]:=⟨by simp,fun m hm=>by rw [List.mem_singleton.1 hm];exact zG.kids x (List.mem_of_getElem? hx),fun m hm=>by rw [List.mem_singleton.1 hm];exact zG.attrs x (List.mem_of_getElem? hx),fun m hm=>by rw [List.mem_singleton.1 hm];exact zG.str x (List.mem_of_getElem? hx)⟩;have zy:Sz2 [y]:=⟨by simp,fun m hm=>by rw [List.mem_singleton.1 hm];exact zF.kids y (List.mem_of_getElem? hy),fun m hm=>by rw [List.mem_singleton.1 hm];exact zF.attrs y (List.mem_of_getElem? hy),fun m hm=>by rw [List.mem_singleton.1 hm];exact zF.str y (List.mem_of_getElem? hy)⟩;have HSM:Hid (∀ (V:World) (c1 c2:Nat),Below W.heap.size W V->Calls Tryz.prog 38 #[.slice (some ⟨g,off+k*6,none⟩) 1 c1,.slice (some ⟨g',off'+k*6,none⟩) 1 c2] V (GivesV (.bool false) V)):=Hq (fun V c1 c2 hb=>by
  have hb':Below Y.heap.size Y V:=HBW.out.trans (hb.mono HBW.out.size);have:=zkc (some ⟨g,off+k*6,none⟩) (some ⟨g',off'+k*6,none⟩) [y] [x] c1 c2 V (h1.below hb') (h1'.below hb') zy zx;rw [zlp,hs] at this;exact this)
 obtain ⟨pz,cz,hv1,hc1,hc2⟩:=zj hE.fF.row;cases hv1;obtain ⟨pz2,cz2,hv1,hc3,hc4⟩:=zj hE.fG.row;cases hv1;obtain ⟨gv,hgv,hcv1,hcv2⟩:=zfo rfl hE.ro;obtain ⟨hpo,hgv1,hgv2⟩:=hgv (by omega);have hold:=hgv2 k (by omega);have hwY:=lt_of_block hE.w;have hiY:=lt_of_block hE.i;have hoY:=lt_of_block hE.o;have hpY:=lt_of_block hE.p;subst hpo;have hgvB:gv<B:=hoB gv rfl;obtain ⟨xo,hxo⟩:∃ z,old.getD k 0=z:=⟨_,rfl⟩;rw [hxo] at hold hlv h64 hwf ⊢;obtain ⟨q,hq,hqn,-,-⟩:=hT.ok.live hlv;obtain ⟨kv,hkv⟩:∃ v,(s.t.rc xo).kids=v:=⟨_,rfl⟩;rw [hkv] at hwf ⊢;obtain ⟨o,ho⟩:∃ o,s.t.taken x kv=o:=⟨_,rfl⟩;have HTK:Hid (∀ Vz,KW b0 B kg r Y Vz->GB Vz b kg B r s.t (s.rs++[xo]) s.cs->Calls Tryz.prog 39 #[.pointer (some ⟨kg,0,none⟩),.agg #[.int .i64 x.kind,.string x.name,.string x.text,.slice x.aA x.attrs.length x.aC,.int .i64 x.parent,.slice x.kA x.kids.length x.kC],.agg #[.int .u64 kv.root,.int .i64 kv.size]] Vz (fun e X'=>e = .returned (.tuple #[.int .u64 (tkA o),.int .i64 (tkE o)])/\KW b0 B kg r Vz X'/\∀ u hd gn,o=some (u,hd,gn)->GB X' b kg B r u (s.rs++[xo]) (s.cs++gn))):=Hq (fun Vz hV hgb=>by
  have hE':=hE.fG.kw hV;obtain ⟨-,g2,o2,-,-,hn2⟩:=hE'.fr k x hx;have:=zju Vz b0 b kg B r s.t (s.rs++[xo]) s.cs hgb hb0 hb1 hb2 hbB (by have:=hV.be.size;omega) x (fun Y' hk=>by
   obtain ⟨-,g3,o3,-,-,hn3⟩:=(hE'.kw hk).fr k x hx;exact hn3.ar) hn2.ir hkl hkb hal kv okids rw0 hwf n m G hT hG hm0 hcl
  rw [ho] at this;exact this.mono (fun e X' h=>h.out))
 have HND:Hid (∀ Vz,KW b0 B kg r Y Vz->Vz.cell? ⟨g',off'+k*6,none⟩=some (.int .i64 x.kind)/\Vz.cell? ⟨g',off'+k*6+1,none⟩=some (.string x.name)/\Vz.cell? ⟨g',off'+k*6+2,none⟩=some (.string x.text)/\Vz.cell? ⟨g',off'+k*6+3,none⟩=some (.slice x.aA x.attrs.length x.aC)/\Vz.cell? ⟨g',off'+k*6+4,none⟩=some (.int .i64 x.parent)/\Vz.cell? ⟨g',off'+k*6+5,none⟩=some (.slice x.kA x.kids.length x.kC)):=Hq (fun Vz hV=>by
  have hfr:FR Vz (some ⟨g',off',none⟩) F':=(hE.fG.kw hV).fr;obtain ⟨-,g3,o3,hA3,-,hn3⟩:=hfr k x hx;cases hA3;exact ⟨hn3.c0,hn3.c1,hn3.c2,hn3.c3,hn3.c4,hn3.c5⟩)
 have HSG:Hid (∀ V,KW b0 B kg r Y V->V.cell? ⟨kp,0,none⟩=some (.pointer (some ⟨kg,0,none⟩))/\V.cell? ⟨ko,0,none⟩=some (.slice (some ⟨gv,0,none⟩) old.length co)/\V.cell? ⟨gv,k,none⟩=some (.int .u64 xo)):=Hq (fun V hk=>by
  obtain ⟨ga,ua,fa,pga,pua,pfa,pca,gra,gca,La,hgaY,-⟩:=hGB;have h2:=hk.own hE.ro hoB hgaY.blk (by decide) (zp hE.ro hgaY.ta.row (by decide));obtain ⟨gv2,hgv2',-⟩:=zfo rfl h2;obtain ⟨e1,-,e2⟩:=hgv2' (by omega);cases e1;have e3:=e2 k (by omega);rw [hxo] at e3;exact ⟨block1 ((hk.ty _ _ _ (by decide) (by decide) (by decide) hE.p).trans hE.p),block1 ((hk.ty _ _ _ (by decide) (by decide) (by decide) hE.o).trans hE.o),e3⟩)
 have HSI:Hid (∀ V,KW b0 B kg r Y V->V.cell? ⟨ki,0,none⟩=some (.slice (some ⟨g',off',none⟩) F'.length c')):=Hq (fun V hk=>block1 ((hk.ty _ _ _ (by decide) (by decide) (by decide) hE.i).trans hE.i));have HWE:=Hq hW;have HEW1:=Hq (And.intro HEW.out.w (And.intro HEW.out.i (And.intro HEW.out.o HEW.out.p)));have HOLD:Hid (W.cell? ⟨gv,k,none⟩=some (.int .u64 xo)):=Hq ((HBW.out.cell (p:=⟨gv,k,none⟩) hgv1).trans hold);have HROW:Hid (W.ownsRow bF 37 1 (.slice (some ⟨gv,0,none⟩) old.length co) old.length (V.gvs old)):=Hq HEW.out.ro;have HTT:=Hq hT;have HQ:Hid (xo % 16777216=(q:Int)):=Hq (by omega);have HQN:=Hq hqn;have H64:=Hq h64;have HKV:=Hq hkv;have HO:=Hq ho;obtain ⟨fl,hfl⟩:∃ z,F.length=z:=⟨_,rfl⟩;obtain ⟨gl,hgl⟩:∃ z,F'.length=z:=⟨_,rfl⟩;obtain ⟨ol,hol2⟩:∃ z,old.length=z:=⟨_,rfl⟩;simp only [hfl,hgl,hol2] at HSG HSI hkF hkG hc1 hc2 hc3 hc4 hcv1 HEW1 hF hF' hol HROW;unfold maxLen at hc2 hc4 hcv2;have hgvW:gv<W.heap.size:=Nat.lt_of_lt_of_le hgv1 HBW.out.size;clear hW hE hGB h1 h1' zx zy zF zG hs hgv hgv1 hgv2 hfl hgl hol2 hxo hx hy HEW hT hkb hlv h64 hwf hq hqn hkv ho hold hk8 hoB;obtain ⟨kd,nm,tx,ats,par,kids,xa,xc,ya,yc⟩:=x;obtain ⟨rt,sz⟩:=kv;simp only [] at HTK HND hkl hal HO HKV ⊢;obtain ⟨an,han⟩:∃ z,ats.length=z:=⟨_,rfl⟩;obtain ⟨kn,hkn⟩:∃ z,kids.length=z:=⟨_,rfl⟩;simp only [han,hkn] at HTK HND hkl hal;clear han hkn;have k0:(0:Int)<=(k:Int):=by omega
 have k1:(k:Int)<(fl:Int):=by omega
 have k2:(k:Int)<(gl:Int):=by omega
 have k3:(k:Int)<(ol:Int):=by omega
 have k4:(k:Int)+1<=(c:Int):=by omega
 have k5:(k:Int)+1<=(c':Int):=by omega
 have k6:IntKind.i64.wrap ((k:Int)+1)=(k:Int)+1:=by rw [IntKind.wrap_i64];omega
 have sl1:=zea g off fl c k k4;have sl2:=zea g' off' gl c' k k5;have x0:=block1 HEW1.out.1;have x1:=block1 HEW1.out.2.1;have HJ:Hid (∀ V,Below W.heap.size W V->V.cell? ⟨kw,0,none⟩=some (.slice (some ⟨g,off,none⟩) fl c)/\V.cell? ⟨ki,0,none⟩=some (.slice (some ⟨g',off',none⟩) gl c')):=Hq (fun V hb=>⟨(hb.cell (p:=⟨kw,0,none⟩) (lt_of_block HEW1.out.1)).trans x0,(hb.cell (p:=⟨ki,0,none⟩) (lt_of_block HEW1.out.2.1)).trans x1⟩);obtain ⟨i0,hI1,hI2,hI3,hI4⟩:=info_parts V.za4;have HI:=Hq (And.intro hI1 (And.intro hI2 (And.intro hI3 hI4)));clear hI1 hI2 hI3 hI4;go_enter Tryz.func37,Tryz.ntmps37;go_upto_region 2 with fail
 rw [<- HWE.out];go_upto_region 3 with fail
 have HJ1:=Hq (HJ.out W (Below.refl _ _));have HJ2:=Hq (HJ.out W.drew (Below.refl _ _).drew)
 go_region_held3 (fun V=>V.cell? ⟨kw,0,none⟩=some (.slice (some ⟨g,off,none⟩) fl c)/\V.cell? ⟨ki,0,none⟩=some (.slice (some ⟨g',off',none⟩) gl c'))
  (first
    | with_reducible exact HJ3.out
    | with_reducible exact HJ1.out
    | with_reducible exact HJ2.out)
  (first
    | (go_at_call 38
       refine (HSM.out _ _ _ (Below.refl _ _).drew).mono ?_;rintro e w3 ⟨rfl,hb3⟩;have HB3:Hid (Below W.heap.size W w3):=Hq ((show Below W.heap.size W W.drew from (Below.refl _ _).drew).trans (hb3.mono (Nat.le_refl _)));have HJ3:=Hq (HJ.out w3 HB3.out);clear hb3))
 clear x0 x1 sl1 sl2 HJ1 HJ2 HJ3 HJ HSM;go_upto_region 5 with fail
 have HG3:=Hq (HGW.out.below HB3.out);obtain ⟨g1,u1,f1,pg1,pu1,pf1,pc1,gr1,gc1,L1,hga,hgr,hgc⟩:=HG3.out;obtain ⟨pr,cr1,rfl,-,-⟩:=zj hga.rr;have hqL:q<L1.length:=by
  have e1:=congrArg List.length hga.ta.like;rw [List.length_map] at e1;have e2:=HTT.out.len;have e3:=HQN.out;omega
 obtain ⟨ar,cr,hrv,hr1,hr2⟩:=zj hga.ta.row;have hrow:=hga.ta.row;rw [hrv] at hrow;obtain ⟨kr,hkr,hkr1,hkr2⟩:=V.zab hrow (by omega);subst hkr;have hga':GA w3 b kg g1 u1 f1 (.slice (some ⟨kr,0,none⟩) L1.length cr) pg1 pu1 pf1 pc1 (.slice pr s.rs.length cr1) gc1 L1 s.t s.rs s.cs:=by rw [<- hrv];exact hga
 have hLk:L1[q].k.kids=⟨rt,sz⟩:=by
  rw [<- HKV.out,Tm.rc];have e:V.ix xo=q:=by unfold V.ix;rw [HQ.out];simp
  rw [e,hga.ta.rc hqL]
 have e5:L1[q].k.kids.root=rt:=by rw [hLk]
 have e6:L1[q].k.kids.size=sz:=by rw [hLk]
 have HC5:Hid (∀ V,Below w3.heap.size w3 V->V.cell? ⟨kr,q*7+5,none⟩=some (.int .u64 rt)/\V.cell? ⟨kr,q*7+6,none⟩=some (.int .i64 sz)):=Hq (fun V hb=>by
  obtain ⟨-,-,-,-,-,c5,c6⟩:=(hga'.ta.below hb).cells hqL;rw [e5] at c5;rw [e6] at c6;exact ⟨c5,c6⟩)
 have hkr3:kr<Y.heap.size:=by
  obtain ⟨ga,ua,fa,pga,pua,pfa,pca,gra,gca,La,hgaY,-⟩:=HGW.out;have h2:=hgaY.ta.row;rw [hrv] at h2;have h3:=(h2.lt kr rfl).2;rw [HWS.out] at h3
  rcases Nat.lt_or_ge kr Y.heap.size with h4|h4
  · exact h4
  · have h5:kr=Y.heap.size:=by omega
    rcases h2.2 with ⟨hn,-⟩|⟨g9,cap9,cur9,hv9,-,hg9,-⟩
    · cases hn
    · have e9:=congrArg Value.ownBlock hv9;simp [Value.ownBlock] at e9;subst e9;rw [h5,HK8.out] at hg9;cases hg9
 have hkgY:kg<Y.heap.size:=by
  obtain ⟨ga,ua,fa,pga,pua,pfa,pca,gra,gca,La,hgaY,-⟩:=HGW.out;have h3:=lt_of_block hgaY.blk;rw [HWS.out] at h3
  rcases Nat.lt_or_ge kg Y.heap.size with h4|h4
  · exact h4
  · have h5:kg=Y.heap.size:=by omega
    have h6:=hgaY.blk;rw [h5,HK8.out] at h6;cases h6
 have HYw:Hid (Below Y.heap.size Y w3):=Hq (HBW.out.trans (HB3.out.mono hYW));have h3s:=HB3.out.size;have HJ5:Hid (∀ V,Below Y.heap.size w3 V->V.cell? ⟨kp,0,none⟩=some (.pointer (some ⟨kg,0,none⟩))/\V.cell? ⟨kg,3,none⟩=some (.slice (some ⟨kr,0,none⟩) L1.length cr)/\V.cell? ⟨ko,0,none⟩=some (.slice (some ⟨gv,0,none⟩) ol co)/\V.cell? ⟨gv,k,none⟩=some (.int .u64 xo)/\V.cell? ⟨kr,q*7+5,none⟩=some (.int .u64 rt)/\V.cell? ⟨kr,q*7+6,none⟩=some (.int .i64 sz)):=Hq (fun V hb=>by
  have w1:∀ {j d:Nat} {v:Value},j<Y.heap.size->w3.cell? ⟨j,d,none⟩=some v->V.cell? ⟨j,d,none⟩=some v:=fun {j d v} hj h=>(hb.cell (p:=⟨j,d,none⟩) hj).trans h
  obtain ⟨c5,c6⟩:=HC5.out w3 (Below.refl _ _);have b1:=block1 ((HB3.out.block _ (lt_of_block HEW1.out.2.2.2)).trans HEW1.out.2.2.2);have b2:=block1 ((HB3.out.block _ (lt_of_block HEW1.out.2.2.1)).trans HEW1.out.2.2.1);exact ⟨w1 hpY b1,w1 hkgY (zfr hga').2.2.2,w1 hoY b2,w1 (by omega) ((HB3.out.cell (p:=⟨gv,k,none⟩) hgvW).trans HOLD.out),w1 hkr3 c5,w1 hkr3 c6⟩)
 have HGA':=Hq hga';have HGR:=Hq hgr;have HGC:=Hq hgc;have HRV:=Hq hrv;have q0:(0:Int)<=(q:Int):=by omega
 have q1:(q:Int)<(L1.length:Int):=by omega
 have hk83:=(HB3.out.block _ (lt_of_block HK8.out)).trans HK8.out;obtain ⟨m0,m1⟩:=block2 hk83;have mf0:=za hk83 0;have mf1:=za hk83 1;have HK83:=Hq hk83;clear hga hgr hgc hqL hrv hrow hr1 hr2 hkr1 hkr2 hga' hLk e5 e6 hk83 HG3;have HJ1:=Hq (HJ5.out w3 (Below.refl _ _));have HJ2:=Hq (HJ5.out w3.drew (Below.refl _ _).drew);have HJ3:=Hq (HJ5.out ((w3.setCell ⟨Y.heap.size,0,none⟩ (.int .u64 rt)).setCell ⟨Y.heap.size,1,none⟩ (.int .i64 sz)).drew ((((Below.refl Y.heap.size w3).setCell (p:=⟨Y.heap.size,0,none⟩) (Nat.le_refl _) _).setCell (p:=⟨Y.heap.size,1,none⟩) (Nat.le_refl _) _).drew));obtain ⟨x0,x1,x2,x3,x4,x5⟩:=HJ1.out
 go_region_held3 (fun V=>V.cell? ⟨kp,0,none⟩=some (.pointer (some ⟨kg,0,none⟩))/\V.cell? ⟨kg,3,none⟩=some (.slice (some ⟨kr,0,none⟩) L1.length cr)/\V.cell? ⟨ko,0,none⟩=some (.slice (some ⟨gv,0,none⟩) ol co)/\V.cell? ⟨gv,k,none⟩=some (.int .u64 xo)/\V.cell? ⟨kr,q*7+5,none⟩=some (.int .u64 rt)/\V.cell? ⟨kr,q*7+6,none⟩=some (.int .i64 sz))
  (first
    | with_reducible exact HJ3.out
    | with_reducible exact HJ1.out
    | with_reducible exact HJ2.out)
  (first
    | (go_at_call 21
       refine (V.zap xo _ H64.out.1 H64.out.2).mono ?_;rw [HQ.out];rintro e w' ⟨rfl,rfl⟩))
 obtain ⟨w5,hw5⟩:∃ w5,w5=((w3.setCell ⟨Y.heap.size,0,none⟩ (.int .u64 rt)).setCell ⟨Y.heap.size,1,none⟩ (.int .i64 sz)).drew:=⟨_,rfl⟩;rw [<- hw5];have HK5:Hid (KW b0 B kg r Y w5):=Hq (by
  rw [hw5];have h1:=((KW.of_below (b0:=b0) (B:=B) (kg:=kg) (r:=r) HYw.out (by omega) hBY).setN (Nat.le_refl _) (by omega) hBY 0 (.int .u64 rt)).setN (Nat.le_refl _) (by omega) hBY 1 (.int .i64 sz);exact h1.trans (KW.of_below (Below.refl _ _).drew (by have:=h1.be.size;omega) (by have:=h1.be.size;omega)))
 have HV5:Hid (w5.heap[Y.heap.size]? = some (.cells #[.int .u64 rt,.int .i64 sz] 39 (0,0))):=Hq (by rw [hw5];exact za1 HK83.out _ _);have HG5:Hid (GA w5 b kg g1 u1 f1 (.slice (some ⟨kr,0,none⟩) L1.length cr) pg1 pu1 pf1 pc1 (.slice pr s.rs.length cr1) gc1 L1 s.t s.rs s.cs):=Hq (by
  rw [hw5];exact ((HGA'.out.setV HK83.out (by decide) (by decide) (by decide) (by decide) (by decide) (by decide) (by decide) 0 _).setV (zb HK83.out 0 (.int .u64 rt)) (by decide) (by decide) (by decide) (by decide) (by decide) (by decide) (by decide) 1 _).below (Below.refl _ _).drew)
 clear x0 x1 x2 x3 x4 x5 m0 m1 mf0 mf1 hw5 HJ1 HJ2 HJ3 HJ5 HC5;go_upto_region 6 with fail
 obtain ⟨rn,hrn⟩:∃ z,s.rs.length=z:=⟨_,rfl⟩;rw [hrn] at hrl;have h5s:=HK5.out.be.size;have hKD:KW b0 B kg r Y w5.drew:=HK5.out.trans (KW.of_below (Below.refl _ _).drew (by omega) (by omega));have hbDE:Below w5.heap.size w5 (w5.drew.alloc (.cells #[.int .u64 xo] 37)):=((Below.refl _ w5).drew).alloc (Nat.le_refl _) _;have hKE:KW b0 B kg r Y (w5.drew.alloc (.cells #[.int .u64 xo] 37)):=HK5.out.trans (KW.of_below hbDE (by omega) (by omega));have HS6D:=Hq (HSG.out _ hKD);have HS6E:=Hq (HSG.out _ hKE);have hGE:=HG5.out.below hbDE;have HRE:Hid ((w5.drew.alloc (.cells #[.int .u64 xo] 37)).ownsRow b 37 1 (.slice pr rn cr1) rn (V.gvs s.rs)):=Hq (by rw [<- hrn];exact hGE.rr);have HKS:Hid (b<=(w5.drew.alloc (.cells #[.int .u64 xo] 37)).heap.size):=Hq (by show b<=_;simp;omega);have hblk5:=HG5.out.blk;have c8:w5.drew.cell? ⟨kg,8,none⟩=some (.slice pr rn cr1):=by rw [<- hrn];show w5.cell? _=_;simp [World.cell?,hblk5]
 have c8a:=fun o:Obj=>Lib.cell?_alloc_some o c8
 have HFIN:Hid (∀ V6 p6 c6,(w5.drew.alloc (.cells #[.int .u64 xo] 37)).grownBy V6 (Value.slice pr rn cr1).ownBlock->V6.ownsRow b 37 1 (.slice p6 (rn+1) c6) (rn+1) (V.gvs s.rs++[.int .u64 xo])->((Value.slice p6 (rn+1) c6).ownBlock=(Value.slice pr rn cr1).ownBlock\/(Value.slice p6 (rn+1) c6).ownBlock=some (w5.drew.alloc (.cells #[.int .u64 xo] 37)).heap.size) ->
  V6.cell? ⟨kg,8,none⟩=some (.slice pr rn cr1)/\V6.frozen? ⟨kg,8,none⟩=false/\(V6.cell? ⟨kp,0,none⟩=some (.pointer (some ⟨kg,0,none⟩))/\V6.cell? ⟨ko,0,none⟩=some (.slice (some ⟨gv,0,none⟩) ol co)/\V6.cell? ⟨gv,k,none⟩=some (.int .u64 xo))/\((V6.setCell ⟨kg,8,none⟩ (.slice p6 (rn+1) c6)).cell? ⟨kp,0,none⟩=some (.pointer (some ⟨kg,0,none⟩))/\(V6.setCell ⟨kg,8,none⟩ (.slice p6 (rn+1) c6)).cell? ⟨ko,0,none⟩=some (.slice (some ⟨gv,0,none⟩) ol co)/\(V6.setCell ⟨kg,8,none⟩ (.slice p6 (rn+1) c6)).cell? ⟨gv,k,none⟩=some (.int .u64 xo)) /\
  (KW b0 B kg r Y (V6.setCell ⟨kg,8,none⟩ (.slice p6 (rn+1) c6))/\GB (V6.setCell ⟨kg,8,none⟩ (.slice p6 (rn+1) c6)) b kg B r s.t (s.rs++[xo]) s.cs/\(V6.setCell ⟨kg,8,none⟩ (.slice p6 (rn+1) c6)).heap[Y.heap.size]? = some (.cells #[.int .u64 rt,.int .i64 sz] 39 (0,0)))):=Hq (fun V6 p6 c6 hg ho hv=>by
  subst hrn;have hk6:=zc5 hGE.rr hg hGE.blk;have hlo:∀ j,(Value.slice pr s.rs.length cr1).ownBlock=some j->B<=j:=HGR.out;have hEs:(w5.drew.alloc (.cells #[.int .u64 xo] 37)).heap.size=w5.heap.size+1:=by simp
  have hK6:KW b0 B kg r Y V6:=hKE.grown hGE.rr hg hlo hb2 (by omega);have hKZ:=hK6.set hb1 hk6 8 (.slice p6 (s.rs.length+1) c6);refine ⟨by simp [World.cell?,hk6],za hk6 8,HSG.out _ hK6,HSG.out _ hKZ,hKZ,?_,?_⟩;rotate_left
  · have e1:=(hbDE.block _ (lt_of_block HV5.out)).trans HV5.out;have e2:=(hg.block _ (lt_of_block e1) (fun e=>zi hGE.rr e1 (by decide) e.symm)).trans e1;exact so e2 (zk e2 hk6 (by decide)).2
  have hrec:=hGE.recs hg (rs':=s.rs++[xo]) (by rw [List.length_append,V.gvs,List.map_append];exact ho) hv;rw [HRV.out];refine ⟨_,_,_,_,_,_,_,_,_,L1,hrec,fun j hj=>?_,HGC.out⟩
  rcases hv with hv|hv
  · exact HGR.out j (by rw [<- hv];exact hj)
  · rw [hv] at hj;cases hj;omega)
 refine wp_region_held_drew (S:=fun V:World=>V.cell? ⟨kp,0,none⟩=some (.pointer (some ⟨kg,0,none⟩))/\V.cell? ⟨ko,0,none⟩=some (.slice (some ⟨gv,0,none⟩) ol co)/\V.cell? ⟨gv,k,none⟩=some (.int .u64 xo)) (by kernel_rfl) HS6D.out (fun hHeld=>?_);clear hKD hbDE hKE hGE hblk5;generalize w5.drew=D at *;refine ht (i:=0) (d:=some 41) (v:=?_) ?_ ?_;rotate_left
 · intro w hSw
   try dsimp only at hSw
   first|(go_simp;done)|(go_simp;with_reducible rfl)
 simp only [Act.put,List.setIfInBounds_toArray,List.set_cons_zero,List.set_cons_succ];refine ht (i:=1) (d:=some 42) (v:=?_) ?_ ?_;rotate_left
 · intro w hSw
   try dsimp only at hSw
   first|(go_simp;done)|(go_simp;with_reducible rfl)
 simp only [Act.put,List.setIfInBounds_toArray,List.set_cons_zero,List.set_cons_succ];refine ht (i:=2) (d:=some 43) (v:=?_) ?_ ?_;rotate_left
 · intro w hSw
   try dsimp only at hSw
   first|(go_simp;done)|(go_simp;with_reducible rfl)
 simp only [Act.put,List.setIfInBounds_toArray,List.set_cons_zero,List.set_cons_succ];refine ht (i:=3) (d:=some 44) (v:=?_) ?_ ?_;rotate_left
 · intro w hSw
   try dsimp only at hSw
   first|(go_simp;done)|(go_simp;with_reducible rfl)
 simp only [Act.put,List.setIfInBounds_toArray,List.set_cons_zero,List.set_cons_succ];refine ht (i:=4) (d:=some 45) (v:=?_) ?_ ?_;rotate_left
 · intro w hSw
   try dsimp only at hSw
   first|(go_simp;done)|(go_simp;with_reducible rfl)
 simp only [Act.put,List.setIfInBounds_toArray,List.set_cons_zero,List.set_cons_succ];refine ht (i:=6) (d:=some 47) (v:=?_) ?_ ?_;rotate_left
 · intro w hSw
   try dsimp only at hSw
   first|(go_simp;done)|(go_simp;with_reducible rfl)
 simp only [Act.put,List.setIfInBounds_toArray,List.set_cons_zero,List.set_cons_succ];refine ht (i:=7) (d:=some 48) (v:=?_) ?_ ?_;rotate_left
 · intro w hSw
   try dsimp only at hSw
   first|(go_simp;done)|(go_simp;with_reducible rfl)
 simp only [Act.put,List.setIfInBounds_toArray,List.set_cons_zero,List.set_cons_succ];refine ht (i:=8) (d:=some 49) (v:=?_) ?_ ?_;rotate_left
 · intro w hSw
   try dsimp only at hSw
   first|(go_simp;done)|(go_simp;with_reducible rfl)
 simp only [Act.put,List.setIfInBounds_toArray,List.set_cons_zero,List.set_cons_succ];refine ht (i:=9) (d:=some 50) (v:=?_) ?_ ?_;rotate_left
 · intro w hSw
   try dsimp only at hSw
   first|(go_simp;done)|(go_simp;with_reducible rfl)
 simp only [Act.put,List.setIfInBounds_toArray,List.set_cons_zero,List.set_cons_succ];refine wpAnyH_ready (rs:=[5,10]) (by kernel_rfl) (by simp) ?_;refine AllReadyH.cons rfl (fun K hK=>?_) (AllReadyH.cons rfl (fun K hK=>?_) AllReadyH.nil)
 · go_simp;refine hK.out _ _ HS6D.out (fun hHeld2=>?_);clear hK K hHeld;have hHeld:=hHeld2;clear hHeld2
   try simp only [Act.put,List.setIfInBounds_toArray,List.set_cons_zero,List.set_cons_succ]
   refine wpAnyH_ready (rs:=[10]) (by kernel_rfl) (by simp) ?_;refine AllReadyH.cons rfl (fun K hK=>?_) AllReadyH.nil;go_simp;refine hK.out _ _ HS6E.out (fun hHeld2=>?_);clear hK K hHeld;have hHeld:=hHeld2;clear hHeld2
   try simp only [Act.put,List.setIfInBounds_toArray,List.set_cons_zero,List.set_cons_succ]
   refine wpAnyH_ready (rs:=[11]) (by kernel_rfl) (by simp) ?_;refine AllReadyH.cons rfl (fun K hK=>?_) AllReadyH.nil;refine zdo rfl (.tmp 46) (.tmp 51) 26 rfl b 37 i0 (.int .u64 0) 1 8 Tryz.underlying26 HI.out.1 HI.out.2.1 HI.out.2.2.1 HI.out.2.2.2 rfl (by decide) _ rn (V.gvs s.rs) rfl HRE.out ⟨D.heap.size,0,none⟩ 1 1 [.int .u64 xo] rfl rfl (cell_one_new _ _ _) (by simp [Value.oneCell']) (by unfold maxLen;omega) (by omega) HKS.out ?_;intro v' V6 hown' hgrow hob';obtain ⟨p6,c6,rfl,-,-⟩:=zj hown';have HBK:=Hq (HFIN.out V6 p6 c6 hgrow hown' hob');clear hown' hgrow hob';have c8':=HBK.out.1;have f8':=HBK.out.2.1;refine hK.out _ _ HBK.out.2.2.1 (fun hHeld2=>?_);clear hK K hHeld;have hHeld:=hHeld2;clear hHeld2
   try simp only [Act.put,List.setIfInBounds_toArray,List.set_cons_zero,List.set_cons_succ]
   refine ht (i:=12) (d:=some 53) (v:=?_) ?_ ?_;rotate_left
   · intro w hSw
     try dsimp only at hSw
     first|(go_simp;done)|(go_simp;with_reducible rfl)
   simp only [Act.put,List.setIfInBounds_toArray,List.set_cons_zero,List.set_cons_succ];refine ht (i:=13) (d:=some 54) (v:=?_) ?_ ?_;rotate_left
   · intro w hSw
     try dsimp only at hSw
     first|(go_simp;done)|(go_simp;with_reducible rfl)
   simp only [Act.put,List.setIfInBounds_toArray,List.set_cons_zero,List.set_cons_succ];refine ht (i:=14) (d:=some 55) (v:=?_) ?_ ?_;rotate_left
   · intro w hSw
     try dsimp only at hSw
     first|(go_simp;done)|(go_simp;with_reducible rfl)
   simp only [Act.put,List.setIfInBounds_toArray,List.set_cons_zero,List.set_cons_succ];refine wpAnyH_ready (rs:=[15]) (by kernel_rfl) (by simp) ?_;refine AllReadyH.cons rfl (fun K hK=>?_) AllReadyH.nil;go_simp;clear c8' f8';refine hK.out _ _ HBK.out.2.2.2.1 (fun hHeld2=>?_);clear hK K hHeld;have hHeld:=hHeld2;clear hHeld2
   try simp only [Act.put,List.setIfInBounds_toArray,List.set_cons_zero,List.set_cons_succ]
   refine wpAnyH_done (by kernel_rfl) ?_ _;clear hHeld;have HZ:=Hq HBK.out.2.2.2.2;clear HBK HFIN HRE HKS HS6D HS6E c8 c8a;generalize V6.setCell ⟨kg,8,none⟩ (.slice p6 (rn+1) c6)=Z at *;have HKZ:Hid (KW b0 B kg r Y Z):=Hq HZ.out.1;have HGZ:=Hq HZ.out.2.1;have HVZ:=Hq HZ.out.2.2;have hZs:=HKZ.out.be.size;clear HZ;have HJ7:Hid (∀ V,KW b0 B kg r Z V->V.cell? ⟨kp,0,none⟩=some (.pointer (some ⟨kg,0,none⟩))/\V.cell? ⟨ki,0,none⟩=some (.slice (some ⟨g',off',none⟩) gl c')/\(V.cell? ⟨g',off'+k*6,none⟩=some (.int .i64 kd)/\V.cell? ⟨g',off'+k*6+1,none⟩=some (.string nm)/\V.cell? ⟨g',off'+k*6+2,none⟩=some (.string tx)/\V.cell? ⟨g',off'+k*6+3,none⟩=some (.slice xa an xc)/\V.cell? ⟨g',off'+k*6+4,none⟩=some (.int .i64 par)/\V.cell? ⟨g',off'+k*6+5,none⟩=some (.slice ya kn yc))/\V.cell? ⟨Y.heap.size,0,none⟩=some (.int .u64 rt)/\V.cell? ⟨Y.heap.size,1,none⟩=some (.int .i64 sz)):=Hq (fun V hV=>by
    have hYV:=HKZ.out.trans hV;obtain ⟨e0,e1⟩:=block2 ((hV.ty _ _ _ (by decide) (by decide) (by decide) HVZ.out).trans HVZ.out);exact ⟨(HSG.out V hYV).1,HSI.out V hYV,HND.out V hYV,e0,e1⟩)
   have hZD:KW b0 B kg r Z Z.drew:=KW.of_below (Below.refl _ _).drew (by omega) (by omega);have HTZ:=Hq (HTK.out Z.drew (HKZ.out.trans hZD) (HGZ.out.below (Below.refl _ _).drew));have HJ1:=Hq (HJ7.out Z (KW.refl _ _ _ _ _));have HJ2:=Hq (HJ7.out Z.drew hZD);have HZD:=Hq hZD;clear hZD;obtain ⟨x0,x1,⟨y0,y1,y2,y3,y4,y5⟩,x2,x3⟩:=HJ1.out;go_upto_region 7 with fail
   go_region_held3 (fun V=>V.cell? ⟨kp,0,none⟩=some (.pointer (some ⟨kg,0,none⟩))/\V.cell? ⟨ki,0,none⟩=some (.slice (some ⟨g',off',none⟩) gl c')/\(V.cell? ⟨g',off'+k*6,none⟩=some (.int .i64 kd)/\V.cell? ⟨g',off'+k*6+1,none⟩=some (.string nm)/\V.cell? ⟨g',off'+k*6+2,none⟩=some (.string tx)/\V.cell? ⟨g',off'+k*6+3,none⟩=some (.slice xa an xc)/\V.cell? ⟨g',off'+k*6+4,none⟩=some (.int .i64 par)/\V.cell? ⟨g',off'+k*6+5,none⟩=some (.slice ya kn yc))/\V.cell? ⟨Y.heap.size,0,none⟩=some (.int .u64 rt)/\V.cell? ⟨Y.heap.size,1,none⟩=some (.int .i64 sz))
    (first
      | with_reducible exact HJ3.out
      | with_reducible exact HJ1.out
      | with_reducible exact HJ2.out)
    (first
      | (go_at_call 39
         refine HTZ.out.mono ?_;rintro e w7 ⟨rfl,hk7,hg7⟩;have HK7:Hid (KW b0 B kg r Z w7):=Hq (HZD.out.trans hk7);have HG7:=Hq hg7;have HJ3:=Hq (HJ7.out w7 HK7.out);clear hk7 hg7))
   go_wp2;go_ret2;have hkw:KW b0 B kg r Y w7:=HKZ.out.trans HK7.out;rw [HO.out]
   rcases o with _|⟨u,hd,gn⟩
   · exact ⟨rfl,hkw⟩
   · exact ⟨hd,rfl,rfl,HG7.out u hd gn rfl,hkw⟩
 · go_simp;refine hK.out _ _ HS6E.out (fun hHeld2=>?_);clear hK K hHeld;have hHeld:=hHeld2;clear hHeld2
   try simp only [Act.put,List.setIfInBounds_toArray,List.set_cons_zero,List.set_cons_succ]
   refine wpAnyH_ready (rs:=[5]) (by kernel_rfl) (by simp) ?_;refine AllReadyH.cons rfl (fun K hK=>?_) AllReadyH.nil;go_simp;refine hK.out _ _ HS6E.out (fun hHeld2=>?_);clear hK K hHeld;have hHeld:=hHeld2;clear hHeld2
   try simp only [Act.put,List.setIfInBounds_toArray,List.set_cons_zero,List.set_cons_succ]
   refine wpAnyH_ready (rs:=[11]) (by kernel_rfl) (by simp) ?_;refine AllReadyH.cons rfl (fun K hK=>?_) AllReadyH.nil;refine zdo rfl (.tmp 46) (.tmp 51) 26 rfl b 37 i0 (.int .u64 0) 1 8 Tryz.underlying26 HI.out.1 HI.out.2.1 HI.out.2.2.1 HI.out.2.2.2 rfl (by decide) _ rn (V.gvs s.rs) rfl HRE.out ⟨D.heap.size,0,none⟩ 1 1 [.int .u64 xo] rfl rfl (cell_one_new _ _ _) (by simp [Value.oneCell']) (by unfold maxLen;omega) (by omega) HKS.out ?_;intro v' V6 hown' hgrow hob';obtain ⟨p6,c6,rfl,-,-⟩:=zj hown';have HBK:=Hq (HFIN.out V6 p6 c6 hgrow hown' hob');clear hown' hgrow hob';have c8':=HBK.out.1;have f8':=HBK.out.2.1;refine hK.out _ _ HBK.out.2.2.1 (fun hHeld2=>?_);clear hK K hHeld;have hHeld:=hHeld2;clear hHeld2
   try simp only [Act.put,List.setIfInBounds_toArray,List.set_cons_zero,List.set_cons_succ]
   refine ht (i:=12) (d:=some 53) (v:=?_) ?_ ?_;rotate_left
   · intro w hSw
     try dsimp only at hSw
     first|(go_simp;done)|(go_simp;with_reducible rfl)
   simp only [Act.put,List.setIfInBounds_toArray,List.set_cons_zero,List.set_cons_succ];refine ht (i:=13) (d:=some 54) (v:=?_) ?_ ?_;rotate_left
   · intro w hSw
     try dsimp only at hSw
     first|(go_simp;done)|(go_simp;with_reducible rfl)
   simp only [Act.put,List.setIfInBounds_toArray,List.set_cons_zero,List.set_cons_succ];refine ht (i:=14) (d:=some 55) (v:=?_) ?_ ?_;rotate_left
   · intro w hSw
     try dsimp only at hSw
     first|(go_simp;done)|(go_simp;with_reducible rfl)
   simp only [Act.put,List.setIfInBounds_toArray,List.set_cons_zero,List.set_cons_succ];refine wpAnyH_ready (rs:=[15]) (by kernel_rfl) (by simp) ?_;refine AllReadyH.cons rfl (fun K hK=>?_) AllReadyH.nil;go_simp;clear c8' f8';refine hK.out _ _ HBK.out.2.2.2.1 (fun hHeld2=>?_);clear hK K hHeld;have hHeld:=hHeld2;clear hHeld2
   try simp only [Act.put,List.setIfInBounds_toArray,List.set_cons_zero,List.set_cons_succ]
   refine wpAnyH_done (by kernel_rfl) ?_ _;clear hHeld;have HZ:=Hq HBK.out.2.2.2.2;clear HBK HFIN HRE HKS HS6D HS6E c8 c8a;generalize V6.setCell ⟨kg,8,none⟩ (.slice p6 (rn+1) c6)=Z at *;have HKZ:Hid (KW b0 B kg r Y Z):=Hq HZ.out.1;have HGZ:=Hq HZ.out.2.1;have HVZ:=Hq HZ.out.2.2;have hZs:=HKZ.out.be.size;clear HZ;have HJ7:Hid (∀ V,KW b0 B kg r Z V->V.cell? ⟨kp,0,none⟩=some (.pointer (some ⟨kg,0,none⟩))/\V.cell? ⟨ki,0,none⟩=some (.slice (some ⟨g',off',none⟩) gl c')/\(V.cell? ⟨g',off'+k*6,none⟩=some (.int .i64 kd)/\V.cell? ⟨g',off'+k*6+1,none⟩=some (.string nm)/\V.cell? ⟨g',off'+k*6+2,none⟩=some (.string tx)/\V.cell? ⟨g',off'+k*6+3,none⟩=some (.slice xa an xc)/\V.cell? ⟨g',off'+k*6+4,none⟩=some (.int .i64 par)/\V.cell? ⟨g',off'+k*6+5,none⟩=some (.slice ya kn yc))/\V.cell? ⟨Y.heap.size,0,none⟩=some (.int .u64 rt)/\V.cell? ⟨Y.heap.size,1,none⟩=some (.int .i64 sz)):=Hq (fun V hV=>by
    have hYV:=HKZ.out.trans hV;obtain ⟨e0,e1⟩:=block2 ((hV.ty _ _ _ (by decide) (by decide) (by decide) HVZ.out).trans HVZ.out);exact ⟨(HSG.out V hYV).1,HSI.out V hYV,HND.out V hYV,e0,e1⟩)
   have hZD:KW b0 B kg r Z Z.drew:=KW.of_below (Below.refl _ _).drew (by omega) (by omega);have HTZ:=Hq (HTK.out Z.drew (HKZ.out.trans hZD) (HGZ.out.below (Below.refl _ _).drew));have HJ1:=Hq (HJ7.out Z (KW.refl _ _ _ _ _));have HJ2:=Hq (HJ7.out Z.drew hZD);have HZD:=Hq hZD;clear hZD;obtain ⟨x0,x1,⟨y0,y1,y2,y3,y4,y5⟩,x2,x3⟩:=HJ1.out;go_upto_region 7 with fail
   go_region_held3 (fun V=>V.cell? ⟨kp,0,none⟩=some (.pointer (some ⟨kg,0,none⟩))/\V.cell? ⟨ki,0,none⟩=some (.slice (some ⟨g',off',none⟩) gl c')/\(V.cell? ⟨g',off'+k*6,none⟩=some (.int .i64 kd)/\V.cell? ⟨g',off'+k*6+1,none⟩=some (.string nm)/\V.cell? ⟨g',off'+k*6+2,none⟩=some (.string tx)/\V.cell? ⟨g',off'+k*6+3,none⟩=some (.slice xa an xc)/\V.cell? ⟨g',off'+k*6+4,none⟩=some (.int .i64 par)/\V.cell? ⟨g',off'+k*6+5,none⟩=some (.slice ya kn yc))/\V.cell? ⟨Y.heap.size,0,none⟩=some (.int .u64 rt)/\V.cell? ⟨Y.heap.size,1,none⟩=some (.int .i64 sz))
    (first
      | with_reducible exact HJ3.out
      | with_reducible exact HJ1.out
      | with_reducible exact HJ2.out)
    (first
      | (go_at_call 39
         refine HTZ.out.mono ?_;rintro e w7 ⟨rfl,hk7,hg7⟩;have HK7:Hid (KW b0 B kg r Z w7):=Hq (HZD.out.trans hk7);have HG7:=Hq hg7;have HJ3:=Hq (HJ7.out w7 HK7.out);clear hk7 hg7))
   go_wp2;go_ret2;have hkw:KW b0 B kg r Y w7:=HKZ.out.trans HK7.out;rw [HO.out]
   rcases o with _|⟨u,hd,gn⟩
   · exact ⟨rfl,hkw⟩
   · exact ⟨hd,rfl,rfl,HG7.out u hd gn rfl,hkw⟩
end Go.Proofs.YtdmecdjfbpblgaaGreatDoor
