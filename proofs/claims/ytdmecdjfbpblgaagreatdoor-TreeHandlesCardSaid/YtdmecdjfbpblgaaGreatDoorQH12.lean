/-
  tree.copied.
-/
import Derived.Test.YtdmecdjfbpblgaaGreatDoorQH11
namespace Go.Proofs.YtdmecdjfbpblgaaGreatDoor
set_option maxRecDepth 100000
set_option maxHeartbeats 32000000
open Go.ChangeShapes Go.WideShapes Go.ChangeAt Go.RowKit
set_option linter.unusedVariables false
set_option linter.unusedSimpArgs false
theorem block4c {w:World} {k:Nat} {t:TypeId} {a0 a1 a2 a3:Value} (h:w.heap[k]? = some (.cells #[a0,a1,a2,a3] t (0,0))) :
 w.cell? ⟨k,0,none⟩=some a0/\w.cell? ⟨k,1,none⟩=some a1/\w.cell? ⟨k,2,none⟩=some a2/\w.cell? ⟨k,3,none⟩=some a3:=by
 simp [World.cell?,h]
theorem zc8 {w:World} {b k:Nat} {vg vu vf vc:Value} {p:V.Pl} {cs:Array Value} (h:V.PA w b vg vu vf vc p) {t:TypeId} (hk:w.heap[k]? = some (.cells cs t (0,0))) (h1:37≠t) (h2:4≠t) (h3:3≠t) (h4:119≠t) (j:Nat) (v:Value):V.PA (w.setCell ⟨k,j,none⟩ v) b vg vu vf vc p :=
 ⟨⟨ownsRow_setCell_other h.ar.g (a:=⟨k,j,none⟩) (zi h.ar.g hk h1) _,ownsRow_setCell_other h.ar.u (a:=⟨k,j,none⟩) (zi h.ar.u hk h2) _,ownsRow_setCell_other h.ar.f (a:=⟨k,j,none⟩) (zi h.ar.f hk h3) _⟩,ownsRow_setCell_other h.cs (a:=⟨k,j,none⟩) (zi h.cs hk h4) _⟩
theorem znf {w:World} {b k:Nat} {vg vu vf vc:Value} {p:V.Pl} {a c d e:Value} (h:V.PA w b vg vu vf vc p) (hk:w.heap[k]? = some (.cells #[a,c,d,e] 34 (0,0))) (x y z u:Value):V.PA ((((w.setCell ⟨k,0,none⟩ x).setCell ⟨k,1,none⟩ y).setCell ⟨k,2,none⟩ z).setCell ⟨k,3,none⟩ u) b vg vu vf vc p /\
 ((((w.setCell ⟨k,0,none⟩ x).setCell ⟨k,1,none⟩ y).setCell ⟨k,2,none⟩ z).setCell ⟨k,3,none⟩ u).heap[k]? = some (.cells #[x,y,z,u] 34 (0,0)):=by
 have k0:=zb hk 0 x;have k1:=zb k0 1 y;have k2:=zb k1 2 z;have k3:=zb k2 3 u;exact ⟨zc8 (zc8 (zc8 (zc8 h hk (by decide) (by decide) (by decide) (by decide) 0 x) k0 (by decide) (by decide) (by decide) (by decide) 1 y) k1 (by decide) (by decide) (by decide) (by decide) 2 z) k2 (by decide) (by decide) (by decide) (by decide) 3 u,k3⟩
theorem ta_pa {w:World} {b:Nat} {v1 v2 v3 v4:Value} {p:V.Pl} (h1:V.Ar w b v1 v2 v3 p.st) (h2:w.ownsRow b 119 5 v4 p.ch.length (V.cvs p.ch)):V.PA w b v1 v2 v3 v4 p:=⟨h1,h2⟩
def PoolAt (b:World) (X:World) (p:V.Pl) (v:Value):Prop:=∃ (k6:Nat) (p1:Option Addr) (k1:Nat) (p2:Option Addr) (k2:Nat) (p3:Option Addr) (k3:Nat) (p4:Option Addr) (k4:Nat),v = .pointer (some ⟨k6,0,none⟩)/\X.heap[k6]? = some (.cells #[.slice p1 p.st.gens.length k1,.slice p2 p.st.used.length k2,.slice p3 p.st.free.length k3,.slice p4 p.ch.length k4] 34 (0,0))/\b.heap.size<=k6/\V.PA X b.heap.size (.slice p1 p.st.gens.length k1) (.slice p2 p.st.used.length k2) (.slice p3 p.st.free.length k3) (.slice p4 p.ch.length k4) p/\Below b.heap.size b X
theorem zoq {b v2:World} {p:V.Pl} {p1 p2 p3 p4:Option Addr} {k1 k2 k3 k4:Nat} (h:V.PA v2 b.heap.size (.slice p1 p.st.gens.length k1) (.slice p2 p.st.used.length k2) (.slice p3 p.st.free.length k3) (.slice p4 p.ch.length k4) p) (hb:Below b.heap.size b v2) :
 PoolAt b (v2.alloc (.cells #[.slice p1 p.st.gens.length k1,.slice p2 p.st.used.length k2,.slice p3 p.st.free.length k3,.slice p4 p.ch.length k4] 34)) p (.pointer (some ⟨v2.heap.size,0,none⟩)) :=
 ⟨_,_,_,_,_,_,_,_,_,rfl,hnew _ _,hb.size,h.below (Bq _ _),hb.alloc hb.size _⟩
theorem zil {b v2:World} {p:V.Pl} {p1 p2 p3 p4:Option Addr} {k1 k2 k3 k4 k:Nat} {e0 e1 e2 e3:Value} (h:V.PA v2 b.heap.size (.slice p1 p.st.gens.length k1) (.slice p2 p.st.used.length k2) (.slice p3 p.st.free.length k3) (.slice p4 p.ch.length k4) p) (hb:Below b.heap.size b v2) (hx:v2.heap[k]? = some (.cells #[e0,e1,e2,e3] 34 (0,0))) (hk:b.heap.size<=k) :
 PoolAt b ((((v2.setCell ⟨k,0,none⟩ (.slice p1 p.st.gens.length k1)).setCell ⟨k,1,none⟩ (.slice p2 p.st.used.length k2)).setCell ⟨k,2,none⟩ (.slice p3 p.st.free.length k3)).setCell ⟨k,3,none⟩ (.slice p4 p.ch.length k4)) p (.pointer (some ⟨k,0,none⟩)) :=
 ⟨_,_,_,_,_,_,_,_,_,rfl,(znf h hx _ _ _ _).2,hk,(znf h hx _ _ _ _).1,(((hb.setCell (p:=⟨k,0,none⟩) hk _).setCell (p:=⟨k,1,none⟩) hk _).setCell (p:=⟨k,2,none⟩) hk _).setCell (p:=⟨k,3,none⟩) hk _⟩
theorem zlf {w:World} {b k:Nat} {vg vu vf:Value} {s:V.St} {cs:Array Value} (h:V.Ar w b vg vu vf s) {t:TypeId} (hk:w.heap[k]? = some (.cells cs t (0,0))) (h1:37≠t) (h2:4≠t) (h3:3≠t) (j:Nat) (v:Value):V.Ar (w.setCell ⟨k,j,none⟩ v) b vg vu vf s :=
 ⟨ownsRow_setCell_other h.g (a:=⟨k,j,none⟩) (zi h.g hk h1) _,ownsRow_setCell_other h.u (a:=⟨k,j,none⟩) (zi h.u hk h2) _,ownsRow_setCell_other h.f (a:=⟨k,j,none⟩) (zi h.f hk h3) _⟩
theorem TA.set {w:World} {b k:Nat} {g u f r pg pu pf pc:Value} {L:List Rm} {t:Tm} {cs:Array Value} (h:TA w b g u f r pg pu pf pc L t) (hk:w.heap[k]? = some (.cells cs 36 (0,0))) (j:Nat) (v:Value):TA (w.setCell ⟨k,j,none⟩ v) b g u f r pg pu pf pc L t :=
 ⟨zlf h.ar hk (by decide) (by decide) (by decide) j v,zc8 h.pa hk (by decide) (by decide) (by decide) (by decide) j v,ownsRow_setCell_other h.row (a:=⟨k,j,none⟩) (zi h.row hk (by decide)) _,h.like,fun x hx=>ownsRow_setCell_other (h.att x hx) (a:=⟨k,j,none⟩) (zi (h.att x hx) hk (by decide)) _⟩
abbrev set8 (w:World) (k:Nat) (a0 a1 a2 a3 a4 a5 a6 a7:Value):World:=(((((((w.setCell ⟨k,0,none⟩ a0).setCell ⟨k,1,none⟩ a1).setCell ⟨k,2,none⟩ a2).setCell ⟨k,3,none⟩ a3).setCell ⟨k,4,none⟩ a4).setCell ⟨k,5,none⟩ a5).setCell ⟨k,6,none⟩ a6).setCell ⟨k,7,none⟩ a7
theorem TA.set8 {w:World} {b k b':Nat} {g u f r pg pu pf pc e0 e1 e2 e3 e4 e5 e6 e7:Value} {L:List Rm} {t:Tm} (h:TA w b g u f r pg pu pf pc L t) (hk:w.heap[k]? = some (.cells #[e0,e1,e2,e3,e4,e5,e6,e7] 36 (0,0))) (hb:b'<=k) (a0 a1 a2 a3 a4 a5 a6 a7:Value) :
 TA (set8 w k a0 a1 a2 a3 a4 a5 a6 a7) b g u f r pg pu pf pc L t/\(set8 w k a0 a1 a2 a3 a4 a5 a6 a7).heap[k]? = some (.cells #[a0,a1,a2,a3,a4,a5,a6,a7] 36 (0,0))/\∀ w0:World,Below b' w0 w->Below b' w0 (set8 w k a0 a1 a2 a3 a4 a5 a6 a7):=by
 have k0:(w.setCell ⟨k,0,none⟩ a0).heap[k]? = some (.cells #[a0,e1,e2,e3,e4,e5,e6,e7] 36 (0,0)):=zb hk 0 a0;have k1:((w.setCell ⟨k,0,none⟩ a0).setCell ⟨k,1,none⟩ a1).heap[k]? = some (.cells #[a0,a1,e2,e3,e4,e5,e6,e7] 36 (0,0)):=zb k0 1 a1;have k2:(((w.setCell ⟨k,0,none⟩ a0).setCell ⟨k,1,none⟩ a1).setCell ⟨k,2,none⟩ a2).heap[k]? = some (.cells #[a0,a1,a2,e3,e4,e5,e6,e7] 36 (0,0)):=zb k1 2 a2;have k3:((((w.setCell ⟨k,0,none⟩ a0).setCell ⟨k,1,none⟩ a1).setCell ⟨k,2,none⟩ a2).setCell ⟨k,3,none⟩ a3).heap[k]? = some (.cells #[a0,a1,a2,a3,e4,e5,e6,e7] 36 (0,0)):=zb k2 3 a3;have k4:(((((w.setCell ⟨k,0,none⟩ a0).setCell ⟨k,1,none⟩ a1).setCell ⟨k,2,none⟩ a2).setCell ⟨k,3,none⟩ a3).setCell ⟨k,4,none⟩ a4).heap[k]? = some (.cells #[a0,a1,a2,a3,a4,e5,e6,e7] 36 (0,0)):=zb k3 4 a4;have k5:((((((w.setCell ⟨k,0,none⟩ a0).setCell ⟨k,1,none⟩ a1).setCell ⟨k,2,none⟩ a2).setCell ⟨k,3,none⟩ a3).setCell ⟨k,4,none⟩ a4).setCell ⟨k,5,none⟩ a5).heap[k]? = some (.cells #[a0,a1,a2,a3,a4,a5,e6,e7] 36 (0,0)):=zb k4 5 a5;have k6:(((((((w.setCell ⟨k,0,none⟩ a0).setCell ⟨k,1,none⟩ a1).setCell ⟨k,2,none⟩ a2).setCell ⟨k,3,none⟩ a3).setCell ⟨k,4,none⟩ a4).setCell ⟨k,5,none⟩ a5).setCell ⟨k,6,none⟩ a6).heap[k]? = some (.cells #[a0,a1,a2,a3,a4,a5,a6,e7] 36 (0,0)):=zb k5 6 a6;have k7:((((((((w.setCell ⟨k,0,none⟩ a0).setCell ⟨k,1,none⟩ a1).setCell ⟨k,2,none⟩ a2).setCell ⟨k,3,none⟩ a3).setCell ⟨k,4,none⟩ a4).setCell ⟨k,5,none⟩ a5).setCell ⟨k,6,none⟩ a6).setCell ⟨k,7,none⟩ a7).heap[k]? = some (.cells #[a0,a1,a2,a3,a4,a5,a6,a7] 36 (0,0)):=zb k6 7 a7;exact ⟨(((((((h.set hk 0 a0).set k0 1 a1).set k1 2 a2).set k2 3 a3).set k3 4 a4).set k4 5 a5).set k5 6 a6).set k6 7 a7,k7,fun w0 h0=>(((((((h0.setCell (p:=⟨k,0,none⟩) hb _).setCell (p:=⟨k,1,none⟩) hb _).setCell (p:=⟨k,2,none⟩) hb _).setCell (p:=⟨k,3,none⟩) hb _).setCell (p:=⟨k,4,none⟩) hb _).setCell (p:=⟨k,5,none⟩) hb _).setCell (p:=⟨k,6,none⟩) hb _).setCell (p:=⟨k,7,none⟩) hb _⟩
theorem far8 {w:World} {k k' o:Nat} {v:Value} (h:k≠k') (a0 a1 a2 a3 a4 a5 a6 a7:Value) (hc:w.cell? ⟨k',o,none⟩=some v):(set8 w k a0 a1 a2 a3 a4 a5 a6 a7).cell? ⟨k',o,none⟩=some v:=by
 have e:∀ (X:World) (j:Nat) (u:Value),(X.setCell ⟨k,j,none⟩ u).cell? ⟨k',o,none⟩=X.cell? ⟨k',o,none⟩:=fun X j u=>World.cell?_setCell_far X ⟨k,j,none⟩ ⟨k',o,none⟩ u h
 unfold set8;rw [e,e,e,e,e,e,e,e];exact hc
abbrev J7 (k k6:Nat) (a0 a1 a2 q0 q1 q2 q3:Value) (X:World):Prop:=X.cell? ⟨k,0,none⟩=some a0/\X.cell? ⟨k,1,none⟩=some a1/\X.cell? ⟨k,2,none⟩=some a2/\X.cell? ⟨k6,0,none⟩=some q0/\X.cell? ⟨k6,1,none⟩=some q1/\X.cell? ⟨k6,2,none⟩=some q2/\X.cell? ⟨k6,3,none⟩=some q3
theorem zvf {k k6 d:Nat} {a0 a1 a2 q0 q1 q2 q3:Value} {X:World} (h:J7 k k6 a0 a1 a2 q0 q1 q2 q3 X) (h1:d≠k) (h2:d≠k6) (v0 v1 v2 v3 v4 v5 v6 v7:Value):J7 k k6 a0 a1 a2 q0 q1 q2 q3 (set8 X d v0 v1 v2 v3 v4 v5 v6 v7) :=
 ⟨far8 h1 _ _ _ _ _ _ _ _ h.1,far8 h1 _ _ _ _ _ _ _ _ h.2.1,far8 h1 _ _ _ _ _ _ _ _ h.2.2.1,far8 h2 _ _ _ _ _ _ _ _ h.2.2.2.1,far8 h2 _ _ _ _ _ _ _ _ h.2.2.2.2.1,far8 h2 _ _ _ _ _ _ _ _ h.2.2.2.2.2.1,far8 h2 _ _ _ _ _ _ _ _ h.2.2.2.2.2.2⟩
theorem zg5 (g u f r pg pu pf pc:Value) (L:List Rm) (t:Tm) (b n m:Nat) (G:Int) (w:World) (h:TA w b g u f r pg pu pf pc L t) (hT:TK n m G t) (hn0:0<n) (hz:∀ x∈t.recs,x.attrs.length<=1000) :
 Calls Tryz.prog 18 #[tval g u f r pg pu pf pc] w (GivesTm t w):=by
 have hs:=hT.ok.small;obtain rfl:n=L.length:=by rw [<- hT.len,<- h.like,List.length_map]
 obtain ⟨ag,cg,au,cu,af,cf,ar,cr,agp,cgp,aup,cup,afp,cfp,acp,ccp,rfl,rfl,rfl,rfl,rfl,rfl,rfl,rfl⟩:=h.form;obtain ⟨ka,rfl,-,-⟩:=V.zab h.row (by omega);have HH:=Hq h;have HT:=Hq hT;have HZ:=Hq hz;obtain ⟨W,hW⟩:∃ W,W=(w.alloc (.cells #[.slice ag t.st.gens.length cg,.slice au t.st.used.length cu,.slice af t.st.free.length cf,.slice (some ⟨ka,0,none⟩) L.length cr,.slice agp t.pl.st.gens.length cgp,.slice aup t.pl.st.used.length cup,.slice afp t.pl.st.free.length cfp,.slice acp t.pl.ch.length ccp] 36)).alloc (.cells zT8 36):=⟨_,rfl⟩;have HW:Hid (Below w.heap.size w W/\W.heap.size=w.heap.size+2/\W.heap[w.heap.size]? = some (.cells #[.slice ag t.st.gens.length cg,.slice au t.st.used.length cu,.slice af t.st.free.length cf,.slice (some ⟨ka,0,none⟩) L.length cr,.slice agp t.pl.st.gens.length cgp,.slice aup t.pl.st.used.length cup,.slice afp t.pl.st.free.length cfp,.slice acp t.pl.ch.length ccp] 36 (0,0))/\W.heap[w.heap.size+1]? = some (.cells zT8 36 (0,0))):=Hq (by
  subst hW;refine ⟨((Below.refl _ w).alloc (Nat.le_refl _) _).alloc (by simp) _,by simp,?_,?_⟩
  · rw [hold _ _ (by simp)];exact hnew w _
  · exact (show (w.alloc (.cells #[.slice ag t.st.gens.length cg,.slice au t.st.used.length cu,.slice af t.st.free.length cf,.slice (some ⟨ka,0,none⟩) L.length cr,.slice agp t.pl.st.gens.length cgp,.slice aup t.pl.st.used.length cup,.slice afp t.pl.st.free.length cfp,.slice acp t.pl.ch.length ccp] 36)).heap.size=w.heap.size+1 by simp) ▸ hnew _ _)
 clear h hT hz;go_enter Tryz.func18,Tryz.ntmps18;go_upto_region 1 with fail
 rw [<- hW];clear hW;have x3:=(block8 HW.out.2.2.1).2.2.2.1;go_wp2_with fail;refine (V.cloneR _ L.length (rmcs L) b W (own_below HH.out.row HW.out.1) (zsm _) (by omega)).mono ?_;rintro e w1 ⟨v1,rfl,ho,hb⟩;clear x3;obtain ⟨p1,c1,rfl,-,-⟩:=zj ho;obtain ⟨g1,rfl,hg1,hg2⟩:=V.zab ho hn0;have HB1:Hid (Below W.heap.size W w1):=Hq hb;have HC0:Hid (CW w w1 W.heap.size g1 L.length c1 0 L t L):=Hq ⟨ho,rfl,HH.out.like,fun j x _ hj=>absurd hj (by omega)⟩;have hsW:=HW.out.2.1;have HK1:Hid (w1.heap[w.heap.size]? = some (.cells #[.slice ag t.st.gens.length cg,.slice au t.st.used.length cu,.slice af t.st.free.length cf,.slice (some ⟨ka,0,none⟩) L.length cr,.slice agp t.pl.st.gens.length cgp,.slice aup t.pl.st.used.length cup,.slice afp t.pl.st.free.length cfp,.slice acp t.pl.ch.length ccp] 36 (0,0))):=Hq ((hb.block _ (by omega)).trans HW.out.2.2.1);clear ho hb;have x3:=(block8 HK1.out).2.2.2.1;go_wp2_with fail;clear x3;have hkl:ka<w.heap.size:=by
  have:=HH.out.row.lt ka rfl;exact this.2
 go_loopw [4,5,13] (fun s4 s5 i Y=>∃ (k:Nat) (L':List Rm),k<=L.length/\i = .int .i64 k/\Hid (CW w Y W.heap.size g1 L.length c1 k L t L')/\Hid (∀ j,k<=j->L'[j]? = L[j]?)/\Hid (Below W.heap.size W Y)) (fun _ _ i _=>L.length - (intOf i).toNat)
 case atStart => exact ⟨0,L,Nat.zero_le _,rfl,HC0,Hq (fun j _=>rfl),HB1⟩
 case round =>
  obtain ⟨k,L',hk,rfl,HC,HL,HB⟩:=hrel;have hbs:=HB.out.size
  by_cases hlt:k<L.length
  · have k0:(0:Int)<=(k:Int):=by omega
    have k1:(k:Int)<(L.length:Int):=by omega
    have HTY:=Hq (HH.out.below (HW.out.1.trans (HB.out.mono HW.out.1.size)));obtain ⟨c0,c1',c2,c3,c4,c5,c6⟩:=HTY.out.cells hlt;have hlk:k<L'.length:=by rw [HC.out.len];exact hlt
    have HEq:Hid (L'[k]=L[k]):=Hq (by
     have:=HL.out k (Nat.le_refl _);rw [List.getElem?_eq_getElem hlk,List.getElem?_eq_getElem hlt] at this;exact Option.some.inj this)
    have HAt:=Hq (HTY.out.att L[k] (List.getElem_mem hlt));have HZk:Hid (L[k].k.attrs.length<=1000):=Hq (HZ.out _ (by rw [<- HH.out.like];exact List.mem_map_of_mem (List.getElem_mem hlt)));have HSt:=Hq (fun (X:World) (hX:CW w X W.heap.size g1 L.length c1 k L t L') (p:Option Addr) (cp:Nat) (hr:X.ownsRow W.heap.size 9 1 (.slice p L[k].k.attrs.length cp) L[k].k.attrs.length (bsv L[k].k.attrs))=>hX.step hlk (by rw [HEq.out]) (by rw [HEq.out];exact hr));rw [HEq.out] at HSt;generalize L[k]=x at *;go_upto_region 5 with fail
    obtain ⟨Y,hY⟩:∃ Y,Y=wr.alloc (.cells #[.int .i64 x.k.kind,.int .i64 x.k.par,.string x.k.name,.string x.k.text,.slice x.aA x.k.attrs.length x.aC,.int .u64 x.k.kids.root,.int .i64 x.k.kids.size] 80):=⟨_,rfl⟩;rw [<- hY];have HBY:Hid (Below wr.heap.size wr Y):=Hq (by rw [hY];exact Bq _ _);have y4:Y.cell? ⟨wr.heap.size,4,none⟩=some (.slice x.aA x.k.attrs.length x.aC):=by
     rw [hY];exact (block7 (hnew wr _)).2.2.2.2.1
    have HAY:=Hq (own_below HAt.out HBY.out);clear hY c0 c1' c2 c3 c4 c5 c6;obtain ⟨al,hal⟩:∃ al,x.k.attrs.length=al:=⟨_,rfl⟩;have HAl:=Hq hal;rw [hal] at y4 HAY HZk HSt ⊢;clear hal;go_wp2_with fail;refine (V.cloneS _ al (bsv x.k.attrs) b Y HAY.out (zug _) HZk.out).mono ?_;rintro e Z ⟨vz,rfl,ho,hb⟩;obtain ⟨pz,cz,rfl,-,-⟩:=zj ho;have HBZ:Hid (Below wr.heap.size wr Z):=Hq (HBY.out.trans (hb.mono HBY.out.size));have HCZ:=Hq (HC.out.below HBZ.out);have hys:=HBY.out.size;have HOZ:=Hq (zq ho (show W.heap.size<=Y.heap.size by omega));have HBW:Hid (Below W.heap.size W Z):=Hq (HB.out.trans (HBZ.out.mono hbs));clear ho hb y4;have zf:Z.frozen? ⟨g1,k*7+4,none⟩=false:=HCZ.out.row.frozenAt _;have zc:∃ u,Z.cell? ⟨g1,k*7+4,none⟩=some u:=by
     have e:=zgu hlk (d:=4) (by omega);have h2:=HCZ.out.row.cells rfl (k*7+4) _ (e.trans rfl);rw [show (⟨g1,0,none⟩:Addr).add (k*7+4)=⟨g1,0+(k*7+4),none⟩ by unfold Addr.add;split<;>simp_all,Nat.zero_add] at h2;exact ⟨_,h2⟩
    obtain ⟨zu,zc⟩:=zc;go_wp2_with fail;go_roundw
    case rel =>
     refine ⟨k+1,L'.set k ⟨x.k,pz,cz⟩,by omega,by go_num,Hq (HSt.out Z HCZ.out pz cz HOZ.out),Hq (fun j hj=>?_),Hq (HBW.out.setCell (p:=⟨g1,k*7+4,none⟩) hg1 _)⟩;rw [List.getElem?_set_ne (by omega)];exact HL.out j (by omega)
    case measure => simp [intOf]<;>omega
  · obtain rfl:k=L.length:=by omega
    have HBw:Hid (Below w.heap.size w wr):=Hq (HW.out.1.trans (HB.out.mono HW.out.1.size));have HTw:=Hq (HH.out.below HBw.out);have HKw:Hid (wr.heap[w.heap.size]? = some (.cells #[.slice ag t.st.gens.length cg,.slice au t.st.used.length cu,.slice af t.st.free.length cf,.slice (some ⟨ka,0,none⟩) L.length cr,.slice agp t.pl.st.gens.length cgp,.slice aup t.pl.st.used.length cup,.slice afp t.pl.st.free.length cfp,.slice acp t.pl.ch.length ccp] 36 (0,0))):=Hq ((HB.out.block _ (by omega)).trans HW.out.2.2.1);have HRw:Hid (wr.heap[w.heap.size+1]? = some (.cells zT8 36 (0,0))):=Hq ((HB.out.block _ (by omega)).trans HW.out.2.2.2);have hp1:=HT.out.pk.ok.gens;have hp2:=HT.out.pk.ok.used;have hp3:=HT.out.pk.ok.small;have hp4:=HT.out.pk.ok.free_le;have hp5:=HT.out.pk.len;have HCp:Hid (∀ X,Below wr.heap.size wr X->Calls Tryz.prog 43 #[.agg #[.slice agp t.pl.st.gens.length cgp,.slice aup t.pl.st.used.length cup,.slice afp t.pl.st.free.length cfp]] X (V.GivesSt t.pl.st X)):=Hq (fun X hb=>V.zd7 _ _ _ t.pl.st b X (HTw.out.below hb).pa.ar (by omega) (by omega) (by omega));have HCc:Hid (∀ X,Below wr.heap.size wr X->Calls Tryz.prog 44 #[.slice acp t.pl.ch.length ccp] X (V.GivesCl 119 5 t.pl.ch.length (V.cvs t.pl.ch) X)):=Hq (fun X hb=>V.cloneC _ _ _ b X (HTw.out.below hb).pa.cs (V.zm8 _) (by omega));have HCV:Hid (∀ X,Below wr.heap.size wr X->X.cell? ⟨w.heap.size,4,none⟩=some (.slice agp t.pl.st.gens.length cgp)/\X.cell? ⟨w.heap.size,5,none⟩=some (.slice aup t.pl.st.used.length cup)/\X.cell? ⟨w.heap.size,6,none⟩=some (.slice afp t.pl.st.free.length cfp)/\X.cell? ⟨w.heap.size,7,none⟩=some (.slice acp t.pl.ch.length ccp)):=Hq (fun X hb=>by
     obtain ⟨-,-,-,-,a4,a5,a6,a7⟩:=block8 ((hb.block _ (lt_of_block HKw.out)).trans HKw.out);exact ⟨a4,a5,a6,a7⟩)
    clear hp1 hp2 hp3 hp4 hp5;go_upto_region 7 with fail
    obtain ⟨x4,x5,x6,x7⟩:=HCV.out wr (Below.refl _ _)
    go_cut [6] from 26 to 34 (fun v X=>Hid (PoolAt wr X t.pl v))
    case first =>
     go_region_held3 (fun X=>X.cell? ⟨w.heap.size,4,none⟩=some (.slice agp t.pl.st.gens.length cgp)/\X.cell? ⟨w.heap.size,5,none⟩=some (.slice aup t.pl.st.used.length cup)/\X.cell? ⟨w.heap.size,6,none⟩=some (.slice afp t.pl.st.free.length cfp)/\X.cell? ⟨w.heap.size,7,none⟩=some (.slice acp t.pl.ch.length ccp))
      (first
        | with_reducible exact HCV.out _ (Below.refl _ _)
        | with_reducible exact HCV.out _ (Below.refl _ _).drew
        | with_reducible exact HCV.out _ (Bq _ _)
        | with_reducible exact HCV.out _ (Bq _ _).drew
        | with_reducible exact HCV.out _ HB1.out
        | with_reducible exact HCV.out _ (HB1.out.alloc HB1.out.size _)
        | with_reducible exact HCV.out _ HB2.out
        | with_reducible exact HCV.out _ (HB2.out.alloc HB2.out.size _)
        | exact HCV.out _ ((((HB2.out.setCell (p:=⟨_,0,none⟩) (Nat.le_refl _) _).setCell (p:=⟨_,1,none⟩) (Nat.le_refl _) _).setCell (p:=⟨_,2,none⟩) (Nat.le_refl _) _).setCell (p:=⟨_,3,none⟩) (Nat.le_refl _) _)
        | exact HCV.out _ ((((HB2.out.setCell (p:=⟨_,0,none⟩) HB1.out.size _).setCell (p:=⟨_,1,none⟩) HB1.out.size _).setCell (p:=⟨_,2,none⟩) HB1.out.size _).setCell (p:=⟨_,3,none⟩) HB1.out.size _))
      (first
        | (go_at_call 43
           first
            | with_reducible refine (HCp.out _ (Below.refl _ _).drew).mono ?_
            | with_reducible refine (HCp.out _ (Bq _ _).drew).mono ?_
           rintro e v1 ⟨a1,a2,a3,rfl,har,hb⟩;obtain ⟨p1,k1,p2,k2,p3,k3,rfl,rfl,rfl⟩:=har.form;have HA1:=Hq har;have HB1:Hid (Below wr.heap.size wr v1):=Hq (by first|exact (show Below wr.heap.size wr wr.drew from (Below.refl _ _).drew).trans (hb.mono (Nat.le_refl _))|exact (Bq _ _).drew.trans (hb.mono (Bq _ _).drew.size));have HA1b:Hid (V.Ar v1 wr.heap.size (.slice p1 t.pl.st.gens.length k1) (.slice p2 t.pl.st.used.length k2) (.slice p3 t.pl.st.free.length k3) t.pl.st):=Hq (har.drop (by first|exact Nat.le_refl _|simp))
           first|(have HX1:Hid (v1.heap[wr.heap.size]? = some (.cells #[.slice none 0 0,.slice none 0 0,.slice none 0 0,.slice none 0 0] 34 (0,0))):=Hq ((hb.block _ (by simp)).trans (hnew wr _)))|skip
           clear har hb)
        | (go_at_call 44
           first
            | with_reducible refine (HCc.out _ HB1.out).mono ?_
            | with_reducible refine (HCc.out _ (HB1.out.alloc HB1.out.size _)).mono ?_
           rintro e v2 ⟨a4,rfl,ho,hb⟩;obtain ⟨p4,k4,rfl,-,-⟩:=zj ho;have HB2:Hid (Below wr.heap.size wr v2):=Hq (by first|exact HB1.out.trans (hb.mono HB1.out.size)|exact (HB1.out.alloc HB1.out.size _).trans (hb.mono (HB1.out.alloc HB1.out.size _).size));have HA2:Hid (V.Ar v2 wr.heap.size (.slice p1 t.pl.st.gens.length k1) (.slice p2 t.pl.st.used.length k2) (.slice p3 t.pl.st.free.length k3) t.pl.st):=Hq (by first|exact HA1b.out.below hb|exact (HA1b.out.below ((Below.refl _ v1).alloc (Nat.le_refl _) (.cells #[.slice none 0 0,.slice none 0 0,.slice none 0 0,.slice none 0 0] 34))).below hb);have HO2:Hid (v2.ownsRow wr.heap.size 119 5 (.slice p4 t.pl.ch.length k4) t.pl.ch.length (V.cvs t.pl.ch)):=Hq (zq ho (by first|exact HB1.out.size|exact (HB1.out.alloc HB1.out.size _).size))
           first|(have HX2:Hid (v2.heap[wr.heap.size]? = some (.cells #[.slice none 0 0,.slice none 0 0,.slice none 0 0,.slice none 0 0] 34 (0,0))):=Hq ((hb.block _ (lt_of_block HX1.out)).trans HX1.out);obtain ⟨d0,d1,d2,d3⟩:=block4c HX2.out;have f0:=za HX2.out 0;have f1:=za HX2.out 1;have f2:=za HX2.out 2;have f3:=za HX2.out 3)|skip
           first|(have HX3:Hid (v2.heap[v1.heap.size]? = some (.cells #[.slice none 0 0,.slice none 0 0,.slice none 0 0,.slice none 0 0] 34 (0,0))):=Hq ((hb.block _ (by simp)).trans (hnew v1 _));obtain ⟨d0,d1,d2,d3⟩:=block4c HX3.out;have f0:=za HX3.out 0;have f1:=za HX3.out 1;have f2:=za HX3.out 2;have f3:=za HX3.out 3)|skip
           clear ho hb))
     all_goals
      go_wp2;go_meet;have HPA:=Hq (ta_pa HA2.out HO2.out)
      first
       | with_reducible exact Hq (zoq HPA.out HB2.out)
       | with_reducible exact Hq (zil HPA.out HB2.out HX3.out HB1.out.size)
       | with_reducible exact Hq (zil HPA.out HB2.out HX2.out (Nat.le_refl _))
    case rest =>
     obtain ⟨k6,p1,k1,p2,k2,p3,k3,p4,k4,rfl,hm⟩:=hcut.out;have HM:=Hq hm;clear hm hcut;have HKc:Hid (wc.heap[w.heap.size]? = some (.cells #[.slice ag t.st.gens.length cg,.slice au t.st.used.length cu,.slice af t.st.free.length cf,.slice (some ⟨ka,0,none⟩) L.length cr,.slice agp t.pl.st.gens.length cgp,.slice aup t.pl.st.used.length cup,.slice afp t.pl.st.free.length cfp,.slice acp t.pl.ch.length ccp] 36 (0,0))):=Hq ((HM.out.2.2.2.block _ (lt_of_block HKw.out)).trans HKw.out);have HRc:Hid (wc.heap[w.heap.size+1]? = some (.cells zT8 36 (0,0))):=Hq ((HM.out.2.2.2.block _ (lt_of_block HRw.out)).trans HRw.out);have HTc:=Hq (HTw.out.below HM.out.2.2.2);have hp1:=HT.out.ok.gens;have hp2:=HT.out.ok.used;have hp4:=HT.out.ok.free_le;have HCs:Hid (∀ X,Below wc.heap.size wc X->Calls Tryz.prog 43 #[.agg #[.slice ag t.st.gens.length cg,.slice au t.st.used.length cu,.slice af t.st.free.length cf]] X (V.GivesSt t.st X)):=Hq (fun X hb=>V.zd7 _ _ _ t.st b X (HTc.out.below hb).ar (by omega) (by omega) (by omega));clear hp1 hp2 hp4;have HJ:Hid (∀ X,Below wc.heap.size wc X->J7 w.heap.size k6 (.slice ag t.st.gens.length cg) (.slice au t.st.used.length cu) (.slice af t.st.free.length cf) (.slice p1 t.pl.st.gens.length k1) (.slice p2 t.pl.st.used.length k2) (.slice p3 t.pl.st.free.length k3) (.slice p4 t.pl.ch.length k4) X):=Hq (fun X hb=>by
      obtain ⟨a0,a1,a2,-⟩:=block8 ((hb.block _ (lt_of_block HKc.out)).trans HKc.out);exact ⟨a0,a1,a2,block4c ((hb.block _ (lt_of_block HM.out.1)).trans HM.out.1)⟩)
     have HX:Hid (∀ X,Below wc.heap.size wc X->X.heap[w.heap.size+1]? = some (.cells #[.slice none 0 0,.slice none 0 0,.slice none 0 0,.slice none 0 0,.slice none 0 0,.slice none 0 0,.slice none 0 0,.slice none 0 0] 36 (0,0))):=Hq (fun X hb=>(hb.block _ (lt_of_block HRc.out)).trans HRc.out);have HD:Hid (∀ X,Below wc.heap.size wc X->X.cell? ⟨w.heap.size+1,0,none⟩=some (.slice none 0 0)/\X.cell? ⟨w.heap.size+1,1,none⟩=some (.slice none 0 0)/\X.cell? ⟨w.heap.size+1,2,none⟩=some (.slice none 0 0)/\X.cell? ⟨w.heap.size+1,3,none⟩=some (.slice none 0 0)/\X.cell? ⟨w.heap.size+1,4,none⟩=some (.slice none 0 0)/\X.cell? ⟨w.heap.size+1,5,none⟩=some (.slice none 0 0)/\X.cell? ⟨w.heap.size+1,6,none⟩=some (.slice none 0 0)/\X.cell? ⟨w.heap.size+1,7,none⟩=some (.slice none 0 0) /\
      X.frozen? ⟨w.heap.size+1,0,none⟩=false/\X.frozen? ⟨w.heap.size+1,1,none⟩=false/\X.frozen? ⟨w.heap.size+1,2,none⟩=false/\X.frozen? ⟨w.heap.size+1,3,none⟩=false/\X.frozen? ⟨w.heap.size+1,4,none⟩=false/\X.frozen? ⟨w.heap.size+1,5,none⟩=false/\X.frozen? ⟨w.heap.size+1,6,none⟩=false/\X.frozen? ⟨w.heap.size+1,7,none⟩=false):=Hq (fun X hb=>by
      obtain ⟨d0,d1,d2,d3,d4,d5,d6,d7⟩:=block8 (HX.out X hb);exact ⟨d0,d1,d2,d3,d4,d5,d6,d7,za (HX.out X hb) 0,za (HX.out X hb) 1,za (HX.out X hb) 2,za (HX.out X hb) 3,za (HX.out X hb) 4,za (HX.out X hb) 5,za (HX.out X hb) 6,za (HX.out X hb) 7⟩)
     have hnw:w.heap.size+1≠w.heap.size:=by omega
     have hne:w.heap.size+1≠k6:=by have:=HM.out.2.1;have:=lt_of_block HRw.out;omega
     have HG:Hid (∀ (X:World) (a1 a2 a3:Value),Below wc.heap.size wc X->V.Ar X wc.heap.size a1 a2 a3 t.st->TA X w.heap.size a1 a2 a3 (.slice (some ⟨g1,0,none⟩) L.length c1) (.slice p1 t.pl.st.gens.length k1) (.slice p2 t.pl.st.used.length k2) (.slice p3 t.pl.st.free.length k3) (.slice p4 t.pl.ch.length k4) L' t/\X.heap[w.heap.size+1]? = some (.cells #[.slice none 0 0,.slice none 0 0,.slice none 0 0,.slice none 0 0,.slice none 0 0,.slice none 0 0,.slice none 0 0,.slice none 0 0] 36 (0,0))/\Below w.heap.size w X):=Hq (fun X a1 a2 a3 hb ha=>by
      have hm:=HM.out;have s1:=hm.2.2.2.size;have s2:=HBw.out.size;have hcx:=(HC.out.below hm.2.2.2).below hb;refine ⟨⟨ha.drop (by omega),(hm.2.2.1.below hb).drop (by omega),?_,hcx.like,fun x hx=>?_⟩,HX.out X hb,HBw.out.trans ((hm.2.2.2.mono s2).trans (hb.mono (by omega)))⟩
      · have:=zq hcx.row (show w.heap.size<=W.heap.size by omega);rw [hcx.len];exact this
      · obtain ⟨j,hj,rfl⟩:=List.getElem_of_mem hx;exact zq (hcx.att j _ (List.getElem?_eq_getElem hj) (by rw [<- hcx.len];exact hj)) (show w.heap.size<=W.heap.size by omega))
     generalize hkr:w.heap.size+1=kr at *;have HKR:Hid (w.heap.size+1=kr):=Hq hkr;clear hkr HX HKc HRc HTc HKw HRw HTw HBw HM HCp HCc HCV HC HL HB hbs hk hlt HK1 HC0 HB1 HW hsW hg1 hg2 HT HZ HH hkl hn0 hs;go_upto_region 8 with fail
     obtain ⟨x0,x1,x2,y0,y1,y2,y3⟩:=HJ.out wc (Below.refl _ _);have HJ1:=Hq (HJ.out wc (Below.refl _ _));have HJ2:=Hq (HJ.out wc.drew (Below.refl _ _).drew)
     go_region_held3 (fun X=>X.cell? ⟨w.heap.size,0,none⟩=some (.slice ag t.st.gens.length cg)/\X.cell? ⟨w.heap.size,1,none⟩=some (.slice au t.st.used.length cu)/\X.cell? ⟨w.heap.size,2,none⟩=some (.slice af t.st.free.length cf)/\X.cell? ⟨k6,0,none⟩=some (.slice p1 t.pl.st.gens.length k1)/\X.cell? ⟨k6,1,none⟩=some (.slice p2 t.pl.st.used.length k2)/\X.cell? ⟨k6,2,none⟩=some (.slice p3 t.pl.st.free.length k3)/\X.cell? ⟨k6,3,none⟩=some (.slice p4 t.pl.ch.length k4))
      (first
        | with_reducible exact HJ4.out
        | with_reducible exact HJ3.out
        | with_reducible exact HJ1.out
        | with_reducible exact HJ2.out)
      (first
        | (go_at_call 43
           with_reducible refine (HCs.out _ (Below.refl _ _).drew).mono ?_
           rintro e v3 ⟨a1,a2,a3,rfl,har,hb⟩;obtain ⟨l1,m1,l2,m2,l3,m3,rfl,rfl,rfl⟩:=har.form;have HB3:Hid (Below wc.heap.size wc v3):=Hq ((show Below wc.heap.size wc wc.drew from (Below.refl _ _).drew).trans (hb.mono (Nat.le_refl _)));have HA3:=Hq har;obtain ⟨d0,d1,d2,d3,d4,d5,d6,d7,f0,f1,f2,f3,f4,f5,f6,f7⟩:=HD.out v3 HB3.out;have HJ3:=Hq (HJ.out v3 HB3.out);have HJ4:=Hq (zvf HJ3.out hnw hne (.slice l1 t.st.gens.length m1) (.slice l2 t.st.used.length m2) (.slice l3 t.st.free.length m3) (.slice (some ⟨g1,0,none⟩) L.length c1) (.slice p1 t.pl.st.gens.length k1) (.slice p2 t.pl.st.used.length k2) (.slice p3 t.pl.st.free.length k3) (.slice p4 t.pl.ch.length k4));clear har hb))
     go_wp2;have hg:=HG.out v3 _ _ _ HB3.out HA3.out;have h8:=TA.set8 hg.1 hg.2.1 (show w.heap.size<=kr by have:=HKR.out;omega) (.slice l1 t.st.gens.length m1) (.slice l2 t.st.used.length m2) (.slice l3 t.st.free.length m3) (.slice (some ⟨g1,0,none⟩) L.length c1) (.slice p1 t.pl.st.gens.length k1) (.slice p2 t.pl.st.used.length k2) (.slice p3 t.pl.st.free.length k3) (.slice p4 t.pl.ch.length k4);have H8:=Hq h8;have HB8:=Hq hg.2.2;clear hg h8;obtain ⟨Z,hZ⟩:∃ Z,Z=set8 v3 kr (.slice l1 t.st.gens.length m1) (.slice l2 t.st.used.length m2) (.slice l3 t.st.free.length m3) (.slice (some ⟨g1,0,none⟩) L.length c1) (.slice p1 t.pl.st.gens.length k1) (.slice p2 t.pl.st.used.length k2) (.slice p3 t.pl.st.free.length k3) (.slice p4 t.pl.ch.length k4):=⟨_,rfl⟩;rw [<- hZ] at H8;show bodyPost _ _ _ _ _ (set8 v3 kr (.slice l1 t.st.gens.length m1) (.slice l2 t.st.used.length m2) (.slice l3 t.st.free.length m3) (.slice (some ⟨g1,0,none⟩) L.length c1) (.slice p1 t.pl.st.gens.length k1) (.slice p2 t.pl.st.used.length k2) (.slice p3 t.pl.st.free.length k3) (.slice p4 t.pl.ch.length k4));rw [<- hZ];clear hZ d0 d1 d2 d3 d4 d5 d6 d7 f0 f1 f2 f3 f4 f5 f6 f7;obtain ⟨d0,d1,d2,d3,d4,d5,d6,d7⟩:=block8 H8.out.2.1;refine bodyPost_ret (v:=tval (.slice l1 t.st.gens.length m1) (.slice l2 t.st.used.length m2) (.slice l3 t.st.free.length m3) (.slice (some ⟨g1,0,none⟩) L.length c1) (.slice p1 t.pl.st.gens.length k1) (.slice p2 t.pl.st.used.length k2) (.slice p3 t.pl.st.free.length k3) (.slice p4 t.pl.ch.length k4)) (by simp [results,Tryz.results18,go_sem,d0,d1,d2,d3,d4,d5,d6,d7]) rfl ⟨_,_,_,_,_,_,_,_,L',rfl,H8.out.1,H8.out.2.2 w HB8.out⟩
def KeepT (X X':World):Prop:=∀ (k:Nat) (cs:Array Value) (t:TypeId),(t=80\/t=36\/t=41)->X.heap[k]? = some (.cells cs t (0,0))->X'.heap[k]? = X.heap[k]?
theorem zaf {X Y:World} {k:Nat} (h:X.heap[k]? = Y.heap[k]?) (j:Nat):X.cell? ⟨k,j,none⟩=Y.cell? ⟨k,j,none⟩:=by
 unfold World.cell?;rw [h]
theorem hnew1 (w:World) (o o':Obj):((w.alloc o).alloc o').heap[w.heap.size+1]? = some o':=(show (w.alloc o).heap.size=w.heap.size+1 by simp) ▸ hnew _ _
theorem hnew0 (w:World) (o o':Obj):((w.alloc o).alloc o').heap[w.heap.size]? = some o:=by rw [hold _ _ (by simp)];exact hnew w _
theorem zso (g u f r pg pu pf pc:Value) (L:List Rm) (t:Tm) (b n m:Nat) (G root:Int) (size i:Nat) (w:World) (h:TA w b g u f r pg pu pf pc L t) (hT:TK n m G t) (h0:0<=root) (h1:root<=18446744073709551615) (hs:size<=256) (hi:i<size) {hd:Int} (hget:t.pl.get i (V.lvs size) root=some hd) (hh:0<=hd/\hd<=18446744073709551615) (hlv:t.st.lv hd=true) (cap:Array Value) (Q:Int->World->Prop)
 (hF:∀ (x:Rm) X,x∈L->x.k=t.rc hd->Below w.heap.size w X->Calls Tryz.prog 27 (#[.int .u64 hd,.agg (rmc x).toArray]++cap) X (fun e X'=>∃ y:Int,e = .returned (.int .i64 y)/\KeepT X X'/\Q y X')) :
 Calls Tryz.prog 55 #[tval g u f r pg pu pf pc,.agg #[.int .u64 root,.int .i64 size],.int .i64 i,.func (.func 27) #[] cap] w fun e w'=>∃ y:Int,e = .returned (.int .i64 y)/\Q y w':=by
 have hsz:=hT.ok.small;obtain ⟨ag,cg,au,cu,af,cf,ar,cr,agp,cgp,aup,cup,afp,cfp,acp,ccp,rfl,rfl,rfl,rfl,rfl,rfl,rfl,rfl⟩:=h.form;obtain ⟨W,hW⟩:∃ W,W=(w.alloc (.cells #[.slice ag t.st.gens.length cg,.slice au t.st.used.length cu,.slice af t.st.free.length cf,.slice ar L.length cr,.slice agp t.pl.st.gens.length cgp,.slice aup t.pl.st.used.length cup,.slice afp t.pl.st.free.length cfp,.slice acp t.pl.ch.length ccp] 36)).alloc (.cells #[.int .u64 root,.int .i64 size] 41):=⟨_,rfl⟩;have HH:=Hq h;have HT:=Hq hT;have HB:Hid (Below w.heap.size w W):=Hq (by rw [hW];exact (Bq _ _).alloc (by simp) _);have HK:Hid (W.heap[w.heap.size]? = some (.cells #[.slice ag t.st.gens.length cg,.slice au t.st.used.length cu,.slice af t.st.free.length cf,.slice ar L.length cr,.slice agp t.pl.st.gens.length cgp,.slice aup t.pl.st.used.length cup,.slice afp t.pl.st.free.length cfp,.slice acp t.pl.ch.length ccp] 36 (0,0))):=Hq (by rw [hW];exact hnew0 _ _ _);have HV:Hid (W.heap[w.heap.size+1]? = some (.cells #[.int .u64 root,.int .i64 size] 41 (0,0))):=Hq (by rw [hW];exact hnew1 _ _ _);have HWE:=Hq hW;clear hW h hT;have HTA:=Hq (HH.out.below HB.out);have HJ:Hid (∀ X,Below W.heap.size W X->X.cell? ⟨w.heap.size,0,none⟩=some (.slice ag t.st.gens.length cg)/\X.cell? ⟨w.heap.size,1,none⟩=some (.slice au t.st.used.length cu)/\X.cell? ⟨w.heap.size,2,none⟩=some (.slice af t.st.free.length cf)/\X.cell? ⟨w.heap.size,3,none⟩=some (.slice ar L.length cr)/\X.cell? ⟨w.heap.size,4,none⟩=some (.slice agp t.pl.st.gens.length cgp)/\X.cell? ⟨w.heap.size,5,none⟩=some (.slice aup t.pl.st.used.length cup)/\X.cell? ⟨w.heap.size,6,none⟩=some (.slice afp t.pl.st.free.length cfp)/\X.cell? ⟨w.heap.size,7,none⟩=some (.slice acp t.pl.ch.length ccp)):=Hq (fun X hb=>block8 ((hb.block _ (lt_of_block HK.out)).trans HK.out));have i0:(0:Int)<=(i:Int):=by omega
 have i1:¬ ((i:Int)<0):=by omega
 have i2:(i:Int)<(size:Int):=by omega
 have i3:¬ ((size:Int)<=(i:Int)):=by omega
 have HG:Hid (∀ X,Below W.heap.size W X->Calls Tryz.prog 112 #[.agg #[.slice agp t.pl.st.gens.length cgp,.slice aup t.pl.st.used.length cup,.slice afp t.pl.st.free.length cfp,.slice acp t.pl.ch.length ccp],.agg #[.int .u64 root,.int .i64 size],.int .i64 i] X (fun e X'=>e = .returned (.tuple #[.int .u64 hd,.int .i64 0])/\Below X.heap.size X X')):=Hq (fun X hb=>(V.zqo root size i _ _ _ _ t.pl b m G X (HTA.out.below hb).pa HT.out.pk h0 h1 hs hi).mono (by
  rintro e X' ⟨(⟨hn,rfl⟩|⟨x,hx,rfl⟩),hb'⟩
  · rw [hget] at hn;cases hn
  · rw [hget] at hx;cases hx;exact ⟨rfl,hb'⟩))
 have HL:Hid (∀ X,Below W.heap.size W X->Calls Tryz.prog 11 #[.agg #[.slice ag t.st.gens.length cg,.slice au t.st.used.length cu,.slice af t.st.free.length cf],.int .u64 hd] X (V.GivesV (.bool true) X)):=Hq (fun X hb=>by
  have:=V.liveO HT.out.ok (HTA.out.below hb).ar hh.1 hh.2;rw [hlv] at this;exact this)
 have HF:=Hq hF;clear hF;obtain ⟨q,hq,hqn,-,-⟩:=HT.out.ok.live hlv;have hqL:q<L.length:=by rw [<- List.length_map (f:=Rm.k),HH.out.like,HT.out.len];exact hqn
 have HQ:Hid (hd % 16777216=(q:Int)):=Hq (by omega);have HXk:Hid (L[q].k=t.rc hd):=Hq (by
  have e:V.ix hd=q:=by unfold V.ix;rw [HQ.out];simp
  rw [Tm.rc,e];exact (HH.out.rc hqL).symm)
 have HXm:Hid (L[q]∈L):=Hq (List.getElem_mem hqL);have hrow:=HTA.out.row
 rcases hrow.2 with ⟨-,hnil⟩|⟨ka,cap',cur,hrs,-,hka,-,-,-,-⟩
 · have e1:=hrow.1;rw [hnil] at e1;exact absurd e1 (by simp;omega)
 cases hrs;clear hrow;obtain ⟨c0,c1,c2,c3,c4,c5,c6⟩:=HTA.out.cells hqL;have HF2:=Hq (fun (X:World) (hb:Below w.heap.size w X)=>HF.out L[q] X HXm.out HXk.out hb);clear HXk HXm;generalize L[q]=x at *;have HS:Hid (∀ X:World,X.heap[w.heap.size]? = W.heap[w.heap.size]? -> X.heap[ka]? = W.heap[ka]? -> X.cell? ⟨w.heap.size,3,none⟩=some (.slice (some ⟨ka,0,none⟩) L.length cr)/\X.cell? ⟨ka,q*7,none⟩=some (.int .i64 x.k.kind)/\X.cell? ⟨ka,q*7+1,none⟩=some (.int .i64 x.k.par)/\X.cell? ⟨ka,q*7+2,none⟩=some (.string x.k.name)/\X.cell? ⟨ka,q*7+3,none⟩=some (.string x.k.text)/\X.cell? ⟨ka,q*7+4,none⟩=some (.slice x.aA x.k.attrs.length x.aC)/\X.cell? ⟨ka,q*7+5,none⟩=some (.int .u64 x.k.kids.root)/\X.cell? ⟨ka,q*7+6,none⟩=some (.int .i64 x.k.kids.size)):=Hq (fun X e1 e2=>by
  refine ⟨(zaf e1 3).trans (HJ.out W (Below.refl _ _)).2.2.2.1,?_⟩;rw [zaf e2,zaf e2,zaf e2,zaf e2,zaf e2,zaf e2,zaf e2];exact ⟨c0,c1,c2,c3,c4,c5,c6⟩)
 have HKA:=Hq hka;clear c0 c1 c2 c3 c4 c5 c6 hka hq hqn;go_enter Tryz.func55,Tryz.ntmps55;go_upto_region 1 with fail
 rw [<- HWE.out];clear HWE;obtain ⟨y0,y1⟩:=block2 HV.out;obtain ⟨x0,x1,x2,x3,x4,x5,x6,x7⟩:=HJ.out W (Below.refl _ _);go_upto_region 8 with (first|(go_at_call 112;refine (HG.out _ (Below.refl _ _)).mono ?_;rintro e w1 ⟨rfl,hb1⟩;have HB1:=Hq hb1;obtain ⟨x0',x1',x2',x3',x4',x5',x6',x7'⟩:=HJ.out w1 hb1;clear hb1)|(go_at_call 11;refine (HL.out _ HB1.out).mono ?_;rintro e w2 ⟨rfl,hb2⟩;have HB2:=Hq (HB1.out.trans (hb2.mono HB1.out.size));clear hb2))
 have hb1:w2.heap[w.heap.size]? = W.heap[w.heap.size]?:=HB2.out.block _ (lt_of_block HK.out);have hb2:w2.heap[ka]? = W.heap[ka]?:=HB2.out.block _ (lt_of_block HKA.out);have HE1:=Hq hb1;have HE2:=Hq hb2;clear hb1 hb2 y0 y1 x0 x1 x2 x3 x4 x5 x6 x7 x0' x1' x2' x3' x4' x5' x6' x7';obtain ⟨s0,s1,s2,s3,s4,s5,s6,s7⟩:=HS.out w2 HE1.out HE2.out;have HJ1:=Hq (HS.out w2 HE1.out HE2.out);have HJ2:=Hq (HS.out w2.drew HE1.out HE2.out);have q0:(0:Int)<=(q:Int):=by omega
 have q1:(q:Int)<(L.length:Int):=by omega
 have HBd:Hid (Below w.heap.size w w2.drew):=Hq (HB.out.trans ((HB2.out.mono HB.out.size).drew))
 go_region_held3 (fun X=>X.cell? ⟨w.heap.size,3,none⟩=some (.slice (some ⟨ka,0,none⟩) L.length cr)/\X.cell? ⟨ka,q*7,none⟩=some (.int .i64 x.k.kind)/\X.cell? ⟨ka,q*7+1,none⟩=some (.int .i64 x.k.par)/\X.cell? ⟨ka,q*7+2,none⟩=some (.string x.k.name)/\X.cell? ⟨ka,q*7+3,none⟩=some (.string x.k.text)/\X.cell? ⟨ka,q*7+4,none⟩=some (.slice x.aA x.k.attrs.length x.aC)/\X.cell? ⟨ka,q*7+5,none⟩=some (.int .u64 x.k.kids.root)/\X.cell? ⟨ka,q*7+6,none⟩=some (.int .i64 x.k.kids.size))
  (first
    | with_reducible exact HJ3.out
    | with_reducible exact HJ1.out
    | with_reducible exact HJ2.out)
  (first
    | (go_at_call 21
       refine (V.zap hd _ hh.1 hh.2).mono ?_;rw [HQ.out];rintro e w' ⟨rfl,rfl⟩)
    | (go_at_call 27
       refine (HF2.out _ HBd.out).mono ?_;rintro e w3 ⟨y,rfl,hkt,hqq⟩;have HQQ:=Hq hqq;have HJ3:=Hq (HS.out w3 ((hkt _ _ _ (.inr (.inl rfl)) (HE1.out.trans HK.out)).trans HE1.out) ((hkt _ _ _ (.inl rfl) (HE2.out.trans HKA.out)).trans HE2.out));clear hkt hqq))
 go_wp2;go_ret;exact ⟨_,rfl,HQQ.out⟩
theorem zqt (g u f r pg pu pf pc:Value) (L:List Rm) (t:Tm) (b n m:Nat) (G root:Int) (size i:Nat) (w:World) (h:TA w b g u f r pg pu pf pc L t) (hT:TK n m G t) (h0:0<=root) (h1:root<=18446744073709551615) (hs:size<=256) (hi:i<size) {hd:Int} (hget:t.pl.get i (V.lvs size) root=some hd) (hh:0<=hd/\hd<=18446744073709551615) (hlv:t.st.lv hd=true) (cap:Array Value) (Q:Int->World->Prop)
 (hF:∀ (x:Rm) X,x∈L->x.k=t.rc hd->Below w.heap.size w X->Calls Tryz.prog 25 (#[.int .u64 hd,.agg (rmc x).toArray]++cap) X (fun e X'=>∃ y:Int,e = .returned (.int .i64 y)/\KeepT X X'/\Q y X')) :
 Calls Tryz.prog 55 #[tval g u f r pg pu pf pc,.agg #[.int .u64 root,.int .i64 size],.int .i64 i,.func (.func 25) #[] cap] w fun e w'=>∃ y:Int,e = .returned (.int .i64 y)/\Q y w':=by
 have hsz:=hT.ok.small;obtain ⟨ag,cg,au,cu,af,cf,ar,cr,agp,cgp,aup,cup,afp,cfp,acp,ccp,rfl,rfl,rfl,rfl,rfl,rfl,rfl,rfl⟩:=h.form;obtain ⟨W,hW⟩:∃ W,W=(w.alloc (.cells #[.slice ag t.st.gens.length cg,.slice au t.st.used.length cu,.slice af t.st.free.length cf,.slice ar L.length cr,.slice agp t.pl.st.gens.length cgp,.slice aup t.pl.st.used.length cup,.slice afp t.pl.st.free.length cfp,.slice acp t.pl.ch.length ccp] 36)).alloc (.cells #[.int .u64 root,.int .i64 size] 41):=⟨_,rfl⟩;have HH:=Hq h;have HT:=Hq hT;have HB:Hid (Below w.heap.size w W):=Hq (by rw [hW];exact (Bq _ _).alloc (by simp) _);have HK:Hid (W.heap[w.heap.size]? = some (.cells #[.slice ag t.st.gens.length cg,.slice au t.st.used.length cu,.slice af t.st.free.length cf,.slice ar L.length cr,.slice agp t.pl.st.gens.length cgp,.slice aup t.pl.st.used.length cup,.slice afp t.pl.st.free.length cfp,.slice acp t.pl.ch.length ccp] 36 (0,0))):=Hq (by rw [hW];exact hnew0 _ _ _);have HV:Hid (W.heap[w.heap.size+1]? = some (.cells #[.int .u64 root,.int .i64 size] 41 (0,0))):=Hq (by rw [hW];exact hnew1 _ _ _);have HWE:=Hq hW;clear hW h hT;have HTA:=Hq (HH.out.below HB.out);have HJ:Hid (∀ X,Below W.heap.size W X->X.cell? ⟨w.heap.size,0,none⟩=some (.slice ag t.st.gens.length cg)/\X.cell? ⟨w.heap.size,1,none⟩=some (.slice au t.st.used.length cu)/\X.cell? ⟨w.heap.size,2,none⟩=some (.slice af t.st.free.length cf)/\X.cell? ⟨w.heap.size,3,none⟩=some (.slice ar L.length cr)/\X.cell? ⟨w.heap.size,4,none⟩=some (.slice agp t.pl.st.gens.length cgp)/\X.cell? ⟨w.heap.size,5,none⟩=some (.slice aup t.pl.st.used.length cup)/\X.cell? ⟨w.heap.size,6,none⟩=some (.slice afp t.pl.st.free.length cfp)/\X.cell? ⟨w.heap.size,7,none⟩=some (.slice acp t.pl.ch.length ccp)):=Hq (fun X hb=>block8 ((hb.block _ (lt_of_block HK.out)).trans HK.out));have i0:(0:Int)<=(i:Int):=by omega
 have i1:¬ ((i:Int)<0):=by omega
 have i2:(i:Int)<(size:Int):=by omega
 have i3:¬ ((size:Int)<=(i:Int)):=by omega
 have HG:Hid (∀ X,Below W.heap.size W X->Calls Tryz.prog 112 #[.agg #[.slice agp t.pl.st.gens.length cgp,.slice aup t.pl.st.used.length cup,.slice afp t.pl.st.free.length cfp,.slice acp t.pl.ch.length ccp],.agg #[.int .u64 root,.int .i64 size],.int .i64 i] X (fun e X'=>e = .returned (.tuple #[.int .u64 hd,.int .i64 0])/\Below X.heap.size X X')):=Hq (fun X hb=>(V.zqo root size i _ _ _ _ t.pl b m G X (HTA.out.below hb).pa HT.out.pk h0 h1 hs hi).mono (by
  rintro e X' ⟨(⟨hn,rfl⟩|⟨x,hx,rfl⟩),hb'⟩
  · rw [hget] at hn;cases hn
  · rw [hget] at hx;cases hx;exact ⟨rfl,hb'⟩))
 have HL:Hid (∀ X,Below W.heap.size W X->Calls Tryz.prog 11 #[.agg #[.slice ag t.st.gens.length cg,.slice au t.st.used.length cu,.slice af t.st.free.length cf],.int .u64 hd] X (V.GivesV (.bool true) X)):=Hq (fun X hb=>by
  have:=V.liveO HT.out.ok (HTA.out.below hb).ar hh.1 hh.2;rw [hlv] at this;exact this)
 have HF:=Hq hF;clear hF;obtain ⟨q,hq,hqn,-,-⟩:=HT.out.ok.live hlv;have hqL:q<L.length:=by rw [<- List.length_map (f:=Rm.k),HH.out.like,HT.out.len];exact hqn
 have HQ:Hid (hd % 16777216=(q:Int)):=Hq (by omega);have HXk:Hid (L[q].k=t.rc hd):=Hq (by
  have e:V.ix hd=q:=by unfold V.ix;rw [HQ.out];simp
  rw [Tm.rc,e];exact (HH.out.rc hqL).symm)
 have HXm:Hid (L[q]∈L):=Hq (List.getElem_mem hqL);have hrow:=HTA.out.row
 rcases hrow.2 with ⟨-,hnil⟩|⟨ka,cap',cur,hrs,-,hka,-,-,-,-⟩
 · have e1:=hrow.1;rw [hnil] at e1;exact absurd e1 (by simp;omega)
 cases hrs;clear hrow;obtain ⟨c0,c1,c2,c3,c4,c5,c6⟩:=HTA.out.cells hqL;have HF2:=Hq (fun (X:World) (hb:Below w.heap.size w X)=>HF.out L[q] X HXm.out HXk.out hb);clear HXk HXm;generalize L[q]=x at *;have HS:Hid (∀ X:World,X.heap[w.heap.size]? = W.heap[w.heap.size]? -> X.heap[ka]? = W.heap[ka]? -> X.cell? ⟨w.heap.size,3,none⟩=some (.slice (some ⟨ka,0,none⟩) L.length cr)/\X.cell? ⟨ka,q*7,none⟩=some (.int .i64 x.k.kind)/\X.cell? ⟨ka,q*7+1,none⟩=some (.int .i64 x.k.par)/\X.cell? ⟨ka,q*7+2,none⟩=some (.string x.k.name)/\X.cell? ⟨ka,q*7+3,none⟩=some (.string x.k.text)/\X.cell? ⟨ka,q*7+4,none⟩=some (.slice x.aA x.k.attrs.length x.aC)/\X.cell? ⟨ka,q*7+5,none⟩=some (.int .u64 x.k.kids.root)/\X.cell? ⟨ka,q*7+6,none⟩=some (.int .i64 x.k.kids.size)):=Hq (fun X e1 e2=>by
  refine ⟨(zaf e1 3).trans (HJ.out W (Below.refl _ _)).2.2.2.1,?_⟩;rw [zaf e2,zaf e2,zaf e2,zaf e2,zaf e2,zaf e2,zaf e2];exact ⟨c0,c1,c2,c3,c4,c5,c6⟩)
 have HKA:=Hq hka;clear c0 c1 c2 c3 c4 c5 c6 hka hq hqn;go_enter Tryz.func55,Tryz.ntmps55;go_upto_region 1 with fail
 rw [<- HWE.out];clear HWE;obtain ⟨y0,y1⟩:=block2 HV.out;obtain ⟨x0,x1,x2,x3,x4,x5,x6,x7⟩:=HJ.out W (Below.refl _ _);go_upto_region 8 with (first|(go_at_call 112;refine (HG.out _ (Below.refl _ _)).mono ?_;rintro e w1 ⟨rfl,hb1⟩;have HB1:=Hq hb1;obtain ⟨x0',x1',x2',x3',x4',x5',x6',x7'⟩:=HJ.out w1 hb1;clear hb1)|(go_at_call 11;refine (HL.out _ HB1.out).mono ?_;rintro e w2 ⟨rfl,hb2⟩;have HB2:=Hq (HB1.out.trans (hb2.mono HB1.out.size));clear hb2))
 have hb1:w2.heap[w.heap.size]? = W.heap[w.heap.size]?:=HB2.out.block _ (lt_of_block HK.out);have hb2:w2.heap[ka]? = W.heap[ka]?:=HB2.out.block _ (lt_of_block HKA.out);have HE1:=Hq hb1;have HE2:=Hq hb2;clear hb1 hb2 y0 y1 x0 x1 x2 x3 x4 x5 x6 x7 x0' x1' x2' x3' x4' x5' x6' x7';obtain ⟨s0,s1,s2,s3,s4,s5,s6,s7⟩:=HS.out w2 HE1.out HE2.out;have HJ1:=Hq (HS.out w2 HE1.out HE2.out);have HJ2:=Hq (HS.out w2.drew HE1.out HE2.out);have q0:(0:Int)<=(q:Int):=by omega
 have q1:(q:Int)<(L.length:Int):=by omega
 have HBd:Hid (Below w.heap.size w w2.drew):=Hq (HB.out.trans ((HB2.out.mono HB.out.size).drew))
 go_region_held3 (fun X=>X.cell? ⟨w.heap.size,3,none⟩=some (.slice (some ⟨ka,0,none⟩) L.length cr)/\X.cell? ⟨ka,q*7,none⟩=some (.int .i64 x.k.kind)/\X.cell? ⟨ka,q*7+1,none⟩=some (.int .i64 x.k.par)/\X.cell? ⟨ka,q*7+2,none⟩=some (.string x.k.name)/\X.cell? ⟨ka,q*7+3,none⟩=some (.string x.k.text)/\X.cell? ⟨ka,q*7+4,none⟩=some (.slice x.aA x.k.attrs.length x.aC)/\X.cell? ⟨ka,q*7+5,none⟩=some (.int .u64 x.k.kids.root)/\X.cell? ⟨ka,q*7+6,none⟩=some (.int .i64 x.k.kids.size))
  (first
    | with_reducible exact HJ3.out
    | with_reducible exact HJ1.out
    | with_reducible exact HJ2.out)
  (first
    | (go_at_call 21
       refine (V.zap hd _ hh.1 hh.2).mono ?_;rw [HQ.out];rintro e w' ⟨rfl,rfl⟩)
    | (go_at_call 25
       refine (HF2.out _ HBd.out).mono ?_;rintro e w3 ⟨y,rfl,hkt,hqq⟩;have HQQ:=Hq hqq;have HJ3:=Hq (HS.out w3 ((hkt _ _ _ (.inr (.inl rfl)) (HE1.out.trans HK.out)).trans HE1.out) ((hkt _ _ _ (.inl rfl) (HE2.out.trans HKA.out)).trans HE2.out));clear hkt hqq))
 go_wp2;go_ret;exact ⟨_,rfl,HQQ.out⟩
end Go.Proofs.YtdmecdjfbpblgaaGreatDoor
