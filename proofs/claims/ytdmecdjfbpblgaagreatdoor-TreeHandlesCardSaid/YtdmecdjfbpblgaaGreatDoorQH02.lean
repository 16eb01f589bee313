/-
  What 'turned' makes of an arena; the handle of a slot; whether a handle is live; those that are.
-/
import Derived.Test.YtdmecdjfbpblgaaGreatDoorQH01
namespace Go.Proofs.YtdmecdjfbpblgaaGreatDoor.V
set_option maxRecDepth 100000
set_option maxHeartbeats 32000000
open Go.ChangeShapes Go.WideShapes Go.ChangeAt Go.RowKit
set_option linter.unusedVariables false
theorem zmg (a b i:Nat) (vg vu vf:Value) (s:St) (b0:Nat) (w:World) (hA:Ar w b0 vg vu vf s) (ha:w.cell? ⟨a,0,none⟩=some (.int .i64 ((s.free.length:Int) - 1))) (hb:w.cell? ⟨b,0,none⟩=some (.int .i64 i))
 (hi:i<s.used.length) (hf0:0<s.free.length) (hg:s.gens.length<=1000) (hm:s.used.length<=1000) (hf:s.free.length<=1000) :
 Calls Tryz.prog 49 #[.agg #[vg,vu,vf],.func (.func 125) #[] #[.pointer (some ⟨a,0,none⟩),.pointer (some ⟨b,0,none⟩)]] w (GivesSt (s.tk i) w):=by
 obtain ⟨pg,cg,rfl,_,_,_⟩:=zh hA.g;obtain ⟨pu,cu,rfl,_,_,_⟩:=zh hA.u;obtain ⟨pf,cf,rfl,_,_,_⟩:=zh hA.f;have HA:=Lib.hid hA;have la:=World.block_lt_of_cell? w _ ha;have lb:=World.block_lt_of_cell? w _ hb;clear hA;go_enter Tryz.func49,Tryz.ntmps49;go_wp2_with fail;obtain ⟨W,hW⟩:∃ W,W=(w.alloc (.cells #[.slice pg s.gens.length cg,.slice pu s.used.length cu,.slice pf s.free.length cf] 30)).alloc (.cells #[.slice none 0 0,.slice none 0 0,.slice none 0 0] 30):=⟨_,rfl⟩;have HW:Hid (Below w.heap.size w W/\W.heap.size=w.heap.size+2/\W.heap[w.heap.size+1]? = some (.cells #[.slice none 0 0,.slice none 0 0,.slice none 0 0] 30 (0,0))):=Lib.hid (by
  subst hW;refine ⟨((Below.refl _ w).alloc (Nat.le_refl _) _).alloc (by simp) _,by simp,heap_alloc2_new _ _ _⟩)
 rw [<- hW];clear hW;refine (zfd _ _ _ s b0 W (HA.out.below HW.out.1) hg hm hf).mono ?_;rintro e w1 ⟨v1,v2,v3,rfl,hA1,hb1⟩;obtain ⟨p1,k1,rfl,_,_,_⟩:=zh hA1.g;obtain ⟨p2,k2,rfl,_,_,_⟩:=zh hA1.u;obtain ⟨p3,k3,rfl,_,_,_⟩:=zh hA1.f;have HA1:=Lib.hid hA1;have HB1:=Lib.hid hb1;have HS:=Lib.hid HW.out.2.1;have hs1:w.heap.size+2<=w1.heap.size:=by have:=hb1.size;have:=HS.out;omega
 clear hA1 hb1;go_wp2_with fail;obtain ⟨V,hV⟩:∃ V,V=w1.alloc (.cells #[.slice p1 s.gens.length k1,.slice p2 s.used.length k2,.slice p3 s.free.length k3] 30):=⟨_,rfl⟩;have HV:Hid (Below w1.heap.size w1 V/\V.heap[w1.heap.size]? = some (.cells #[.slice p1 s.gens.length k1,.slice p2 s.used.length k2,.slice p3 s.free.length k3] 30 (0,0))):=Lib.hid (by
  subst hV;exact ⟨(Below.refl _ w1).alloc (Nat.le_refl _) _,heap_alloc_new _ _⟩)
 rw [<- hV];clear hV;have HBV:Hid (Below w.heap.size w V):=Lib.hid ((HW.out.1.trans (HB1.out.mono (by have:=HS.out;omega))).trans (HV.out.1.mono (by omega)));have HT:Hid (V.heap[w.heap.size+1]? = some (.cells #[.slice none 0 0,.slice none 0 0,.slice none 0 0] 30 (0,0))):=Lib.hid (by
  rw [HV.out.1.block _ (by omega),HB1.out.block _ (by have:=HS.out;omega)];exact HW.out.2.2)
 refine (zsc w1.heap.size a b i (w.heap.size+2) _ _ _ s V HV.out.2 hs1 ((HA1.out.drop (by have:=HS.out;omega)).below HV.out.1) ((HBV.out.cell (p:=⟨a,0,none⟩) la).trans ha) ((HBV.out.cell (p:=⟨b,0,none⟩) lb).trans hb) (by omega) (by omega) hi hf0 hm).mono ?_;rintro e w2 ⟨rfl,v4,hk2,hA2,hb2⟩;obtain ⟨p4,k4,rfl,_,_,_⟩:=zh hA2.f;obtain ⟨c0,c1,c2,_,_,_⟩:=block3 hk2;have HT2:Hid (w2.heap[w.heap.size+1]? = some (.cells #[.slice none 0 0,.slice none 0 0,.slice none 0 0] 30 (0,0))):=Lib.hid ((hb2.block _ (by omega)).trans HT.out);obtain ⟨d0,d1,d2,y0,y1,y2⟩:=block3 HT2.out;have HA2:=Lib.hid hA2;have HB2:Hid (Below w.heap.size w w2):=Lib.hid (HBV.out.trans (hb2.mono (by omega)));clear hk2 hA2 hb2;go_wp2;refine bodyPost_ret (v:=.agg #[.slice p1 s.gens.length k1,.slice p2 s.used.length k2,.slice p4 (s.tk i).free.length k4]) (by simp [results,Tryz.results49,go_sem,d0,d1,d2]) rfl ⟨_,_,_,rfl,⟨?_,?_,?_⟩,?_⟩
 · exact zo (ownsRow_setCell_below (ownsRow_setCell_below (ownsRow_setCell_below HA2.out.g (by simp) _) (by simp) _) (by simp) _) (by omega)
 · exact zo (ownsRow_setCell_below (ownsRow_setCell_below (ownsRow_setCell_below HA2.out.u (by simp) _) (by simp) _) (by simp) _) (by omega)
 · exact zo (ownsRow_setCell_below (ownsRow_setCell_below (ownsRow_setCell_below HA2.out.f (by simp) _) (by simp) _) (by simp) _) (by omega)
 · exact ((HB2.out.setCell (by simp) _).setCell (by simp) _).setCell (by simp) _
theorem zmh (a i:Nat) (h:Int) (vg vu vf:Value) (s:St) (b0:Nat) (w:World) (hA:Ar w b0 vg vu vf s) (ha:w.cell? ⟨a,0,none⟩=some (.int .u64 h))
 (h0:0<=h) (h1:h<=18446744073709551615) (hhi:h % 16777216=i) (hi:i<s.gens.length) (hi2:i<s.used.length) (hg:s.gens.length<=1000) (hm:s.used.length<=1000) (hf:s.free.length<=1000) :
 Calls Tryz.prog 49 #[.agg #[vg,vu,vf],.func (.func 50) #[] #[.pointer (some ⟨a,0,none⟩)]] w (GivesSt (s.gb i ((h+16777216) % 18446744073709551616 / 16777216)) w):=by
 obtain ⟨pg,cg,rfl,_,_,_⟩:=zh hA.g;obtain ⟨pu,cu,rfl,_,_,_⟩:=zh hA.u;obtain ⟨pf,cf,rfl,_,_,_⟩:=zh hA.f;have HA:=Lib.hid hA;have la:=World.block_lt_of_cell? w _ ha;clear hA;go_enter Tryz.func49,Tryz.ntmps49;go_wp2_with fail;obtain ⟨W,hW⟩:∃ W,W=(w.alloc (.cells #[.slice pg s.gens.length cg,.slice pu s.used.length cu,.slice pf s.free.length cf] 30)).alloc (.cells #[.slice none 0 0,.slice none 0 0,.slice none 0 0] 30):=⟨_,rfl⟩;have HW:Hid (Below w.heap.size w W/\W.heap.size=w.heap.size+2/\W.heap[w.heap.size+1]? = some (.cells #[.slice none 0 0,.slice none 0 0,.slice none 0 0] 30 (0,0))):=Lib.hid (by
  subst hW;refine ⟨((Below.refl _ w).alloc (Nat.le_refl _) _).alloc (by simp) _,by simp,heap_alloc2_new _ _ _⟩)
 rw [<- hW];clear hW;refine (zfd _ _ _ s b0 W (HA.out.below HW.out.1) hg hm hf).mono ?_;rintro e w1 ⟨v1,v2,v3,rfl,hA1,hb1⟩;obtain ⟨p1,k1,rfl,_,_,_⟩:=zh hA1.g;obtain ⟨p2,k2,rfl,_,_,_⟩:=zh hA1.u;obtain ⟨p3,k3,rfl,_,_,_⟩:=zh hA1.f;have HA1:=Lib.hid hA1;have HB1:=Lib.hid hb1;have HS:=Lib.hid HW.out.2.1;have hs1:w.heap.size+2<=w1.heap.size:=by have:=hb1.size;have:=HS.out;omega
 clear hA1 hb1;go_wp2_with fail;obtain ⟨V,hV⟩:∃ V,V=w1.alloc (.cells #[.slice p1 s.gens.length k1,.slice p2 s.used.length k2,.slice p3 s.free.length k3] 30):=⟨_,rfl⟩;have HV:Hid (Below w1.heap.size w1 V/\V.heap[w1.heap.size]? = some (.cells #[.slice p1 s.gens.length k1,.slice p2 s.used.length k2,.slice p3 s.free.length k3] 30 (0,0))):=Lib.hid (by
  subst hV;exact ⟨(Below.refl _ w1).alloc (Nat.le_refl _) _,heap_alloc_new _ _⟩)
 rw [<- hV];clear hV;have HBV:Hid (Below w.heap.size w V):=Lib.hid ((HW.out.1.trans (HB1.out.mono (by have:=HS.out;omega))).trans (HV.out.1.mono (by omega)));have HT:Hid (V.heap[w.heap.size+1]? = some (.cells #[.slice none 0 0,.slice none 0 0,.slice none 0 0] 30 (0,0))):=Lib.hid (by
  rw [HV.out.1.block _ (by omega),HB1.out.block _ (by have:=HS.out;omega)];exact HW.out.2.2)
 refine (zsd w1.heap.size a i (w.heap.size+2) h _ _ _ s V HV.out.2 hs1 ((HA1.out.drop (by have:=HS.out;omega)).below HV.out.1) ((HBV.out.cell (p:=⟨a,0,none⟩) la).trans ha) (by omega) h0 h1 hhi hi hi2 hg hm hf).mono ?_;rintro e w2 ⟨rfl,v4,hk2,hA2,hb2⟩;obtain ⟨p4,k4,rfl,_,_,_⟩:=zh hA2.f;obtain ⟨c0,c1,c2,_,_,_⟩:=block3 hk2;have HT2:Hid (w2.heap[w.heap.size+1]? = some (.cells #[.slice none 0 0,.slice none 0 0,.slice none 0 0] 30 (0,0))):=Lib.hid ((hb2.block _ (by omega)).trans HT.out);obtain ⟨d0,d1,d2,y0,y1,y2⟩:=block3 HT2.out;have HA2:=Lib.hid hA2;have HB2:Hid (Below w.heap.size w w2):=Lib.hid (HBV.out.trans (hb2.mono (by omega)));clear hk2 hA2 hb2;go_wp2;refine bodyPost_ret (v:=.agg #[.slice p1 s.gens.length k1,.slice p2 s.used.length k2,.slice p4 (s.gb i ((h+16777216) % 18446744073709551616 / 16777216)).free.length k4]) (by simp [results,Tryz.results49,go_sem,d0,d1,d2]) rfl ⟨_,_,_,rfl,⟨?_,?_,?_⟩,?_⟩
 · exact zo (ownsRow_setCell_below (ownsRow_setCell_below (ownsRow_setCell_below HA2.out.g (by simp) _) (by simp) _) (by simp) _) (by omega)
 · exact zo (ownsRow_setCell_below (ownsRow_setCell_below (ownsRow_setCell_below HA2.out.u (by simp) _) (by simp) _) (by simp) _) (by omega)
 · exact zo (ownsRow_setCell_below (ownsRow_setCell_below (ownsRow_setCell_below HA2.out.f (by simp) _) (by simp) _) (by simp) _) (by omega)
 · exact ((HB2.out.setCell (by simp) _).setCell (by simp) _).setCell (by simp) _
def GivesV (v:Value) (w:World) (en:Ending) (w':World):Prop:=en = .returned v/\Below w.heap.size w w'
theorem zoe (i:Nat) (G:Int) (vg vu vf:Value) (s:St) (b0:Nat) (w:World) (hA:Ar w b0 vg vu vf s) (hi:i<s.gens.length) (hl:s.gens.length<=1000) (hG:s.gens.getD i 0=G) (g0:0<=G) (g1:G<=1099511627775) :
 Calls Tryz.prog 126 #[.agg #[vg,vu,vf],.int .i64 i] w (GivesV (.int .u64 (hd i G)) w):=by
 obtain ⟨pg,cg,rfl,_,_,_⟩:=zh hA.g;obtain ⟨pu,cu,rfl,_,_,_⟩:=zh hA.u;obtain ⟨pf,cf,rfl,_,_,_⟩:=zh hA.f;obtain ⟨gg,rfl,_,hgg⟩:=zag hA.g (by omega);have cg0:=zau hA.g hi;rw [hG] at cg0;have HA:=Lib.hid hA;have HG:=Lib.hid hG;clear hA hG;have i0:(0:Int)<=(i:Int):=by omega
 have i1:(i:Int)<(s.gens.length:Int):=by omega
 have ne:gg≠w.heap.size:=by omega
 go_enter Tryz.func126,Tryz.ntmps126;go_wp2_with fail;refine (of_in _ _ _ (by omega) (by omega) g0 g1).mono ?_;rintro e w' ⟨rfl,rfl⟩;go_wp2;go_ret;exact ⟨rfl,(Below.refl _ w).alloc (Nat.le_refl _) _⟩
theorem zu7 {s:St} {h:Int} (hi:s.used.length<=(h % 16777216).toNat):s.lv h=false:=by
 unfold St.lv;rw [List.getD,List.getElem?_eq_none hi];rfl
theorem zt3 {s:St} {h:Int} (hi:s.used.getD (h % 16777216).toNat false=false):s.lv h=false:=by
 unfold St.lv;rw [hi];rfl
theorem zt4 {s:St} {h:Int} (hi:s.used.getD (h % 16777216).toNat false=true):s.lv h=(s.gens.getD (h % 16777216).toNat 0 == h / 16777216):=by
 unfold St.lv;rw [hi];rfl
theorem zk1 (h:Int) (vg vu vf:Value) (s:St) (b0:Nat) (w:World) (hA:Ar w b0 vg vu vf s) (h0:0<=h) (h1:h<=18446744073709551615) (hl:s.gens.length<=1000) (hlu:s.used.length=s.gens.length) :
 Calls Tryz.prog 11 #[.agg #[vg,vu,vf],.int .u64 h] w (GivesV (.bool (s.lv h)) w):=by
 obtain ⟨i,hi⟩:∃ i:Nat,h % 16777216=i:=⟨(h % 16777216).toNat,by omega⟩;have hin:(h % 16777216).toNat=i:=by omega
 have hib:i<=16777215:=by omega
 obtain ⟨pg,cg,rfl,_,_,_⟩:=zh hA.g;obtain ⟨pu,cu,rfl,_,_,_⟩:=zh hA.u;obtain ⟨pf,cf,rfl,_,_,_⟩:=zh hA.f;have HA:=Lib.hid hA;clear hA;obtain ⟨W,hW⟩:∃ W,W=w.alloc (.cells #[.slice pg s.gens.length cg,.slice pu s.used.length cu,.slice pf s.free.length cf] 30):=⟨_,rfl⟩;have HW:Hid (Below w.heap.size w W/\W.heap[w.heap.size]? = some (.cells #[.slice pg s.gens.length cg,.slice pu s.used.length cu,.slice pf s.free.length cf] 30 (0,0))):=Lib.hid (by
  subst hW;exact ⟨(Below.refl _ w).alloc (Nat.le_refl _) _,heap_alloc_new w _⟩)
 obtain ⟨c0,c1,c2,_,_,_⟩:=block3 HW.out.2;have HAW:=Lib.hid (HA.out.below HW.out.1);have i0:(0:Int)<=(i:Int):=by omega
 have HL:=Lib.hid hlu;have HI:=Lib.hid hi;have HIN:=Lib.hid hin;have HWE:=Lib.hid hW;clear hlu hi hin hW
 by_cases hlt:i<s.gens.length
 · have i1:(i:Int)<(s.gens.length:Int):=by omega
   have i2:(i:Int)<(s.used.length:Int):=by have:=HL.out;omega
   obtain ⟨gg,rfl,_,hgg⟩:=zag HAW.out.g (by omega);obtain ⟨gu,rfl,_,hgu⟩:=zag HAW.out.u (by have:=HL.out;omega);have cg0:=zau HAW.out.g hlt;have cu0:=zeh HAW.out.u (show i<s.used.length by have:=HL.out;omega)
   rcases Bool.eq_false_or_eq_true (s.used.getD i false) with hu|hu
   · have hv:s.lv h=(s.gens.getD i 0 == h / 16777216):=by have:=zt4 (s:=s) (h:=h);rw [HIN.out] at this;exact this hu
     rw [hu] at cu0;rw [hv];have HV:=Lib.hid hv;have HU:=Lib.hid hu;clear hv hu;obtain ⟨G,hG⟩:∃ G,s.gens.getD i 0=G:=⟨_,rfl⟩;rw [hG] at cg0 ⊢;have HG:=Lib.hid hG;clear hG;go_enter Tryz.func11,Tryz.ntmps11;go_wp2_with fail;refine (zap h _ h0 h1).mono ?_;rw [HI.out];rintro e w' ⟨rfl,rfl⟩;go_wp2_with fail;rw [<- HWE.out]
     go_quiet ((go_at_call 26;exact still (zgt _ _ h0 h1)))
     go_wp2;go_ret;exact ⟨rfl,below_drewN HW.out.1 _⟩
   · have hv:s.lv h=false:=zt3 (by rw [HIN.out];exact hu);rw [hu] at cu0;rw [hv];clear hv hu;go_enter Tryz.func11,Tryz.ntmps11;go_wp2_with fail;refine (zap h _ h0 h1).mono ?_;rw [HI.out];rintro e w' ⟨rfl,rfl⟩;go_wp2_with fail;rw [<- HWE.out]
     go_quiet ((go_at_call 26;exact still (zgt _ _ h0 h1)))
     go_wp2;go_ret;exact ⟨rfl,below_drewN HW.out.1 _⟩
 · have hd:decide (i<s.gens.length)=false:=by simpa using hlt
   have hv:s.lv h=false:=zu7 (by rw [HIN.out,HL.out];omega);rw [hv];clear hv;go_enter Tryz.func11,Tryz.ntmps11;go_wp2_with fail;refine (zap h _ h0 h1).mono ?_;rw [HI.out];rintro e w' ⟨rfl,rfl⟩;go_wp2_with fail;rw [<- HWE.out]
   go_quiet ((go_at_call 26;exact still (zgt _ _ h0 h1)))
   go_wp2;go_ret;exact ⟨rfl,below_drewN HW.out.1 _⟩
def GivesT (s:St) (h e:Int) (w:World) (en:Ending) (w':World):Prop :=
 ∃ vg vu vf,en = .returned (.tuple #[.agg #[vg,vu,vf],.int .u64 h,.int .i64 e])/\Ar w' w.heap.size vg vu vf s/\Below w.heap.size w w'
def GivesE (s:St) (e:Int) (w:World) (en:Ending) (w':World):Prop :=
 ∃ vg vu vf,en = .returned (.tuple #[.agg #[vg,vu,vf],.int .i64 e])/\Ar w' w.heap.size vg vu vf s/\Below w.heap.size w w'
theorem Ar.set3 {w:World} {b k:Nat} {vg vu vf:Value} {s:St} (h:Ar w b vg vu vf s) (hk:k<b) (x y z:Value):Ar (((w.setCell ⟨k,0,none⟩ x).setCell ⟨k,1,none⟩ y).setCell ⟨k,2,none⟩ z) b vg vu vf s :=
 ⟨ownsRow_setCell_below (ownsRow_setCell_below (ownsRow_setCell_below h.g hk _) hk _) hk _,ownsRow_setCell_below (ownsRow_setCell_below (ownsRow_setCell_below h.u hk _) hk _) hk _,ownsRow_setCell_below (ownsRow_setCell_below (ownsRow_setCell_below h.f hk _) hk _) hk _⟩
theorem zbi {a w:World} {B k:Nat} (h:Below B a w) (hk:B<=k) (x y z:Value):Below B a (((w.setCell ⟨k,0,none⟩ x).setCell ⟨k,1,none⟩ y).setCell ⟨k,2,none⟩ z) :=
 ((h.setCell (p:=⟨k,0,none⟩) hk _).setCell (p:=⟨k,1,none⟩) hk _).setCell (p:=⟨k,2,none⟩) hk _
theorem zqc (vg vu vf:Value) (s:St) (b0:Nat) (w:World) (hA:Ar w b0 vg vu vf s) (hg:s.gens.length<=1000) (hu:s.used.length<=1000) (hf:s.free.length=0) :
 Calls Tryz.prog 71 #[.agg #[vg,vu,vf]] w (GivesT s 0 2 w):=by
 obtain ⟨pg,cg,rfl,_,_,_⟩:=zh hA.g;obtain ⟨pu,cu,rfl,_,_,_⟩:=zh hA.u;obtain ⟨pf,cf,rfl,_,_,_⟩:=zh hA.f;have HA:=Lib.hid hA;have HF:=Lib.hid hf;rw [hf];clear hA hf;go_enter Tryz.func71,Tryz.ntmps71;go_wp2_with fail;obtain ⟨W,hW⟩:∃ W,W=((w.alloc (.cells #[.slice pg s.gens.length cg,.slice pu s.used.length cu,.slice pf 0 cf] 30)).alloc (.cells #[.slice none 0 0,.slice none 0 0,.slice none 0 0] 30)).alloc (.cells #[.int .i64 (-1)] 3):=⟨_,rfl⟩;have HW:Hid (Below w.heap.size w W/\W.heap.size=w.heap.size+3/\W.heap[w.heap.size+1]? = some (.cells #[.slice none 0 0,.slice none 0 0,.slice none 0 0] 30 (0,0))):=Lib.hid (by
  subst hW;refine ⟨(((Below.refl _ w).alloc (Nat.le_refl _) _).alloc (by simp) _).alloc (by simp;omega) _,by simp,?_⟩;rw [heap_alloc_old _ _ (by simp)];exact heap_alloc2_new _ _ _)
 rw [<- hW];clear hW;have HS:=Lib.hid HW.out.2.1;have hA2:=HA.out.below HW.out.1;rw [HF.out] at hA2;refine (zfd _ _ _ s b0 W hA2 hg hu (by rw [HF.out];omega)).mono ?_;clear hA2;rintro e w1 ⟨v1,v2,v3,rfl,hA1,hb1⟩;obtain ⟨p1,k1,rfl,_,_,_⟩:=zh hA1.g;obtain ⟨p2,k2,rfl,_,_,_⟩:=zh hA1.u;obtain ⟨p3,k3,rfl,_,_,_⟩:=zh hA1.f;have HA1:=Lib.hid hA1;have HB1:=Lib.hid hb1;have HT:Hid (w1.heap[w.heap.size+1]? = some (.cells #[.slice none 0 0,.slice none 0 0,.slice none 0 0] 30 (0,0))):=Lib.hid ((hb1.block _ (by have:=HS.out;omega)).trans HW.out.2.2);obtain ⟨d0,d1,d2,y0,y1,y2⟩:=block3 HT.out;clear hA1 hb1;go_wp2;refine bodyPost_ret (v:=.tuple #[.agg #[.slice p1 s.gens.length k1,.slice p2 s.used.length k2,.slice p3 s.free.length k3],.int .u64 0,.int .i64 2]) (by simp [results,Tryz.results71,go_sem,d0,d1,d2]) rfl ⟨_,_,_,rfl,?_,?_⟩
 · exact (HA1.out.set3 (by have:=HS.out;omega) _ _ _).drop (by have:=HS.out;omega)
 · exact zbi (HW.out.1.trans (HB1.out.mono (by have:=HS.out;omega))) (by omega) _ _ _
theorem zt5 (i:Nat) (fr:List Int) (G:Int) (vg vu vf:Value) (s:St) (b0:Nat) (w:World) (hA:Ar w b0 vg vu vf s) (hg:s.gens.length<=1000) (hu:s.used.length<=1000) (hf:s.free.length<=1000)
 (hfr:s.free=fr++[(i:Int)]) (hi:i<s.gens.length) (hi2:i<s.used.length) (hG:s.gens.getD i 0=G) (g0:0<=G) (g1:G<=1099511627775) :
 Calls Tryz.prog 71 #[.agg #[vg,vu,vf]] w (GivesT (s.tk i) (hd i G) 0 w):=by
 obtain ⟨pg,cg,rfl,_,_,_⟩:=zh hA.g;obtain ⟨pu,cu,rfl,_,_,_⟩:=zh hA.u;obtain ⟨pf,cf,rfl,_,_,_⟩:=zh hA.f;have hfl:0<s.free.length:=by rw [hfr];simp
 obtain ⟨gf,rfl,_,hgf⟩:=zag hA.f hfl;have cf0:w.cell? ⟨gf,s.free.length - 1,none⟩=some (.int .i64 i):=by
  rw [zbw hA.f (by omega),hfr];simp [List.getD]
 have HA:=Lib.hid hA;have HFR:=Lib.hid hfr;have HG:=Lib.hid hG;clear hA hfr hG;obtain ⟨m,hm⟩:∃ m,s.free.length=m+1:=⟨s.free.length - 1,by omega⟩;rw [hm] at cf0 hf ⊢;have HM:=Lib.hid hm;clear hm hfl;rw [Nat.add_sub_cancel] at cf0;have m0:(0:Int)<=(m:Int):=by omega
 have m1:(m:Int)<((m+1:Nat):Int):=by omega
 go_enter Tryz.func71,Tryz.ntmps71;have cfW:∀ o1 o2 o3:Obj,(((w.alloc o1).alloc o2).alloc o3).cell? ⟨gf,m,none⟩=some (.int .i64 i):=fun o1 o2 o3=>by
  rw [World.cell?_alloc_lt _ _ _ (by simp;omega),World.cell?_alloc_lt _ _ _ (by simp;omega),World.cell?_alloc_lt _ _ _ hgf];exact cf0
 go_wp2_with fail;obtain ⟨W,hW⟩:∃ W,W=(((w.alloc (.cells #[.slice pg s.gens.length cg,.slice pu s.used.length cu,.slice (some ⟨gf,0,none⟩) (m+1) cf] 30)).alloc (.cells #[.slice none 0 0,.slice none 0 0,.slice none 0 0] 30)).alloc (.cells #[.int .i64 m] 3)).alloc (.cells #[.int .i64 i] 3):=⟨_,rfl⟩;have HW:Hid (Below w.heap.size w W/\W.heap.size=w.heap.size+4/\W.heap[w.heap.size+1]? = some (.cells #[.slice none 0 0,.slice none 0 0,.slice none 0 0] 30 (0,0)) /\
  W.cell? ⟨w.heap.size+1+1,0,none⟩=some (.int .i64 m)/\W.cell? ⟨w.heap.size+1+1+1,0,none⟩=some (.int .i64 i)):=Lib.hid (by
  subst hW;refine ⟨((((Below.refl _ w).alloc (Nat.le_refl _) _).alloc (by simp) _).alloc (by simp;omega) _).alloc (by simp;omega) _,by simp,?_,?_,?_⟩
  · rw [heap_alloc_old _ _ (by simp),heap_alloc_old _ _ (by simp)];exact heap_alloc2_new _ _ _
  · refine cell_of_one (t:=3) ?_;rw [heap_alloc_old _ _ (by simp)];exact (show ((w.alloc (.cells #[.slice pg s.gens.length cg,.slice pu s.used.length cu,.slice (some ⟨gf,0,none⟩) (m+1) cf] 30)).alloc (.cells #[.slice none 0 0,.slice none 0 0,.slice none 0 0] 30)).heap.size=w.heap.size+1+1 by simp) ▸ heap_alloc_new _ _
  · refine cell_of_one (t:=3) ?_;exact (show (((w.alloc (.cells #[.slice pg s.gens.length cg,.slice pu s.used.length cu,.slice (some ⟨gf,0,none⟩) (m+1) cf] 30)).alloc (.cells #[.slice none 0 0,.slice none 0 0,.slice none 0 0] 30)).alloc (.cells #[.int .i64 m] 3)).heap.size=w.heap.size+1+1+1 by simp) ▸ heap_alloc_new _ _)
 rw [<- hW];clear hW cfW;have HS:=Lib.hid HW.out.2.1;have hA2:=HA.out.below HW.out.1;rw [HM.out] at hA2;refine (zmg (w.heap.size+1+1) (w.heap.size+1+1+1) i _ _ _ s b0 W hA2 (by rw [HW.out.2.2.2.1,HM.out];congr 2;omega) HW.out.2.2.2.2 hi2 (by have:=HM.out;omega) hg hu (by have:=HM.out;omega)).mono ?_;clear hA2;rintro e w1 ⟨v1,v2,v3,rfl,hA1,hb1⟩;obtain ⟨p1,k1,rfl,_,_,_⟩:=zh hA1.g;obtain ⟨p2,k2,rfl,_,_,_⟩:=zh hA1.u;obtain ⟨p3,k3,rfl,_,_,_⟩:=zh hA1.f;have hs1:=hb1.size;have HA1:=Lib.hid hA1;have HB1:=Lib.hid hb1;have HT:Hid (w1.heap[w.heap.size+1]? = some (.cells #[.slice none 0 0,.slice none 0 0,.slice none 0 0] 30 (0,0))):=Lib.hid ((hb1.block _ (by have:=HS.out;omega)).trans HW.out.2.2.1);have HI1:Hid (w1.cell? ⟨w.heap.size+1+1+1,0,none⟩=some (.int .i64 i)):=Lib.hid ((hb1.cell (p:=⟨w.heap.size+1+1+1,0,none⟩) (by have:=HS.out;show w.heap.size+1+1+1<_;omega)).trans HW.out.2.2.2.2);clear hA1 hb1;go_wp2_with fail;obtain ⟨t,ht⟩:∃ t,s.tk i=t:=⟨_,rfl⟩;have htg:t.gens=s.gens:=by rw [<- ht];rfl
 rw [ht] at HA1 ⊢;have HTE:=Lib.hid ht;have HTG:=Lib.hid htg;clear ht htg;obtain ⟨V,hV⟩:∃ V,V=w1.alloc (.cells #[.slice p1 t.gens.length k1,.slice p2 t.used.length k2,.slice p3 t.free.length k3] 30):=⟨_,rfl⟩;have HV:Hid (Below w1.heap.size w1 V/\V.heap[w1.heap.size]? = some (.cells #[.slice p1 t.gens.length k1,.slice p2 t.used.length k2,.slice p3 t.free.length k3] 30 (0,0))/\V.heap.size=w1.heap.size+1):=Lib.hid (by
  subst hV;exact ⟨(Below.refl _ w1).alloc (Nat.le_refl _) _,heap_alloc_new _ _,by simp⟩)
 rw [<- hV];clear hV;have HAV:=Lib.hid (HA1.out.below HV.out.1);have HCV:Hid (∀ w',Below V.heap.size V w'->w'.cell? ⟨w1.heap.size,0,none⟩=some (.slice p1 t.gens.length k1)/\w'.cell? ⟨w1.heap.size,1,none⟩=some (.slice p2 t.used.length k2)/\w'.cell? ⟨w1.heap.size,2,none⟩=some (.slice p3 t.free.length k3)/\w'.cell? ⟨w.heap.size+1+1+1,0,none⟩=some (.int .i64 i)):=Lib.hid (fun w' hb=>by
  obtain ⟨c0,c1,c2,_⟩:=block3 HV.out.2.1;have hsz:=HV.out.2.2;have:=HS.out;exact ⟨(hb.cell (p:=⟨w1.heap.size,0,none⟩) (by show w1.heap.size<_;omega)).trans c0,(hb.cell (p:=⟨w1.heap.size,1,none⟩) (by show w1.heap.size<_;omega)).trans c1,(hb.cell (p:=⟨w1.heap.size,2,none⟩) (by show w1.heap.size<_;omega)).trans c2,
   (hb.cell (p:=⟨w.heap.size+1+1+1,0,none⟩) (by show w.heap.size+1+1+1<_;omega)).trans ((HV.out.1.cell (p:=⟨w.heap.size+1+1+1,0,none⟩) (by show w.heap.size+1+1+1<_;omega)).trans HI1.out)⟩)
 have HTV:Hid (V.heap[w.heap.size+1]? = some (.cells #[.slice none 0 0,.slice none 0 0,.slice none 0 0] 30 (0,0))):=Lib.hid ((HV.out.1.block _ (by have:=HS.out;omega)).trans HT.out);have HVS:=Lib.hid HV.out.2.2;have hne1:w.heap.size+1≠w1.heap.size:=by have:=HS.out;omega
 go_region_held3 (fun w'=>w'.cell? ⟨w1.heap.size,0,none⟩=some (.slice p1 t.gens.length k1)/\w'.cell? ⟨w1.heap.size,1,none⟩=some (.slice p2 t.used.length k2)/\w'.cell? ⟨w1.heap.size,2,none⟩=some (.slice p3 t.free.length k3)/\w'.cell? ⟨w.heap.size+1+1+1,0,none⟩=some (.int .i64 i))
  (first
    | exact HCV.out _ (Below.refl _ _).drew
    | exact HCV.out _ HB3.out
    | go_keep)
  (first
    | (go_at_call 126
       refine (zoe i G _ _ _ t W.heap.size _ HAV.out.drew (by rw [HTG.out];exact hi) (by rw [HTG.out];exact hg) (by rw [HTG.out];exact HG.out) g0 g1).mono ?_;rintro e w3 ⟨rfl,hb3⟩;have HB3:Hid (Below V.heap.size V w3):=Lib.hid ((Below.refl _ _).drew.trans hb3);have HT3:Hid (w3.heap[w.heap.size+1]? = some (.cells #[.slice none 0 0,.slice none 0 0,.slice none 0 0] 30 (0,0))):=Lib.hid ((HB3.out.block _ (by have:=HS.out;have:=HVS.out;omega)).trans HTV.out);obtain ⟨d0,d1,d2,y0,y1,y2⟩:=block3 HT3.out;clear hb3))
 go_wp2;refine bodyPost_ret (v:=.tuple #[.agg #[.slice p1 t.gens.length k1,.slice p2 t.used.length k2,.slice p3 t.free.length k3],.int .u64 (hd i G),.int .i64 0]) (by simp [results,Tryz.results71,go_sem,d0,d1,d2]) rfl ⟨_,_,_,rfl,?_,?_⟩
 · rw [HTE.out];exact ((HAV.out.below HB3.out).set3 (by have:=HS.out;omega) _ _ _).drop (by have:=HS.out;omega)
 · exact zbi (((HW.out.1.trans (HB1.out.mono (by have:=HS.out;omega))).trans (HV.out.1.mono (by have:=HS.out;omega))).trans (HB3.out.mono (by have:=HS.out;have:=HVS.out;omega))) (by omega) _ _ _
theorem zt6 (h:Int) (i:Nat) (vg vu vf:Value) (s:St) (b0:Nat) (w:World) (hA:Ar w b0 vg vu vf s) (hg:s.gens.length<=1000) (hf:s.free.length<=1000) (hlu:s.used.length=s.gens.length) (h0:0<=h) (h1:h<=18446744073709551615) (hlv:s.lv h=true) (hhi:h % 16777216=i) (hi:i<s.gens.length) :
 Calls Tryz.prog 20 #[.agg #[vg,vu,vf],.int .u64 h] w (GivesE (s.gb i ((h+16777216) % 18446744073709551616 / 16777216)) 0 w):=by
 obtain ⟨pg,cg,rfl,_,_,_⟩:=zh hA.g;obtain ⟨pu,cu,rfl,_,_,_⟩:=zh hA.u;obtain ⟨pf,cf,rfl,_,_,_⟩:=zh hA.f;have HA:=Lib.hid hA;have HL:=Lib.hid hlu;have HLV:=Lib.hid hlv;have hu:s.used.length<=1000:=by omega
 clear hA hlu hlv;have HHI:=Lib.hid hhi;clear hhi;go_enter Tryz.func20,Tryz.ntmps20;go_wp2_with fail;obtain ⟨W,hW⟩:∃ W,W=((w.alloc (.cells #[.slice pg s.gens.length cg,.slice pu s.used.length cu,.slice pf s.free.length cf] 30)).alloc (.cells #[.int .u64 h] 37)).alloc (.cells #[.slice none 0 0,.slice none 0 0,.slice none 0 0] 30):=⟨_,rfl⟩;have HW:Hid (Below w.heap.size w W/\W.heap.size=w.heap.size+3/\W.heap[w.heap.size]? = some (.cells #[.slice pg s.gens.length cg,.slice pu s.used.length cu,.slice pf s.free.length cf] 30 (0,0))/\W.heap[w.heap.size+1+1]? = some (.cells #[.slice none 0 0,.slice none 0 0,.slice none 0 0] 30 (0,0)) /\
  W.cell? ⟨w.heap.size+1,0,none⟩=some (.int .u64 h)):=Lib.hid (by
  subst hW;refine ⟨(((Below.refl _ w).alloc (Nat.le_refl _) _).alloc (by simp) _).alloc (by simp;omega) _,by simp,?_,?_,?_⟩
  · rw [heap_alloc_old _ _ (by simp;omega),heap_alloc_old _ _ (by simp)];exact heap_alloc_new _ _
  · exact (show ((w.alloc (.cells #[.slice pg s.gens.length cg,.slice pu s.used.length cu,.slice pf s.free.length cf] 30)).alloc (.cells #[.int .u64 h] 37)).heap.size=w.heap.size+1+1 by simp) ▸ heap_alloc_new _ _
  · refine cell_of_one (t:=37) ?_;rw [heap_alloc_old _ _ (by simp)];exact heap_alloc2_new _ _ _)
 rw [<- hW];clear hW;have HS:=Lib.hid HW.out.2.1;have HAW:=Lib.hid (HA.out.below HW.out.1);refine (zk1 h _ _ _ s b0 W HAW.out h0 h1 hg HL.out).mono ?_;rw [HLV.out];rintro e w1 ⟨rfl,hb1⟩;have HB1:=Lib.hid hb1;have hs1:=hb1.size;have HK1:Hid (w1.heap[w.heap.size]? = some (.cells #[.slice pg s.gens.length cg,.slice pu s.used.length cu,.slice pf s.free.length cf] 30 (0,0))):=Lib.hid ((hb1.block _ (by have:=HS.out;omega)).trans HW.out.2.2.1);have HT1:Hid (w1.heap[w.heap.size+1+1]? = some (.cells #[.slice none 0 0,.slice none 0 0,.slice none 0 0] 30 (0,0))):=Lib.hid ((hb1.block _ (by have:=HS.out;omega)).trans HW.out.2.2.2.1);have hc1:w1.cell? ⟨w.heap.size+1,0,none⟩=some (.int .u64 h):=(hb1.cell (p:=⟨w.heap.size+1,0,none⟩) (by have:=HS.out;show w.heap.size+1<_;omega)).trans HW.out.2.2.2.2;obtain ⟨c0,c1,c2,_,_,_⟩:=block3 HK1.out;have HA1:=Lib.hid (HAW.out.below hb1);clear hb1;go_wp2_with fail;refine (zmh (w.heap.size+1) i h _ _ _ s b0 w1 HA1.out hc1 h0 h1 HHI.out hi (by rw [HL.out];exact hi) hg hu hf).mono ?_;rintro e w2 ⟨v1,v2,v3,rfl,hA2,hb2⟩;obtain ⟨p1,k1,rfl,_,_,_⟩:=zh hA2.g;obtain ⟨p2,k2,rfl,_,_,_⟩:=zh hA2.u;obtain ⟨p3,k3,rfl,_,_,_⟩:=zh hA2.f;have HA2:=Lib.hid hA2;have HB2:=Lib.hid hb2;have hs2:=hb2.size;have HT2:Hid (w2.heap[w.heap.size+1+1]? = some (.cells #[.slice none 0 0,.slice none 0 0,.slice none 0 0] 30 (0,0))):=Lib.hid ((hb2.block _ (by have:=HS.out;omega)).trans HT1.out);obtain ⟨d0,d1,d2,y0,y1,y2⟩:=block3 HT2.out;clear hA2 hb2;obtain ⟨t,ht⟩:∃ t,s.gb i ((h+16777216) % 18446744073709551616 / 16777216)=t:=⟨_,rfl⟩;rw [ht] at HA2 ⊢;have HTE:=Lib.hid ht;clear ht;go_upto_region 4 with fail
 obtain ⟨V,hV⟩:∃ V,V=w2.alloc (.cells #[.slice p1 t.gens.length k1,.slice p2 t.used.length k2,.slice p3 t.free.length k3] 30):=⟨_,rfl⟩;have HV:Hid (Below w2.heap.size w2 V/\V.heap[w2.heap.size]? = some (.cells #[.slice p1 t.gens.length k1,.slice p2 t.used.length k2,.slice p3 t.free.length k3] 30 (0,0))):=Lib.hid (by
  subst hV;exact ⟨(Below.refl _ w2).alloc (Nat.le_refl _) _,heap_alloc_new _ _⟩)
 rw [<- hV];clear hV d0 d1 d2 y0 y1 y2;obtain ⟨x0,x1,x2,_,_,_⟩:=block3 HV.out.2;have HTV:Hid (V.heap[w.heap.size+1+1]? = some (.cells #[.slice none 0 0,.slice none 0 0,.slice none 0 0] 30 (0,0))):=Lib.hid ((HV.out.1.block _ (by have:=HS.out;omega)).trans HT2.out);obtain ⟨d0,d1,d2,y0,y1,y2⟩:=block3 HTV.out;go_wp2;refine bodyPost_ret (v:=.tuple #[.agg #[.slice p1 t.gens.length k1,.slice p2 t.used.length k2,.slice p3 t.free.length k3],.int .i64 0]) (by simp [results,Tryz.results20,go_sem,d0,d1,d2]) rfl ⟨_,_,_,rfl,?_,?_⟩
 · rw [HTE.out];exact ((HA2.out.below HV.out.1).set3 (by have:=HS.out;omega) _ _ _).drop (by have:=HS.out;omega)
 · exact zbi (((HW.out.1.trans (HB1.out.mono (by have:=HS.out;omega))).trans (HB2.out.mono (by have:=HS.out;omega))).trans (HV.out.1.mono (by have:=HS.out;omega))) (by omega) _ _ _
theorem zbr {w:World} {base g n:Nat} {e:TypeId} {z:Value} (h:w.heap[g]? = some (.cells (madeCells #[z] n) e (0,0))) (hb:base<=g) (hn:n<=1000):w.ownsRow base e 1 (.slice (some ⟨g,0,none⟩) n n) n (List.replicate n z):=by
 refine ⟨by simp,.inr ⟨g,n,_,rfl,hb,h,Nat.le_refl _,by unfold maxLen;omega,by rw [size_madeCells,Nat.mul_one],?_⟩⟩;rw [toList_madeCells_one,Nat.mul_one,List.take_of_length_le (by simp)]
theorem zep {w:World} {g g':Nat} {t t':TypeId} {cs cs':Array Value} (h:w.heap[g]? = some (.cells cs t (0,0))) (h':w.heap[g']? = some (.cells cs' t' (0,0))) (hne:t≠t'):g≠g':=by
 rintro rfl;rw [h] at h'
 injection h' with h'
 injection h' with _ ht
 exact hne ht
theorem heap4a (W:World) (a b c d:Obj):((((W.alloc a).alloc b).alloc c).alloc d).drew.heap[W.heap.size]? = some a:=by
 show ((((W.alloc a).alloc b).alloc c).alloc d).heap[W.heap.size]? = some a;rw [heap_alloc_old _ _ (by simp;omega),heap_alloc_old _ _ (by simp;omega),heap_alloc_old _ _ (by simp)];exact heap_alloc_new _ _
theorem heap4b (W:World) (a b c d:Obj):((((W.alloc a).alloc b).alloc c).alloc d).drew.heap[W.heap.size+1]? = some b:=by
 show ((((W.alloc a).alloc b).alloc c).alloc d).heap[W.heap.size+1]? = some b;rw [heap_alloc_old _ _ (by simp),heap_alloc_old _ _ (by simp)];exact heap_alloc2_new _ _ _
theorem heap4c (W:World) (a b c d:Obj):((((W.alloc a).alloc b).alloc c).alloc d).drew.heap[W.heap.size+1+1]? = some c:=by
 show ((((W.alloc a).alloc b).alloc c).alloc d).heap[W.heap.size+1+1]? = some c;rw [heap_alloc_old _ _ (by simp)];have:=heap_alloc2_new (W.alloc a) b c;rw [show (W.alloc a).heap.size=W.heap.size+1 by simp] at this;exact this
theorem heap4d (W:World) (a b c d:Obj):((((W.alloc a).alloc b).alloc c).alloc d).drew.heap[W.heap.size+1+1+1]? = some d:=by
 show ((((W.alloc a).alloc b).alloc c).alloc d).heap[W.heap.size+1+1+1]? = some d;have:=heap_alloc2_new ((W.alloc a).alloc b) c d;rw [show ((W.alloc a).alloc b).heap.size=W.heap.size+1+1 by simp] at this;exact this
theorem below4 (W:World) (B:Nat) (h:B<=W.heap.size) (a b c d:Obj):Below B W ((((W.alloc a).alloc b).alloc c).alloc d).drew :=
 (((((Below.refl _ W).alloc h _).alloc (by simp;omega) _).alloc (by simp;omega) _).alloc (by simp;omega) _).drew
def Made (n k g0 g1 g2:Nat) (B:Nat) (W wx:World):Prop :=
 wx.heap[k]? = some (.cells #[.slice (some ⟨g0,0,none⟩) n n,.slice (some ⟨g1,0,none⟩) n n,.slice (some ⟨g2,0,none⟩) n n] 30 (0,0))/\wx.heap[g0]? = some (.cells (madeCells #[.int .u64 0] n) 37 (0,0))/\wx.heap[g1]? = some (.cells (madeCells #[.bool false] n) 4 (0,0)) /\
 wx.heap[g2]? = some (.cells (madeCells #[.int .i64 0] n) 3 (0,0))/\Below B W wx/\B<=k/\B<=g0/\B<=g1/\B<=g2
theorem zqd (n:Nat) (w:World) (h:n<=500) :
 Calls Tryz.prog 14 #[.int .i64 n] w (GivesE (fresh n) 0 w):=by
 have mkG:=fun W:World=>run_make_row' (P:=Tryz.prog) 26 37 (.int .u64 0) 8 Tryz.underlying26 za4 rfl .i64 .i64 n (by omega) (by omega) W
 have mkU:=fun W:World=>run_make_row' (P:=Tryz.prog) 27 4 (.bool false) 1 Tryz.underlying27 zk0 rfl .i64 .i64 n (by omega) (by omega) W
 have mkF:=fun W:World=>run_make_row' (P:=Tryz.prog) 28 3 (.int .i64 0) 8 Tryz.underlying28 zic rfl .i64 .i64 n (by omega) (by omega) W
 go_enter Tryz.func14,Tryz.ntmps14;go_wp2_with fail;obtain ⟨W,hW⟩:∃ W,W=w.alloc (.cells #[.slice none 0 0,.slice none 0 0,.slice none 0 0] 30):=⟨_,rfl⟩;have HW:Hid (Below w.heap.size w W/\W.heap.size=w.heap.size+1/\W.heap[w.heap.size]? = some (.cells #[.slice none 0 0,.slice none 0 0,.slice none 0 0] 30 (0,0))):=Lib.hid (by
  subst hW;exact ⟨(Below.refl _ w).alloc (Nat.le_refl _) _,by simp,heap_alloc_new _ _⟩)
 rw [<- hW];clear hW;have HS:=Lib.hid HW.out.2.1
 go_cut [4] from 13 to 19 (fun p wx=>∃ k g0 g1 g2:Nat,p = .pointer (some ⟨k,0,none⟩)/\Hid (Made n k g0 g1 g2 W.heap.size W wx))
 case first =>
  go_region
  all_goals
   go_wp2;go_meet;refine ⟨_,?_,?_,?_,rfl,Lib.hid ⟨?_,?_,?_,?_,below4 W _ (Nat.le_refl _) _ _ _ _,?_,?_,?_,?_⟩⟩;rotate_left 3
   · first|exact heap4a W _ _ _ _|exact heap4b W _ _ _ _|exact heap4c W _ _ _ _|exact heap4d W _ _ _ _
   · first|exact heap4a W _ _ _ _|exact heap4b W _ _ _ _|exact heap4c W _ _ _ _|exact heap4d W _ _ _ _
   · first|exact heap4a W _ _ _ _|exact heap4b W _ _ _ _|exact heap4c W _ _ _ _|exact heap4d W _ _ _ _
   · first|exact heap4a W _ _ _ _|exact heap4b W _ _ _ _|exact heap4c W _ _ _ _|exact heap4d W _ _ _ _
   all_goals omega
 case rest =>
  obtain ⟨k,g0,g1,g2,rfl,HM⟩:=hcut;clear mkG mkU mkF;have hk0:k≠g0:=zep HM.out.1 HM.out.2.1 (by decide);have hk1:k≠g1:=zep HM.out.1 HM.out.2.2.1 (by decide);have hk2:k≠g2:=zep HM.out.1 HM.out.2.2.2.1 (by decide);have h01:g0≠g1:=zep HM.out.2.1 HM.out.2.2.1 (by decide);have h02:g0≠g2:=zep HM.out.2.1 HM.out.2.2.2.1 (by decide);have h12:g1≠g2:=zep HM.out.2.2.1 HM.out.2.2.2.1 (by decide);go_wp2
  go_loopw [21] (fun i wr=>∃ q:Nat,q<=n/\i = .int .i64 q/\Hid (wr.heap[k]? = some (.cells #[.slice (some ⟨g0,0,none⟩) n n,.slice (some ⟨g1,0,none⟩) n n,.slice (some ⟨g2,0,none⟩) n n] 30 (0,0))) /\
   Hid (wr.ownsRow W.heap.size 37 1 (.slice (some ⟨g0,0,none⟩) n n) n (gvs (upG n q)))/\Hid (wr.ownsRow W.heap.size 4 1 (.slice (some ⟨g1,0,none⟩) n n) n (bvs (List.replicate n false)))/\Hid (wr.ownsRow W.heap.size 3 1 (.slice (some ⟨g2,0,none⟩) n n) n (ivs (upF n q)))/\Hid (Below W.heap.size W wr)) (fun i _=>n - (intOf i).toNat)
  case atStart =>
   obtain ⟨m1,m2,m3,m4,m5,m6,m7,m8,m9⟩:=HM.out;refine ⟨0,Nat.zero_le _,rfl,Lib.hid m1,Lib.hid ?_,Lib.hid ?_,Lib.hid ?_,Lib.hid m5⟩
   · rw [zr7,gvs,List.map_replicate];exact zbr m2 m7 (by omega)
   · rw [bvs,List.map_replicate];exact zbr m3 m8 (by omega)
   · rw [zr8,ivs,List.map_replicate];exact zbr m4 m9 (by omega)
  case round =>
   obtain ⟨q,hq,rfl,HK,HG,HU,HF,HB⟩:=hrel;obtain ⟨c0,c1,c2,z0,z1,z2⟩:=block3 HK.out
   by_cases hlt:q<n
   · have q0:(0:Int)<=(q:Int):=by omega
     have q1:(q:Int)<(n:Int):=by omega
     obtain ⟨j,hj⟩:∃ j:Nat,n - 1 - q=j:=⟨_,rfl⟩;have hjz:(n:Int) - 1 - (q:Int)=(j:Int):=by omega
     have j0:(0:Int)<=(j:Int):=by omega
     have j1:(j:Int)<(n:Int):=by omega
     have cg:=zau HG.out hlt;have zg:=HG.out.frozenAt q;have cf:=zbw (i:=j) HF.out (by omega);have zf:=HF.out.frozenAt j;have HJ:=Lib.hid hj;clear hj;go_wp2;go_roundw
     case rel =>
      clear hjz;refine ⟨q+1,by omega,by go_num,Lib.hid ?_,Lib.hid ?_,Lib.hid ?_,Lib.hid ?_,Lib.hid ?_⟩
      · rw [zw _ _ _ (Ne.symm hk2),zw _ _ _ (Ne.symm hk0)];exact HK.out
      · rw [<- zr5 hlt,zeg];exact ownsRow_setCell_other (HG.out.stored q (.int .u64 1)).1 (by simpa [Value.ownBlock] using h02) _
      · exact ownsRow_setCell_other (ownsRow_setCell_other HU.out (by simpa [Value.ownBlock] using Ne.symm h01) _) (by simpa [Value.ownBlock] using h12) _
      · rw [<- zr6 hlt,HJ.out,ivs,List.map_set];exact ((ownsRow_setCell_other HF.out (a:=⟨g0,q,none⟩) (by simpa [Value.ownBlock] using Ne.symm h02) (.int .u64 1)).stored j (.int .i64 q)).1
      · exact (HB.out.setCell HM.out.2.2.2.2.2.2.1 _).setCell HM.out.2.2.2.2.2.2.2.2 _
     case measure => clear hjz;simp [intOf]<;>omega
   · obtain rfl:q=n:=by omega
     have HT:Hid (wr.heap[w.heap.size]? = some (.cells #[.slice none 0 0,.slice none 0 0,.slice none 0 0] 30 (0,0))):=Lib.hid ((HB.out.block _ (by have:=HS.out;omega)).trans HW.out.2.2);obtain ⟨d0,d1,d2,y0,y1,y2⟩:=block3 HT.out;go_wp2;refine bodyPost_ret (v:=.tuple #[.agg #[.slice (some ⟨g0,0,none⟩) q q,.slice (some ⟨g1,0,none⟩) q q,.slice (some ⟨g2,0,none⟩) q q],.int .i64 0]) (by simp [results,Tryz.results14,go_sem,d0,d1,d2]) rfl ⟨_,_,_,rfl,?_,?_⟩
     · refine (Ar.set3 (b:=W.heap.size) ⟨?_,?_,?_⟩ (by have:=HS.out;omega) _ _ _).drop (by have:=HS.out;omega)
       · have:=HG.out;rw [zt1] at this;simp only [fresh,List.length_replicate];exact this
       · simp only [fresh,List.length_replicate];exact HU.out
       · have:=HF.out;rw [zt2] at this;simp only [fresh,zbq];exact this
     · exact zbi (HW.out.1.trans (HB.out.mono (by have:=HS.out;omega))) (Nat.le_refl _) _ _ _
theorem zaa {α:Type} {l:List α} {k:Nat} (h:k<l.length):l.take (k+1)=l.take k++[l[k]]:=List.take_succ_eq_append_getElem h
theorem getD_at {α:Type} {l:List α} {k:Nat} (d:α) (h:k<l.length):l.getD k d=l[k]:=by rw [List.getD,List.getElem?_eq_getElem h];rfl
structure Ok (n:Nat) (G:Int) (s:St):Prop where
 gens:s.gens.length=n
 used:s.used.length=n
 small:n<=500
 bound:∀ g∈s.gens,1<=g/\g<=G
 room:∀ i∈s.free,0<=i/\i<n
 free:∀ i:Nat,(i:Int)∈s.free->s.used.getD i false=false
 once:s.free.Nodup
 all:∀ i:Nat,i<n->s.used.getD i false=false->(i:Int)∈s.free
 sum:s.used.count true+s.free.length=n
theorem zdq {i:Nat} {g:Int} (h:i<16777216):hd i g % 16777216=i:=by unfold hd;omega
theorem zu8 {i:Nat} {g:Int} (h:i<16777216):hd i g / 16777216=g:=by unfold hd;omega
theorem zad {α:Type} (l:List α) (i j:Nat) (x d:α):(l.set i x).getD j d=if i=j/\i<l.length then x else l.getD j d:=by
 rw [List.getD,List.getD,List.getElem?_set]
 split
 · rename_i h
   subst h
   split
   · rename_i h;simp [h]
   · rename_i h;simp [h]
 · rename_i h
   simp [h]
theorem zd1:∀ {k:Nat} {i:Int},i∈downs k ↔ 0<=i/\i<k
 | 0,i=>by simp only [downs,List.not_mem_nil,false_iff];omega
 | k+1,i=>by
   rw [downs,List.mem_cons,zd1];omega
theorem zg4:∀ k,(downs k).Nodup
 | 0=>List.nodup_nil
 | k+1=>by
   rw [downs,List.nodup_cons];exact ⟨fun h=>by have:=zd1.1 h;omega,zg4 k⟩
theorem zcu {α:Type} (n j:Nat) (x d:α):(List.replicate n x).getD j d=if j<n then x else d:=by
 rw [List.getD,List.getElem?_replicate]
 split<;>rfl
theorem zeq:∀ {l:List Bool} {i:Nat},i<l.length->l.getD i false=false->(l.set i true).count true=l.count true+1
 | [],i,h,_=>by simp at h
 | b::l,0,_,h=>by
   have:b=false:=by simpa using h
   subst this;simp
 | b::l,i+1,h,h'=>by
   have:=zeq (l:=l) (i:=i) (by simpa using h) (by simpa using h');rw [List.set_cons_succ,List.count_cons,List.count_cons,this];omega
theorem zd2:∀ {l:List Bool} {i:Nat},i<l.length->l.getD i false=true->(l.set i false).count true+1=l.count true
 | [],i,h,_=>by simp at h
 | b::l,0,_,h=>by
   have:b=true:=by simpa using h
   subst this;simp
 | b::l,i+1,h,h'=>by
   have:=zd2 (l:=l) (i:=i) (by simpa using h) (by simpa using h');rw [List.set_cons_succ,List.count_cons,List.count_cons,<- this];omega
theorem zk2 {n:Nat} (h:n<=500):Ok n 1 (fresh n):=by
 refine ⟨by simp [fresh],by simp [fresh],h,fun g hg=>?_,fun i hi=>zd1.1 hi,fun i _=>?_,zg4 n,fun i hi _=>zd1.2 (by omega),by simp [fresh,zbq,List.count_replicate]⟩
 · have:=List.eq_of_mem_replicate hg;omega
 · show (List.replicate n false).getD i false=false;rw [zcu];split<;>rfl
theorem Ok.mono {n:Nat} {G G':Int} {s:St} (h:Ok n G s) (hG:G<=G'):Ok n G' s :=
 ⟨h.gens,h.used,h.small,fun g hg=>⟨(h.bound g hg).1,Int.le_trans (h.bound g hg).2 hG⟩,h.room,h.free,h.once,h.all,h.sum⟩
theorem Ok.last {n:Nat} {G:Int} {s:St} (h:Ok n G s) (hf:s.free≠[]):∃ (fr:List Int) (i:Nat),s.free=fr++[(i:Int)]/\i<n:=by
 have hl:=(List.dropLast_concat_getLast hf).symm;have hm:=h.room _ (List.getLast_mem hf);refine ⟨s.free.dropLast,(s.free.getLast hf).toNat,?_,by omega⟩;rw [Int.toNat_of_nonneg hm.1];exact hl
theorem Ok.gen {n:Nat} {G:Int} {s:St} (h:Ok n G s) {i:Nat} (hi:i<n):1<=s.gens.getD i 0/\s.gens.getD i 0<=G:=by
 have hl:i<s.gens.length:=by rw [h.gens];exact hi
 rw [List.getD,List.getElem?_eq_getElem hl];exact h.bound _ (List.getElem_mem hl)
theorem Ok.tk {n:Nat} {G:Int} {s:St} (h:Ok n G s) {fr:List Int} {i:Nat} (hfr:s.free=fr++[(i:Int)]):Ok n G (s.tk i):=by
 have hi:(i:Int)∈s.free:=by rw [hfr];simp
 have hin:=h.room _ hi;have hdl:s.free.dropLast=fr:=by rw [hfr,List.dropLast_concat]
 have hnd:=h.once;rw [hfr,List.nodup_append] at hnd;refine ⟨h.gens,by simp [St.tk,h.used],h.small,h.bound,fun j hj=>?_,fun j hj=>?_,?_,fun j hj hu=>?_,?_⟩
 · have hj':j∈fr:=by simpa [St.tk,hdl] using hj
   exact h.room j (by rw [hfr];exact List.mem_append_left _ hj')
 · have hj':(j:Int)∈fr:=by simpa [St.tk,hdl] using hj
   show (s.used.set i true).getD j false=false;rw [zad,if_neg]
   · exact h.free j (by rw [hfr];exact List.mem_append_left _ hj')
   · rintro ⟨rfl,_⟩;exact hnd.2.2 _ hj' _ (by simp) rfl
 · show s.free.dropLast.Nodup;rw [hdl];exact hnd.1
 · have hu':(s.used.set i true).getD j false=false:=hu;show (j:Int)∈s.free.dropLast;rw [zad] at hu';have hne:i≠j:=by
    rintro rfl;rw [if_pos ⟨rfl,by rw [h.used];exact hj⟩] at hu';cases hu'
   rw [if_neg (fun hc=>hne hc.1)] at hu';have:=h.all j hj hu';rw [hfr,List.mem_append] at this;rw [hdl]
   rcases this with h'|h'
   · exact h'
   · have:(j:Int)=i:=by simpa using h'
     omega
 · show (s.used.set i true).count true+s.free.dropLast.length=n;have h1:=zeq (l:=s.used) (i:=i) (by rw [h.used];omega) (h.free i hi);have h2:=h.sum;rw [hdl,h1];rw [hfr,List.length_append] at h2;simp at h2;omega
theorem Ok.gb {n:Nat} {G G':Int} {s:St} (h:Ok n G s) {i:Nat} {g:Int} (hi:i<n) (hu:s.used.getD i false=true) (hg:1<=g) (hg':g<=G') (hG:G<=G'):Ok n G' (s.gb i g):=by
 have hni:(i:Int) ∉ s.free:=fun hm=>by rw [h.free i hm] at hu;cases hu
 refine ⟨by simp [St.gb,h.gens],by simp [St.gb,h.used],h.small,fun x hx=>?_,fun j hj=>?_,fun j hj=>?_,?_,fun j hj hu'=>?_,?_⟩
 · rcases List.mem_or_eq_of_mem_set hx with hx|rfl
   · exact ⟨(h.bound x hx).1,Int.le_trans (h.bound x hx).2 hG⟩
   · exact ⟨hg,hg'⟩
 · rcases List.mem_append.1 hj with hj|hj
   · exact h.room j hj
   · have:j=i:=by simpa using hj
     omega
 · show (s.used.set i false).getD j false=false;rw [zad]
   split
   · rfl
   · rcases List.mem_append.1 hj with hj|hj
     · exact h.free j hj
     · rename_i hc
       have:(j:Int)=i:=by simpa using hj
       exact absurd ⟨by omega,by rw [h.used];exact hi⟩ hc
 · show (s.free++[(i:Int)]).Nodup;rw [List.nodup_append];refine ⟨h.once,by simp,fun a ha b hb e=>?_⟩;have:b=i:=by simpa using hb
   subst this;subst e;exact hni ha
 · show (j:Int)∈s.free++[(i:Int)];have hu2:(s.used.set i false).getD j false=false:=hu';rw [zad] at hu2
   by_cases e:i=j
   · subst e;simp
   · rw [if_neg (fun hc=>e hc.1)] at hu2;exact List.mem_append_left _ (h.all j hj hu2)
 · show (s.used.set i false).count true+(s.free++[(i:Int)]).length=n;have h1:=zd2 (l:=s.used) (i:=i) (by rw [h.used];exact hi) hu;have h2:=h.sum;rw [List.length_append];simp;omega
theorem Ok.live {n:Nat} {G:Int} {s:St} (ho:Ok n G s) {h:Int} (hl:s.lv h=true):∃ i:Nat,h % 16777216=i/\i<n/\s.used.getD i false=true/\s.gens.getD i 0=h / 16777216:=by
 unfold St.lv at hl;rw [Bool.and_eq_true,beq_iff_eq] at hl;refine ⟨(h % 16777216).toNat,by omega,?_,hl.1,hl.2⟩
 rcases Nat.lt_or_ge (h % 16777216).toNat n with hlt|hge
 · exact hlt
 · rw [List.getD,List.getElem?_eq_none (by rw [ho.used];exact hge)] at hl;cases hl.1
theorem lv_of {s:St} {h:Int} {i:Nat} (hi:h % 16777216=i) (hu:s.used.getD i false=true) (hg:s.gens.getD i 0=h / 16777216):s.lv h=true:=by
 have:(h % 16777216).toNat=i:=by omega
 unfold St.lv;rw [this,hu,hg];simp
theorem lv_gb {s:St} {h:Int} {i:Nat} {g:Int} (hi:h % 16777216=i):(s.gb i g).lv h=false:=by
 have:(h % 16777216).toNat=i:=by omega
 unfold St.lv;rw [this];show ((s.used.set i false).getD i false && _)=false;rw [zad]
 split
 · rfl
 · rename_i hc
   rw [List.getD,List.getElem?_eq_none (by omega)];rfl
theorem zdk {s:St} {h h':Int} (hl:s.lv h=true) (hl':s.lv h'=true) (hi:h % 16777216=h' % 16777216):h=h':=by
 unfold St.lv at hl hl';rw [Bool.and_eq_true,beq_iff_eq] at hl hl';rw [hi] at hl;have:=hl.2.symm.trans hl'.2;omega
theorem zei {s:St} {h:Int} {i:Nat} {g:Int} (hi:h % 16777216≠i) (h0:0<=h % 16777216):(s.gb i g).lv h=s.lv h:=by
 have hne:i≠(h % 16777216).toNat:=by omega
 unfold St.lv;show ((s.used.set i false).getD _ false && ((s.gens.set i g).getD _ 0 == _))=_;rw [zad,zad,if_neg (fun hc=>hne hc.1),if_neg (fun hc=>hne hc.1)]
theorem zc2 {s:St} {h:Int} {i:Nat} (hl:s.lv h=true):(s.tk i).lv h=true:=by
 unfold St.lv at hl ⊢;rw [Bool.and_eq_true] at hl ⊢;refine ⟨?_,hl.2⟩;show (s.used.set i true).getD _ false=true;rw [zad]
 split
 · rfl
 · exact hl.1
theorem zd3 {s:St} {i:Nat} (hi:i<s.used.length) (hs:i<16777216):(s.tk i).lv (hd i (s.gens.getD i 0))=true:=by
 refine lv_of (zdq hs) ?_ (zu8 hs).symm;show (s.used.set i true).getD i false=true;rw [zad,if_pos ⟨rfl,hi⟩]
theorem Ok.free_le {n:Nat} {G:Int} {s:St} (h:Ok n G s):s.free.length<=n:=by have:=h.sum;omega
section
variable {n:Nat} {G:Int} {s:St} {vg vu vf:Value} {b:Nat} {w:World}
theorem takeN (ho:Ok n G s) (hA:Ar w b vg vu vf s) (hf:s.free=[]):Calls Tryz.prog 71 #[.agg #[vg,vu,vf]] w (GivesT s 0 2 w):=by
 have h1:=ho.gens;have h2:=ho.used;have h3:=ho.small;exact zqc vg vu vf s b w hA (by omega) (by omega) (by rw [hf];rfl)
theorem takeO (ho:Ok n G s) (hG:G<=1099511627775) (hA:Ar w b vg vu vf s) {fr:List Int} {i:Nat} (hfr:s.free=fr++[(i:Int)]) (hi:i<n):Calls Tryz.prog 71 #[.agg #[vg,vu,vf]] w (GivesT (s.tk i) (hd i (s.gens.getD i 0)) 0 w):=by
 have h1:=ho.gens;have h2:=ho.used;have h3:=ho.small;have h4:=ho.free_le;have h5:=ho.gen hi;exact zt5 i fr _ vg vu vf s b w hA (by omega) (by omega) (by omega) hfr (by omega) (by omega) rfl (by omega) (by omega)
theorem giveO {h:Int} {i:Nat} (ho:Ok n G s) (hG:G<=1099511627774) (hA:Ar w b vg vu vf s) (h0:0<=h) (h1:h<=18446744073709551615) (hl:s.lv h=true) (hi:h % 16777216=i):Calls Tryz.prog 20 #[.agg #[vg,vu,vf],.int .u64 h] w (GivesE (s.gb i (h / 16777216+1)) 0 w):=by
 have g1:=ho.gens;have g2:=ho.used;have g3:=ho.small;have g4:=ho.free_le;obtain ⟨i',hi',hin,hu,hg⟩:=ho.live hl;obtain rfl:i'=i:=by omega
 have g5:=ho.gen hin;have e:(h+16777216) % 18446744073709551616 / 16777216=h / 16777216+1:=by omega
 rw [<- e];exact zt6 h i' vg vu vf s b w hA (by omega) (by omega) (by omega) h0 h1 hl hi (by omega)
theorem liveO {h:Int} (ho:Ok n G s) (hA:Ar w b vg vu vf s) (h0:0<=h) (h1:h<=18446744073709551615):Calls Tryz.prog 11 #[.agg #[vg,vu,vf],.int .u64 h] w (GivesV (.bool (s.lv h)) w):=by
 have g1:=ho.gens;have g2:=ho.used;have g3:=ho.small;exact zk1 h vg vu vf s b w hA h0 h1 (by omega) (by omega)
end
structure Box (t:TypeId) (w:World) (k:Nat) (pg:Option Addr) (cg:Nat) (pu:Option Addr) (cu:Nat) (pf:Option Addr) (cf:Nat) (s:St):Prop where
 blk:w.heap[k]? = some (.cells #[.slice pg s.gens.length cg,.slice pu s.used.length cu,.slice pf s.free.length cf] t (0,0))
 ar:Ar w 0 (.slice pg s.gens.length cg) (.slice pu s.used.length cu) (.slice pf s.free.length cf) s
theorem Box.below {t:TypeId} {w w':World} {k:Nat} {pg:Option Addr} {cg:Nat} {pu:Option Addr} {cu:Nat} {pf:Option Addr} {cf:Nat} {s:St} (h:Box t w k pg cg pu cu pf cf s) (hb:Below w.heap.size w w'):Box t w' k pg cg pu cu pf cf s :=
 ⟨(hb.block k (lt_of_block h.blk)).trans h.blk,h.ar.below hb⟩
theorem Ar.form {w:World} {b:Nat} {vg vu vf:Value} {s:St} (h:Ar w b vg vu vf s):∃ pg cg pu cu pf cf,vg = .slice pg s.gens.length cg/\vu = .slice pu s.used.length cu/\vf = .slice pf s.free.length cf:=by
 obtain ⟨pg,cg,rfl,_⟩:=zh h.g;obtain ⟨pu,cu,rfl,_⟩:=zh h.u;obtain ⟨pf,cf,rfl,_⟩:=zh h.f;exact ⟨pg,cg,pu,cu,pf,cf,rfl,rfl,rfl⟩
theorem Box.new (t:TypeId) {w:World} {b:Nat} {pg:Option Addr} {cg:Nat} {pu:Option Addr} {cu:Nat} {pf:Option Addr} {cf:Nat} {s:St} (h:Ar w b (.slice pg s.gens.length cg) (.slice pu s.used.length cu) (.slice pf s.free.length cf) s) :
 Box t (w.alloc (.cells #[.slice pg s.gens.length cg,.slice pu s.used.length cu,.slice pf s.free.length cf] t)) w.heap.size pg cg pu cu pf cf s :=
 ⟨heap_alloc_new _ _,(h.drop (Nat.zero_le _)).below ((Below.refl _ w).alloc (Nat.le_refl _) _)⟩
theorem Ar.set3t {w:World} {b k:Nat} {vg vu vf:Value} {s:St} {t:TypeId} {cs:Array Value} (h:Ar w b vg vu vf s) (hk:w.heap[k]? = some (.cells cs t (0,0))) (hg:37≠t) (hu:4≠t) (hf:3≠t) (x y z:Value) :
 Ar (((w.setCell ⟨k,0,none⟩ x).setCell ⟨k,1,none⟩ y).setCell ⟨k,2,none⟩ z) b vg vu vf s :=
 ⟨ownsRow_setCell_other (ownsRow_setCell_other (ownsRow_setCell_other h.g (zi h.g hk hg) _) (zi h.g hk hg) _) (zi h.g hk hg) _,
  ownsRow_setCell_other (ownsRow_setCell_other (ownsRow_setCell_other h.u (zi h.u hk hu) _) (zi h.u hk hu) _) (zi h.u hk hu) _,
  ownsRow_setCell_other (ownsRow_setCell_other (ownsRow_setCell_other h.f (zi h.f hk hf) _) (zi h.f hk hf) _) (zi h.f hk hf) _⟩
theorem zc3 {w:World} {k:Nat} {a b c:Value} {t:TypeId} (h:w.heap[k]? = some (.cells #[a,b,c] t (0,0))) (x y z:Value):(((w.setCell ⟨k,0,none⟩ x).setCell ⟨k,1,none⟩ y).setCell ⟨k,2,none⟩ z).heap[k]? = some (.cells #[x,y,z] t (0,0)):=by
 simp [World.setCell,Array.getElem?_modify,h]
theorem Box.set {t:TypeId} {w:World} {k b:Nat} {a c d:Value} {pg:Option Addr} {cg:Nat} {pu:Option Addr} {cu:Nat} {pf:Option Addr} {cf:Nat} {s:St} (hk:w.heap[k]? = some (.cells #[a,c,d] t (0,0))) (h:Ar w b (.slice pg s.gens.length cg) (.slice pu s.used.length cu) (.slice pf s.free.length cf) s)
 (hg:37≠t) (hu:4≠t) (hf:3≠t) :
 Box t (((w.setCell ⟨k,0,none⟩ (.slice pg s.gens.length cg)).setCell ⟨k,1,none⟩ (.slice pu s.used.length cu)).setCell ⟨k,2,none⟩ (.slice pf s.free.length cf)) k pg cg pu cu pf cf s :=
 ⟨zc3 hk _ _ _,(h.set3t hk hg hu hf _ _ _).drop (Nat.zero_le _)⟩
end Go.Proofs.YtdmecdjfbpblgaaGreatDoor.V
