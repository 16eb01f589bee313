/-
  What is asked ahead of an operation.
-/
import Derived.Test.YtdmecdjfbpblgaaGreatDoorQG06
namespace Go.Proofs.YtdmecdjfbpblgaaGreatDoor
set_option maxRecDepth 100000
set_option maxHeartbeats 32000000
open Go.ChangeShapes Go.WideShapes Go.ChangeAt Go.RowKit
set_option linter.unusedVariables false
set_option linter.unusedSimpArgs false
theorem zi7 (A:Option Addr) (F:List Mn) (c:Nat) (x:Int) (w:World) (hn:F.length<=1000) :
 Calls Tryz.prog 137 #[.slice A F.length c,.int .i64 x] w fun e w'=>e = .returned (.bool (isB F x))/\w'=w:=by
 rw [isB];generalize F.length=n at *;go_enter Tryz.func137,Tryz.ntmps137
 by_cases h0:0<=x
 · go_wp2;go_ret;exact ⟨ze (by rw [decide_eq_decide];omega),rfl⟩
 · go_wp2;go_ret;exact ⟨ze (by simp;intro;omega),rfl⟩
theorem zl4 (A:Option Addr) (F:List Mn) (c:Nat) (o:Ops.Po) (w:World) (hs:o.name.size<=100000) :
 Calls Tryz.prog 82 #[.slice A F.length c,Ops.opv o] w (GivesV (.bool (nm o.name)) w):=by
 obtain ⟨kd,id,dst,ps,nm0,tx⟩:=o;unfold Ops.opv;simp only [] at *;obtain ⟨W,hW⟩:∃ W,W=w.alloc (.cells #[.int .i64 kd,.int .i64 id,.int .i64 dst,.int .i64 ps,.string nm0,.string tx] 59):=⟨_,rfl⟩;have HWb:Hid (Below w.heap.size w W):=Hq (by rw [hW];exact Bq _ _);have HWk:Hid (W.heap[w.heap.size]? = some (.cells #[.int .i64 kd,.int .i64 id,.int .i64 dst,.int .i64 ps,.string nm0,.string tx] 59 (0,0))):=Hq (by rw [hW];exact heap_alloc_new _ _);obtain ⟨x0,x1,x2,x3,x4,x5⟩:=block6 HWk.out;go_enter Tryz.func82,Tryz.ntmps82;go_upto_region 1 with fail
 rw [<- hW];clear hW;go_wp2_with fail;refine (zhb nm0 W hs).mono ?_;rintro e w' ⟨rfl,rfl⟩;go_wp2;go_ret;exact ⟨rfl,HWb.out⟩
theorem zl5 (A:Option Addr) (F:List Mn) (c:Nat) (o:Ops.Po) (w:World) (hs:o.text.size<=100000) :
 Calls Tryz.prog 84 #[.slice A F.length c,Ops.opv o] w (GivesV (.bool (decide (o.text.size<=60))) w):=by
 obtain ⟨kd,id,dst,ps,nm0,tx⟩:=o;unfold Ops.opv;simp only [] at *;obtain ⟨W,hW⟩:∃ W,W=w.alloc (.cells #[.int .i64 kd,.int .i64 id,.int .i64 dst,.int .i64 ps,.string nm0,.string tx] 59):=⟨_,rfl⟩;have HWb:Hid (Below w.heap.size w W):=Hq (by rw [hW];exact Bq _ _);have HWk:Hid (W.heap[w.heap.size]? = some (.cells #[.int .i64 kd,.int .i64 id,.int .i64 dst,.int .i64 ps,.string nm0,.string tx] 59 (0,0))):=Hq (by rw [hW];exact heap_alloc_new _ _);obtain ⟨x0,x1,x2,x3,x4,x5⟩:=block6 HWk.out;go_enter Tryz.func84,Tryz.ntmps84;go_upto_region 1 with fail
 rw [<- hW];clear hW;go_wp2_with fail;refine (zha tx W hs).mono ?_;rintro e w' ⟨rfl,rfl⟩;go_wp2;go_ret;exact ⟨rfl,HWb.out⟩
theorem zpq (A:Option Addr) (F:List Mn) (c:Nat) (o:Ops.Po) (w:World) (hn:F.length<=1000) :
 Calls Tryz.prog 83 #[.slice A F.length c,Ops.opv o] w (GivesV (.bool (decide (F.length<60))) w):=by
 obtain ⟨kd,id,dst,ps,nm0,tx⟩:=o;unfold Ops.opv;simp only [] at *;obtain ⟨W,hW⟩:∃ W,W=w.alloc (.cells #[.int .i64 kd,.int .i64 id,.int .i64 dst,.int .i64 ps,.string nm0,.string tx] 59):=⟨_,rfl⟩;have HWb:Hid (Below w.heap.size w W):=Hq (by rw [hW];exact Bq _ _);have HWk:Hid (W.heap[w.heap.size]? = some (.cells #[.int .i64 kd,.int .i64 id,.int .i64 dst,.int .i64 ps,.string nm0,.string tx] 59 (0,0))):=Hq (by rw [hW];exact heap_alloc_new _ _);obtain ⟨x0,x1,x2,x3,x4,x5⟩:=block6 HWk.out;go_enter Tryz.func83,Tryz.ntmps83;go_upto_region 1 with fail
 rw [<- hW];clear hW;generalize F.length=n at *;go_wp2;go_ret;exact ⟨ze (by rw [decide_eq_decide];omega),HWb.out⟩
theorem zns (A:Option Addr) (F:List Mn) (c:Nat) (o:Ops.Po) (w:World) (hn:F.length<=1000) :
 Calls Tryz.prog 86 #[.slice A F.length c,Ops.opv o] w (GivesV (.bool (isB F o.id)) w):=by
 obtain ⟨kd,id,dst,ps,nm0,tx⟩:=o;unfold Ops.opv;simp only [] at *;obtain ⟨W,hW⟩:∃ W,W=w.alloc (.cells #[.int .i64 kd,.int .i64 id,.int .i64 dst,.int .i64 ps,.string nm0,.string tx] 59):=⟨_,rfl⟩;have HWb:Hid (Below w.heap.size w W):=Hq (by rw [hW];exact Bq _ _);have HWk:Hid (W.heap[w.heap.size]? = some (.cells #[.int .i64 kd,.int .i64 id,.int .i64 dst,.int .i64 ps,.string nm0,.string tx] 59 (0,0))):=Hq (by rw [hW];exact heap_alloc_new _ _);obtain ⟨x0,x1,x2,x3,x4,x5⟩:=block6 HWk.out;go_enter Tryz.func86,Tryz.ntmps86;go_upto_region 1 with fail
 rw [<- hW];clear hW;go_wp2_with fail;refine (zi7 A F c id W hn).mono ?_;rintro e w' ⟨rfl,rfl⟩;go_wp2;go_ret;exact ⟨rfl,HWb.out⟩
theorem znt (A:Option Addr) (F:List Mn) (c:Nat) (o:Ops.Po) (w:World) (hn:F.length<=1000) :
 Calls Tryz.prog 87 #[.slice A F.length c,Ops.opv o] w (GivesV (.bool (isB F o.dst)) w):=by
 obtain ⟨kd,id,dst,ps,nm0,tx⟩:=o;unfold Ops.opv;simp only [] at *;obtain ⟨W,hW⟩:∃ W,W=w.alloc (.cells #[.int .i64 kd,.int .i64 id,.int .i64 dst,.int .i64 ps,.string nm0,.string tx] 59):=⟨_,rfl⟩;have HWb:Hid (Below w.heap.size w W):=Hq (by rw [hW];exact Bq _ _);have HWk:Hid (W.heap[w.heap.size]? = some (.cells #[.int .i64 kd,.int .i64 id,.int .i64 dst,.int .i64 ps,.string nm0,.string tx] 59 (0,0))):=Hq (by rw [hW];exact heap_alloc_new _ _);obtain ⟨x0,x1,x2,x3,x4,x5⟩:=block6 HWk.out;go_enter Tryz.func87,Tryz.ntmps87;go_upto_region 1 with fail
 rw [<- hW];clear hW;go_wp2_with fail;refine (zi7 A F c dst W hn).mono ?_;rintro e w' ⟨rfl,rfl⟩;go_wp2;go_ret;exact ⟨rfl,HWb.out⟩
theorem zl6 (A:Option Addr) (F:List Mn) (c:Nat) (o:Ops.Po) (w:World)  :
 Calls Tryz.prog 88 #[.slice A F.length c,Ops.opv o] w (GivesV (.bool (o.id != 0)) w):=by
 obtain ⟨kd,id,dst,ps,nm0,tx⟩:=o;unfold Ops.opv;simp only [] at *;obtain ⟨W,hW⟩:∃ W,W=w.alloc (.cells #[.int .i64 kd,.int .i64 id,.int .i64 dst,.int .i64 ps,.string nm0,.string tx] 59):=⟨_,rfl⟩;have HWb:Hid (Below w.heap.size w W):=Hq (by rw [hW];exact Bq _ _);have HWk:Hid (W.heap[w.heap.size]? = some (.cells #[.int .i64 kd,.int .i64 id,.int .i64 dst,.int .i64 ps,.string nm0,.string tx] 59 (0,0))):=Hq (by rw [hW];exact heap_alloc_new _ _);obtain ⟨x0,x1,x2,x3,x4,x5⟩:=block6 HWk.out;go_enter Tryz.func88,Tryz.ntmps88;go_upto_region 1 with fail
 rw [<- hW];clear hW;go_wp2;go_ret;exact ⟨rfl,HWb.out⟩
theorem zgy (A:Option Addr) (F:List Mn) (c:Nat) (o:Ops.Po) (w:World) (hF:FR w A F) (hn:F.length<=1000) (i:Nat) (hi:o.id=i) (hil:i<F.length) :
 Calls Tryz.prog 94 #[.slice A F.length c,Ops.opv o] w (GivesV (.bool (par F i != -1)) w):=by
 obtain ⟨kd,id,dst,ps,nm0,tx⟩:=o;unfold Ops.opv;simp only [] at *;obtain ⟨W,hW⟩:∃ W,W=w.alloc (.cells #[.int .i64 kd,.int .i64 id,.int .i64 dst,.int .i64 ps,.string nm0,.string tx] 59):=⟨_,rfl⟩;have HWb:Hid (Below w.heap.size w W):=Hq (by rw [hW];exact Bq _ _);have HWk:Hid (W.heap[w.heap.size]? = some (.cells #[.int .i64 kd,.int .i64 id,.int .i64 dst,.int .i64 ps,.string nm0,.string tx] 59 (0,0))):=Hq (by rw [hW];exact heap_alloc_new _ _);obtain ⟨x0,x1,x2,x3,x4,x5⟩:=block6 HWk.out;subst hi;obtain ⟨-,g,off,rfl,hg,hnd⟩:=(hF.below HWb.out) i F[i] (List.getElem?_eq_getElem hil);have k0:(0:Int)<=(i:Int):=by omega
 have k1:(i:Int)<(F.length:Int):=by omega
 have c4:=hnd.c4;rw [zby hil];clear hnd hF;generalize F[i].parent=pp at *;generalize F.length=n at *;go_enter Tryz.func94,Tryz.ntmps94;go_upto_region 1 with fail
 rw [<- hW];clear hW;go_wp2;go_ret;exact ⟨rfl,HWb.out⟩
theorem zh2 (A:Option Addr) (F:List Mn) (c:Nat) (o:Ops.Po) (w:World) (hF:FR w A F) (hn:F.length<=1000) (i:Nat) (hi:o.dst=i) (hil:i<F.length) :
 Calls Tryz.prog 89 #[.slice A F.length c,Ops.opv o] w (GivesV (.bool (decide (o.dst=0\/kindOf F i=1))) w):=by
 obtain ⟨kd,id,dst,ps,nm0,tx⟩:=o;unfold Ops.opv;simp only [] at *;obtain ⟨W,hW⟩:∃ W,W=w.alloc (.cells #[.int .i64 kd,.int .i64 id,.int .i64 dst,.int .i64 ps,.string nm0,.string tx] 59):=⟨_,rfl⟩;have HWb:Hid (Below w.heap.size w W):=Hq (by rw [hW];exact Bq _ _);have HWk:Hid (W.heap[w.heap.size]? = some (.cells #[.int .i64 kd,.int .i64 id,.int .i64 dst,.int .i64 ps,.string nm0,.string tx] 59 (0,0))):=Hq (by rw [hW];exact heap_alloc_new _ _);obtain ⟨x0,x1,x2,x3,x4,x5⟩:=block6 HWk.out;subst hi;obtain ⟨-,g,off,rfl,hg,hnd⟩:=(hF.below HWb.out) i F[i] (List.getElem?_eq_getElem hil);have k0:(0:Int)<=(i:Int):=by omega
 have k1:(i:Int)<(F.length:Int):=by omega
 have c0:=hnd.c0;rw [zan hil];clear hnd hF;generalize F[i].kind=kk at *;generalize F.length=n at *;go_enter Tryz.func89,Tryz.ntmps89;go_upto_region 1 with fail
 rw [<- hW];clear hW
 by_cases h0:i=0
 · subst h0;go_wp2;go_ret;exact ⟨ze (by simp),HWb.out⟩
 · have h1:((i:Int) == 0)=false:=by simpa using h0
   go_wp2;go_ret;exact ⟨ze (by rw [Bool.eq_iff_iff,beq_iff_eq,decide_eq_true_eq];omega),HWb.out⟩
theorem zkm (A:Option Addr) (F:List Mn) (c:Nat) (o:Ops.Po) (w:World) (hF:FR w A F) (hz:Sz F) :
 Calls Tryz.prog 91 #[.slice A F.length c,Ops.opv o] w (GivesV (.bool (!belowB F o.id o.dst)) w):=by
 obtain ⟨kd,id,dst,ps,nm0,tx⟩:=o;unfold Ops.opv;simp only [] at *;obtain ⟨W,hW⟩:∃ W,W=w.alloc (.cells #[.int .i64 kd,.int .i64 id,.int .i64 dst,.int .i64 ps,.string nm0,.string tx] 59):=⟨_,rfl⟩;have HWb:Hid (Below w.heap.size w W):=Hq (by rw [hW];exact Bq _ _);have HWk:Hid (W.heap[w.heap.size]? = some (.cells #[.int .i64 kd,.int .i64 id,.int .i64 dst,.int .i64 ps,.string nm0,.string tx] 59 (0,0))):=Hq (by rw [hW];exact heap_alloc_new _ _);obtain ⟨x0,x1,x2,x3,x4,x5⟩:=block6 HWk.out;go_enter Tryz.func91,Tryz.ntmps91;go_upto_region 1 with fail
 rw [<- hW];clear hW;go_wp2_with fail;refine (zpd A F c id dst W (hF.below HWb.out) hz).mono ?_;rintro e w' ⟨rfl,hb⟩;have HB:=Hq (HWb.out.trans (hb.mono HWb.out.size));clear hb;go_wp2;go_ret;exact ⟨rfl,HB.out⟩
theorem zl7 (A:Option Addr) (F:List Mn) (c:Nat) (o:Ops.Po) (w:World) (hF:FR w A F) (hn:F.length<=1000) (hk:∀ m∈F,m.kids.length<=1000) (i d:Nat) (hi:o.id=i) (hil:i<F.length) (hd:o.dst=d) (hdl:d<F.length) :
 Calls Tryz.prog 92 #[.slice A F.length c,Ops.opv o] w (GivesV (.bool (decide (0<=o.pos/\o.pos<=others F i d))) w):=by
 obtain ⟨kd,id,dst,ps,nm0,tx⟩:=o;unfold Ops.opv;simp only [] at *;obtain ⟨W,hW⟩:∃ W,W=w.alloc (.cells #[.int .i64 kd,.int .i64 id,.int .i64 dst,.int .i64 ps,.string nm0,.string tx] 59):=⟨_,rfl⟩;have HWb:Hid (Below w.heap.size w W):=Hq (by rw [hW];exact Bq _ _);have HWk:Hid (W.heap[w.heap.size]? = some (.cells #[.int .i64 kd,.int .i64 id,.int .i64 dst,.int .i64 ps,.string nm0,.string tx] 59 (0,0))):=Hq (by rw [hW];exact heap_alloc_new _ _);obtain ⟨x0,x1,x2,x3,x4,x5⟩:=block6 HWk.out;subst hi;subst hd;obtain ⟨-,g,off,rfl,hg,hnd⟩:=(hF.below HWb.out) i F[i] (List.getElem?_eq_getElem hil);obtain ⟨-,g',off',hA',-,hnd'⟩:=(hF.below HWb.out) d F[d] (List.getElem?_eq_getElem hdl);cases hA';have k0:(0:Int)<=(i:Int):=by omega
 have k1:(i:Int)<(F.length:Int):=by omega
 have k2:(0:Int)<=(d:Int):=by omega
 have k3:(d:Int)<(F.length:Int):=by omega
 have c4:=hnd.c4;have c5:=hnd'.c5;have hkl:=hk F[d] (List.getElem_mem hdl);have HO:Hid (others F i d=((F[d].kids.length:Nat):Int) - (if par F i=(d:Int) then 1 else 0)):=Hq (by simp only [others,Int.toNat_natCast,zae hdl]);have HPP:=Hq (zby hil);clear hnd hnd' hF hk;generalize F[i].parent=pp at *;generalize F[d].kids.length=kl at *;generalize F[d].kA=kA at *;generalize F[d].kC=kC at *;generalize F.length=n at *;go_enter Tryz.func92,Tryz.ntmps92;go_upto_region 1 with fail
 rw [<- hW];clear hW;go_upto_region 2 with fail
 go_quiet (fail)
 have HO2:Hid (others F i d=(kl:Int) - (if pp=(d:Int) then 1 else 0)):=Hq (by rw [HO.out,HPP.out])
 by_cases hp:pp=(d:Int)
 · have hq:(pp == (d:Int))=true:=by simpa using hp
   have hO:=HO2.out;rw [if_pos hp] at hO;have HOO:=Hq hO;clear hO;rw [hq]
   by_cases h0:0<=ps
   · go_wp2;go_ret;exact ⟨ze (by rw [decide_eq_decide,HOO.out];omega),below_drewN HWb.out _⟩
   · go_wp2;go_ret;exact ⟨ze (by simp;intro;omega),below_drewN HWb.out _⟩
 · have hq:(pp == (d:Int))=false:=by simpa using hp
   have hO:=HO2.out;rw [if_neg hp] at hO;have HOO:=Hq hO;clear hO;rw [hq]
   by_cases h0:0<=ps
   · go_wp2;go_ret;exact ⟨ze (by rw [decide_eq_decide,HOO.out];omega),below_drewN HWb.out _⟩
   · go_wp2;go_ret;exact ⟨ze (by simp;intro;omega),below_drewN HWb.out _⟩
def fst1 {α:Type} (p:α->Bool) (l:List α):Int:=if l.any p then (l.findIdx p:Int) else -1
theorem zez {α:Type} {p:α->Bool} {l:List α} {k:Nat} (hk:k<l.length) (h0:(l.take k).any p=false) (h1:p l[k]=true):fst1 p l=(k:Int):=by
 have ha:l.any p=true:=List.any_eq_true.2 ⟨l[k],List.getElem_mem hk,h1⟩;rw [fst1,if_pos ha];congr 1;rw [List.findIdx_eq hk];refine ⟨h1,fun j hj=>?_⟩;have:=List.any_eq_false.1 h0 l[j] (List.mem_iff_getElem.2 ⟨j,by rw [List.length_take];omega,by rw [List.getElem_take]⟩);simpa using this
theorem zb8 {α:Type} {p:α->Bool} {l:List α} (h:l.any p=false):fst1 p l = -1:=by rw [fst1,if_neg (by rw [h];simp)]
theorem zkn {α:Type} {p:α->Bool} {l:List α}:decide (0<=fst1 p l)=l.any p:=by
 unfold fst1
 split
 · rename_i h;rw [h];simp
 · rename_i h
   have:l.any p=false:=by simpa using h
   rw [this];rfl
theorem zdp {α:Type} {p:α->Bool} {l:List α} {k:Nat} (hk:k<l.length) (h0:(l.take k).any p=false):(l.take (k+1)).any p=p l[k]:=by
 rw [zaa hk,List.any_append,h0];simp
def OpAt (w:World) (k:Nat) (o:Ops.Po):Prop:=w.heap[k]? = some (.cells #[.int .i64 o.kind,.int .i64 o.id,.int .i64 o.dst,.int .i64 o.pos,.string o.name,.string o.text] 59 (0,0))
theorem OpAt.below {w w':World} {k:Nat} {o:Ops.Po} (h:OpAt w k o) (hb:Below w.heap.size w w'):OpAt w' k o:=(hb.block k (lt_of_block h)).trans h
def isId (o:Ops.Po) (k:Int):Bool:=k == o.id
def isNm (o:Ops.Po) (a:At2):Bool:=a.1.toList == o.name.toList
def isEl (F:List Mn) (o:Ops.Po) (k:Int):Bool:=(k != o.id) && decide (kindOf F k.toNat=1)
theorem removed1 (kb:Nat) (o:Ops.Po) (y:Int) (w:World) (h:OpAt w kb o):Calls Tryz.prog 141 #[.int .i64 y,.pointer (some ⟨kb,0,none⟩)] w fun e w'=>e = .returned (.bool (isId o y))/\Below w.heap.size w w':=by
 obtain ⟨x0,x1,x2,x3,x4,x5⟩:=block6 h;go_enter Tryz.func141,Tryz.ntmps141;go_wp2;go_ret;exact ⟨rfl,Below.refl _ _⟩
theorem placeOfAttr1 (kb:Nat) (o:Ops.Po) (a b:ByteArray) (w:World) (h:OpAt w kb o):Calls Tryz.prog 165 #[.agg #[.string a,.string b],.pointer (some ⟨kb,0,none⟩)] w fun e w'=>e = .returned (.bool (isNm o (a,b)))/\Below w.heap.size w w':=by
 obtain ⟨W,hW⟩:∃ W,W=w.alloc (.cells #[.string a,.string b] 140):=⟨_,rfl⟩;have HWb:Hid (Below w.heap.size w W):=Hq (by rw [hW];exact Bq _ _);have HWk:Hid (W.heap[w.heap.size]? = some (.cells #[.string a,.string b] 140 (0,0))):=Hq (by rw [hW];exact heap_alloc_new _ _);obtain ⟨y0,y1⟩:=block2 HWk.out;obtain ⟨x0,x1,x2,x3,x4,x5⟩:=block6 (OpAt.below h HWb.out);clear h;go_enter Tryz.func165,Tryz.ntmps165;go_upto_region 1 with fail
 rw [<- hW];clear hW;go_wp2;go_ret;exact ⟨rfl,HWb.out⟩
theorem attrDeleted1 (kb:Nat) (o:Ops.Po) (a b:ByteArray) (w:World) (h:OpAt w kb o):Calls Tryz.prog 146 #[.agg #[.string a,.string b],.pointer (some ⟨kb,0,none⟩)] w fun e w'=>e = .returned (.bool (isNm o (a,b)))/\Below w.heap.size w w':=by
 obtain ⟨W,hW⟩:∃ W,W=w.alloc (.cells #[.string a,.string b] 140):=⟨_,rfl⟩;have HWb:Hid (Below w.heap.size w W):=Hq (by rw [hW];exact Bq _ _);have HWk:Hid (W.heap[w.heap.size]? = some (.cells #[.string a,.string b] 140 (0,0))):=Hq (by rw [hW];exact heap_alloc_new _ _);obtain ⟨y0,y1⟩:=block2 HWk.out;obtain ⟨x0,x1,x2,x3,x4,x5⟩:=block6 (OpAt.below h HWb.out);clear h;go_enter Tryz.func146,Tryz.ntmps146;go_upto_region 1 with fail
 rw [<- hW];clear hW;go_wp2;go_ret;exact ⟨rfl,HWb.out⟩
theorem isEl1 (kb kf:Nat) (A:Option Addr) (F:List Mn) (c:Nat) (o:Ops.Po) (j:Nat) (w:World) (h:OpAt w kb o) (hf:w.heap[kf]? = some (.cells #[.slice A F.length c] 61 (0,0))) (hF:FR w A F) (hn:F.length<=1000) (hj:j<F.length):Calls Tryz.prog 138 #[.int .i64 j,.pointer (some ⟨kb,0,none⟩),.pointer (some ⟨kf,0,none⟩)] w fun e w'=>e = .returned (.bool (isEl F o j))/\Below w.heap.size w w':=by
 obtain ⟨x0,x1,x2,x3,x4,x5⟩:=block6 h;have y0:=block1 hf;obtain ⟨-,g,off,rfl,hg,hnd⟩:=hF j F[j] (List.getElem?_eq_getElem hj);have k0:(0:Int)<=(j:Int):=by omega
 have k1:(j:Int)<(F.length:Int):=by omega
 have c0:=hnd.c0;rw [isEl,Int.toNat_natCast,zan hj];clear hnd hF h hf;generalize F[j].kind=kk at *;generalize F.length=n at *;obtain ⟨b,hb⟩:∃ b,((j:Int) != o.id)=b:=⟨_,rfl⟩;rw [hb];go_enter Tryz.func138,Tryz.ntmps138;cases b
 · go_wp2;go_ret;exact ⟨rfl,Below.refl _ _⟩
 · go_wp2;go_ret;exact ⟨ze (by rw [Bool.true_and,Bool.eq_iff_iff,beq_iff_eq,decide_eq_true_eq]),Below.refl _ _⟩
theorem zl8 (kb:Nat) (o:Ops.Po) (Ak:Option Addr) (l:List Int) (ck:Nat) (w:World) (hO:OpAt w kb o) (hI:IR w Ak l) (hl:l.length<=1000) :
 Calls Tryz.prog 154 #[.slice Ak l.length ck,.func (.func 141) #[] #[.pointer (some ⟨kb,0,none⟩)]] w fun e w'=>e = .returned (.int .i64 (fst1 (isId o) l))/\Below w.heap.size w w':=by
 have HO:=Hq hO;have HI:=Hq hI;clear hO hI;obtain ⟨n,hnn⟩:∃ n,l.length=n:=⟨_,rfl⟩;have HNN:=Hq hnn;obtain ⟨p,hp⟩:∃ p,p=isId o:=⟨_,rfl⟩;have HPp:=Hq hp;rw [<- hp];obtain ⟨R,hR⟩:∃ R,fst1 p l=R:=⟨_,rfl⟩;have HR:=Hq hR;rw [hR];rw [hnn] at hl ⊢;clear hnn hp hR;go_enter Tryz.func154,Tryz.ntmps154;go_wp2
 go_loopw [8] (fun q wr=>∃ k:Nat,k<=n/\q = .int .i64 k/\Hid ((l.take k).any p=false)/\Hid (Below w.heap.size w wr)) (fun q _=>n - (intOf q).toNat)
 case atStart => exact ⟨0,Nat.zero_le _,rfl,Hq rfl,Hq (Below.refl _ _)⟩
 case round =>
  obtain ⟨k,hk,rfl,HT,HB⟩:=hrel
  by_cases hlt:k<n
  · have k0:(0:Int)<=(k:Int):=by omega
    have k1:(k:Int)<(n:Int):=by omega
    have hkl:k<l.length:=by rw [HNN.out];exact hlt
    obtain ⟨ga,oa,rfl,hga,hc⟩:=(HI.out.below HB.out) k hkl;have HK:Hid (Calls Tryz.prog 141 #[.int .i64 l[k],.pointer (some ⟨kb,0,none⟩)] wr fun e w'=>e = .returned (.bool (p l[k]))/\Below wr.heap.size wr w'):=Hq (by rw [HPp.out];exact removed1 kb o l[k] wr (HO.out.below HB.out));have HT2:=Hq (zdp hkl HT.out);have HH:Hid (p l[k]=true->R=(k:Int)):=Hq (fun h=>by rw [<- HR.out];exact zez hkl HT.out h);rw [getD_at 0 hkl] at hc;generalize l[k]=y at *;go_wp2_with fail;refine HK.out.mono ?_;rintro e w1 ⟨rfl,hb⟩;have HB1:=Hq (HB.out.trans (hb.mono HB.out.size));clear hb
    rcases Bool.eq_false_or_eq_true (p y) with hy|hy
    · have HA:=Hq (HH.out hy);rw [hy];go_wp2;go_ret;exact ⟨by rw [HA.out];rfl,HB1.out⟩
    · rw [hy] at HT2 ⊢;go_wp2;go_roundw
      case rel => exact ⟨k+1,by omega,by go_num,HT2,HB1⟩
      case measure => simp [intOf]<;>omega
  · obtain rfl:k=n:=by omega
    have e:l.take k=l:=List.take_of_length_le (by rw [HNN.out];exact Nat.le_refl _);rw [e] at HT;have HA:Hid (R = -1):=Hq (by rw [<- HR.out];exact zb8 HT.out);go_wp2;go_ret;exact ⟨by rw [HA.out];rfl,HB.out⟩
theorem zuz (kb kf:Nat) (A:Option Addr) (F:List Mn) (c:Nat) (o:Ops.Po) (Ak:Option Addr) (l:List Int) (ck:Nat) (w:World) (hO:OpAt w kb o) (hf:w.heap[kf]? = some (.cells #[.slice A F.length c] 61 (0,0))) (hF:FR w A F) (hn:F.length<=1000) (hI:IR w Ak l) (hl:l.length<=1000) (hN:∀ k∈l,∃ j:Nat,k=j/\j<F.length) :
 Calls Tryz.prog 154 #[.slice Ak l.length ck,.func (.func 138) #[] #[.pointer (some ⟨kb,0,none⟩),.pointer (some ⟨kf,0,none⟩)]] w fun e w'=>e = .returned (.int .i64 (fst1 (isEl F o) l))/\Below w.heap.size w w':=by
 have HO:=Hq hO;have HI:=Hq hI;have HF:=Hq hF;have Hf:=Hq hf;have HN:=Hq hN;clear hO hI hF hf hN;obtain ⟨n,hnn⟩:∃ n,l.length=n:=⟨_,rfl⟩;have HNN:=Hq hnn;obtain ⟨p,hp⟩:∃ p,p=isEl F o:=⟨_,rfl⟩;have HPp:=Hq hp;rw [<- hp];obtain ⟨R,hR⟩:∃ R,fst1 p l=R:=⟨_,rfl⟩;have HR:=Hq hR;rw [hR];rw [hnn] at hl ⊢;clear hnn hp hR;go_enter Tryz.func154,Tryz.ntmps154;go_wp2
 go_loopw [8] (fun q wr=>∃ k:Nat,k<=n/\q = .int .i64 k/\Hid ((l.take k).any p=false)/\Hid (Below w.heap.size w wr)) (fun q _=>n - (intOf q).toNat)
 case atStart => exact ⟨0,Nat.zero_le _,rfl,Hq rfl,Hq (Below.refl _ _)⟩
 case round =>
  obtain ⟨k,hk,rfl,HT,HB⟩:=hrel
  by_cases hlt:k<n
  · have k0:(0:Int)<=(k:Int):=by omega
    have k1:(k:Int)<(n:Int):=by omega
    have hkl:k<l.length:=by rw [HNN.out];exact hlt
    obtain ⟨ga,oa,rfl,hga,hc⟩:=(HI.out.below HB.out) k hkl;have HK:Hid (Calls Tryz.prog 138 #[.int .i64 l[k],.pointer (some ⟨kb,0,none⟩),.pointer (some ⟨kf,0,none⟩)] wr fun e w'=>e = .returned (.bool (p l[k]))/\Below wr.heap.size wr w'):=Hq (by rw [HPp.out];obtain ⟨j,hj,hjl⟩:=HN.out l[k] (List.getElem_mem hkl);rw [hj];exact isEl1 kb kf A F c o j wr (HO.out.below HB.out) ((HB.out.block _ (lt_of_block Hf.out)).trans Hf.out) (HF.out.below HB.out) hn hjl);have HT2:=Hq (zdp hkl HT.out);have HH:Hid (p l[k]=true->R=(k:Int)):=Hq (fun h=>by rw [<- HR.out];exact zez hkl HT.out h);rw [getD_at 0 hkl] at hc;generalize l[k]=y at *;go_wp2_with fail;refine HK.out.mono ?_;rintro e w1 ⟨rfl,hb⟩;have HB1:=Hq (HB.out.trans (hb.mono HB.out.size));clear hb
    rcases Bool.eq_false_or_eq_true (p y) with hy|hy
    · have HA:=Hq (HH.out hy);rw [hy];go_wp2;go_ret;exact ⟨by rw [HA.out];rfl,HB1.out⟩
    · rw [hy] at HT2 ⊢;go_wp2;go_roundw
      case rel => exact ⟨k+1,by omega,by go_num,HT2,HB1⟩
      case measure => simp [intOf]<;>omega
  · obtain rfl:k=n:=by omega
    have e:l.take k=l:=List.take_of_length_le (by rw [HNN.out];exact Nat.le_refl _);rw [e] at HT;have HA:Hid (R = -1):=Hq (by rw [<- HR.out];exact zb8 HT.out);go_wp2;go_ret;exact ⟨by rw [HA.out];rfl,HB.out⟩
theorem zh3 (kb:Nat) (o:Ops.Po) (Ak:Option Addr) (l:List At2) (ck:Nat) (w:World) (hO:OpAt w kb o) (hI:AR w Ak l) (hl:l.length<=1000) :
 Calls Tryz.prog 164 #[.slice Ak l.length ck,.func (.func 165) #[] #[.pointer (some ⟨kb,0,none⟩)]] w fun e w'=>e = .returned (.int .i64 (fst1 (isNm o) l))/\Below w.heap.size w w':=by
 have HO:=Hq hO;have HI:=Hq hI;clear hO hI;obtain ⟨n,hnn⟩:∃ n,l.length=n:=⟨_,rfl⟩;have HNN:=Hq hnn;obtain ⟨p,hp⟩:∃ p,p=isNm o:=⟨_,rfl⟩;have HPp:=Hq hp;rw [<- hp];obtain ⟨R,hR⟩:∃ R,fst1 p l=R:=⟨_,rfl⟩;have HR:=Hq hR;rw [hR];rw [hnn] at hl ⊢;clear hnn hp hR;go_enter Tryz.func164,Tryz.ntmps164;go_wp2
 go_loopw [8] (fun q wr=>∃ k:Nat,k<=n/\q = .int .i64 k/\Hid ((l.take k).any p=false)/\Hid (Below w.heap.size w wr)) (fun q _=>n - (intOf q).toNat)
 case atStart => exact ⟨0,Nat.zero_le _,rfl,Hq rfl,Hq (Below.refl _ _)⟩
 case round =>
  obtain ⟨k,hk,rfl,HT,HB⟩:=hrel
  by_cases hlt:k<n
  · have k0:(0:Int)<=(k:Int):=by omega
    have k1:(k:Int)<(n:Int):=by omega
    have hkl:k<l.length:=by rw [HNN.out];exact hlt
    obtain ⟨ga,oa,rfl,hga,hc,hd⟩:=(HI.out.below HB.out) k hkl;have HK:Hid (Calls Tryz.prog 165 #[.agg #[.string l[k].1,.string l[k].2],.pointer (some ⟨kb,0,none⟩)] wr fun e w'=>e = .returned (.bool (p l[k]))/\Below wr.heap.size wr w'):=Hq (by rw [HPp.out];exact placeOfAttr1 kb o l[k].1 l[k].2 wr (HO.out.below HB.out));have HT2:=Hq (zdp hkl HT.out);have HH:Hid (p l[k]=true->R=(k:Int)):=Hq (fun h=>by rw [<- HR.out];exact zez hkl HT.out h);rw [getD_at default hkl] at hc hd;generalize l[k]=y at *;obtain ⟨ya,yb⟩:=y;go_wp2_with fail;refine HK.out.mono ?_;rintro e w1 ⟨rfl,hb⟩;have HB1:=Hq (HB.out.trans (hb.mono HB.out.size));clear hb
    rcases Bool.eq_false_or_eq_true (p (ya,yb)) with hy|hy
    · have HA:=Hq (HH.out hy);rw [hy];go_wp2;go_ret;exact ⟨by rw [HA.out];rfl,HB1.out⟩
    · rw [hy] at HT2 ⊢;go_wp2;go_roundw
      case rel => exact ⟨k+1,by omega,by go_num,HT2,HB1⟩
      case measure => simp [intOf]<;>omega
  · obtain rfl:k=n:=by omega
    have e:l.take k=l:=List.take_of_length_le (by rw [HNN.out];exact Nat.le_refl _);rw [e] at HT;have HA:Hid (R = -1):=Hq (by rw [<- HR.out];exact zb8 HT.out);go_wp2;go_ret;exact ⟨by rw [HA.out];rfl,HB.out⟩
theorem zh4 (kb:Nat) (o:Ops.Po) (Ak:Option Addr) (l:List At2) (ck:Nat) (w:World) (hO:OpAt w kb o) (hI:AR w Ak l) (hl:l.length<=1000) :
 Calls Tryz.prog 164 #[.slice Ak l.length ck,.func (.func 146) #[] #[.pointer (some ⟨kb,0,none⟩)]] w fun e w'=>e = .returned (.int .i64 (fst1 (isNm o) l))/\Below w.heap.size w w':=by
 have HO:=Hq hO;have HI:=Hq hI;clear hO hI;obtain ⟨n,hnn⟩:∃ n,l.length=n:=⟨_,rfl⟩;have HNN:=Hq hnn;obtain ⟨p,hp⟩:∃ p,p=isNm o:=⟨_,rfl⟩;have HPp:=Hq hp;rw [<- hp];obtain ⟨R,hR⟩:∃ R,fst1 p l=R:=⟨_,rfl⟩;have HR:=Hq hR;rw [hR];rw [hnn] at hl ⊢;clear hnn hp hR;go_enter Tryz.func164,Tryz.ntmps164;go_wp2
 go_loopw [8] (fun q wr=>∃ k:Nat,k<=n/\q = .int .i64 k/\Hid ((l.take k).any p=false)/\Hid (Below w.heap.size w wr)) (fun q _=>n - (intOf q).toNat)
 case atStart => exact ⟨0,Nat.zero_le _,rfl,Hq rfl,Hq (Below.refl _ _)⟩
 case round =>
  obtain ⟨k,hk,rfl,HT,HB⟩:=hrel
  by_cases hlt:k<n
  · have k0:(0:Int)<=(k:Int):=by omega
    have k1:(k:Int)<(n:Int):=by omega
    have hkl:k<l.length:=by rw [HNN.out];exact hlt
    obtain ⟨ga,oa,rfl,hga,hc,hd⟩:=(HI.out.below HB.out) k hkl;have HK:Hid (Calls Tryz.prog 146 #[.agg #[.string l[k].1,.string l[k].2],.pointer (some ⟨kb,0,none⟩)] wr fun e w'=>e = .returned (.bool (p l[k]))/\Below wr.heap.size wr w'):=Hq (by rw [HPp.out];exact attrDeleted1 kb o l[k].1 l[k].2 wr (HO.out.below HB.out));have HT2:=Hq (zdp hkl HT.out);have HH:Hid (p l[k]=true->R=(k:Int)):=Hq (fun h=>by rw [<- HR.out];exact zez hkl HT.out h);rw [getD_at default hkl] at hc hd;generalize l[k]=y at *;obtain ⟨ya,yb⟩:=y;go_wp2_with fail;refine HK.out.mono ?_;rintro e w1 ⟨rfl,hb⟩;have HB1:=Hq (HB.out.trans (hb.mono HB.out.size));clear hb
    rcases Bool.eq_false_or_eq_true (p (ya,yb)) with hy|hy
    · have HA:=Hq (HH.out hy);rw [hy];go_wp2;go_ret;exact ⟨by rw [HA.out];rfl,HB1.out⟩
    · rw [hy] at HT2 ⊢;go_wp2;go_roundw
      case rel => exact ⟨k+1,by omega,by go_num,HT2,HB1⟩
      case measure => simp [intOf]<;>omega
  · obtain rfl:k=n:=by omega
    have e:l.take k=l:=List.take_of_length_le (by rw [HNN.out];exact Nat.le_refl _);rw [e] at HT;have HA:Hid (R = -1):=Hq (by rw [<- HR.out];exact zb8 HT.out);go_wp2;go_ret;exact ⟨by rw [HA.out];rfl,HB.out⟩
theorem zhi (o:Ops.Po) (a:At2):isNm o a=decide (a.1=o.name):=by
 unfold isNm;rw [Bool.eq_iff_iff,beq_iff_eq,zcg,decide_eq_true_eq]
theorem zko (o:Ops.Po) (l:List At2):l.any (isNm o)=hasA l o.name:=by
 unfold hasA;congr 1;exact funext (zhi o)
theorem zpr (o:Ops.Po) (l:List At2):fst1 (isNm o) l=if hasA l o.name then (placeA l o.name:Int) else -1:=by
 unfold fst1;rw [zko];have:l.findIdx (isNm o)=placeA l o.name:=by
  unfold placeA;congr 1;exact funext (zhi o)
 rw [this]
theorem zps (Ak:Option Addr) (l:List Int) (ck:Nat) (x:Int) (w:World) (hI:IR w Ak l) (hl:l.length<=1000) :
 Calls Tryz.prog 166 #[.slice Ak l.length ck,.int .i64 x] w fun e w'=>∃ j:Int,e = .returned (.int .i64 j)/\decide (0<=j)=l.any (fun y=>decide (y=x))/\w'=w:=by
 have HI:=Hq hI;obtain ⟨n,hnn⟩:∃ n,l.length=n:=⟨_,rfl⟩;have HNN:=Hq hnn;obtain ⟨R,hR⟩:∃ R,l.any (fun y=>decide (y=x))=R:=⟨_,rfl⟩;have HR:=Hq hR;rw [hR];rw [hnn] at hl ⊢;clear hI hnn hR;go_enter Tryz.func166,Tryz.ntmps166;go_wp2
 go_loopw [8] (fun q wr=>∃ k:Nat,k<=n/\q = .int .i64 k/\Hid ((l.take k).any (fun y=>decide (y=x))=false)/\w=wr) (fun q _=>n - (intOf q).toNat)
 case atStart => exact ⟨0,Nat.zero_le _,rfl,Hq rfl,rfl⟩
 case round =>
  obtain ⟨k,hk,rfl,HT,rfl⟩:=hrel
  by_cases hlt:k<n
  · have k0:(0:Int)<=(k:Int):=by omega
    have k1:(k:Int)<(n:Int):=by omega
    have hkl:k<l.length:=by rw [HNN.out];exact hlt
    obtain ⟨ga,oa,rfl,hga,hc⟩:=HI.out k hkl;have HT2:=Hq (zdp hkl HT.out);have HH:Hid (l[k]=x->R=true):=Hq (fun h=>by rw [<- HR.out];exact List.any_eq_true.2 ⟨l[k],List.getElem_mem hkl,by simpa using h⟩);rw [getD_at 0 hkl] at hc;generalize l[k]=y at *
    by_cases hy:y=x
    · have hq:(x == y)=true:=by simpa using hy.symm
      have HA:=Hq (HH.out hy);go_wp2;go_ret;exact ⟨k,rfl,by rw [HA.out];simp,rfl⟩
    · have hq:(x == y)=false:=by simpa using fun e:x=y=>hy e.symm
      rw [decide_eq_false hy] at HT2;go_wp2;go_roundw
      case rel => exact ⟨k+1,by omega,by go_num,HT2,by first|trivial|rfl⟩
      case measure => simp [intOf]<;>omega
  · obtain rfl:k=n:=by omega
    have e:l.take k=l:=List.take_of_length_le (by rw [HNN.out];exact Nat.le_refl _);rw [e] at HT;have HA:Hid (R=false):=Hq (by rw [<- HR.out];exact HT.out);go_wp2;go_ret;exact ⟨-1,rfl,by rw [HA.out];rfl,rfl⟩
theorem zkp (Ak:Option Addr) (l:List Int) (ck:Nat) (x:Int) (w:World) (hI:IR w Ak l) (hl:l.length<=1000) :
 Calls Tryz.prog 144 #[.slice Ak l.length ck,.int .i64 x] w fun e w'=>e = .returned (.bool (l.any (fun y=>decide (y=x))))/\w'=w:=by
 have HX:=Hq (zps Ak l ck x w hI hl);clear hI;go_enter Tryz.func144,Tryz.ntmps144;go_wp2_with fail;refine HX.out.mono ?_;rintro e w1 ⟨j,rfl,hj,rfl⟩;have HJ:=Hq hj;clear hj;go_wp2;go_ret;exact ⟨ze (by rw [<- HJ.out]),rfl⟩
theorem zu1 (kb kf:Nat) (A:Option Addr) (F:List Mn) (c:Nat) (o:Ops.Po) (Ak:Option Addr) (l:List Int) (ck:Nat) (w:World) (hO:OpAt w kb o) (hf:w.heap[kf]? = some (.cells #[.slice A F.length c] 61 (0,0))) (hF:FR w A F) (hn:F.length<=1000) (hI:IR w Ak l) (hl:l.length<=1000) (hN:∀ k∈l,∃ j:Nat,k=j/\j<F.length) :
 Calls Tryz.prog 118 #[.slice Ak l.length ck,.func (.func 138) #[] #[.pointer (some ⟨kb,0,none⟩),.pointer (some ⟨kf,0,none⟩)]] w (GivesV (.bool (l.any (isEl F o))) w):=by
 have HX:=Hq (zuz kb kf A F c o Ak l ck w hO hf hF hn hI hl hN);have HE:=Hq (zkn (p:=isEl F o) (l:=l));generalize fst1 (isEl F o) l=j at *;clear hO hf hF hI hN;go_enter Tryz.func118,Tryz.ntmps118;go_wp2_with fail;refine HX.out.mono ?_;rintro e w1 ⟨rfl,hb⟩;have HB:=Hq hb;clear hb;go_wp2;go_ret;exact ⟨ze (by rw [<- HE.out]),HB.out⟩
theorem zdz (A:Option Addr) (F:List Mn) (c:Nat) (o:Ops.Po) (w:World) (hF:FR w A F) (hn:F.length<=1000) (ha:∀ m∈F,m.attrs.length<=1000) (i:Nat) (hi:o.id=i) (hil:i<F.length) :
 Calls Tryz.prog 142 #[.slice A F.length c,Ops.opv o] w (GivesV (.int .i64 (fst1 (isNm o) (attrsOf F i))) w):=by
 obtain ⟨kd,id,dst,ps,nm0,tx⟩:=o;unfold Ops.opv;simp only [] at *;obtain ⟨W,hW⟩:∃ W,W=w.alloc (.cells #[.int .i64 kd,.int .i64 id,.int .i64 dst,.int .i64 ps,.string nm0,.string tx] 59):=⟨_,rfl⟩;have HWb:Hid (Below w.heap.size w W):=Hq (by rw [hW];exact Bq _ _);have HWk:Hid (W.heap[w.heap.size]? = some (.cells #[.int .i64 kd,.int .i64 id,.int .i64 dst,.int .i64 ps,.string nm0,.string tx] 59 (0,0))):=Hq (by rw [hW];exact heap_alloc_new _ _);obtain ⟨x0,x1,x2,x3,x4,x5⟩:=block6 HWk.out;subst hi;have HFW:=Hq (hF.below HWb.out);obtain ⟨-,g,off,rfl,hg,hnd⟩:=HFW.out i F[i] (List.getElem?_eq_getElem hil);have k0:(0:Int)<=(i:Int):=by omega
 have k1:(i:Int)<(F.length:Int):=by omega
 have c3:=hnd.c3;have HX:=Hq (zh3 w.heap.size ⟨kd,i,dst,ps,nm0,tx⟩ F[i].aA F[i].attrs F[i].aC W HWk.out hnd.ar (ha _ (List.getElem_mem _)));rw [zbv hil];clear hnd HFW hF ha;generalize F[i].attrs=al at *;generalize F[i].aA=aA at *;generalize F[i].aC=aC at *;generalize fst1 (isNm ⟨kd,i,dst,ps,nm0,tx⟩) al=R at *;generalize al.length=alen at *;generalize F.length=n at *;go_enter Tryz.func142,Tryz.ntmps142;go_upto_region 1 with fail
 rw [<- hW];clear hW;go_wp2_with fail;refine HX.out.mono ?_;rintro e w' ⟨rfl,hb⟩;have HB:=Hq (HWb.out.trans (hb.mono HWb.out.size));clear hb;go_wp2;go_ret;exact ⟨rfl,HB.out⟩
theorem zi8 (A:Option Addr) (F:List Mn) (c:Nat) (o:Ops.Po) (w:World) (hF:FR w A F) (hn:F.length<=1000) (ha:∀ m∈F,m.attrs.length<=1000) (i:Nat) (hi:o.id=i) (hil:i<F.length) :
 Calls Tryz.prog 99 #[.slice A F.length c,Ops.opv o] w (GivesV (.bool (hasA (attrsOf F i) o.name)) w):=by
 obtain ⟨kd,id,dst,ps,nm0,tx⟩:=o;unfold Ops.opv;simp only [] at *;obtain ⟨W,hW⟩:∃ W,W=w.alloc (.cells #[.int .i64 kd,.int .i64 id,.int .i64 dst,.int .i64 ps,.string nm0,.string tx] 59):=⟨_,rfl⟩;have HWb:Hid (Below w.heap.size w W):=Hq (by rw [hW];exact Bq _ _);have HWk:Hid (W.heap[w.heap.size]? = some (.cells #[.int .i64 kd,.int .i64 id,.int .i64 dst,.int .i64 ps,.string nm0,.string tx] 59 (0,0))):=Hq (by rw [hW];exact heap_alloc_new _ _);obtain ⟨x0,x1,x2,x3,x4,x5⟩:=block6 HWk.out;subst hi;have HX:=Hq (zdz A F c ⟨kd,i,dst,ps,nm0,tx⟩ W (hF.below HWb.out) hn ha i rfl hil);unfold Ops.opv at HX;have HE:Hid (decide (0<=fst1 (isNm ⟨kd,i,dst,ps,nm0,tx⟩) (attrsOf F i))=hasA (attrsOf F i) nm0):=Hq (by rw [zkn,zko]);generalize fst1 (isNm ⟨kd,i,dst,ps,nm0,tx⟩) (attrsOf F i)=R at *;generalize F.length=n at *;clear hF ha;go_enter Tryz.func99,Tryz.ntmps99;go_upto_region 1 with fail
 rw [<- hW];clear hW;go_wp2_with fail;refine HX.out.mono ?_;rintro e w' ⟨rfl,hb⟩;have HB:=Hq (HWb.out.trans (hb.mono HWb.out.size));clear hb;go_wp2;go_ret;exact ⟨ze (by rw [<- HE.out]),HB.out⟩
theorem zh5 (A:Option Addr) (F:List Mn) (c:Nat) (o:Ops.Po) (w:World) (hF:FR w A F) (hn:F.length<=1000) (ha:∀ m∈F,m.attrs.length<=1000) (i:Nat) (hi:o.id=i) (hil:i<F.length) :
 Calls Tryz.prog 97 #[.slice A F.length c,Ops.opv o] w (GivesV (.bool (hasA (attrsOf F i) o.name || decide ((attrsOf F i).length<8))) w):=by
 obtain ⟨kd,id,dst,ps,nm0,tx⟩:=o;unfold Ops.opv;simp only [] at *;obtain ⟨W,hW⟩:∃ W,W=w.alloc (.cells #[.int .i64 kd,.int .i64 id,.int .i64 dst,.int .i64 ps,.string nm0,.string tx] 59):=⟨_,rfl⟩;have HWb:Hid (Below w.heap.size w W):=Hq (by rw [hW];exact Bq _ _);have HWk:Hid (W.heap[w.heap.size]? = some (.cells #[.int .i64 kd,.int .i64 id,.int .i64 dst,.int .i64 ps,.string nm0,.string tx] 59 (0,0))):=Hq (by rw [hW];exact heap_alloc_new _ _);obtain ⟨x0,x1,x2,x3,x4,x5⟩:=block6 HWk.out;subst hi;have HFW:=Hq (hF.below HWb.out);obtain ⟨-,g,off,rfl,hg,hnd⟩:=HFW.out i F[i] (List.getElem?_eq_getElem hil);have k0:(0:Int)<=(i:Int):=by omega
 have k1:(i:Int)<(F.length:Int):=by omega
 have HX:=Hq (zi8 (some ⟨g,off,none⟩) F c ⟨kd,i,dst,ps,nm0,tx⟩ W HFW.out hn ha i rfl hil);unfold Ops.opv at HX;have hal:=ha _ (List.getElem_mem hil);have HC0:Hid (∀ V,Below W.heap.size W V->V.cell? ⟨g,off+i*6+3,none⟩=some (.slice F[i].aA F[i].attrs.length F[i].aC)):=Hq (fun V hb=>by
  obtain ⟨-,g',off',hA',-,hnd'⟩:=(HFW.out.below hb) i F[i] (List.getElem?_eq_getElem hil);cases hA';exact hnd'.c3)
 simp only [zbv hil] at HX ⊢;clear hnd HFW hF ha;generalize hasA F[i].attrs nm0=R at *;generalize F[i].attrs.length=alen at *;generalize F[i].aA=aA at *;generalize F[i].aC=aC at *;generalize F.length=n at *;go_enter Tryz.func97,Tryz.ntmps97;go_upto_region 1 with fail
 rw [<- hW];clear hW;go_wp2_with fail;refine HX.out.mono ?_;rintro e w' ⟨rfl,hb⟩;have HB:=Hq (HWb.out.trans (hb.mono HWb.out.size));have HO:=Hq (OpAt.below (o:=⟨kd,i,dst,ps,nm0,tx⟩) HWk.out hb);have HC:=Hq (HC0.out w' hb);clear hb x0 x1 x2 x3 x4 x5;obtain ⟨x0,x1,x2,x3,x4,x5⟩:=block6 HO.out;have c3:=HC.out;simp only [] at x1;cases R
 · go_wp2;go_ret;exact ⟨ze (by rw [Bool.false_or,decide_eq_decide];omega),HB.out⟩
 · go_wp2;go_ret;exact ⟨ze (by simp),HB.out⟩
theorem zu2 (kk:Nat) (Ak:Option Addr) (l:List Int) (ck:Nat) (A:Option Addr) (F:List Mn) (c:Nat) (o:Ops.Po) (w:World) (hk:w.heap[kk]? = some (.cells #[.slice Ak l.length ck] 28 (0,0))) (hI:IR w Ak l) (hl:l.length<=1000) (hF:FR w A F) (hn:F.length<=1000) (i:Nat) (hi:o.id=i) (hil:i<F.length) :
 Calls Tryz.prog 143 #[.slice A F.length c,Ops.opv o,.pointer (some ⟨kk,0,none⟩)] w (GivesV (.bool (l.any (fun y=>decide (y=kindOf F i)))) w):=by
 obtain ⟨kd,id,dst,ps,nm0,tx⟩:=o;unfold Ops.opv;simp only [] at *;subst hi;obtain ⟨W,hW⟩:∃ W,W=w.alloc (.cells #[.int .i64 kd,.int .i64 i,.int .i64 dst,.int .i64 ps,.string nm0,.string tx] 59):=⟨_,rfl⟩;have HWb:Hid (Below w.heap.size w W):=Hq (by rw [hW];exact Bq _ _);have HWk:Hid (W.heap[w.heap.size]? = some (.cells #[.int .i64 kd,.int .i64 i,.int .i64 dst,.int .i64 ps,.string nm0,.string tx] 59 (0,0))):=Hq (by rw [hW];exact heap_alloc_new _ _);obtain ⟨x0,x1,x2,x3,x4,x5⟩:=block6 HWk.out;have y0:=block1 ((HWb.out.block _ (lt_of_block hk)).trans hk);obtain ⟨-,g,off,rfl,hg,hnd⟩:=(hF.below HWb.out) i F[i] (List.getElem?_eq_getElem hil);have k0:(0:Int)<=(i:Int):=by omega
 have k1:(i:Int)<(F.length:Int):=by omega
 have c0:=hnd.c0;rw [zan hil];have HX:=Hq (fun (V:World) (hb:Below w.heap.size w V)=>zkp Ak l ck F[i].kind V (hI.below hb) hl);have HQ:=Hq (fun (d:Nat)=>HX.out (W.drewN d) (below_drewN HWb.out d));clear hnd hF hI hk HX;generalize F[i].kind=kk2 at *;generalize l.any (fun y=>decide (y=kk2))=R at *;generalize F.length=n at *;generalize l.length=ln at *;go_enter Tryz.func143,Tryz.ntmps143;go_upto_region 1 with fail
 rw [<- hW];clear hW
 go_quiet ((go_at_call 144;exact Calls.quiet_of_same (HQ.out _)))
 go_wp2;go_ret;exact ⟨rfl,below_drewN HWb.out _⟩
theorem zfy (A:Option Addr) (F:List Mn) (c:Nat) (o:Ops.Po) (w:World) (hF:FR w A F) (hn:F.length<=1000) (hks:∀ m∈F,m.kids.length<=1000) (hN:∀ k∈kidsOf F 0,∃ j:Nat,k=j/\j<F.length) (i:Nat) (hi:o.id=i) (hil:i<F.length) :
 Calls Tryz.prog 90 #[.slice A F.length c,Ops.opv o] w (GivesV (.bool (decide (o.dst≠0) || docMay F i)) w):=by
 obtain ⟨kd,id,dst,ps,nm0,tx⟩:=o;unfold Ops.opv;simp only [] at *;subst hi;obtain ⟨W,hW⟩:∃ W,W=(w.alloc (.cells #[.slice A F.length c] 61)).alloc (.cells #[.int .i64 kd,.int .i64 i,.int .i64 dst,.int .i64 ps,.string nm0,.string tx] 59):=⟨_,rfl⟩;have HWb:Hid (Below w.heap.size w W):=Hq (by rw [hW];exact (Bq _ _).alloc (by simp) _);have HWf:Hid (W.heap[w.heap.size]? = some (.cells #[.slice A F.length c] 61 (0,0))):=Hq (by rw [hW,heap_alloc_old _ _ (by simp)];exact heap_alloc_new _ _);have HWk:Hid (W.heap[w.heap.size+1]? = some (.cells #[.int .i64 kd,.int .i64 i,.int .i64 dst,.int .i64 ps,.string nm0,.string tx] 59 (0,0))):=Hq (by rw [hW];exact zas _ _ _);obtain ⟨x0,x1,x2,x3,x4,x5⟩:=block6 HWk.out;have y0:=block1 HWf.out;have HFW:=Hq (hF.below HWb.out);obtain ⟨-,g,off,rfl,hg,hnd⟩:=HFW.out i F[i] (List.getElem?_eq_getElem hil);have h0l:0<F.length:=by omega
 obtain ⟨-,g',off',hA',-,hnd'⟩:=HFW.out 0 F[0] (List.getElem?_eq_getElem h0l);cases hA';have k0:(0:Int)<=(i:Int):=by omega
 have k1:(i:Int)<(F.length:Int):=by omega
 have k2:(0:Int)<(F.length:Int):=by omega
 have c0:=hnd.c0;have c5:=hnd'.c5;rw [show off+0*6+5=off+5 by omega] at c5;rw [zae h0l] at hN;have HE:=Hq (zu1 (w.heap.size+1) w.heap.size (some ⟨g,off,none⟩) F c ⟨kd,i,dst,ps,nm0,tx⟩ F[0].kA F[0].kids F[0].kC W HWk.out HWf.out HFW.out hn hnd'.ir (hks _ (List.getElem_mem _)) hN);have HD:Hid (docMay F i=if F[i].kind=2 then false else if F[i].kind=1 then !(F[0].kids.any (isEl F ⟨kd,i,dst,ps,nm0,tx⟩)) else true):=Hq (by
  unfold docMay;rw [zan hil,zae h0l];have:(fun k:Int=>decide (k≠(i:Int)) && decide (kindOf F k.toNat=1))=isEl F ⟨kd,i,dst,ps,nm0,tx⟩:=funext fun k=>by
   unfold isEl;congr 1;rw [Bool.eq_iff_iff,decide_eq_true_eq];simp
  rw [this])
 clear hnd hnd' hF hN hks HFW;generalize docMay F i=DM at *;generalize F[i].kind=kk at *;generalize F[0].kids.any (isEl F ⟨kd,i,dst,ps,nm0,tx⟩)=EL at *;generalize F[0].kids.length=kl at *;generalize F[0].kA=kA at *;generalize F[0].kC=kC at *;generalize F.length=n at *;go_enter Tryz.func90,Tryz.ntmps90;go_upto_region 1 with fail
 rw [<- hW];clear hW
 by_cases hd:dst=0
 · subst hd
   by_cases h2:kk=2
   · subst h2;have HR:Hid (DM=false):=Hq (by rw [HD.out,if_pos rfl]);go_wp2;go_ret;exact ⟨ze (by first|(rw [HR.out];done)|(rw [HR.out];rfl)),HWb.out⟩
   by_cases h1:kk=1
   · subst h1;have HR:Hid (DM = !EL):=Hq (by rw [HD.out,if_neg (by omega),if_pos rfl]);go_wp2_with fail;refine HE.out.mono ?_;rintro e w' ⟨rfl,hb⟩;have HB:=Hq (HWb.out.trans (hb.mono HWb.out.size));clear hb;go_wp2;go_ret;exact ⟨ze (by first|(rw [HR.out];done)|(rw [HR.out];rfl)),HB.out⟩
   · have HR:Hid (DM=true):=Hq (by rw [HD.out,if_neg h2,if_neg h1]);have q2:(kk == 2)=false:=by simpa using h2
     have q1:(kk == 1)=false:=by simpa using h1
     go_wp2;go_ret;exact ⟨ze (by first|(rw [HR.out];done)|(rw [HR.out];rfl)),HWb.out⟩
 · have q0:(dst != 0)=true:=by simpa using hd
   have q3:decide (dst≠0)=true:=by simpa using hd
   go_wp2;go_ret;exact ⟨ze (by rw [q3];rfl),HWb.out⟩
end Go.Proofs.YtdmecdjfbpblgaaGreatDoor
