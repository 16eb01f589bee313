/-
  Words between blanks, each once; names; letters folded: plain mathematics over lists of bytes, of no program.
-/
import Derived.Test.YtdmecdjfbpblgaaGreatDoorRows
import Derived.PlainAid
import Derived.Lib.Strings
import Derived.ProofKit
import Derived.OpenShut
import Derived.Lib.Hide
import Derived.Deep.Slices
import Derived.BigQuiet
import Derived.WalkSmall
import Derived.Deep.DeepCutAuto
namespace Go.Proofs.YtdmecdjfbpblgaaGreatDoor
set_option maxRecDepth 100000
set_option maxHeartbeats 32000000
open Go.PlainAid (bt)
set_option linter.unusedVariables false
def bl (c:Int):Bool:=decide (c=9\/c=10\/c=12\/c=13\/c=32)
def cap (c:Int):Bool:=decide (65<=c/\c<=90)
def let_ (c:Int):Bool:=decide ((65<=c/\c<=90)\/(97<=c/\c<=122))
def nb (c:Int):Bool:=decide ((65<=c/\c<=90)\/(97<=c/\c<=122)\/(48<=c/\c<=57)\/c=45\/c=95)
abbrev Wd:=List UInt8
def split:Wd->Wd->List Wd
 | cur,[]=>if cur=[] then [] else [cur]
 | cur,c::l=>if bl (c.toNat:Int)=true then (if cur=[] then split [] l else cur::split [] l) else split (cur++[c]) l
def str (l:Wd):ByteArray:=⟨l.toArray⟩
def cu (s:ByteArray) (x y:Nat):Wd:=(s.extract x y).data.toList
def rs (s:ByteArray) (y:Nat):Wd:=s.data.toList.drop y
def Nm (s:ByteArray):Prop:=1<=s.size/\s.size<=20/\let_ (bt s 0)=true/\∀ k,k<s.size->nb (bt s k)=true
instance (s:ByteArray):Decidable (Nm s):=by unfold Nm;infer_instance
def nm (s:ByteArray):Bool:=decide (Nm s)
open Go.ChangeShapes Go.WideShapes Go.ChangeAt Go.RowKit
theorem ze {a b:Bool} (h:a=b):Ending.returned (.bool a) = .returned (.bool b):=by rw [h]
theorem zj3 (c:Int) (w:World) (h0:0<=c) (h1:c<=255) :
 Calls Tryz.prog 168 #[.int .u8 c] w fun e w'=>e = .returned (.bool (cap c))/\w=w':=by
 go_enter Tryz.func168,Tryz.ntmps168;go_wp2
 all_goals
  go_ret;exact ⟨ze (by simp [cap];try omega),rfl⟩
theorem zdn (c:Int) (w:World) (h0:0<=c) (h1:c<=255) :
 Calls Tryz.prog 150 #[.int .u8 c] w fun e w'=>e = .returned (.bool (let_ c))/\w=w':=by
 rcases Bool.eq_false_or_eq_true (cap c) with hc|hc
 all_goals
  have hd:=hc;simp [cap] at hd;go_enter Tryz.func150,Tryz.ntmps150
  go_wp2_with (go_at_call 168;refine (zj3 c _ h0 h1).mono ?_;rintro e w' ⟨rfl,rfl⟩)
  all_goals
   go_ret;exact ⟨ze (by rw [Bool.eq_iff_iff];simp [let_]<;>omega),rfl⟩
theorem zej (c:Int) (w:World) (h0:0<=c) (h1:c<=255) :
 Calls Tryz.prog 151 #[.int .u8 c] w fun e w'=>e = .returned (.bool (nb c))/\w=w':=by
 rcases Bool.eq_false_or_eq_true (let_ c) with hc|hc
 all_goals
  have hd:=hc;simp [let_] at hd;go_enter Tryz.func151,Tryz.ntmps151
  go_wp2_with (go_at_call 150;refine (zdn c _ h0 h1).mono ?_;rintro e w' ⟨rfl,rfl⟩)
  all_goals
   go_ret;exact ⟨ze (by rw [Bool.eq_iff_iff];simp [nb]<;>omega),rfl⟩
theorem zha (s:ByteArray) (w:World) (hs:s.size<=100000) :
 Calls Tryz.prog 114 #[.string s] w fun e w'=>e = .returned (.bool (decide (s.size<=60)))/\w=w':=by
 go_enter Tryz.func114,Tryz.ntmps114;go_wp2;go_ret;exact ⟨ze (by simp;try omega),rfl⟩
theorem Hq {p:Prop} (h:p):Hid p:=Lib.hid h
theorem Bq (w:World) (o:Obj):Below w.heap.size w (w.alloc o):=(Below.refl _ _).alloc (Nat.le_refl _) _
set_option linter.unusedSimpArgs false
theorem nm_no {s:ByteArray} (h:¬ Nm s):nm s=false:=by unfold nm;simpa using h
theorem zup {s:ByteArray} (h:Nm s):nm s=true:=by unfold nm;simpa using h
theorem zco {s:ByteArray} (h:s.size=0):s.toList=[]:=by
 rw [Lib.toList_data];rw [Lib.size_eq] at h;exact List.eq_nil_of_length_eq_zero h
theorem zek {s:ByteArray} (h:0<s.size):¬ s.toList=[]:=by
 rw [Lib.toList_data];rw [Lib.size_eq] at h;intro e;rw [e] at h;simp at h
theorem zhb (s:ByteArray) (w:World) (hs:s.size<=100000) :
 Calls Tryz.prog 115 #[.string s] w fun e w'=>e = .returned (.bool (nm s))/\w=w':=by
 have hbt:=PlainAid.get_bt s;have h1:=PlainAid.bt_nonneg s 0;have h2:=PlainAid.bt_le s 0
 by_cases h0:s.size=0
 · have hE:=zco h0;have hE':s.toList.isEmpty=true:=by rw [hE];rfl
   have H0:=Hq h0;clear h0;go_enter Tryz.func115,Tryz.ntmps115;go_wp2;go_ret;exact ⟨ze (nm_no (fun h=>by have:=h.1;have:=H0.out;omega)).symm,rfl⟩
 · have hpos:0<s.size:=by omega
   have hE:=zek hpos;have hE':s.toList.isEmpty=false:=by simpa using hE
   by_cases h20:20<s.size
   · go_enter Tryz.func115,Tryz.ntmps115;go_wp2;go_ret;exact ⟨ze (nm_no (fun h=>by have:=h.2.1;omega)).symm,rfl⟩
   · rcases Bool.eq_false_or_eq_true (let_ (bt s 0)) with hl|hl
     · go_enter Tryz.func115,Tryz.ntmps115;go_wp2_with fail;refine (zdn _ _ h1 h2).mono ?_;rintro e w' ⟨rfl,rfl⟩;go_wp2
       go_loop [19] (fun i=>∃ k:Nat,k<=s.size/\i = .int .i64 k/\Hid (∀ j,j<k->nb (bt s j)=true)) (fun i=>s.size - (intOf i).toNat)
       case atStart => exact ⟨0,Nat.zero_le _,rfl,Hq (fun j h=>by omega)⟩
       case round =>
        obtain ⟨k,hk,rfl,hne⟩:=hrel;have g1:=PlainAid.bt_nonneg s k;have g2:=PlainAid.bt_le s k
        by_cases hlt:k<s.size
        · rcases Bool.eq_false_or_eq_true (nb (bt s k)) with hb|hb
          · go_wp2_with fail;refine (zej _ _ g1 g2).mono ?_;rintro e w' ⟨rfl,rfl⟩;go_wp2;go_round
            case rel =>
             refine ⟨k+1,by omega,by go_num,Hq (fun j h=>?_)⟩
             rcases Nat.lt_or_ge j k with hj|hj
             · exact hne.out j hj
             · obtain rfl:j=k:=by omega
               exact hb
            case measure => simp [intOf];omega
          · go_wp2_with fail;refine (zej _ _ g1 g2).mono ?_;rintro e w' ⟨rfl,rfl⟩;go_wp2;go_ret;exact ⟨ze (nm_no (fun h=>by have:=h.2.2.2 k hlt;rw [hb] at this;cases this)).symm,rfl⟩
        · go_wp2;go_ret;exact ⟨ze (zup ⟨by omega,by omega,hl,fun j hj=>hne.out j (by omega)⟩).symm,rfl⟩
     · go_enter Tryz.func115,Tryz.ntmps115;go_wp2_with fail;refine (zdn _ _ h1 h2).mono ?_;rintro e w' ⟨rfl,rfl⟩;go_wp2;go_ret;exact ⟨ze (nm_no (fun h=>by have:=h.2.2.1;rw [hl] at this;cases this)).symm,rfl⟩
structure Mn where
 kind:Int
 name:ByteArray
 text:ByteArray
 attrs:List (ByteArray × ByteArray)
 parent:Int
 kids:List Int
 aA:Option Addr
 aC:Nat
 kA:Option Addr
 kC:Nat
def nval (m:Mn):Value:=.agg #[.int .i64 m.kind,.string m.name,.string m.text,.slice m.aA m.attrs.length m.aC,.int .i64 m.parent,.slice m.kA m.kids.length m.kC]
def IR (w:World) (A:Option Addr) (l:List Int):Prop:=∀ j,j<l.length->∃ g off,A=some ⟨g,off,none⟩/\g<w.heap.size/\w.cell? ⟨g,off+j,none⟩=some (.int .i64 (l.getD j 0))
def AR (w:World) (A:Option Addr) (l:List (ByteArray × ByteArray)):Prop:=∀ j,j<l.length->∃ g off,A=some ⟨g,off,none⟩/\g<w.heap.size/\w.cell? ⟨g,off+j*2,none⟩=some (.string (l.getD j default).1)/\w.cell? ⟨g,off+j*2+1,none⟩=some (.string (l.getD j default).2)
def I64 (x:Int):Prop:=-9223372036854775808<=x/\x<=9223372036854775807
structure Fit (m:Mn):Prop where
 k64:I64 m.kind
 p64:I64 m.parent
 ks64:∀ x∈m.kids,I64 x
 ac:m.attrs.length<=m.aC/\m.aC<=9223372036854775807
 kc:m.kids.length<=m.kC/\m.kC<=9223372036854775807
structure NodeAt (w:World) (g o:Nat) (m:Mn):Prop where
 c0:w.cell? ⟨g,o,none⟩=some (.int .i64 m.kind)
 c1:w.cell? ⟨g,o+1,none⟩=some (.string m.name)
 c2:w.cell? ⟨g,o+2,none⟩=some (.string m.text)
 c3:w.cell? ⟨g,o+3,none⟩=some (.slice m.aA m.attrs.length m.aC)
 c4:w.cell? ⟨g,o+4,none⟩=some (.int .i64 m.parent)
 c5:w.cell? ⟨g,o+5,none⟩=some (.slice m.kA m.kids.length m.kC)
 ar:AR w m.aA m.attrs
 ir:IR w m.kA m.kids
def FR (w:World) (A:Option Addr) (F:List Mn):Prop:=∀ i m,F[i]? = some m->Fit m/\∃ g off,A=some ⟨g,off,none⟩/\g<w.heap.size/\NodeAt w g (off+i*6) m
theorem IR.below {w w':World} {A:Option Addr} {l:List Int} (h:IR w A l) (hb:Below w.heap.size w w'):IR w' A l:=fun j hj=>by
 obtain ⟨g,off,hA,hg,hc⟩:=h j hj;exact ⟨g,off,hA,Nat.lt_of_lt_of_le hg hb.size,(hb.cell (p:=⟨g,off+j,none⟩) hg).trans hc⟩
theorem AR.below {w w':World} {A:Option Addr} {l:List (ByteArray × ByteArray)} (h:AR w A l) (hb:Below w.heap.size w w'):AR w' A l:=fun j hj=>by
 obtain ⟨g,off,hA,hg,hc,hd⟩:=h j hj;exact ⟨g,off,hA,Nat.lt_of_lt_of_le hg hb.size,(hb.cell (p:=⟨g,off+j*2,none⟩) hg).trans hc,(hb.cell (p:=⟨g,off+j*2+1,none⟩) hg).trans hd⟩
theorem NodeAt.below {w w':World} {g o:Nat} {m:Mn} (h:NodeAt w g o m) (hg:g<w.heap.size) (hb:Below w.heap.size w w'):NodeAt w' g o m :=
 ⟨(hb.cell (p:=⟨g,o,none⟩) hg).trans h.c0,(hb.cell (p:=⟨g,o+1,none⟩) hg).trans h.c1,(hb.cell (p:=⟨g,o+2,none⟩) hg).trans h.c2,(hb.cell (p:=⟨g,o+3,none⟩) hg).trans h.c3,(hb.cell (p:=⟨g,o+4,none⟩) hg).trans h.c4,(hb.cell (p:=⟨g,o+5,none⟩) hg).trans h.c5,h.ar.below hb,h.ir.below hb⟩
theorem FR.below {w w':World} {A:Option Addr} {F:List Mn} (h:FR w A F) (hb:Below w.heap.size w w'):FR w' A F:=fun i m hm=>by
 obtain ⟨hf,g,off,hA,hg,hc⟩:=h i m hm;exact ⟨hf,g,off,hA,Nat.lt_of_lt_of_le hg hb.size,hc.below hg hb⟩
def emp (s:ByteArray):Bool:=decide (s.size=0)
def attrsB (l:List (ByteArray × ByteArray)):Bool:=decide (l.length<=8) && (List.range l.length).all fun i=>nm (l.getD i default).1 && (decide ((l.getD i default).2.size<=60) && !((l.take i).any fun a=>a.1.toList == (l.getD i default).1.toList))
def ownB (m:Mn):Bool :=
 if m.kind=2\/m.kind=3 then decide (m.text.size<=60) && (decide (m.kids.length=0) && (emp m.name && decide (m.attrs.length=0)))
 else if m.kind=0 then emp m.name && (emp m.text && decide (m.attrs.length=0))
 else if m.kind=1 then nm m.name && (emp m.text && attrsB m.attrs)
 else false
def par (F:List Mn) (k:Nat):Int:=((F[k]?).map Mn.parent).getD 0
def kidsOf (F:List Mn) (k:Nat):List Int:=((F[k]?).map Mn.kids).getD []
def kindOf (F:List Mn) (k:Nat):Int:=((F[k]?).map Mn.kind).getD 0
def isB (F:List Mn) (x:Int):Bool:=decide (0<=x/\x<F.length)
def linkB (F:List Mn) (i:Nat):Bool :=
 (decide (par F i = -1) || (decide (i≠0) && (isB F (par F i) && decide ((kidsOf F (par F i).toNat).count (i:Int)=1)))) && (kidsOf F i).all fun k=>isB F k && decide (par F k.toNat=i)
def docB (F:List Mn):Bool:=(kidsOf F 0).all (fun k=>decide (kindOf F k.toNat≠2)) && decide (((kidsOf F 0).filter fun k=>decide (kindOf F k.toNat=1)).length<=1)
def endsB (F:List Mn):Nat->Int->Bool
 | 0,x=>decide (x = -1)
 | n+1,x=>decide (x = -1) || endsB F n (par F x.toNat)
def oneB (F:List Mn) (i:Nat) (m:Mn):Bool:=((m.kind == 0) == ((i:Int) == 0)) && (ownB m && linkB F i)
def mayB (F:List Mn):Bool:=decide (0<F.length/\F.length<=60) && ((List.range F.length).all (fun i=>((F[i]?).map (oneB F i)).getD false) && (docB F && (List.range F.length).all fun i=>endsB F F.length i))
def GivesV (v:Value) (w:World) (en:Ending) (w':World):Prop:=en = .returned v/\Below w.heap.size w w'
theorem lt_of_block {w:World} {k:Nat} {o:Obj} (h:w.heap[k]? = some o):k<w.heap.size:=(Array.getElem?_eq_some_iff.1 h).1
theorem zce (A:Option Addr) (n c:Nat) (x:Int) (w:World) (hn:n<=1000) :
 Calls Tryz.prog 30 #[.slice A n c,.int .i64 x] w fun e w'=>e = .returned (.bool (decide (0<=x/\x<n)))/\w'=w:=by
 by_cases h:0<=x
 · go_enter Tryz.func30,Tryz.ntmps30;go_wp2;go_ret;exact ⟨ze (by simp [h]),rfl⟩
 · go_enter Tryz.func30,Tryz.ntmps30;go_wp2;go_ret;exact ⟨ze (by simp;omega),rfl⟩
theorem getD_at {α:Type} {l:List α} (d:α) {j:Nat} (h:j<l.length):l.getD j d=l[j]:=by simp [List.getD,List.getElem?_eq_getElem h]
theorem zaa {α:Type} {l:List α} {k:Nat} (h:k<l.length):l.take (k+1)=l.take k++[l[k]]:=List.take_succ_eq_append_getElem h
theorem zj6 (A:Option Addr) (l:List Int) (c:Nat) (x:Int) (w:World) (hI:IR w A l) (hl:l.length<=1000) :
 Calls Tryz.prog 117 #[.slice A l.length c,.int .i64 x] w fun e w'=>e = .returned (.int .i64 (l.count x:Nat))/\w'=w:=by
 have HI:=Hq hI;obtain ⟨n,hn⟩:∃ n,l.length=n:=⟨_,rfl⟩;have HN:=Hq hn;rw [hn] at hl ⊢;clear hI hn;go_enter Tryz.func117,Tryz.ntmps117;go_wp2
 go_loopw [5,10] (fun m i wr=>∃ k:Nat,k<=n/\i = .int .i64 k/\m = .int .i64 ((l.take k).count x:Nat)/\w=wr) (fun _ i _=>n - (intOf i).toNat)
 case atStart => exact ⟨0,Nat.zero_le _,rfl,rfl,rfl⟩
 case round =>
  obtain ⟨k,hk,rfl,rfl,rfl⟩:=hrel
  by_cases hlt:k<n
  · have k0:(0:Int)<=(k:Int):=by omega
    have k1:(k:Int)<(n:Int):=by omega
    have hkl:k<l.length:=by rw [HN.out];exact hlt
    obtain ⟨g,off,rfl,hg,hc⟩:=HI.out k hkl;have hle:(l.take k).count x<=k:=Nat.le_trans List.count_le_length (by rw [List.length_take];omega);have HT:Hid ((l.take (k+1)).count x=(l.take k).count x+if l.getD k 0 == x then 1 else 0):=Hq (by
     rw [zaa hkl,List.count_append,getD_at 0 hkl,List.count_singleton])
    generalize l.getD k 0=y at *;generalize (l.take k).count x=q at *
    rcases Bool.eq_false_or_eq_true (y == x) with hy|hy
    · go_wp2;go_roundw
      case rel => exact ⟨k+1,by omega,by go_num,by rw [HT.out,hy];go_num,by first|trivial|rfl⟩
      case measure => simp [intOf]<;>omega
    · go_wp2;go_roundw
      case rel => exact ⟨k+1,by omega,by go_num,by rw [HT.out,hy];simp,by first|trivial|rfl⟩
      case measure => simp [intOf]<;>omega
  · obtain rfl:k=n:=by omega
    have e:l.take k=l:=List.take_of_length_le (by rw [HN.out];exact Nat.le_refl _);go_wp2;go_ret;exact ⟨by rw [e];rfl,rfl⟩
def kidBad (F:List Mn) (i:Nat) (k:Int):Bool:=!(isB F k && decide (par F k.toNat=i))
def kidF (kf ki:Nat):Value:=.func (.func 119) #[] #[.pointer (some ⟨kf,0,none⟩),.pointer (some ⟨ki,0,none⟩)]
theorem zth (kf ki:Nat) (A:Option Addr) (F:List Mn) (c i:Nat) (x:Int) (w:World) (hF:FR w A F) (hn:F.length<=1000) (hkf:w.cell? ⟨kf,0,none⟩=some (.slice A F.length c)) (hki:w.cell? ⟨ki,0,none⟩=some (.int .i64 i)) :
 Calls Tryz.prog 119 #[.int .i64 x,.pointer (some ⟨kf,0,none⟩),.pointer (some ⟨ki,0,none⟩)] w (GivesV (.bool (kidBad F i x)) w):=by
 have HF:=Hq hF;clear hF;obtain ⟨n,hnn⟩:∃ n,F.length=n:=⟨_,rfl⟩;have HNN:=Hq hnn;rw [hnn] at hkf hn;clear hnn
 by_cases hx:0<=x/\x<n
 · obtain ⟨k,rfl⟩:=Int.eq_ofNat_of_zero_le hx.1;have hk:k<F.length:=by rw [HNN.out];omega
   obtain ⟨hfit,g,off,rfl,hg,hnode⟩:=HF.out k F[k] (List.getElem?_eq_getElem hk);have c4:=hnode.c4;have hp:par F k=F[k].parent:=by simp [par,List.getElem?_eq_getElem hk]
   have h0:(0:Int)<=(k:Int):=by omega
   have h1:(k:Int)<(n:Int):=by omega
   have HB:Hid (kidBad F i (k:Int) = !decide (F[k].parent=(i:Int))):=Hq (by simp [kidBad,isB,hp,HNN.out];omega);clear hnode hfit hp;generalize F[k].parent=pp at *;have HIs:=Hq (fun W=>zce (some ⟨g,off,none⟩) n c (k:Int) W hn);rw [decide_eq_true hx] at HIs
   rcases Bool.eq_false_or_eq_true (pp == (i:Int)) with hy|hy
   all_goals
    go_enter Tryz.func119,Tryz.ntmps119;go_wp2_with fail
    go_quiet ((go_at_call 30;exact Calls.quiet_of_same (HIs.out _)))
    go_wp2;go_ret;refine ⟨ze ?_,below_drewN (Below.refl _ _) _⟩;rw [HB.out]
    simp_all
 · have hd:decide (0<=x/\x<(n:Int))=false:=by simpa using hx
   have HB:Hid (kidBad F i x=true):=Hq (by simp only [kidBad,isB,HNN.out,hd];rfl);have HIs:=Hq (fun W=>zce A n c x W hn);rw [hd] at HIs;go_enter Tryz.func119,Tryz.ntmps119;go_wp2_with fail
   go_quiet ((go_at_call 30;exact Calls.quiet_of_same (HIs.out _)))
   go_wp2;go_ret;exact ⟨ze HB.out.symm,below_drewN (Below.refl _ _) _⟩
theorem indexKid (kf ki:Nat) (A:Option Addr) (F:List Mn) (c i:Nat) (Ak:Option Addr) (l:List Int) (ck:Nat) (w:World) (hF:FR w A F) (hn:F.length<=1000) (hkf:w.cell? ⟨kf,0,none⟩=some (.slice A F.length c)) (hki:w.cell? ⟨ki,0,none⟩=some (.int .i64 i)) (hkf':kf<w.heap.size) (hki':ki<w.heap.size) (hI:IR w Ak l) (hl:l.length<=1000) :
 Calls Tryz.prog 154 #[.slice Ak l.length ck,kidF kf ki] w fun e w'=>∃ j:Int,e = .returned (.int .i64 j)/\decide (0<=j)=l.any (kidBad F i)/\Below w.heap.size w w':=by
 have HF:=Hq hF;have HI:=Hq hI;have HKF:=Hq hkf;have HKI:=Hq hki;obtain ⟨n,hnn⟩:∃ n,l.length=n:=⟨_,rfl⟩;have HNN:=Hq hnn;rw [hnn] at hl ⊢;clear hF hI hnn hkf hki;unfold kidF;go_enter Tryz.func154,Tryz.ntmps154;go_wp2
 go_loopw [8] (fun q wr=>∃ k:Nat,k<=n/\q = .int .i64 k/\Hid ((l.take k).any (kidBad F i)=false)/\Hid (Below w.heap.size w wr)) (fun q _=>n - (intOf q).toNat)
 case atStart => exact ⟨0,Nat.zero_le _,rfl,Hq rfl,Hq (Below.refl _ _)⟩
 case round =>
  obtain ⟨k,hk,rfl,HT,HB⟩:=hrel
  by_cases hlt:k<n
  · have k0:(0:Int)<=(k:Int):=by omega
    have k1:(k:Int)<(n:Int):=by omega
    have hkl:k<l.length:=by rw [HNN.out];exact hlt
    obtain ⟨g,off,rfl,hg,hc⟩:=(HI.out.below HB.out) k hkl;have HK:=Hq (zth kf ki A F c i (l.getD k 0) wr (HF.out.below HB.out) hn ((HB.out.cell (p:=⟨kf,0,none⟩) hkf').trans HKF.out) ((HB.out.cell (p:=⟨ki,0,none⟩) hki').trans HKI.out));have HT2:Hid ((l.take (k+1)).any (kidBad F i)=kidBad F i (l.getD k 0)):=Hq (by rw [zaa hkl,List.any_append,HT.out,getD_at 0 hkl];simp);have HT3:Hid (kidBad F i (l.getD k 0)=true->l.any (kidBad F i)=true):=Hq (fun h=>List.any_eq_true.2 ⟨l.getD k 0,by rw [getD_at 0 hkl];exact List.getElem_mem _,h⟩);generalize l.getD k 0=y at *;go_wp2_with fail;refine HK.out.mono ?_;rintro e w1 ⟨rfl,hb⟩;have HB1:=Hq (HB.out.trans (hb.mono HB.out.size));clear hb hc
    rcases Bool.eq_false_or_eq_true (kidBad F i y) with hy|hy
    · have HA:=Hq (HT3.out hy);rw [hy];go_wp2;go_ret;exact ⟨k,rfl,by rw [HA.out];simp,HB1.out⟩
    · rw [hy] at HT2 ⊢;go_wp2;go_roundw
      case rel => exact ⟨k+1,by omega,by go_num,HT2,HB1⟩
      case measure => simp [intOf]<;>omega
  · obtain rfl:k=n:=by omega
    have e:l.take k=l:=List.take_of_length_le (by rw [HNN.out];exact Nat.le_refl _);go_wp2;go_ret;exact ⟨-1,rfl,by rw [<- e,HT.out];rfl,HB.out⟩
theorem hasKid (kf ki:Nat) (A:Option Addr) (F:List Mn) (c i:Nat) (Ak:Option Addr) (l:List Int) (ck:Nat) (w:World) (hF:FR w A F) (hn:F.length<=1000) (hkf:w.cell? ⟨kf,0,none⟩=some (.slice A F.length c)) (hki:w.cell? ⟨ki,0,none⟩=some (.int .i64 i)) (hkf':kf<w.heap.size) (hki':ki<w.heap.size) (hI:IR w Ak l) (hl:l.length<=1000) :
 Calls Tryz.prog 118 #[.slice Ak l.length ck,kidF kf ki] w (GivesV (.bool (l.any (kidBad F i))) w):=by
 have HX:=Hq (indexKid kf ki A F c i Ak l ck w hF hn hkf hki hkf' hki' hI hl);clear hF hkf hki hI;unfold kidF at *;go_enter Tryz.func118,Tryz.ntmps118;go_wp2_with fail;refine HX.out.mono ?_;rintro e w1 ⟨j,rfl,hj,hb⟩;have HJ:=Hq hj;have HB:=Hq hb;clear hj hb;go_wp2;go_ret;refine ⟨ze ?_,HB.out⟩;rw [<- HJ.out]
theorem block1 {w:World} {k:Nat} {a:Value} {t:TypeId} (h:w.heap[k]? = some (.cells #[a] t (0,0))):w.cell? ⟨k,0,none⟩=some a:=by
 simp [World.cell?,h]
theorem block6 {w:World} {k:Nat} {a b c d e f:Value} {t:TypeId} (h:w.heap[k]? = some (.cells #[a,b,c,d,e,f] t (0,0))) :
 w.cell? ⟨k,0,none⟩=some a/\w.cell? ⟨k,1,none⟩=some b/\w.cell? ⟨k,2,none⟩=some c/\w.cell? ⟨k,3,none⟩=some d/\w.cell? ⟨k,4,none⟩=some e/\w.cell? ⟨k,5,none⟩=some f:=by
 simp [World.cell?,h]
theorem znj (F:List Mn) (i:Nat) (l:List Int):(l.all fun k=>isB F k && decide (par F k.toNat=i)) = !(l.any (kidBad F i)):=by
 rw [List.not_any_eq_all_not];congr 1;funext k;simp [kidBad]
theorem zj7 (A:Option Addr) (F:List Mn) (c i:Nat) (w:World) (hF:FR w A F) (hn:F.length<=1000) (hi:i<F.length) (hk:∀ m∈F,m.kids.length<=1000) :
 Calls Tryz.prog 60 #[.slice A F.length c,.int .i64 i] w (GivesV (.bool (linkB F i)) w):=by
 have HF:=Hq hF;have HK:=Hq hk;obtain ⟨hfit,g,off,hA,hg,hnode⟩:=hF i F[i] (List.getElem?_eq_getElem hi);have HA:=Hq hA;have HP:Hid (par F i=F[i].parent/\kidsOf F i=F[i].kids):=Hq (by simp [par,kidsOf,List.getElem?_eq_getElem hi]);have HKl:=Hq (hk F[i] (List.getElem_mem _));have HND:=Hq hnode;obtain ⟨hp0,hp1⟩:=hfit.p64;generalize F[i]=m at *;obtain ⟨n,hnn⟩:∃ n,F.length=n:=⟨_,rfl⟩;have HNN:=Hq hnn;rw [hnn] at hn hi ⊢;clear hF hk hnode hfit hnn;have i0:(0:Int)<=(i:Int):=by omega
 have i1:(i:Int)<(n:Int):=by omega
 subst hA;have c0:=HND.out.c0;have c1:=HND.out.c1;have c2:=HND.out.c2;have c3:=HND.out.c3;have c4:=HND.out.c4;have c5:=HND.out.c5;have HLK:Hid (linkB F i=((decide (m.parent = -1) || (decide (i≠0) && (isB F m.parent && decide ((kidsOf F m.parent.toNat).count (i:Int)=1)))) && !(m.kids.any (kidBad F i)))):=Hq (by
  rw [linkB,HP.out.1,HP.out.2,znj])
 have HIs:=Hq (fun W=>zce (some ⟨g,off,none⟩) n c m.parent W hn);go_enter Tryz.func60,Tryz.ntmps60;go_upto_region 2 with fail
 obtain ⟨W,hW⟩:∃ W,W=((w.alloc (.cells #[.slice (some ⟨g,off,none⟩) n c] 61)).alloc (.cells #[.int .i64 i] 3)).alloc (.cells #[.int .i64 m.kind,.string m.name,.string m.text,.slice m.aA m.attrs.length m.aC,.int .i64 m.parent,.slice m.kA m.kids.length m.kC] 90):=⟨_,rfl⟩;rw [<- hW];have HW:Hid (Below w.heap.size w W/\W.heap[w.heap.size]? = some (.cells #[.slice (some ⟨g,off,none⟩) n c] 61 (0,0))/\W.heap[w.heap.size+1]? = some (.cells #[.int .i64 i] 3 (0,0))/\W.heap[w.heap.size+2]? = some (.cells #[.int .i64 m.kind,.string m.name,.string m.text,.slice m.aA m.attrs.length m.aC,.int .i64 m.parent,.slice m.kA m.kids.length m.kC] 90 (0,0))):=Hq (by
  subst hW;refine ⟨(((Below.refl _ w).alloc (Nat.le_refl _) _).alloc (by simp) _).alloc (by simp;omega) _,?_,?_,?_⟩
  · rw [heap_alloc_old _ _ (by simp;omega),heap_alloc_old _ _ (by simp)];exact heap_alloc_new w _
  · rw [heap_alloc_old _ _ (by simp)];have:=heap_alloc_new (w.alloc (.cells #[.slice (some ⟨g,off,none⟩) n c] 61)) (.cells #[.int .i64 i] 3);simpa using this
  · have:=heap_alloc_new ((w.alloc (.cells #[.slice (some ⟨g,off,none⟩) n c] 61)).alloc (.cells #[.int .i64 i] 3)) (.cells #[.int .i64 m.kind,.string m.name,.string m.text,.slice m.aA m.attrs.length m.aC,.int .i64 m.parent,.slice m.kA m.kids.length m.kC] 90);simpa using this)
 clear hW c0 c1 c2 c3 c4 c5;have x2:=block1 HW.out.2.1;have x3:=block1 HW.out.2.2.1;obtain ⟨n0,n1,n2,n3,n4,n5⟩:=block6 HW.out.2.2.2;have hks:w.heap.size<W.heap.size:=lt_of_block HW.out.2.1;have hks1:w.heap.size+1<W.heap.size:=lt_of_block HW.out.2.2.1;have HFW:=Hq (HF.out.below HW.out.1);have HGo:Hid (∀ d,Calls Tryz.prog 118 #[.slice m.kA m.kids.length m.kC,kidF w.heap.size (w.heap.size+1)] (W.drewN d) (GivesV (.bool (m.kids.any (kidBad F i))) (W.drewN d))):=Hq (fun d=>by
  have hb:=below_drewN (Below.refl W.heap.size W) d;exact hasKid w.heap.size (w.heap.size+1) (some ⟨g,off,none⟩) F c i m.kA m.kids m.kC (W.drewN d) (HFW.out.below hb) (by rw [HNN.out];exact hn) (by rw [HNN.out];simpa using x2) (by simpa using x3) (by simpa using hks) (by simpa using hks1) ((HND.out.ir.below HW.out.1).below hb) HKl.out)
 unfold kidF at HGo
 rcases Bool.eq_false_or_eq_true (m.parent == -1) with hp|hp
 · have hpe:m.parent = -1:=by simpa using hp
   have HL2:Hid (linkB F i = !(m.kids.any (kidBad F i))):=Hq (by rw [HLK.out,hpe];simp);generalize linkB F i=LB at *;generalize m.kids.any (kidBad F i)=KB at *
   go_quiet (fail)
   go_wp2_with fail;refine (HGo.out _).mono ?_;rintro e w1 ⟨rfl,hb⟩;have HB:=Hq ((below_drewN HW.out.1 nq).trans (hb.mono (by simpa using HW.out.1.size)));clear hb;go_wp2;go_ret;exact ⟨ze HL2.out.symm,HB.out⟩
 have hpe:m.parent ≠ -1:=by simpa using hp
 have hpd:decide (m.parent = -1)=false:=by simpa using hpe
 have hpn:(m.parent != -1)=true:=by simpa using hpe
 by_cases hz:i=0
 · have HL2:Hid (linkB F i=false):=Hq (by rw [HLK.out,hpd,hz];simp);generalize linkB F i=LB at *;subst hz;rw [show ((0:Nat):Int)=0 from rfl] at x3
   go_quiet (fail)
   go_wp2;go_ret;exact ⟨ze HL2.out.symm,below_drewN HW.out.1 _⟩
 have hzb:((i:Int) == 0)=false:=beq_eq_false_iff_ne.2 (by omega);have hzd:decide (i≠0)=true:=by simpa using hz
 by_cases hx:0<=m.parent/\m.parent<n
 · rw [decide_eq_true hx] at HIs;obtain ⟨j,hj⟩:=Int.eq_ofNat_of_zero_le hx.1;have hjl:j<F.length:=by rw [HNN.out];omega
   obtain ⟨hfj,gj,offj,hAj,hgj,hnj⟩:=HFW.out j F[j] (List.getElem?_eq_getElem hjl);obtain ⟨rfl,rfl⟩:gj=g/\offj=off:=by cases hAj;exact ⟨rfl,rfl⟩
   have cj5:=hnj.c5;have HJk:Hid (kidsOf F j=F[j].kids):=Hq (by simp [kidsOf,List.getElem?_eq_getElem hjl]);have HJl:=Hq (HK.out F[j] (List.getElem_mem _));have HJI:=Hq hnj.ir;clear hnj hfj hAj;generalize F[j]=mj at *;have HL2:Hid (linkB F i=(decide (((mj.kids.count (i:Int):Nat):Int)=1) && !(m.kids.any (kidBad F i)))):=Hq (by
    rw [HLK.out,hpd,hzd,hj];have h1:isB F (j:Int)=true:=by simp [isB];omega
    rw [h1,Int.toNat_natCast,HJk.out];have h2:decide (List.count (i:Int) mj.kids=1)=decide (((mj.kids.count (i:Int):Nat):Int)=1):=by rw [decide_eq_decide];omega
    rw [h2];simp)
   have HOf:=Hq (fun (W':World) (h:IR W' mj.kA mj.kids)=>zj6 mj.kA mj.kids mj.kC (i:Int) W' h HJl.out);have hcl:((mj.kids.count (i:Int):Nat):Int)<=1000:=by have:=Nat.le_trans (List.count_le_length (a:=(i:Int)) (l:=mj.kids)) HJl.out;omega
   have hcl0:(0:Int)<=((mj.kids.count (i:Int):Nat):Int):=by omega
   rw [hj] at n4 hp HIs hp0 hp1 hpn;have j0:(0:Int)<=(j:Int):=by omega
   have j1:(j:Int)<(n:Int):=by omega
   generalize linkB F i=LB at *;generalize m.kids.any (kidBad F i)=KB at *;generalize ((mj.kids.count (i:Int):Nat):Int)=CT at *
   rcases Bool.eq_false_or_eq_true (CT == 1) with hc1|hc1
   · have hc1':CT=1:=by simpa using hc1
     go_quiet (first|(go_at_call 30;exact Calls.quiet_of_same (HIs.out _))|(go_at_call 117;exact Calls.quiet_of_same (HOf.out _ (HJI.out.below (by first|exact Below.refl _ _|exact below_drewN (Below.refl _ _) _)))))
     go_wp2_with fail;refine (HGo.out _).mono ?_;rintro e w1 ⟨rfl,hb⟩;have HB:=Hq ((below_drewN HW.out.1 nq).trans (hb.mono (by simpa using HW.out.1.size)));clear hb;go_wp2;go_ret;exact ⟨ze (by rw [HL2.out,hc1'];simp),HB.out⟩
   · have hc1':¬ CT=1:=by simpa using hc1
     have hc3:(CT != 1)=true:=by simpa using hc1'
     go_quiet (first|(go_at_call 30;exact Calls.quiet_of_same (HIs.out _))|(go_at_call 117;exact Calls.quiet_of_same (HOf.out _ (HJI.out.below (by first|exact Below.refl _ _|exact below_drewN (Below.refl _ _) _)))))
     go_wp2;go_ret;exact ⟨ze (by rw [HL2.out];simp [hc1']),below_drewN HW.out.1 _⟩
 · rw [decide_eq_false hx] at HIs;have HL2:Hid (linkB F i=false):=Hq (by
    have h1:isB F m.parent=false:=by simpa [isB,HNN.out] using hx
    rw [HLK.out,hpd,hzd,h1];simp)
   generalize linkB F i=LB at *
   go_quiet ((go_at_call 30;exact Calls.quiet_of_same (HIs.out _)))
   go_wp2;go_ret;exact ⟨ze HL2.out.symm,below_drewN HW.out.1 _⟩
theorem block2 {w:World} {k:Nat} {a b:Value} {t:TypeId} (h:w.heap[k]? = some (.cells #[a,b] t (0,0))):w.cell? ⟨k,0,none⟩=some a/\w.cell? ⟨k,1,none⟩=some b:=by
 simp [World.cell?,h]
def sameN (x:ByteArray) (a:ByteArray × ByteArray):Bool:=a.1.toList == x.toList
def dupF (k:Nat):Value:=.func (.func 153) #[] #[.pointer (some ⟨k,0,none⟩)]
theorem AR.take {w:World} {A:Option Addr} {l:List (ByteArray × ByteArray)} (h:AR w A l) (i:Nat):AR w A (l.take i):=fun j hj=>by
 have hj':j<l.length:=by rw [List.length_take] at hj;omega
 obtain ⟨g,off,h1,h2,h3,h4⟩:=h j hj';have e:(l.take i).getD j default=l.getD j default:=by
  rw [List.length_take] at hj;simp [List.getD,List.getElem?_take,show j<i by omega]
 rw [<- e] at h3 h4;exact ⟨g,off,h1,h2,h3,h4⟩
theorem zti (k:Nat) (x y:ByteArray) (a:ByteArray × ByteArray) (w:World) (hk:w.heap[k]? = some (.cells #[.string x,.string y] 140 (0,0))) :
 Calls Tryz.prog 153 #[.agg #[.string a.1,.string a.2],.pointer (some ⟨k,0,none⟩)] w (GivesV (.bool (sameN x a)) w):=by
 obtain ⟨x0,x1⟩:=block2 hk;have hlt:=lt_of_block hk;have ne:k≠w.heap.size:=by omega
 have HS:Hid (sameN x a=(a.1.toList == x.toList)):=Hq rfl;generalize sameN x a=S at *;clear hk;go_enter Tryz.func153,Tryz.ntmps153;go_wp2;go_ret;refine ⟨ze ?_,(Below.refl _ w).alloc (Nat.le_refl _) _⟩;rw [HS.out]
theorem indexDup (k:Nat) (x y:ByteArray) (A:Option Addr) (l:List (ByteArray × ByteArray)) (c:Nat) (w:World) (hk:w.heap[k]? = some (.cells #[.string x,.string y] 140 (0,0))) (hI:AR w A l) (hl:l.length<=1000) :
 Calls Tryz.prog 164 #[.slice A l.length c,dupF k] w fun e w'=>∃ j:Int,e = .returned (.int .i64 j)/\decide (0<=j)=l.any (sameN x)/\Below w.heap.size w w':=by
 have HI:=Hq hI;have HK:=Hq hk;obtain ⟨n,hnn⟩:∃ n,l.length=n:=⟨_,rfl⟩;have HNN:=Hq hnn;rw [hnn] at hl ⊢;clear hI hnn hk;unfold dupF;go_enter Tryz.func164,Tryz.ntmps164;go_wp2
 go_loopw [8] (fun q wr=>∃ j:Nat,j<=n/\q = .int .i64 j/\Hid ((l.take j).any (sameN x)=false)/\Hid (Below w.heap.size w wr)) (fun q _=>n - (intOf q).toNat)
 case atStart => exact ⟨0,Nat.zero_le _,rfl,Hq rfl,Hq (Below.refl _ _)⟩
 case round =>
  obtain ⟨j,hj,rfl,HT,HB⟩:=hrel
  by_cases hlt:j<n
  · have k0:(0:Int)<=(j:Int):=by omega
    have k1:(j:Int)<(n:Int):=by omega
    have hkl:j<l.length:=by rw [HNN.out];exact hlt
    obtain ⟨g,off,rfl,hg,hc,hd⟩:=(HI.out.below HB.out) j hkl;have HD:=Hq (zti k x y (l.getD j default) wr ((HB.out.block k (lt_of_block HK.out)).trans HK.out));have HT2:Hid ((l.take (j+1)).any (sameN x)=sameN x (l.getD j default)):=Hq (by rw [zaa hkl,List.any_append,HT.out,getD_at default hkl];simp);have HT3:Hid (sameN x (l.getD j default)=true->l.any (sameN x)=true):=Hq (fun h=>List.any_eq_true.2 ⟨l.getD j default,by rw [getD_at default hkl];exact List.getElem_mem _,h⟩);generalize l.getD j default=a at *;go_wp2_with fail;refine HD.out.mono ?_;rintro e w1 ⟨rfl,hb⟩;have HB1:=Hq (HB.out.trans (hb.mono HB.out.size));clear hb hc hd
    rcases Bool.eq_false_or_eq_true (sameN x a) with hy|hy
    · have HA:=Hq (HT3.out hy);rw [hy];go_wp2;go_ret;exact ⟨j,rfl,by rw [HA.out];simp,HB1.out⟩
    · rw [hy] at HT2 ⊢;go_wp2;go_roundw
      case rel => exact ⟨j+1,by omega,by go_num,HT2,HB1⟩
      case measure => simp [intOf]<;>omega
  · obtain rfl:j=n:=by omega
    have e:l.take j=l:=List.take_of_length_le (by rw [HNN.out];exact Nat.le_refl _);go_wp2;go_ret;exact ⟨-1,rfl,by rw [<- e,HT.out];rfl,HB.out⟩
theorem hasDup (k:Nat) (x y:ByteArray) (A:Option Addr) (l:List (ByteArray × ByteArray)) (c:Nat) (w:World) (hk:w.heap[k]? = some (.cells #[.string x,.string y] 140 (0,0))) (hI:AR w A l) (hl:l.length<=1000) :
 Calls Tryz.prog 152 #[.slice A l.length c,dupF k] w (GivesV (.bool (l.any (sameN x))) w):=by
 have HX:=Hq (indexDup k x y A l c w hk hI hl);clear hk hI;unfold dupF at *;go_enter Tryz.func152,Tryz.ntmps152;go_wp2_with fail;refine HX.out.mono ?_;rintro e w1 ⟨j,rfl,hj,hb⟩;have HJ:=Hq hj;have HB:=Hq hb;clear hj hb;go_wp2;go_ret;refine ⟨ze ?_,HB.out⟩;rw [<- HJ.out]
def attrB (l:List (ByteArray × ByteArray)) (i:Nat):Bool:=nm (l.getD i default).1 && (decide ((l.getD i default).2.size<=60) && !((l.take i).any (sameN (l.getD i default).1)))
theorem zo9 (l:List (ByteArray × ByteArray)):attrsB l=(decide (l.length<=8) && (List.range l.length).all (attrB l)):=rfl
theorem zes {f:Nat->Bool} {k:Nat} (h:(List.range k).all f=true):(List.range (k+1)).all f=f k:=by
 rw [List.range_succ,List.all_append,h];simp
theorem zhu {f:Nat->Bool} {n k:Nat} (h:f k=false) (hk:k<n):(List.range n).all f=false:=List.all_eq_false.2 ⟨k,List.mem_range.2 hk,by rw [h];simp⟩
theorem zj8 (A:Option Addr) (l:List (ByteArray × ByteArray)) (c:Nat) (w:World) (hI:AR w A l) (hc:l.length<=c) (hcm:c<=9223372036854775807) (hs:∀ a∈l,a.1.size<=100000/\a.2.size<=100000) :
 Calls Tryz.prog 116 #[.slice A l.length c] w (GivesV (.bool (attrsB l)) w):=by
 have HI:=Hq hI;have HS:=Hq hs;have HE:=Hq (zo9 l);generalize attrsB l=R at *;obtain ⟨n,hnn⟩:∃ n,l.length=n:=⟨_,rfl⟩;have HNN:=Hq hnn;rw [hnn] at hc HE ⊢;clear hI hnn hs
 by_cases h8:8<n
 · have h8':(8:Int)<(n:Int):=by omega
   go_enter Tryz.func116,Tryz.ntmps116;go_wp2;go_ret;exact ⟨ze (by rw [HE.out];simp;omega),Below.refl _ _⟩
 have h8':¬ (8:Int)<(n:Int):=by omega
 go_enter Tryz.func116,Tryz.ntmps116;go_wp2_with fail
 go_loopw [10] (fun q wr=>∃ j:Nat,j<=n/\q = .int .i64 j/\Hid ((List.range j).all (attrB l)=true)/\Hid (Below w.heap.size w wr)) (fun q _=>n - (intOf q).toNat)
 case atStart => exact ⟨0,Nat.zero_le _,rfl,Hq rfl,Hq (Below.refl _ _)⟩
 case round =>
  obtain ⟨j,hj,rfl,HT,HB⟩:=hrel
  by_cases hlt:j<n
  · have k0:(0:Int)<=(j:Int):=by omega
    have k1:(j:Int)<(n:Int):=by omega
    have k2:(j:Int)<=(c:Int):=by omega
    have hkl:j<l.length:=by rw [HNN.out];exact hlt
    obtain ⟨g,off,rfl,hg,hcc,hdd⟩:=(HI.out.below HB.out) j hkl;obtain ⟨hz1,hz2⟩:=HS.out (l.getD j default) (by rw [getD_at default hkl];exact List.getElem_mem _);have HT2:Hid ((List.range (j+1)).all (attrB l)=attrB l j):=Hq (zes HT.out);have HNo:Hid (attrB l j=false->R=false):=Hq (fun h=>by rw [HE.out,zhu h hlt];simp);have HAB:Hid (attrB l j=(nm (l.getD j default).1 && (decide ((l.getD j default).2.size<=60) && !((l.take j).any (sameN (l.getD j default).1))))):=Hq rfl;have HLn:Hid ((l.take j).length=j):=Hq (by rw [List.length_take];omega);have HDp:=Hq (fun (W:World) (k:Nat) (hk:W.heap[k]? = some (.cells #[.string (l.getD j default).1,.string (l.getD j default).2] 140 (0,0))) (h:AR W (some ⟨g,off,none⟩) (l.take j))=>hasDup k _ _ (some ⟨g,off,none⟩) (l.take j) c W hk h (by have:=HLn.out;omega));rw [HLn.out] at HDp;have HAR:=Hq (((HI.out.below HB.out)).take j);generalize attrB l j=AB at *;generalize (l.take j).any (sameN (l.getD j default).1)=DP at *;generalize l.getD j default=a at *;obtain ⟨ax,ay⟩:=a;simp only [] at *;go_upto_region 6 with fail
    obtain ⟨W,hW⟩:∃ W,W=wr.alloc (.cells #[.string ax,.string ay] 140):=⟨_,rfl⟩;rw [<- hW];have hbW:Below wr.heap.size wr W:=by rw [hW];exact Bq _ _
    have HWk:Hid (W.heap[wr.heap.size]? = some (.cells #[.string ax,.string ay] 140 (0,0))):=Hq (by rw [hW];exact heap_alloc_new _ _);have HBW:=Hq (HB.out.trans (hbW.mono HB.out.size));have HAW:=Hq (HAR.out.below hbW);clear hW hbW hcc hdd;obtain ⟨x0,x1⟩:=block2 HWk.out;have HNm:=Hq (zhb ax W hz1);have HTx:=Hq (zha ay W hz2)
    rcases Bool.eq_false_or_eq_true (nm ax) with hn1|hn1
    · rw [hn1] at HNm HAB
      rcases Bool.eq_false_or_eq_true (decide (ay.size<=60)) with hn2|hn2
      · rw [hn2] at HTx HAB;have HDq:=Hq (HDp.out W wr.heap.size HWk.out HAW.out);unfold dupF at HDq;go_wp2_with fail;refine HNm.out.mono ?_;rintro e w' ⟨rfl,rfl⟩;go_wp2_with fail;refine HTx.out.mono ?_;rintro e w' ⟨rfl,rfl⟩;go_wp2_with fail;refine HDq.out.mono ?_;rintro e w1 ⟨rfl,hb⟩;have HB1:=Hq (HBW.out.trans (hb.mono HBW.out.size));clear hb x0 x1
        rcases Bool.eq_false_or_eq_true DP with hd|hd
        · rw [hd] at HAB ⊢;have HR:=Hq (HNo.out (by rw [HAB.out];rfl));go_wp2;go_ret;exact ⟨ze HR.out.symm,HB1.out⟩
        · rw [hd] at HAB ⊢;have HT3:Hid ((List.range (j+1)).all (attrB l)=true):=Hq (by rw [HT2.out,HAB.out];rfl);go_wp2;go_roundw
          case rel => exact ⟨j+1,by omega,by go_num,HT3,HB1⟩
          case measure => simp [intOf]<;>omega
      · rw [hn2] at HTx HAB;have HR:=Hq (HNo.out (by rw [HAB.out];rfl));go_wp2_with fail;refine HNm.out.mono ?_;rintro e w' ⟨rfl,rfl⟩;go_wp2_with fail;refine HTx.out.mono ?_;rintro e w' ⟨rfl,rfl⟩;go_wp2;go_ret;exact ⟨ze HR.out.symm,HBW.out⟩
    · rw [hn1] at HNm HAB;have HR:=Hq (HNo.out (by rw [HAB.out];rfl));go_wp2_with fail;refine HNm.out.mono ?_;rintro e w' ⟨rfl,rfl⟩;go_wp2;go_ret;exact ⟨ze HR.out.symm,HBW.out⟩
  · obtain rfl:j=n:=by omega
    go_wp2;go_ret;exact ⟨ze (by rw [HE.out,HT.out];simp;omega),HB.out⟩
end Go.Proofs.YtdmecdjfbpblgaaGreatDoor
