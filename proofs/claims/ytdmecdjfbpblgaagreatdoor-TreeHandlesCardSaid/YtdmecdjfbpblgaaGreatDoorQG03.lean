/-
  Texts as Print tells them: escaped.
-/
import Derived.Test.YtdmecdjfbpblgaaGreatDoorShelf
import Derived.Test.YtdmecdjfbpblgaaGreatDoorQG02
import Derived.Deep.RegionHeld3
import Derived.Laws.EntriesVeiled
namespace Go.Proofs.YtdmecdjfbpblgaaGreatDoor
set_option maxRecDepth 100000
set_option maxHeartbeats 32000000
open Go.ChangeShapes Go.WideShapes Go.ChangeAt Go.RowKit
set_option linter.unusedVariables false
set_option linter.unusedSimpArgs false
theorem zdv (old new:List UInt8):∀ (k:Nat) (s:List UInt8),(Lib.replaceK old new k s).length<=s.length+k*new.length
 | 0,s=>by simp [Lib.replaceK]
 | k+1,s=>by
   rw [Lib.replaceK]
   split
   · omega
   · have ih:=zdv old new k (s.drop ((Lib.index s old).toNat+old.length));rw [List.length_append,List.length_append,List.length_take];rw [List.length_drop] at ih;rw [Nat.succ_mul];omega
theorem count_le {s:ByteArray} {old:ByteArray} (h:1<=old.size):Lib.countB s old<=s.size:=by
 have:=Lib.countB_mul_le old h s.size s (Nat.le_refl _);exact Nat.le_trans (Nat.le_mul_of_pos_right _ h) this
theorem zba (s old new:ByteArray) (h:1<=old.size) (hne:(old.data.toList == new.data.toList)=false):(Lib.replaceAll s.data.toList old.data.toList new.data.toList).length<=s.size+s.size*new.size:=by
 unfold Lib.replaceAll Lib.replace;rw [hne,if_neg (by simp)];refine Nat.le_trans (zdv _ _ _ _) ?_;have h1:Lib.replaceNum s.data.toList old.data.toList (-1)=Lib.countB s old:=by
  unfold Lib.replaceNum;rw [if_pos (by omega)]
 rw [h1,<- Lib.size_eq,<- Lib.size_eq];have:=Nat.mul_le_mul_right new.size (count_le (s:=s) h);omega
def esc (l:List UInt8):List UInt8:=Lib.replaceAll (Lib.replaceAll l [38] [38,97,109,112,59]) [60] [38,108,116,59]
theorem zgv (s:ByteArray) (mx:Int) (w:World) (hm:w.cell? ⟨1,0,none⟩=some (.int .i64 mx)) (hs:s.size<=100000) :
 Calls Tryz.prog 33 #[.string s] w (GivesV (.string ⟨(esc s.data.toList).toArray⟩) w):=by
 have hg:1<w.heap.size:=World.block_lt_of_cell? _ _ hm;have hc1:=count_le (s:=s) (old:=⟨#[38]⟩) (by decide);have H1:=Hq (Tryz.strings_ReplaceAll s ⟨#[38]⟩ ⟨#[38,97,109,112,59]⟩ mx w (by omega) hm (by decide) (by show s.size+Lib.countB s ⟨#[38]⟩*5<=_;omega));have hl1:=zba s ⟨#[38]⟩ ⟨#[38,97,109,112,59]⟩ (by decide) (by decide);obtain ⟨t,ht⟩:∃ t:ByteArray,t=⟨(Lib.replaceAll s.data.toList [38] [38,97,109,112,59]).toArray⟩:=⟨_,rfl⟩;have htl:t.data.toList=Lib.replaceAll s.data.toList [38] [38,97,109,112,59]:=by rw [ht]
 have hts:t.size<=600000:=by
  rw [Lib.size_eq,htl];refine Nat.le_trans hl1 ?_;show s.size+s.size*5<=600000;omega
 have hc2:=count_le (s:=t) (old:=⟨#[60]⟩) (by decide);have H2:=Hq (fun (W:World) (hW:W.cell? ⟨1,0,none⟩=some (.int .i64 mx))=>Tryz.strings_ReplaceAll t ⟨#[60]⟩ ⟨#[38,108,116,59]⟩ mx W (by omega) hW (by decide) (by show t.size+Lib.countB t ⟨#[60]⟩*4<=_;omega));have HR:Hid ((⟨(Lib.replaceAll t.data.toList [60] [38,108,116,59]).toArray⟩:ByteArray)=⟨(esc s.data.toList).toArray⟩):=Hq (by rw [htl];rfl);have H1':Hid (Calls Tryz.prog 65 #[.string s,.string ⟨#[38]⟩,.string ⟨#[38,97,109,112,59]⟩] w fun e w'=>e = .returned (.string t)/\Below w.heap.size w w'):=Hq (by rw [ht];exact H1.out);have H2':Hid (∀ (W:World),W.cell? ⟨1,0,none⟩=some (.int .i64 mx)->Calls Tryz.prog 65 #[.string t,.string ⟨#[60]⟩,.string ⟨#[38,108,116,59]⟩] W fun e w'=>e = .returned (.string ⟨(esc s.data.toList).toArray⟩)/\Below W.heap.size W w'):=Hq (fun W hW=>by rw [<- HR.out];exact H2.out W hW);clear H1 H2 HR htl hts hl1 hc1 hc2 ht;generalize (⟨(esc s.data.toList).toArray⟩:ByteArray)=R at *;have HM:=Hq hm;clear hm;go_enter Tryz.func33,Tryz.ntmps33;go_wp2_with fail;refine H1'.out.mono ?_;rintro e w1 ⟨rfl,hb⟩;have HB:=Hq hb;clear hb;go_wp2_with fail;refine (H2'.out w1 ((HB.out.cell (p:=⟨1,0,none⟩) hg).trans HM.out)).mono ?_;rintro e w2 ⟨rfl,hb⟩;have HB2:=Hq (HB.out.trans (hb.mono HB.out.size));clear hb;go_wp2;go_ret;exact ⟨rfl,HB2.out⟩
def Bd (w:World) (b:Nat) (l:List UInt8):Prop:=Lib.IsBuilderF 97 5 b b (Lib.byteCells l) w
abbrev Oth (b:Nat) (w w':World):Prop:=Lib.OthersKept 5 (some b) w w'
theorem zbj (b:Nat) (l:List UInt8) (s:ByteArray) (w:World) (h:Bd w b l) (hb:b<=w.heap.size) (hl:l.length+s.size<=1000000000000) :
 Calls Tryz.prog 32 #[.pointer (some ⟨b,0,none⟩),.string s] w fun e w'=>e = .returned (.tuple #[.int .i64 s.size,.nilIface])/\Bd w' b (l++s.data.toList)/\Below b w w'/\Oth b w w':=by
 refine (Any.Builder_WriteString_k { Tryz.lays154 with } Tryz.Builder_Extra_154 b b (Lib.byteCells l) s w h (by rw [Lib.byteCells_length];omega) hb).mono ?_;rintro e w' ⟨rfl,h1,h2,h3⟩;refine ⟨rfl,?_,h2,h3⟩;rw [Lib.strCells_eq,<- Lib.byteCells_append] at h1;exact Or.inr h1
theorem zmm (b:Nat) (l:List UInt8) (w:World) (h:Bd w b l) (hb:b<=w.heap.size) :
 Calls Tryz.prog 35 #[.pointer (some ⟨b,0,none⟩)] w fun e w'=>e = .returned (.string ⟨l.toArray⟩)/\Below b w w'/\Oth b w w':=by
 refine (Any.Builder_String_any_k Tryz.lays169 Tryz.Builder_Extra_169 b b l w h hb).mono ?_;rintro e w' ⟨rfl,h1,h2,h3⟩;exact ⟨rfl,h2,h3⟩
theorem zuq (w:World):Bd (w.alloc (.cells #[.pointer none,.slice none 0 0] 97)) w.heap.size []:=by
 refine Or.inl ⟨Nat.le_refl _,_,heap_alloc_new _ _,?_,by simp [Value.ownBlock]⟩;exact World.ownsRowF_nil _ _ _ _
def escq (l:List UInt8):List UInt8:=Lib.replaceAll (esc l) [34] [38,113,117,111,116,59]
def attrL (a:ByteArray × ByteArray):List UInt8:=[32]++a.1.data.toList++[61,34]++escq a.2.data.toList++[34]
def openL (m:Mn):List UInt8:=[60]++m.name.data.toList++m.attrs.flatMap attrL++[62]
theorem zet (s:ByteArray):(esc s.data.toList).length<=30*s.size:=by
 have h1:=zba s ⟨#[38]⟩ ⟨#[38,97,109,112,59]⟩ (by decide) (by decide);obtain ⟨t,ht⟩:∃ t:ByteArray,t=⟨(Lib.replaceAll s.data.toList [38] [38,97,109,112,59]).toArray⟩:=⟨_,rfl⟩;have htl:t.data.toList=Lib.replaceAll s.data.toList [38] [38,97,109,112,59]:=by rw [ht]
 have h2:=zba t ⟨#[60]⟩ ⟨#[38,108,116,59]⟩ (by decide) (by decide);have e:(esc s.data.toList)=Lib.replaceAll t.data.toList [60] [38,108,116,59]:=by rw [htl];rfl
 rw [e];refine Nat.le_trans h2 ?_;show t.size+t.size*4<=_;have h3:t.size<=s.size+s.size*5:=by rw [Lib.size_eq,htl];exact h1
 omega
theorem zec (s:ByteArray):(escq s.data.toList).length<=210*s.size:=by
 obtain ⟨t,ht⟩:∃ t:ByteArray,t=⟨(esc s.data.toList).toArray⟩:=⟨_,rfl⟩;have htl:t.data.toList=esc s.data.toList:=by rw [ht]
 have h2:=zba t ⟨#[34]⟩ ⟨#[38,113,117,111,116,59]⟩ (by decide) (by decide);have e:(escq s.data.toList)=Lib.replaceAll t.data.toList [34] [38,113,117,111,116,59]:=by rw [htl];rfl
 rw [e];refine Nat.le_trans h2 ?_;show t.size+t.size*6<=_;have h3:t.size<=30*s.size:=by rw [Lib.size_eq,htl];exact zet s
 omega
theorem zka (a:ByteArray × ByteArray) (h:a.1.size<=1000/\a.2.size<=1000):(attrL a).length<=212004:=by
 have:=zec a.2;have h1:=Lib.size_eq a.1;simp only [attrL,List.length_append,List.length_cons,List.length_nil];omega
theorem zb2 (a b:ByteArray):(a++b).data.toList=a.data.toList++b.data.toList:=by simp [ByteArray.data_append]
theorem zao (a:ByteArray):a.size=a.data.toList.length:=Lib.size_eq a
theorem zb3 {w w':World} {b:Nat} {l:List UInt8} (h:Bd w b l) (hb:Below w.heap.size w w'):Bd w' b l:=by
 have key:∀ p,Lib.BuilderAtF 97 5 b b p (Lib.byteCells l) w->Lib.BuilderAtF 97 5 b b p (Lib.byteCells l) w':=by
  rintro p ⟨h1,v,h2,h3,h4⟩;refine ⟨h1,v,(hb.block b (lt_of_block h2)).trans h2,?_,h4⟩;refine ⟨h3.1,?_⟩
  rcases h3.2 with h'|⟨g,cap,cur,fz,k1,k2,k3,k4⟩
  · exact .inl h'
  · exact .inr ⟨g,cap,cur,fz,k1,k2,(hb.block g (lt_of_block k3)).trans k3,k4⟩
 rcases h with h|h
 · exact Or.inl (key _ h)
 · exact Or.inr (key _ h)
theorem zl2 (m:Mn) (mx:Int) (w:World) (hm:w.cell? ⟨1,0,none⟩=some (.int .i64 mx)) (hA:AR w m.aA m.attrs) (hn:m.name.size<=1000) (hl:m.attrs.length<=100) (hs:∀ a∈m.attrs,a.1.size<=1000/\a.2.size<=1000) :
 Calls Tryz.prog 34 #[nval m] w (GivesV (.string ⟨(openL m).toArray⟩) w):=by
 have HA:=Hq hA;have HM:=Hq hm;have HS:=Hq hs;have hg0:1<w.heap.size:=World.block_lt_of_cell? _ _ hm;have HO:Hid (openL m=[60]++m.name.data.toList++m.attrs.flatMap attrL++[62]):=Hq rfl;generalize openL m=R at *;obtain ⟨al,hal⟩:∃ al,m.attrs.length=al:=⟨_,rfl⟩;have HAL:=Hq hal;rw [hal] at hl;clear hA hm hs;unfold nval;rw [hal];clear hal;obtain ⟨W,hW⟩:∃ W,W=(w.alloc (.cells #[.int .i64 m.kind,.string m.name,.string m.text,.slice m.aA al m.aC,.int .i64 m.parent,.slice m.kA m.kids.length m.kC] 90)).alloc (.cells #[.pointer none,.slice none 0 0] 97):=⟨_,rfl⟩;have HWb:Hid (Below w.heap.size w W):=Hq (by rw [hW];exact (Bq _ _).alloc (by simp) _);have HWk:Hid (W.heap[w.heap.size]? = some (.cells #[.int .i64 m.kind,.string m.name,.string m.text,.slice m.aA al m.aC,.int .i64 m.parent,.slice m.kA m.kids.length m.kC] 90 (0,0))):=Hq (by rw [hW,heap_alloc_old _ _ (by simp)];exact heap_alloc_new _ _);have HWs:Hid (W.heap.size=w.heap.size+2):=Hq (by rw [hW];simp);have HBd:Hid (Bd W (w.heap.size+1) []):=Hq (by
  have:=zuq (w.alloc (.cells #[.int .i64 m.kind,.string m.name,.string m.text,.slice m.aA al m.aC,.int .i64 m.parent,.slice m.kA m.kids.length m.kC] 90));rw [hW];simpa using this)
 obtain ⟨x0,x1,x2,x3,x4,x5⟩:=block6 HWk.out;obtain ⟨s1,hs1⟩:∃ s1:ByteArray,s1=⟨#[60]⟩++m.name:=⟨_,rfl⟩;have HS1:Hid (s1.data.toList=[60]++m.name.data.toList):=Hq (by rw [hs1,zb2]);have hsz1:s1.size<=1001:=by
  rw [zao,HS1.out,List.length_append,<- zao];simp;omega
 have HW1:=Hq (zbj (w.heap.size+1) [] s1 W HBd.out (by have:=HWs.out;omega) (by simp;omega));go_enter Tryz.func34,Tryz.ntmps34;go_upto_region 2 with fail
 rw [<- hW];clear hW;go_wp2_with fail;rw [<- hs1];refine HW1.out.mono ?_;rintro e w1 ⟨rfl,hbd,hb,hot⟩;rw [HS1.out,List.nil_append] at hbd;have HB1:=Hq (HWb.out.trans (hb.mono (by omega)));have HBd1:=Hq hbd;have HK1:=Hq ((hb.block w.heap.size (by omega)).trans HWk.out);have HZ1:Hid (w.heap.size+2<=w1.heap.size):=Hq (by have:=hb.size;have:=HWs.out;omega);clear hbd hb hot x0 x1 x2 x3 x4 x5 HW1 hs1;obtain ⟨x0,x1,x2,x3,x4,x5⟩:=block6 HK1.out;go_wp2_with fail;clear x0 x1 x2 x3 x4 x5
 go_loopw [13] (fun q wr=>∃ j:Nat,j<=al/\q = .int .i64 j/\Hid (Bd wr (w.heap.size+1) ([60]++m.name.data.toList++(m.attrs.take j).flatMap attrL))/\Hid (((m.attrs.take j).flatMap attrL).length<=j*212004)/\Hid (Below w.heap.size w wr)/\Hid (w.heap.size+2<=wr.heap.size)) (fun q _=>al - (intOf q).toNat)
 case atStart => exact ⟨0,Nat.zero_le _,rfl,Hq (by simpa using HBd1.out),Hq (by simp),HB1,HZ1⟩
 case round =>
  obtain ⟨j,hj,rfl,HBr,HLr,HB,HZ⟩:=hrel
  by_cases hlt:j<al
  · have k0:(0:Int)<=(j:Int):=by omega
    have k1:(j:Int)<(al:Int):=by omega
    have hjl:j<m.attrs.length:=by rw [HAL.out];exact hlt
    obtain ⟨g,off,hAA,hg,hca,hcb⟩:=(HA.out.below HB.out) j hjl;obtain ⟨hz1,hz2⟩:=HS.out (m.attrs.getD j default) (by rw [getD_at default hjl];exact List.getElem_mem _);have HF2:Hid ((m.attrs.take (j+1)).flatMap attrL=(m.attrs.take j).flatMap attrL++attrL (m.attrs.getD j default)):=Hq (by rw [zaa hjl,List.flatMap_append,getD_at default hjl];simp);have HAl:=Hq (zka (m.attrs.getD j default) ⟨hz1,hz2⟩);have HAe:Hid (attrL (m.attrs.getD j default)=[32]++(m.attrs.getD j default).1.data.toList++[61,34]++escq (m.attrs.getD j default).2.data.toList++[34]):=Hq rfl;generalize m.attrs.getD j default=a at *;obtain ⟨ax,ay⟩:=a;simp only [] at *;generalize m.aA=aA at *;subst hAA;go_upto_region 6 with fail
    obtain ⟨V,hV⟩:∃ V,V=wr.alloc (.cells #[.string ax,.string ay] 140):=⟨_,rfl⟩;rw [<- hV];have hbV:Below wr.heap.size wr V:=by rw [hV];exact Bq _ _
    have HVk:Hid (V.heap[wr.heap.size]? = some (.cells #[.string ax,.string ay] 140 (0,0))):=Hq (by rw [hV];exact heap_alloc_new _ _);have HVb:Hid (Below w.heap.size w V):=Hq (HB.out.trans (hbV.mono HB.out.size));have HVd:Hid (Bd V (w.heap.size+1) ([60]++m.name.data.toList++(m.attrs.take j).flatMap attrL)):=Hq (zb3 HBr.out hbV);have hsV:=lt_of_block HVk.out;have hzr:=HZ.out;clear hV hbV hca hcb;have HCV:Hid (∀ w':World,w'.heap[wr.heap.size]? = some (.cells #[.string ax,.string ay] 140 (0,0))->w'.cell? ⟨wr.heap.size,0,none⟩=some (.string ax)/\w'.cell? ⟨wr.heap.size,1,none⟩=some (.string ay)):=Hq (fun w' h=>block2 h);have HVkd:Hid (V.drew.heap[wr.heap.size]? = some (.cells #[.string ax,.string ay] 140 (0,0))):=Hq HVk.out;obtain ⟨q1,hq1⟩:∃ q1:ByteArray,q1=⟨(esc ay.data.toList).toArray⟩:=⟨_,rfl⟩;have hq1s:q1.size<=30000:=by have:=zet ay;rw [zao,hq1];show (esc ay.data.toList).length<=_;omega
    obtain ⟨q2,hq2⟩:∃ q2:ByteArray,q2=⟨(escq ay.data.toList).toArray⟩:=⟨_,rfl⟩;have hc3:=count_le (s:=q1) (old:=⟨#[34]⟩) (by decide);have HEs:=Hq (fun (X:World) (hX:X.cell? ⟨1,0,none⟩=some (.int .i64 mx))=>zgv ay mx X hX (by omega));rw [<- hq1] at HEs;have HRp:Hid (∀ (X:World),X.cell? ⟨1,0,none⟩=some (.int .i64 mx)->Calls Tryz.prog 65 #[.string q1,.string ⟨#[34]⟩,.string ⟨#[38,113,117,111,116,59]⟩] X fun e w'=>e = .returned (.string q2)/\Below X.heap.size X w'):=Hq (fun X hX=>by
     have:=Tryz.strings_ReplaceAll q1 ⟨#[34]⟩ ⟨#[38,113,117,111,116,59]⟩ mx X (by omega) hX (by decide) (by show q1.size+Lib.countB q1 ⟨#[34]⟩*6<=_;omega);rw [hq2,show escq ay.data.toList=Lib.replaceAll q1.data.toList [34] [38,113,117,111,116,59] by rw [hq1];rfl];exact this)
    obtain ⟨s3,hs3⟩:∃ s3:ByteArray,s3=(⟨#[32]⟩++ax++⟨#[61,34]⟩++q2++⟨#[34]⟩:ByteArray):=⟨_,rfl⟩;have HS3:Hid (s3.data.toList=attrL (ax,ay)):=Hq (by rw [hs3,HAe.out,zb2,zb2,zb2,zb2,hq2]);have hs3s:s3.size<=212004:=by rw [zao,HS3.out];exact HAl.out
    have hLr:=HLr.out;have HWs3:=Hq (fun (X:World) (h:Bd X (w.heap.size+1) ([60]++m.name.data.toList++(m.attrs.take j).flatMap attrL)) (hX:w.heap.size+1<=X.heap.size)=>zbj (w.heap.size+1) _ s3 X h hX (by
     rw [List.length_append,List.length_append,<- zao];have h2:j*212004<=100*212004:=Nat.mul_le_mul_right _ (by omega);simp only [List.length_cons,List.length_nil];omega))
    have HMx:Hid (∀ X,Below w.heap.size w X->X.cell? ⟨1,0,none⟩=some (.int .i64 mx)):=Hq (fun X hX=>(hX.cell (p:=⟨1,0,none⟩) hg0).trans HM.out);have HLn:Hid (((m.attrs.take (j+1)).flatMap attrL).length<=(j+1)*212004):=Hq (by
     rw [HF2.out,List.length_append,Nat.succ_mul];have:=HAl.out;omega)
    have hq2s:q2.size<=210000:=by have:=zec ay;rw [zao,hq2];show (escq ay.data.toList).length<=_;omega
    have hA1:∀ W,(Op.stringOp .add ⟨#[32]⟩ ax).run Tryz.prog W = .ok (.string (⟨#[32]⟩++ax)) W:=fun W=>run_string_add_sum W _ _ (by show 1+ax.size<=_;omega)
    have hA2:∀ W,(Op.stringOp .add (⟨#[32]⟩++ax) ⟨#[61,34]⟩).run Tryz.prog W = .ok (.string (⟨#[32]⟩++ax++⟨#[61,34]⟩)) W:=fun W=>run_string_add_sum W _ _ (by rw [ByteArray.size_append];show 1+ax.size+2<=_;omega)
    have hA3:∀ W,(Op.stringOp .add (⟨#[32]⟩++ax++⟨#[61,34]⟩) q2).run Tryz.prog W = .ok (.string (⟨#[32]⟩++ax++⟨#[61,34]⟩++q2)) W:=fun W=>run_string_add_sum W _ _ (by rw [ByteArray.size_append,ByteArray.size_append];show 1+ax.size+2+q2.size<=_;omega)
    have hA4:∀ W,(Op.stringOp .add (⟨#[32]⟩++ax++⟨#[61,34]⟩++q2) ⟨#[34]⟩).run Tryz.prog W = .ok (.string (⟨#[32]⟩++ax++⟨#[61,34]⟩++q2++⟨#[34]⟩)) W:=fun W=>run_string_add_sum W _ _ (by rw [ByteArray.size_append,ByteArray.size_append,ByteArray.size_append];show 1+ax.size+2+q2.size+1<=_;omega)
    have e1:¬ (9223372036854775807<1+ax.size):=by omega
    have e2:¬ (9223372036854775807<1+ax.size+2):=by omega
    have e3:¬ (9223372036854775807<1+ax.size+2+q2.size):=by omega
    have e4:¬ (9223372036854775807<1+ax.size+2+q2.size+1):=by omega
    clear hLr hc3 hq1 hq2
    go_region_held3 (fun w'=>w'.cell? ⟨wr.heap.size,0,none⟩=some (.string ax)/\w'.cell? ⟨wr.heap.size,1,none⟩=some (.string ay))
     (first
       | with_reducible exact HCV.out _ HVkd.out
       | with_reducible exact HCV.out _ HK3.out
       | with_reducible exact HCV.out _ HK4.out
       | with_reducible exact HCV.out _ HK5.out)
     (first
       | (go_at_call 33
          refine (HEs.out V.drew (HMx.out _ HVb.out.drew)).mono ?_;rintro e w3 ⟨rfl,hb3⟩;have HB3:Hid (Below w.heap.size w w3):=Hq (HVb.out.drew.trans (hb3.mono HVb.out.size));have HK3:Hid (w3.heap[wr.heap.size]? = some (.cells #[.string ax,.string ay] 140 (0,0))):=Hq ((hb3.block _ hsV).trans HVk.out);have HD3:=Hq (zb3 HVd.out (((Below.refl _ _).drew).trans hb3));have hsz3:V.heap.size<=w3.heap.size:=hb3.size;clear hb3)
       | (go_at_call 65
          refine (HRp.out w3 (HMx.out _ HB3.out)).mono ?_;rintro e w4 ⟨rfl,hb4⟩;have HB4:Hid (Below w.heap.size w w4):=Hq (HB3.out.trans (hb4.mono HB3.out.size));have HK4:Hid (w4.heap[wr.heap.size]? = some (.cells #[.string ax,.string ay] 140 (0,0))):=Hq ((hb4.block _ (by omega)).trans HK3.out);have HD4:=Hq (zb3 HD3.out hb4);have hsz4:w3.heap.size<=w4.heap.size:=hb4.size;clear hb4)
       | (go_at_call 32
          rw [<- hs3];refine (HWs3.out w4 HD4.out (by omega)).mono ?_;rintro e w5 ⟨rfl,hbd,hb5,hot⟩;have HB5:Hid (Below w.heap.size w w5):=Hq (HB4.out.trans (hb5.mono (by omega)));have HK5:Hid (w5.heap[wr.heap.size]? = some (.cells #[.string ax,.string ay] 140 (0,0))):=Hq (hot _ _ HK4.out (by simp;omega) (fun c fz e=>by cases e));have HD5:Hid (Bd w5 (w.heap.size+1) ([60]++m.name.data.toList++(m.attrs.take (j+1)).flatMap attrL)):=Hq (by rw [HS3.out,List.append_assoc,<- HF2.out] at hbd;exact hbd);have HZ5:Hid (w.heap.size+2<=w5.heap.size):=Hq (by have:=hb5.size;omega);clear hbd hb5 hot))
    go_wp2;go_roundw
    case rel => exact ⟨j+1,by omega,by go_num,HD5,HLn,HB5,HZ5⟩
    case measure => simp [intOf]<;>omega
  · obtain rfl:j=al:=by omega
    have et:m.attrs.take j=m.attrs:=List.take_of_length_le (by rw [HAL.out];exact Nat.le_refl _);rw [et] at HBr HLr;have hLr:=HLr.out;have hzr:=HZ.out;have HWe:=Hq (zbj (w.heap.size+1) _ ⟨#[62]⟩ wr HBr.out (by omega) (by
     rw [List.length_append,List.length_append,<- zao];have h2:j*212004<=100*212004:=Nat.mul_le_mul_right _ (by omega);show _+1<=_;simp only [List.length_cons,List.length_nil];omega))
    clear hLr;go_wp2_with fail;refine HWe.out.mono ?_;rintro e w5 ⟨rfl,hbd,hb5,hot⟩;have HB5:Hid (Below w.heap.size w w5):=Hq (HB.out.trans (hb5.mono (by omega)));have HSt:=Hq (zmm (w.heap.size+1) _ w5 hbd (by have:=hb5.size;omega));have HRe:Hid ((⟨([60]++m.name.data.toList++m.attrs.flatMap attrL++(⟨#[62]⟩:ByteArray).data.toList).toArray⟩:ByteArray)=⟨R.toArray⟩):=Hq (by rw [HO.out]);rw [HRe.out] at HSt;clear hbd hb5 hot HRe;go_wp2_with fail;refine HSt.out.mono ?_;rintro e w6 ⟨rfl,hb6,-⟩;have HB6:Hid (Below w.heap.size w w6):=Hq (HB5.out.trans (hb6.mono (by omega)));clear hb6;go_wp2;go_ret;exact ⟨rfl,HB6.out⟩
def pr (F:List Mn):Nat->Nat->List UInt8
 | 0,_=>[]
 | f+1,i=>match F[i]? with
   | none=>[]
   | some m=>if m.kind=3 then [60,33]++esc m.text.data.toList++[33,62]
     else if m.kind=2 then esc m.text.data.toList
     else if m.kind=1 then openL m++m.kids.flatMap (fun k=>pr F f k.toNat)++([60,47]++m.name.data.toList++[62])
     else if m.kind=0 then m.kids.flatMap (fun k=>pr F f k.toNat)
     else []
def Dp (F:List Mn):Nat->Nat->Prop
 | 0,_=>False
 | f+1,i=>i<F.length/\∀ k∈kidsOf F i,0<=k/\Dp F f k.toNat
def tellF (kf b kt:Nat):Value:=.func (.func 31) #[] #[.pointer (some ⟨kf,0,none⟩),.pointer (some ⟨b,0,none⟩),.pointer (some ⟨kt,0,none⟩)]
structure Ctx (w0:World) (A:Option Addr) (n c kf b kt:Nat) (w:World):Prop where
 bel:Below w0.heap.size w0 w
 f:w.heap[kf]? = some (.cells #[.slice A n c] 61 (0,0))
 t:w.heap[kt]? = some (.cells #[tellF kf b kt] 98 (0,0))
 sz:b<w.heap.size
theorem Ctx.keep {w0 w w':World} {A:Option Addr} {n c kf b kt:Nat} (h:Ctx w0 A n c kf b kt w) (h0:w0.heap.size<=b) (hkf:kf<b) (hkt:kt≠b) (hb:Below b w w') (ho:Oth b w w'):Ctx w0 A n c kf b kt w' :=
 ⟨h.bel.trans (hb.mono h0),(hb.block kf hkf).trans h.f,ho kt _ h.t (by simp;exact hkt) (fun c fz e=>by cases e),Nat.lt_of_lt_of_le h.sz hb.size⟩
theorem Ctx.below {w0 w w':World} {A:Option Addr} {n c kf b kt:Nat} (h:Ctx w0 A n c kf b kt w) (hb:Below w.heap.size w w'):Ctx w0 A n c kf b kt w' :=
 ⟨h.bel.trans (hb.mono h.bel.size),(hb.block kf (lt_of_block h.f)).trans h.f,(hb.block kt (lt_of_block h.t)).trans h.t,Nat.lt_of_lt_of_le h.sz hb.size⟩
structure Stp (b:Nat) (w w':World):Prop where
 bel:Below b w w'
 oth:Oth b w w'
theorem Stp.trans {b:Nat} {x y z:World} (h:Stp b x y) (k:Stp b y z):Stp b x z:=⟨h.bel.trans k.bel,h.oth.trans k.oth⟩
theorem Stp.of {b:Nat} {w w':World} (h:Below w.heap.size w w') (hb:b<=w.heap.size):Stp b w w':=⟨h.mono hb,fun k o hk _ _=>(h.block k (lt_of_block hk)).trans hk⟩
theorem Ctx.step {w0 w w':World} {A:Option Addr} {n c kf b kt:Nat} (h:Ctx w0 A n c kf b kt w) (h0:w0.heap.size<=b) (hkf:kf<b) (hkt:kt≠b) (hs:Stp b w w'):Ctx w0 A n c kf b kt w':=h.keep h0 hkf hkt hs.bel hs.oth
theorem Stp.node {b k:Nat} {w w':World} {cs:Array Value} (h:Stp b w w') (hk:w.heap[k]? = some (.cells cs 90 (0,0))) (hne:k≠b):w'.heap[k]? = some (.cells cs 90 (0,0)):=h.oth k _ hk (by simp;exact hne) (fun c fz e=>by cases e)
theorem zb6 {α β:Type} (P:α->List β) (l:List α) (j:Nat):((l.take j).flatMap P).length<=(l.flatMap P).length:=by
 have:l.flatMap P=(l.take j).flatMap P++(l.drop j).flatMap P:=by rw [<- List.flatMap_append,List.take_append_drop]
 rw [this,List.length_append];omega
structure Sz2 (F:List Mn):Prop where
 len:F.length<=1000
 kids:∀ m∈F,m.kids.length<=1000
 attrs:∀ m∈F,m.attrs.length<=100
 str:∀ m∈F,m.name.size<=1000/\m.text.size<=1000/\∀ a∈m.attrs,a.1.size<=1000/\a.2.size<=1000
theorem zrg (w0:World) (A:Option Addr) (F:List Mn) (c kf b kt:Nat) (mx:Int) (hF:FR w0 A F) (hz:Sz2 F) (hm:w0.cell? ⟨1,0,none⟩=some (.int .i64 mx)) (h0:w0.heap.size<=b) (hkf:kf<b) (hkt:kt≠b) :
 ∀ (f i:Nat) (acc:List UInt8) (w:World),Dp F f i->Ctx w0 A F.length c kf b kt w->Bd w b acc->acc.length+(pr F f i).length<=1000000000 ->
  Calls Tryz.prog 31 #[.int .i64 i,.pointer (some ⟨kf,0,none⟩),.pointer (some ⟨b,0,none⟩),.pointer (some ⟨kt,0,none⟩)] w fun e w'=>e = .returned (.tuple #[])/\Bd w' b (acc++pr F f i)/\Below b w w'/\Oth b w w':=by
 have HF:=Hq hF;have HZ:=Hq hz;have HM:=Hq hm;have hg0:1<w0.heap.size:=World.block_lt_of_cell? _ _ hm;clear hF hz hm;intro f
 induction f with
 | zero=>intro i acc w hd;exact absurd hd (by simp [Dp])
 | succ f ih =>
   intro i acc w hd hctx hbd hlen;obtain ⟨hiF,hkd⟩:=hd;have HC:=Hq hctx;have HBd:=Hq hbd;have HIH:=Hq ih;have HKD:=Hq hkd;rw [zae hiF] at HKD;have hmem:F[i]∈F:=List.getElem_mem _;obtain ⟨hfit,g,off,hA,hg,hnode⟩:=HF.out.below hctx.bel i F[i] (List.getElem?_eq_getElem hiF);have HP:Hid (pr F (f+1) i=(if F[i].kind=3 then [60,33]++esc F[i].text.data.toList++[33,62]
    else if F[i].kind=2 then esc F[i].text.data.toList
    else if F[i].kind=1 then openL F[i]++F[i].kids.flatMap (fun k=>pr F f k.toNat)++([60,47]++F[i].name.data.toList++[62])
    else if F[i].kind=0 then F[i].kids.flatMap (fun k=>pr F f k.toNat)
    else [])):=Hq (by rw [pr,List.getElem?_eq_getElem hiF])
   obtain ⟨hs1,hs2,hs3⟩:=HZ.out.str F[i] hmem;have hal:=HZ.out.attrs F[i] hmem;have hkl:=HZ.out.kids F[i] hmem;have hnl:=HZ.out.len;have HS3:=Hq hs3;have HN:=Hq hnode;have HIR:Hid (∀ W',Below w0.heap.size w0 W'->IR W' F[i].kA F[i].kids/\AR W' F[i].aA F[i].attrs):=Hq (fun W' hW'=>by
    obtain ⟨-,g',off',-,-,hn'⟩:=HF.out.below hW' i F[i] (List.getElem?_eq_getElem hiF);exact ⟨hn'.ir,hn'.ar⟩)
   have HMx:Hid (∀ W',Below w0.heap.size w0 W'->W'.cell? ⟨1,0,none⟩=some (.int .i64 mx)):=Hq (fun W' hW'=>(hW'.cell (p:=⟨1,0,none⟩) hg0).trans HM.out);have c0:=hnode.c0;have c1:=hnode.c1;have c2:=hnode.c2;have c3:=hnode.c3;have c4:=hnode.c4;have c5:=hnode.c5;have i0:(0:Int)<=(i:Int):=by omega
   have i1:(i:Int)<(F.length:Int):=by omega
   have x0:=block1 HC.out.f;subst hA;clear ih hkd hctx hbd hmem hfit hnode hs3;generalize pr F (f+1) i=PR at *;generalize F[i]=m at *;generalize hnF:F.length=n at *;have HNF:=Hq hnF;clear hnF;obtain ⟨kl,hkle⟩:∃ kl,m.kids.length=kl:=⟨_,rfl⟩;have HKL:=Hq hkle;rw [hkle] at c5 hkl;clear hkle;obtain ⟨W,hW⟩:∃ W,W=w.alloc (.cells #[.int .i64 m.kind,.string m.name,.string m.text,.slice m.aA m.attrs.length m.aC,.int .i64 m.parent,.slice m.kA kl m.kC] 90):=⟨_,rfl⟩;have hbW:Below w.heap.size w W:=by rw [hW];exact Bq _ _
   have HWk:Hid (W.heap[w.heap.size]? = some (.cells #[.int .i64 m.kind,.string m.name,.string m.text,.slice m.aA m.attrs.length m.aC,.int .i64 m.parent,.slice m.kA kl m.kC] 90 (0,0))):=Hq (by rw [hW];exact heap_alloc_new _ _);have HCW:=Hq (HC.out.below hbW);have HBW:=Hq (zb3 HBd.out hbW);have hbs:b<w.heap.size:=HC.out.sz;have HSW:Hid (Stp b w W):=Hq (Stp.of hbW (Nat.le_of_lt hbs));have hnb:w.heap.size≠b:=by omega
   have HOp:=Hq (fun (W':World) (hb':Below w0.heap.size w0 W')=>zl2 m mx W' (HMx.out W' hb') (HIR.out W' hb').2 hs1 hal HS3.out);have HEs:=Hq (fun (W':World) (hb':Below w0.heap.size w0 W')=>zgv m.text mx W' (HMx.out W' hb') (by omega));unfold nval at HOp;rw [HKL.out] at HOp;go_enter Tryz.func31,Tryz.ntmps31;go_upto_region 1 with fail
   rw [<- hW];clear hW hbW c0 c1 c2 c3 c4 c5 x0;obtain ⟨x0,x1,x2,x3,x4,x5⟩:=block6 HWk.out;generalize m.kind=kd at *;generalize openL m=OL at *;generalize esc m.text.data.toList=EL at *
   by_cases k3:kd=3
   · subst k3;have HPe:Hid (PR=[60,33]++EL++[33,62]):=Hq (by rw [HP.out];simp);rw [HPe.out] at hlen;simp only [List.length_append,List.length_cons,List.length_nil] at hlen;have HW1:=Hq (zbj b acc ⟨#[60,33]⟩ W HBW.out (Nat.le_of_lt HCW.out.sz) (by show acc.length+2<=_;omega));go_wp2_with fail;refine HW1.out.mono ?_;rintro e w1 ⟨rfl,hb1,hB1,hO1⟩;have HS1:Hid (Stp b W w1):=Hq ⟨hB1,hO1⟩;have HB1:=Hq hb1;have HC1:=Hq (HCW.out.step h0 hkf hkt HS1.out);have HK1:=Hq (HS1.out.node HWk.out hnb);clear hb1 hB1 hO1 x0 x1 x2 x3 x4 x5;obtain ⟨x0,x1,x2,x3,x4,x5⟩:=block6 HK1.out;go_wp2_with fail;refine (HEs.out w1 HC1.out.bel).mono ?_;rintro e w2 ⟨rfl,hb2⟩;have HS2:Hid (Stp b w1 w2):=Hq (Stp.of hb2 (Nat.le_of_lt HC1.out.sz));have HB2:=Hq (zb3 HB1.out hb2);have HC2:=Hq (HC1.out.below hb2);clear hb2 x0 x1 x2 x3 x4 x5;have HW3:=Hq (zbj b _ ⟨EL.toArray⟩ w2 HB2.out (Nat.le_of_lt HC2.out.sz) (by rw [List.length_append];show acc.length+2+EL.length<=_;omega));go_wp2_with fail;refine HW3.out.mono ?_;rintro e w3 ⟨rfl,hb3,hB3,hO3⟩;have HS3':Hid (Stp b w2 w3):=Hq ⟨hB3,hO3⟩;have HB3:=Hq hb3;have HC3:=Hq (HC2.out.step h0 hkf hkt HS3'.out);clear hb3 hB3 hO3;have HW4:=Hq (zbj b _ ⟨#[33,62]⟩ w3 HB3.out (Nat.le_of_lt HC3.out.sz) (by rw [List.length_append,List.length_append];show acc.length+2+EL.length+2<=_;omega));go_wp2_with fail;refine HW4.out.mono ?_;rintro e w4 ⟨rfl,hb4,hB4,hO4⟩;have HB4:Hid (Bd w4 b (acc++PR)):=Hq (by rw [HPe.out];simpa [List.append_assoc] using hb4);have HS4:=Hq ((((HSW.out.trans HS1.out).trans HS2.out).trans HS3'.out).trans ⟨hB4,hO4⟩);clear hb4 hB4 hO4;go_wp2
     go_end0
     exact ⟨rfl,HB4.out,HS4.out.bel,HS4.out.oth⟩
   by_cases k2:kd=2
   · subst k2;have HPe:Hid (PR=EL):=Hq (by rw [HP.out];simp);rw [HPe.out] at hlen;go_wp2_with fail;refine (HEs.out W HCW.out.bel).mono ?_;rintro e w2 ⟨rfl,hb2⟩;have HS2:Hid (Stp b W w2):=Hq (Stp.of hb2 (Nat.le_of_lt HCW.out.sz));have HB2:=Hq (zb3 HBW.out hb2);have HC2:=Hq (HCW.out.below hb2);clear hb2 x0 x1 x2 x3 x4 x5;have HW3:=Hq (zbj b _ ⟨EL.toArray⟩ w2 HB2.out (Nat.le_of_lt HC2.out.sz) (by show acc.length+EL.length<=_;omega));go_wp2_with fail;refine HW3.out.mono ?_;rintro e w3 ⟨rfl,hb3,hB3,hO3⟩;have HS3':Hid (Stp b w2 w3):=Hq ⟨hB3,hO3⟩;have HB3:=Hq hb3;have HC3:=Hq (HC2.out.step h0 hkf hkt HS3'.out);clear hb3 hB3 hO3;have HW4:=Hq (zbj b _ ⟨#[]⟩ w3 HB3.out (Nat.le_of_lt HC3.out.sz) (by rw [List.length_append];show acc.length+EL.length+0<=_;omega));go_wp2_with fail;refine HW4.out.mono ?_;rintro e w4 ⟨rfl,hb4,hB4,hO4⟩;have HB4:Hid (Bd w4 b (acc++PR)):=Hq (by rw [HPe.out];simpa using hb4);have HS4:=Hq (((HSW.out.trans HS2.out).trans HS3'.out).trans ⟨hB4,hO4⟩);clear hb4 hB4 hO4;go_wp2
     go_end0
     exact ⟨rfl,HB4.out,HS4.out.bel,HS4.out.oth⟩
   generalize m.kids=kids at *;generalize m.kA=kA at *
   by_cases k1:kd=1
   · subst k1;have HPe:Hid (PR=OL++kids.flatMap (fun k=>pr F f k.toNat)++([60,47]++m.name.data.toList++[62])):=Hq (by rw [HP.out];simp);rw [HPe.out] at hlen;obtain ⟨es,hes⟩:∃ es:ByteArray,es=(⟨#[60,47]⟩++m.name++⟨#[62]⟩:ByteArray):=⟨_,rfl⟩;have HES:Hid (es.data.toList=[60,47]++m.name.data.toList++[62]):=Hq (by rw [hes,zb2,zb2]);have hends:es.size<=1003:=by
      rw [zao,HES.out,List.length_append,List.length_append,<- zao];simp only [List.length_cons,List.length_nil];omega
     have HLT:Hid ((acc++OL).length+(kids.flatMap (fun k=>pr F f k.toNat)).length<=1000000000):=Hq (by simp only [List.length_append] at *;omega);go_wp2_with fail;refine (HOp.out W HCW.out.bel).mono ?_;rintro e w2 ⟨rfl,hb2⟩;have HS2:Hid (Stp b W w2):=Hq (Stp.of hb2 (Nat.le_of_lt HCW.out.sz));have HB2:=Hq (zb3 HBW.out hb2);have HC2:=Hq (HCW.out.below hb2);have HK2:=Hq (HS2.out.node HWk.out hnb);clear hb2 x0 x1 x2 x3 x4 x5;have HW3:=Hq (zbj b _ ⟨OL.toArray⟩ w2 HB2.out (Nat.le_of_lt HC2.out.sz) (by show acc.length+OL.length<=_;have:=HLT.out;simp only [List.length_append] at *;omega));go_wp2_with fail;refine HW3.out.mono ?_;rintro e w3 ⟨rfl,hb3,hB3,hO3⟩;have HS3':Hid (Stp b w2 w3):=Hq ⟨hB3,hO3⟩;have HB3:Hid (Bd w3 b (acc++OL)):=Hq hb3;have HC3:=Hq (HC2.out.step h0 hkf hkt HS3'.out);have HK3:=Hq (HS3'.out.node HK2.out hnb);have HSa:=Hq ((HSW.out.trans HS2.out).trans HS3'.out);clear hb3 hB3 hO3;obtain ⟨x0,x1,x2,x3,x4,x5⟩:=block6 HK3.out;go_upto_region 12 with fail
     rw [<- hes];clear hes;go_wp2_with fail
     go_loopw [38] (fun q wr=>∃ j:Nat,j<=kl/\q = .int .i64 j/\Hid (Bd wr b ((acc++OL)++(kids.take j).flatMap (fun k=>pr F f k.toNat)))/\Hid (Ctx w0 (some ⟨g,off,none⟩) n c kf b kt wr)/\Hid (Stp b w wr)) (fun q _=>kl - (intOf q).toNat)
     case atStart => exact ⟨0,Nat.zero_le _,rfl,Hq (by simpa using HB3.out),HC3,HSa⟩
     case round =>
      obtain ⟨j,hj,rfl,HBj,HCj,HSj⟩:=hrel
      by_cases hlt:j<kl
      · have k0:(0:Int)<=(j:Int):=by omega
        have k1:(j:Int)<(kl:Int):=by omega
        have hjl:j<kids.length:=by rw [HKL.out];exact hlt
        obtain ⟨gk,ok,hAk,hgk,hck⟩:=(HIR.out wr HCj.out.bel).1 j hjl;obtain ⟨hy0,hyd⟩:=HKD.out (kids.getD j 0) (by rw [getD_at 0 hjl];exact List.getElem_mem _);have HT2:Hid ((kids.take (j+1)).flatMap (fun k=>pr F f k.toNat)=(kids.take j).flatMap (fun k=>pr F f k.toNat)++pr F f (kids.getD j 0).toNat):=Hq (by rw [zaa hjl,List.flatMap_append,getD_at 0 hjl];simp);have hle:=zb6 (fun k:Int=>pr F f k.toNat) kids (j+1);rw [HT2.out,List.length_append] at hle;generalize kids.getD j 0=y at *;obtain ⟨k,rfl⟩:=Int.eq_ofNat_of_zero_le hy0;rw [Int.toNat_natCast] at HT2 hle hyd;have HCl:=Hq (HIH.out k _ wr hyd HCj.out HBj.out (by have:=HLT.out;simp only [List.length_append] at *;omega));have y1:=block1 HCj.out.t;unfold tellF at y1;subst hAk;clear hle hyd;go_wp2_with fail;refine HCl.out.mono ?_;rintro e w5 ⟨rfl,hb5,hB5,hO5⟩;have HB5:Hid (Bd w5 b ((acc++OL)++(kids.take (j+1)).flatMap (fun k=>pr F f k.toNat))):=Hq (by rw [HT2.out,<- List.append_assoc];exact hb5);have HS5:Hid (Stp b wr w5):=Hq ⟨hB5,hO5⟩;have HC5:=Hq (HCj.out.step h0 hkf hkt HS5.out);have HS6:=Hq (HSj.out.trans HS5.out);clear hb5 hB5 hO5;go_wp2;go_roundw
        case rel => exact ⟨j+1,by omega,by go_num,HB5,HC5,HS6⟩
        case measure => simp [intOf]<;>omega
      · obtain rfl:j=kl:=by omega
        have et:kids.take j=kids:=List.take_of_length_le (by rw [HKL.out];exact Nat.le_refl _);rw [et] at HBj;have HWe:=Hq (zbj b _ es wr HBj.out (Nat.le_of_lt HCj.out.sz) (by have:=HLT.out;have:=hends;simp only [List.length_append] at *;omega));go_wp2_with fail;refine HWe.out.mono ?_;rintro e w5 ⟨rfl,hb5,hB5,hO5⟩;have HB5:Hid (Bd w5 b (acc++PR)):=Hq (by rw [HPe.out];rw [HES.out] at hb5;simpa [List.append_assoc] using hb5);have HS5:=Hq (HSj.out.trans ⟨hB5,hO5⟩);clear hb5 hB5 hO5;go_wp2
        go_end0
        exact ⟨rfl,HB5.out,HS5.out.bel,HS5.out.oth⟩
   by_cases k0':kd=0
   · subst k0';have HPe:Hid (PR=kids.flatMap (fun k=>pr F f k.toNat)):=Hq (by rw [HP.out];simp);rw [HPe.out] at hlen;have hends:(0:Nat)<=1003:=by omega
     have HLT:Hid (acc.length+(kids.flatMap (fun k=>pr F f k.toNat)).length<=1000000000):=Hq (by omega);go_wp2_with fail
     go_loopw [38] (fun q wr=>∃ j:Nat,j<=kl/\q = .int .i64 j/\Hid (Bd wr b (acc++(kids.take j).flatMap (fun k=>pr F f k.toNat)))/\Hid (Ctx w0 (some ⟨g,off,none⟩) n c kf b kt wr)/\Hid (Stp b w wr)) (fun q _=>kl - (intOf q).toNat)
     case atStart => exact ⟨0,Nat.zero_le _,rfl,Hq (by simpa using HBW.out),HCW,HSW⟩
     case round =>
      obtain ⟨j,hj,rfl,HBj,HCj,HSj⟩:=hrel
      by_cases hlt:j<kl
      · have k0:(0:Int)<=(j:Int):=by omega
        have k1:(j:Int)<(kl:Int):=by omega
        have hjl:j<kids.length:=by rw [HKL.out];exact hlt
        obtain ⟨gk,ok,hAk,hgk,hck⟩:=(HIR.out wr HCj.out.bel).1 j hjl;obtain ⟨hy0,hyd⟩:=HKD.out (kids.getD j 0) (by rw [getD_at 0 hjl];exact List.getElem_mem _);have HT2:Hid ((kids.take (j+1)).flatMap (fun k=>pr F f k.toNat)=(kids.take j).flatMap (fun k=>pr F f k.toNat)++pr F f (kids.getD j 0).toNat):=Hq (by rw [zaa hjl,List.flatMap_append,getD_at 0 hjl];simp);have hle:=zb6 (fun k:Int=>pr F f k.toNat) kids (j+1);rw [HT2.out,List.length_append] at hle;generalize kids.getD j 0=y at *;obtain ⟨k,rfl⟩:=Int.eq_ofNat_of_zero_le hy0;rw [Int.toNat_natCast] at HT2 hle hyd;have HCl:=Hq (HIH.out k _ wr hyd HCj.out HBj.out (by have:=HLT.out;simp only [List.length_append] at *;omega));have y1:=block1 HCj.out.t;unfold tellF at y1;subst hAk;clear hle hyd;go_wp2_with fail;refine HCl.out.mono ?_;rintro e w5 ⟨rfl,hb5,hB5,hO5⟩;have HB5:Hid (Bd w5 b (acc++(kids.take (j+1)).flatMap (fun k=>pr F f k.toNat))):=Hq (by rw [HT2.out,<- List.append_assoc];exact hb5);have HS5:Hid (Stp b wr w5):=Hq ⟨hB5,hO5⟩;have HC5:=Hq (HCj.out.step h0 hkf hkt HS5.out);have HS6:=Hq (HSj.out.trans HS5.out);clear hb5 hB5 hO5;go_wp2;go_roundw
        case rel => exact ⟨j+1,by omega,by go_num,HB5,HC5,HS6⟩
        case measure => simp [intOf]<;>omega
      · obtain rfl:j=kl:=by omega
        have et:kids.take j=kids:=List.take_of_length_le (by rw [HKL.out];exact Nat.le_refl _);rw [et] at HBj;have HWe:=Hq (zbj b _ ⟨#[]⟩ wr HBj.out (Nat.le_of_lt HCj.out.sz) (by have:=HLT.out;simp only [List.length_append] at *;show _+0<=_;omega));go_wp2_with fail;refine HWe.out.mono ?_;rintro e w5 ⟨rfl,hb5,hB5,hO5⟩;have HB5:Hid (Bd w5 b (acc++PR)):=Hq (by rw [HPe.out];simpa using hb5);have HS5:=Hq (HSj.out.trans ⟨hB5,hO5⟩);clear hb5 hB5 hO5;go_wp2
        go_end0
        exact ⟨rfl,HB5.out,HS5.out.bel,HS5.out.oth⟩
   · have HPe:Hid (PR=[]):=Hq (by rw [HP.out,if_neg k3,if_neg k2,if_neg k1,if_neg k0']);have HW4:=Hq (zbj b _ ⟨#[]⟩ W HBW.out (Nat.le_of_lt HCW.out.sz) (by show acc.length+0<=_;omega));go_wp2_with fail;refine HW4.out.mono ?_;rintro e w4 ⟨rfl,hb4,hB4,hO4⟩;have HB4:Hid (Bd w4 b (acc++PR)):=Hq (by rw [HPe.out];simpa using hb4);have HS4:=Hq (HSW.out.trans ⟨hB4,hO4⟩);clear hb4 hB4 hO4;go_wp2
     go_end0
     exact ⟨rfl,HB4.out,HS4.out.bel,HS4.out.oth⟩
def printB (F:List Mn) (f:Nat) (x:Int):List UInt8:=if (mayB F && isB F x)=true then pr F f x.toNat else []
theorem bd_at {W:World} {b:Nat} (h:W.heap[b]? = some (.cells #[.pointer none,.slice none 0 0] 97 (0,0))):Bd W b []:=by
 refine Or.inl ⟨Nat.le_refl _,_,h,?_,by simp [Value.ownBlock]⟩;exact World.ownsRowF_nil _ _ _ _
theorem zpe (A:Option Addr) (F:List Mn) (c f:Nat) (x mx:Int) (w:World) (hF:FR w A F) (hz:Sz F) (hz2:Sz2 F) (hm:w.cell? ⟨1,0,none⟩=some (.int .i64 mx)) (hq:mayB F=true->isB F x=true->Dp F f x.toNat/\(pr F f x.toNat).length<=100000000) :
 Calls Tryz.prog 13 #[.slice A F.length c,.int .i64 x] w (GivesV (.string ⟨(printB F f x).toArray⟩) w):=by
 have HF:=Hq hF;have hl:=hz.len;have hg0:1<w.heap.size:=World.block_lt_of_cell? _ _ hm;have HM:=Hq (fun (W:World) (hb:Below w.heap.size w W)=>zel A F c W (hF.below hb) hz);have HI:=Hq (fun (W:World)=>zce A F.length c x W hl);have HIs:Hid (isB F x=decide (0<=x/\x<(F.length:Int))):=Hq rfl;rw [<- HIs.out] at HI;have HE:Hid (printB F f x=if (mayB F && isB F x)=true then pr F f x.toNat else []):=Hq rfl;have HT:Hid (∀ (w0 V:World) (kf b kt:Nat),Below w.heap.size w w0->w0.heap.size<=b->kf<b->kt≠b->mayB F=true->isB F x=true->Ctx w0 A F.length c kf b kt V->Bd V b []->Calls Tryz.prog 31 #[.int .i64 x,.pointer (some ⟨kf,0,none⟩),.pointer (some ⟨b,0,none⟩),.pointer (some ⟨kt,0,none⟩)] V fun e w'=>e = .returned (.tuple #[])/\Bd w' b (pr F f x.toNat)/\Below b V w'/\Oth b V w'):=Hq (fun w0 V kf b kt hb h0 h1 h2 e1 e2 hc hbd=>by
  obtain ⟨q1,q2⟩:=hq e1 e2;rw [isB,decide_eq_true_eq] at e2;have:=zrg w0 A F c kf b kt mx (hF.below hb) hz2 ((hb.cell (p:=⟨1,0,none⟩) hg0).trans hm) h0 h1 h2 f x.toNat [] V q1 hc hbd (by simp only [List.length_nil];omega);rw [Int.toNat_of_nonneg e2.1] at this;simpa using this)
 clear hF hz hz2 hm hq HIs;generalize printB F f x=R at *;generalize pr F f x.toNat=PR at *;generalize mayB F=MB at *;generalize isB F x=IB at *;generalize F.length=n at *;obtain ⟨W,hW⟩:∃ W,W=w.alloc (.cells #[.slice A n c] 61):=⟨_,rfl⟩;have HWb:Hid (Below w.heap.size w W):=Hq (by rw [hW];exact Bq _ _);have HWk:Hid (W.heap[w.heap.size]? = some (.cells #[.slice A n c] 61 (0,0))):=Hq (by rw [hW];exact heap_alloc_new _ _);have hlt:=lt_of_block HWk.out;have x0:=block1 HWk.out;go_enter Tryz.func13,Tryz.ntmps13;go_upto_region 1 with fail
 rw [<- hW];clear hW;go_wp2_with fail;refine (HM.out W HWb.out).mono ?_;rintro e w1 ⟨rfl,hb⟩;have HB1:=Hq (HWb.out.trans (hb.mono HWb.out.size));have HK1:=Hq ((hb.block _ hlt).trans HWk.out);clear hb x0;have x1:=block1 HK1.out;cases MB with
 | false =>
   go_wp2;go_ret;exact ⟨by rw [HE.out];rfl,HB1.out⟩
 | true =>
   go_wp2_with fail;refine (HI.out w1).mono ?_;rintro e w2 ⟨rfl,rfl⟩;cases IB with
   | false =>
     go_wp2;go_ret;exact ⟨by rw [HE.out];rfl,HB1.out⟩
   | true =>
     have HR:Hid (R=PR):=Hq (by rw [HE.out];rfl);go_upto_region 5 with fail
     obtain ⟨V,hV⟩:∃ V,V=(w2.alloc (.cells #[.pointer none,.slice none 0 0] 97)).alloc (.cells #[.nilFunc] 98):=⟨_,rfl⟩;rw [<- hV];have HVk:Hid (V.heap[w2.heap.size+1]? = some (.cells #[.nilFunc] 98 (0,0))):=Hq (by
      have:=heap_alloc_new (w2.alloc (.cells #[.pointer none,.slice none 0 0] 97)) (.cells #[.nilFunc] 98);rw [hV];simpa using this)
     have HVb:Hid (Below w2.heap.size w2 V):=Hq (by rw [hV];exact (Bq _ _).alloc (by simp) _);have HVs:Hid (V.heap.size=w2.heap.size+2):=Hq (by rw [hV];simp);have HVc:Hid (V.heap[w2.heap.size]? = some (.cells #[.pointer none,.slice none 0 0] 97 (0,0))):=Hq (by rw [hV,heap_alloc_old _ _ (by simp)];exact heap_alloc_new _ _);have fz:V.frozen? ⟨w2.heap.size+1,0,none⟩=false:=by simp [World.frozen?,HVk.out]
     clear hV;have x2:=block1 HVk.out;go_upto_region 6 with fail
     obtain ⟨V2,hV2⟩:∃ V2,V2=V.setCell ⟨w2.heap.size+1,0,none⟩ (tellF w.heap.size w2.heap.size (w2.heap.size+1)):=⟨_,rfl⟩;unfold tellF at hV2;rw [<- hV2];have hws:w.heap.size<w2.heap.size:=lt_of_block HK1.out;have HV2k:Hid (V2.heap[w2.heap.size+1]? = some (.cells #[tellF w.heap.size w2.heap.size (w2.heap.size+1)] 98 (0,0))):=Hq (by rw [hV2];have:=HVk.out;simp [World.setCell,Array.getElem?_modify,this,tellF]);have HV2b:Hid (Below w2.heap.size w2 V2):=Hq (by rw [hV2];exact HVb.out.setCell (by simp) _);have HV2s:Hid (V2.heap.size=w2.heap.size+2):=Hq (by rw [hV2];simpa using HVs.out);have HBd2:Hid (Bd V2 w2.heap.size []):=Hq (bd_at (by rw [hV2];have:=HVc.out;simp [World.setCell,Array.getElem?_modify,this]));have HC:Hid (Ctx w2 A n c w.heap.size w2.heap.size (w2.heap.size+1) V2):=Hq ⟨HV2b.out,(HV2b.out.block _ hws).trans HK1.out,HV2k.out,by rw [HV2s.out];omega⟩;have HCl:=Hq (HT.out w2 V2 w.heap.size w2.heap.size (w2.heap.size+1) HB1.out (Nat.le_refl _) hws (by omega) trivial trivial HC.out HBd2.out);clear hV2 x2 x1 fz;have x3:=block1 HV2k.out;unfold tellF at x3;go_wp2_with fail;refine HCl.out.mono ?_;rintro e w5 ⟨rfl,hb5,hB5,hO5⟩;have HB5:=Hq hb5;have hz5:w2.heap.size<=w5.heap.size:=Nat.le_trans HV2b.out.size hB5.size;have HB6:Hid (Below w.heap.size w w5):=Hq (HB1.out.trans ((HV2b.out.trans hB5).mono (Nat.le_of_lt hws)));clear hb5 hB5 hO5 x3;have HSt:=Hq (zmm w2.heap.size PR w5 HB5.out hz5);go_wp2_with fail;refine HSt.out.mono ?_;rintro e w6 ⟨rfl,hB7,hO7⟩;have HB7:Hid (Below w.heap.size w w6):=Hq (HB6.out.trans (hB7.mono (Nat.le_of_lt hws)));clear hB7 hO7;go_wp2;go_ret;exact ⟨by rw [HR.out];rfl,HB7.out⟩
end Go.Proofs.YtdmecdjfbpblgaaGreatDoor
