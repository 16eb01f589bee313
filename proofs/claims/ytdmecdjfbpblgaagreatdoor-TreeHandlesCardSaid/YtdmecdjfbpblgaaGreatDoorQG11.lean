/-
  Checks, one behind the other, and the change behind them.
-/
import Derived.Test.YtdmecdjfbpblgaaGreatDoorQG10
namespace Go.Proofs.YtdmecdjfbpblgaaGreatDoor
set_option maxRecDepth 100000
set_option maxHeartbeats 32000000
open Go.ChangeShapes Go.WideShapes Go.ChangeAt Go.RowKit
set_option linter.unusedVariables false
set_option linter.unusedSimpArgs false
structure StepAt (w:World) (kc kd gc n:Nat) (kq ke:Nat->Nat) (D:Value):Prop where
 c:w.heap[kc]? = some (.cells #[.slice (some ⟨gc,0,none⟩) n n] 195 (0,0))
 d:w.heap[kd]? = some (.cells #[D] 162 (0,0))
 l:gc<w.heap.size
 f:∀ j,j<n->w.cell? ⟨gc,j,none⟩=some (.func (.func 135) #[] #[.pointer (some ⟨kq j,0,none⟩),.pointer (some ⟨ke j,0,none⟩)])
theorem StepAt.below {w w':World} {kc kd gc n:Nat} {kq ke:Nat->Nat} {D:Value} (h:StepAt w kc kd gc n kq ke D) (hb:Below w.heap.size w w'):StepAt w' kc kd gc n kq ke D :=
 ⟨(hb.block kc (lt_of_block h.c)).trans h.c,(hb.block kd (lt_of_block h.d)).trans h.d,Nat.lt_of_lt_of_le h.l hb.size,fun j hj=>(hb.cell (p:=⟨gc,j,none⟩) h.l).trans (h.f j hj)⟩
theorem zhj (kx:Nat) (kc kd gc n:Nat) (kq ke:Nat->Nat) (es:Nat->Int) (A:Option Addr) (n0 c:Nat) (o:Ops.Po) (Post:World->Value->World->Prop) (w:World) (hn:n<=100) (hS:StepAt w kc kd gc n kq ke (.func (.func 134) #[] #[.pointer (some ⟨kx,0,none⟩)]))
 (hC:∀ j,j<n->(∀ i,i<j->es i=0)->∀ V,Below w.heap.size w V->Calls Tryz.prog 135 #[.slice A n0 c,Ops.opv o,.pointer (some ⟨kq j,0,none⟩),.pointer (some ⟨ke j,0,none⟩)] V (GivesV (.int .i64 (es j)) V))
 (hD:(∀ j,j<n->es j=0)->∀ V,Below w.heap.size w V->Calls Tryz.prog 134 #[.slice A n0 c,Ops.opv o,.pointer (some ⟨kx,0,none⟩)] V fun e w'=>∃ v,e = .returned v/\Post V v w') :
 Calls Tryz.prog 133 #[.slice A n0 c,Ops.opv o,.pointer (some ⟨kc,0,none⟩),.pointer (some ⟨kd,0,none⟩)] w fun e w' =>
  (∃ j,j<n/\(∀ i,i<j->es i=0)/\es j≠0/\e = .returned (.tuple #[.slice A n0 c,.int .i64 (es j)])/\Below w.heap.size w w') \/
  ((∀ j,j<n->es j=0)/\∃ v V,Below w.heap.size w V/\e = .returned (.tuple #[v,.int .i64 0])/\Post V v w'):=by
 have HS:=Hq hS;have HC:=Hq hC;have HD:=Hq hD;clear hS hC hD;obtain ⟨kd',id,dst,ps,nm0,tx⟩:=o;unfold Ops.opv at *;obtain ⟨W,hW⟩:∃ W,W=w.alloc (.cells #[.int .i64 kd',.int .i64 id,.int .i64 dst,.int .i64 ps,.string nm0,.string tx] 59):=⟨_,rfl⟩;have HWb:Hid (Below w.heap.size w W):=Hq (by rw [hW];exact Bq _ _);have HWk:Hid (W.heap[w.heap.size]? = some (.cells #[.int .i64 kd',.int .i64 id,.int .i64 dst,.int .i64 ps,.string nm0,.string tx] 59 (0,0))):=Hq (by rw [hW];exact heap_alloc_new _ _);have y0:=block1 (HS.out.below HWb.out).c;go_enter Tryz.func133,Tryz.ntmps133;go_upto_region 1 with fail
 rw [<- hW];clear hW;go_wp2_with fail;clear y0
 go_loopw [13] (fun q wr=>∃ k:Nat,k<=n/\q = .int .i64 k/\Hid (∀ i,i<k->es i=0)/\Hid (Below w.heap.size w wr)/\Hid (wr.heap[w.heap.size]? = some (.cells #[.int .i64 kd',.int .i64 id,.int .i64 dst,.int .i64 ps,.string nm0,.string tx] 59 (0,0)))) (fun q _=>n - (intOf q).toNat)
 case atStart => exact ⟨0,Nat.zero_le _,rfl,Hq (fun i hi=>absurd hi (by omega)),HWb,HWk⟩
 case round =>
  obtain ⟨k,hk,rfl,HT,HB,HK⟩:=hrel;obtain ⟨x0,x1,x2,x3,x4,x5⟩:=block6 HK.out
  by_cases hlt:k<n
  · have k0:(0:Int)<=(k:Int):=by omega
    have k1:(k:Int)<(n:Int):=by omega
    have hf:=(HS.out.below HB.out).f k hlt;have HCk:=Hq (HC.out k hlt HT.out wr HB.out);go_wp2_with fail;refine HCk.out.mono ?_;rintro e w1 ⟨rfl,hb⟩;have HB1:=Hq (HB.out.trans (hb.mono HB.out.size));have HK1:=Hq ((hb.block _ (lt_of_block HK.out)).trans HK.out);clear hb x0 x1 x2 x3 x4 x5 hf
    by_cases he:es k=0
    · have HT2:Hid (∀ i,i<k+1->es i=0):=Hq (fun i hi=>by
       rcases Nat.lt_or_ge i k with h|h
       · exact HT.out i h
       · obtain rfl:i=k:=by omega
         exact he)
      rw [he];clear he;go_wp2;go_roundw
      case rel => exact ⟨k+1,by omega,by go_num,HT2,HB1,HK1⟩
      case measure => simp [intOf]<;>omega
    · have hq:(es k != 0)=true:=by simpa using he
      have HE:=Hq he;clear he;go_wp2;go_ret2;exact .inl ⟨k,hlt,HT.out,HE.out,rfl,HB1.out⟩
  · obtain rfl:k=n:=by omega
    have y1:=block1 (HS.out.below HB.out).d;have HDk:=Hq (HD.out HT.out wr HB.out);go_wp2_with fail;refine HDk.out.mono ?_;rintro e w1 ⟨v,rfl,hp⟩;have HP:=Hq hp;clear hp x0 x1 x2 x3 x4 x5 y1;go_wp2;go_ret2;exact .inr ⟨HT.out,v,wr,HB.out,rfl,HP.out⟩
theorem zmb (kc kd gc n:Nat) (kq ke:Nat->Nat) (es:Nat->Int) (A:Option Addr) (n0 c:Nat) (o:Ops.Po) (Post:World->Value->World->Prop) (w:World) (hn:n<=100) (hS:StepAt w kc kd gc n kq ke (.func (.func 85) #[] #[]))
 (hC:∀ j,j<n->(∀ i,i<j->es i=0)->∀ V,Below w.heap.size w V->Calls Tryz.prog 135 #[.slice A n0 c,Ops.opv o,.pointer (some ⟨kq j,0,none⟩),.pointer (some ⟨ke j,0,none⟩)] V (GivesV (.int .i64 (es j)) V))
 (hD:(∀ j,j<n->es j=0)->∀ V,Below w.heap.size w V->Calls Tryz.prog 85 #[.slice A n0 c,Ops.opv o] V fun e w'=>∃ v,e = .returned v/\Post V v w') :
 Calls Tryz.prog 133 #[.slice A n0 c,Ops.opv o,.pointer (some ⟨kc,0,none⟩),.pointer (some ⟨kd,0,none⟩)] w fun e w' =>
  (∃ j,j<n/\(∀ i,i<j->es i=0)/\es j≠0/\e = .returned (.tuple #[.slice A n0 c,.int .i64 (es j)])/\Below w.heap.size w w') \/
  ((∀ j,j<n->es j=0)/\∃ v V,Below w.heap.size w V/\e = .returned (.tuple #[v,.int .i64 0])/\Post V v w'):=by
 have HS:=Hq hS;have HC:=Hq hC;have HD:=Hq hD;clear hS hC hD;obtain ⟨kd',id,dst,ps,nm0,tx⟩:=o;unfold Ops.opv at *;obtain ⟨W,hW⟩:∃ W,W=w.alloc (.cells #[.int .i64 kd',.int .i64 id,.int .i64 dst,.int .i64 ps,.string nm0,.string tx] 59):=⟨_,rfl⟩;have HWb:Hid (Below w.heap.size w W):=Hq (by rw [hW];exact Bq _ _);have HWk:Hid (W.heap[w.heap.size]? = some (.cells #[.int .i64 kd',.int .i64 id,.int .i64 dst,.int .i64 ps,.string nm0,.string tx] 59 (0,0))):=Hq (by rw [hW];exact heap_alloc_new _ _);have y0:=block1 (HS.out.below HWb.out).c;go_enter Tryz.func133,Tryz.ntmps133;go_upto_region 1 with fail
 rw [<- hW];clear hW;go_wp2_with fail;clear y0
 go_loopw [13] (fun q wr=>∃ k:Nat,k<=n/\q = .int .i64 k/\Hid (∀ i,i<k->es i=0)/\Hid (Below w.heap.size w wr)/\Hid (wr.heap[w.heap.size]? = some (.cells #[.int .i64 kd',.int .i64 id,.int .i64 dst,.int .i64 ps,.string nm0,.string tx] 59 (0,0)))) (fun q _=>n - (intOf q).toNat)
 case atStart => exact ⟨0,Nat.zero_le _,rfl,Hq (fun i hi=>absurd hi (by omega)),HWb,HWk⟩
 case round =>
  obtain ⟨k,hk,rfl,HT,HB,HK⟩:=hrel;obtain ⟨x0,x1,x2,x3,x4,x5⟩:=block6 HK.out
  by_cases hlt:k<n
  · have k0:(0:Int)<=(k:Int):=by omega
    have k1:(k:Int)<(n:Int):=by omega
    have hf:=(HS.out.below HB.out).f k hlt;have HCk:=Hq (HC.out k hlt HT.out wr HB.out);go_wp2_with fail;refine HCk.out.mono ?_;rintro e w1 ⟨rfl,hb⟩;have HB1:=Hq (HB.out.trans (hb.mono HB.out.size));have HK1:=Hq ((hb.block _ (lt_of_block HK.out)).trans HK.out);clear hb x0 x1 x2 x3 x4 x5 hf
    by_cases he:es k=0
    · have HT2:Hid (∀ i,i<k+1->es i=0):=Hq (fun i hi=>by
       rcases Nat.lt_or_ge i k with h|h
       · exact HT.out i h
       · obtain rfl:i=k:=by omega
         exact he)
      rw [he];clear he;go_wp2;go_roundw
      case rel => exact ⟨k+1,by omega,by go_num,HT2,HB1,HK1⟩
      case measure => simp [intOf]<;>omega
    · have hq:(es k != 0)=true:=by simpa using he
      have HE:=Hq he;clear he;go_wp2;go_ret2;exact .inl ⟨k,hlt,HT.out,HE.out,rfl,HB1.out⟩
  · obtain rfl:k=n:=by omega
    have y1:=block1 (HS.out.below HB.out).d;have HDk:=Hq (HD.out HT.out wr HB.out);go_wp2_with fail;refine HDk.out.mono ?_;rintro e w1 ⟨v,rfl,hp⟩;have HP:=Hq hp;clear hp x0 x1 x2 x3 x4 x5 y1;go_wp2;go_ret2;exact .inr ⟨HT.out,v,wr,HB.out,rfl,HP.out⟩
theorem znv (kc kd gc n:Nat) (kq ke:Nat->Nat) (es:Nat->Int) (A:Option Addr) (n0 c:Nat) (o:Ops.Po) (Post:World->Value->World->Prop) (w:World) (hn:n<=100) (hS:StepAt w kc kd gc n kq ke (.func (.func 93) #[] #[]))
 (hC:∀ j,j<n->(∀ i,i<j->es i=0)->∀ V,Below w.heap.size w V->Calls Tryz.prog 135 #[.slice A n0 c,Ops.opv o,.pointer (some ⟨kq j,0,none⟩),.pointer (some ⟨ke j,0,none⟩)] V (GivesV (.int .i64 (es j)) V))
 (hD:(∀ j,j<n->es j=0)->∀ V,Below w.heap.size w V->Calls Tryz.prog 93 #[.slice A n0 c,Ops.opv o] V fun e w'=>∃ v,e = .returned v/\Post V v w') :
 Calls Tryz.prog 133 #[.slice A n0 c,Ops.opv o,.pointer (some ⟨kc,0,none⟩),.pointer (some ⟨kd,0,none⟩)] w fun e w' =>
  (∃ j,j<n/\(∀ i,i<j->es i=0)/\es j≠0/\e = .returned (.tuple #[.slice A n0 c,.int .i64 (es j)])/\Below w.heap.size w w') \/
  ((∀ j,j<n->es j=0)/\∃ v V,Below w.heap.size w V/\e = .returned (.tuple #[v,.int .i64 0])/\Post V v w'):=by
 have HS:=Hq hS;have HC:=Hq hC;have HD:=Hq hD;clear hS hC hD;obtain ⟨kd',id,dst,ps,nm0,tx⟩:=o;unfold Ops.opv at *;obtain ⟨W,hW⟩:∃ W,W=w.alloc (.cells #[.int .i64 kd',.int .i64 id,.int .i64 dst,.int .i64 ps,.string nm0,.string tx] 59):=⟨_,rfl⟩;have HWb:Hid (Below w.heap.size w W):=Hq (by rw [hW];exact Bq _ _);have HWk:Hid (W.heap[w.heap.size]? = some (.cells #[.int .i64 kd',.int .i64 id,.int .i64 dst,.int .i64 ps,.string nm0,.string tx] 59 (0,0))):=Hq (by rw [hW];exact heap_alloc_new _ _);have y0:=block1 (HS.out.below HWb.out).c;go_enter Tryz.func133,Tryz.ntmps133;go_upto_region 1 with fail
 rw [<- hW];clear hW;go_wp2_with fail;clear y0
 go_loopw [13] (fun q wr=>∃ k:Nat,k<=n/\q = .int .i64 k/\Hid (∀ i,i<k->es i=0)/\Hid (Below w.heap.size w wr)/\Hid (wr.heap[w.heap.size]? = some (.cells #[.int .i64 kd',.int .i64 id,.int .i64 dst,.int .i64 ps,.string nm0,.string tx] 59 (0,0)))) (fun q _=>n - (intOf q).toNat)
 case atStart => exact ⟨0,Nat.zero_le _,rfl,Hq (fun i hi=>absurd hi (by omega)),HWb,HWk⟩
 case round =>
  obtain ⟨k,hk,rfl,HT,HB,HK⟩:=hrel;obtain ⟨x0,x1,x2,x3,x4,x5⟩:=block6 HK.out
  by_cases hlt:k<n
  · have k0:(0:Int)<=(k:Int):=by omega
    have k1:(k:Int)<(n:Int):=by omega
    have hf:=(HS.out.below HB.out).f k hlt;have HCk:=Hq (HC.out k hlt HT.out wr HB.out);go_wp2_with fail;refine HCk.out.mono ?_;rintro e w1 ⟨rfl,hb⟩;have HB1:=Hq (HB.out.trans (hb.mono HB.out.size));have HK1:=Hq ((hb.block _ (lt_of_block HK.out)).trans HK.out);clear hb x0 x1 x2 x3 x4 x5 hf
    by_cases he:es k=0
    · have HT2:Hid (∀ i,i<k+1->es i=0):=Hq (fun i hi=>by
       rcases Nat.lt_or_ge i k with h|h
       · exact HT.out i h
       · obtain rfl:i=k:=by omega
         exact he)
      rw [he];clear he;go_wp2;go_roundw
      case rel => exact ⟨k+1,by omega,by go_num,HT2,HB1,HK1⟩
      case measure => simp [intOf]<;>omega
    · have hq:(es k != 0)=true:=by simpa using he
      have HE:=Hq he;clear he;go_wp2;go_ret2;exact .inl ⟨k,hlt,HT.out,HE.out,rfl,HB1.out⟩
  · obtain rfl:k=n:=by omega
    have y1:=block1 (HS.out.below HB.out).d;have HDk:=Hq (HD.out HT.out wr HB.out);go_wp2_with fail;refine HDk.out.mono ?_;rintro e w1 ⟨v,rfl,hp⟩;have HP:=Hq hp;clear hp x0 x1 x2 x3 x4 x5 y1;go_wp2;go_ret2;exact .inr ⟨HT.out,v,wr,HB.out,rfl,HP.out⟩
theorem znw (kc kd gc n:Nat) (kq ke:Nat->Nat) (es:Nat->Int) (A:Option Addr) (n0 c:Nat) (o:Ops.Po) (Post:World->Value->World->Prop) (w:World) (hn:n<=100) (hS:StepAt w kc kd gc n kq ke (.func (.func 95) #[] #[]))
 (hC:∀ j,j<n->(∀ i,i<j->es i=0)->∀ V,Below w.heap.size w V->Calls Tryz.prog 135 #[.slice A n0 c,Ops.opv o,.pointer (some ⟨kq j,0,none⟩),.pointer (some ⟨ke j,0,none⟩)] V (GivesV (.int .i64 (es j)) V))
 (hD:(∀ j,j<n->es j=0)->∀ V,Below w.heap.size w V->Calls Tryz.prog 95 #[.slice A n0 c,Ops.opv o] V fun e w'=>∃ v,e = .returned v/\Post V v w') :
 Calls Tryz.prog 133 #[.slice A n0 c,Ops.opv o,.pointer (some ⟨kc,0,none⟩),.pointer (some ⟨kd,0,none⟩)] w fun e w' =>
  (∃ j,j<n/\(∀ i,i<j->es i=0)/\es j≠0/\e = .returned (.tuple #[.slice A n0 c,.int .i64 (es j)])/\Below w.heap.size w w') \/
  ((∀ j,j<n->es j=0)/\∃ v V,Below w.heap.size w V/\e = .returned (.tuple #[v,.int .i64 0])/\Post V v w'):=by
 have HS:=Hq hS;have HC:=Hq hC;have HD:=Hq hD;clear hS hC hD;obtain ⟨kd',id,dst,ps,nm0,tx⟩:=o;unfold Ops.opv at *;obtain ⟨W,hW⟩:∃ W,W=w.alloc (.cells #[.int .i64 kd',.int .i64 id,.int .i64 dst,.int .i64 ps,.string nm0,.string tx] 59):=⟨_,rfl⟩;have HWb:Hid (Below w.heap.size w W):=Hq (by rw [hW];exact Bq _ _);have HWk:Hid (W.heap[w.heap.size]? = some (.cells #[.int .i64 kd',.int .i64 id,.int .i64 dst,.int .i64 ps,.string nm0,.string tx] 59 (0,0))):=Hq (by rw [hW];exact heap_alloc_new _ _);have y0:=block1 (HS.out.below HWb.out).c;go_enter Tryz.func133,Tryz.ntmps133;go_upto_region 1 with fail
 rw [<- hW];clear hW;go_wp2_with fail;clear y0
 go_loopw [13] (fun q wr=>∃ k:Nat,k<=n/\q = .int .i64 k/\Hid (∀ i,i<k->es i=0)/\Hid (Below w.heap.size w wr)/\Hid (wr.heap[w.heap.size]? = some (.cells #[.int .i64 kd',.int .i64 id,.int .i64 dst,.int .i64 ps,.string nm0,.string tx] 59 (0,0)))) (fun q _=>n - (intOf q).toNat)
 case atStart => exact ⟨0,Nat.zero_le _,rfl,Hq (fun i hi=>absurd hi (by omega)),HWb,HWk⟩
 case round =>
  obtain ⟨k,hk,rfl,HT,HB,HK⟩:=hrel;obtain ⟨x0,x1,x2,x3,x4,x5⟩:=block6 HK.out
  by_cases hlt:k<n
  · have k0:(0:Int)<=(k:Int):=by omega
    have k1:(k:Int)<(n:Int):=by omega
    have hf:=(HS.out.below HB.out).f k hlt;have HCk:=Hq (HC.out k hlt HT.out wr HB.out);go_wp2_with fail;refine HCk.out.mono ?_;rintro e w1 ⟨rfl,hb⟩;have HB1:=Hq (HB.out.trans (hb.mono HB.out.size));have HK1:=Hq ((hb.block _ (lt_of_block HK.out)).trans HK.out);clear hb x0 x1 x2 x3 x4 x5 hf
    by_cases he:es k=0
    · have HT2:Hid (∀ i,i<k+1->es i=0):=Hq (fun i hi=>by
       rcases Nat.lt_or_ge i k with h|h
       · exact HT.out i h
       · obtain rfl:i=k:=by omega
         exact he)
      rw [he];clear he;go_wp2;go_roundw
      case rel => exact ⟨k+1,by omega,by go_num,HT2,HB1,HK1⟩
      case measure => simp [intOf]<;>omega
    · have hq:(es k != 0)=true:=by simpa using he
      have HE:=Hq he;clear he;go_wp2;go_ret2;exact .inl ⟨k,hlt,HT.out,HE.out,rfl,HB1.out⟩
  · obtain rfl:k=n:=by omega
    have y1:=block1 (HS.out.below HB.out).d;have HDk:=Hq (HD.out HT.out wr HB.out);go_wp2_with fail;refine HDk.out.mono ?_;rintro e w1 ⟨v,rfl,hp⟩;have HP:=Hq hp;clear hp x0 x1 x2 x3 x4 x5 y1;go_wp2;go_ret2;exact .inr ⟨HT.out,v,wr,HB.out,rfl,HP.out⟩
theorem ziw (kc kd gc n:Nat) (kq ke:Nat->Nat) (es:Nat->Int) (A:Option Addr) (n0 c:Nat) (o:Ops.Po) (Post:World->Value->World->Prop) (w:World) (hn:n<=100) (hS:StepAt w kc kd gc n kq ke (.func (.func 98) #[] #[]))
 (hC:∀ j,j<n->(∀ i,i<j->es i=0)->∀ V,Below w.heap.size w V->Calls Tryz.prog 135 #[.slice A n0 c,Ops.opv o,.pointer (some ⟨kq j,0,none⟩),.pointer (some ⟨ke j,0,none⟩)] V (GivesV (.int .i64 (es j)) V))
 (hD:(∀ j,j<n->es j=0)->∀ V,Below w.heap.size w V->Calls Tryz.prog 98 #[.slice A n0 c,Ops.opv o] V fun e w'=>∃ v,e = .returned v/\Post V v w') :
 Calls Tryz.prog 133 #[.slice A n0 c,Ops.opv o,.pointer (some ⟨kc,0,none⟩),.pointer (some ⟨kd,0,none⟩)] w fun e w' =>
  (∃ j,j<n/\(∀ i,i<j->es i=0)/\es j≠0/\e = .returned (.tuple #[.slice A n0 c,.int .i64 (es j)])/\Below w.heap.size w w') \/
  ((∀ j,j<n->es j=0)/\∃ v V,Below w.heap.size w V/\e = .returned (.tuple #[v,.int .i64 0])/\Post V v w'):=by
 have HS:=Hq hS;have HC:=Hq hC;have HD:=Hq hD;clear hS hC hD;obtain ⟨kd',id,dst,ps,nm0,tx⟩:=o;unfold Ops.opv at *;obtain ⟨W,hW⟩:∃ W,W=w.alloc (.cells #[.int .i64 kd',.int .i64 id,.int .i64 dst,.int .i64 ps,.string nm0,.string tx] 59):=⟨_,rfl⟩;have HWb:Hid (Below w.heap.size w W):=Hq (by rw [hW];exact Bq _ _);have HWk:Hid (W.heap[w.heap.size]? = some (.cells #[.int .i64 kd',.int .i64 id,.int .i64 dst,.int .i64 ps,.string nm0,.string tx] 59 (0,0))):=Hq (by rw [hW];exact heap_alloc_new _ _);have y0:=block1 (HS.out.below HWb.out).c;go_enter Tryz.func133,Tryz.ntmps133;go_upto_region 1 with fail
 rw [<- hW];clear hW;go_wp2_with fail;clear y0
 go_loopw [13] (fun q wr=>∃ k:Nat,k<=n/\q = .int .i64 k/\Hid (∀ i,i<k->es i=0)/\Hid (Below w.heap.size w wr)/\Hid (wr.heap[w.heap.size]? = some (.cells #[.int .i64 kd',.int .i64 id,.int .i64 dst,.int .i64 ps,.string nm0,.string tx] 59 (0,0)))) (fun q _=>n - (intOf q).toNat)
 case atStart => exact ⟨0,Nat.zero_le _,rfl,Hq (fun i hi=>absurd hi (by omega)),HWb,HWk⟩
 case round =>
  obtain ⟨k,hk,rfl,HT,HB,HK⟩:=hrel;obtain ⟨x0,x1,x2,x3,x4,x5⟩:=block6 HK.out
  by_cases hlt:k<n
  · have k0:(0:Int)<=(k:Int):=by omega
    have k1:(k:Int)<(n:Int):=by omega
    have hf:=(HS.out.below HB.out).f k hlt;have HCk:=Hq (HC.out k hlt HT.out wr HB.out);go_wp2_with fail;refine HCk.out.mono ?_;rintro e w1 ⟨rfl,hb⟩;have HB1:=Hq (HB.out.trans (hb.mono HB.out.size));have HK1:=Hq ((hb.block _ (lt_of_block HK.out)).trans HK.out);clear hb x0 x1 x2 x3 x4 x5 hf
    by_cases he:es k=0
    · have HT2:Hid (∀ i,i<k+1->es i=0):=Hq (fun i hi=>by
       rcases Nat.lt_or_ge i k with h|h
       · exact HT.out i h
       · obtain rfl:i=k:=by omega
         exact he)
      rw [he];clear he;go_wp2;go_roundw
      case rel => exact ⟨k+1,by omega,by go_num,HT2,HB1,HK1⟩
      case measure => simp [intOf]<;>omega
    · have hq:(es k != 0)=true:=by simpa using he
      have HE:=Hq he;clear he;go_wp2;go_ret2;exact .inl ⟨k,hlt,HT.out,HE.out,rfl,HB1.out⟩
  · obtain rfl:k=n:=by omega
    have y1:=block1 (HS.out.below HB.out).d;have HDk:=Hq (HD.out HT.out wr HB.out);go_wp2_with fail;refine HDk.out.mono ?_;rintro e w1 ⟨v,rfl,hp⟩;have HP:=Hq hp;clear hp x0 x1 x2 x3 x4 x5 y1;go_wp2;go_ret2;exact .inr ⟨HT.out,v,wr,HB.out,rfl,HP.out⟩
theorem znx (kc kd gc n:Nat) (kq ke:Nat->Nat) (es:Nat->Int) (A:Option Addr) (n0 c:Nat) (o:Ops.Po) (Post:World->Value->World->Prop) (w:World) (hn:n<=100) (hS:StepAt w kc kd gc n kq ke (.func (.func 100) #[] #[]))
 (hC:∀ j,j<n->(∀ i,i<j->es i=0)->∀ V,Below w.heap.size w V->Calls Tryz.prog 135 #[.slice A n0 c,Ops.opv o,.pointer (some ⟨kq j,0,none⟩),.pointer (some ⟨ke j,0,none⟩)] V (GivesV (.int .i64 (es j)) V))
 (hD:(∀ j,j<n->es j=0)->∀ V,Below w.heap.size w V->Calls Tryz.prog 100 #[.slice A n0 c,Ops.opv o] V fun e w'=>∃ v,e = .returned v/\Post V v w') :
 Calls Tryz.prog 133 #[.slice A n0 c,Ops.opv o,.pointer (some ⟨kc,0,none⟩),.pointer (some ⟨kd,0,none⟩)] w fun e w' =>
  (∃ j,j<n/\(∀ i,i<j->es i=0)/\es j≠0/\e = .returned (.tuple #[.slice A n0 c,.int .i64 (es j)])/\Below w.heap.size w w') \/
  ((∀ j,j<n->es j=0)/\∃ v V,Below w.heap.size w V/\e = .returned (.tuple #[v,.int .i64 0])/\Post V v w'):=by
 have HS:=Hq hS;have HC:=Hq hC;have HD:=Hq hD;clear hS hC hD;obtain ⟨kd',id,dst,ps,nm0,tx⟩:=o;unfold Ops.opv at *;obtain ⟨W,hW⟩:∃ W,W=w.alloc (.cells #[.int .i64 kd',.int .i64 id,.int .i64 dst,.int .i64 ps,.string nm0,.string tx] 59):=⟨_,rfl⟩;have HWb:Hid (Below w.heap.size w W):=Hq (by rw [hW];exact Bq _ _);have HWk:Hid (W.heap[w.heap.size]? = some (.cells #[.int .i64 kd',.int .i64 id,.int .i64 dst,.int .i64 ps,.string nm0,.string tx] 59 (0,0))):=Hq (by rw [hW];exact heap_alloc_new _ _);have y0:=block1 (HS.out.below HWb.out).c;go_enter Tryz.func133,Tryz.ntmps133;go_upto_region 1 with fail
 rw [<- hW];clear hW;go_wp2_with fail;clear y0
 go_loopw [13] (fun q wr=>∃ k:Nat,k<=n/\q = .int .i64 k/\Hid (∀ i,i<k->es i=0)/\Hid (Below w.heap.size w wr)/\Hid (wr.heap[w.heap.size]? = some (.cells #[.int .i64 kd',.int .i64 id,.int .i64 dst,.int .i64 ps,.string nm0,.string tx] 59 (0,0)))) (fun q _=>n - (intOf q).toNat)
 case atStart => exact ⟨0,Nat.zero_le _,rfl,Hq (fun i hi=>absurd hi (by omega)),HWb,HWk⟩
 case round =>
  obtain ⟨k,hk,rfl,HT,HB,HK⟩:=hrel;obtain ⟨x0,x1,x2,x3,x4,x5⟩:=block6 HK.out
  by_cases hlt:k<n
  · have k0:(0:Int)<=(k:Int):=by omega
    have k1:(k:Int)<(n:Int):=by omega
    have hf:=(HS.out.below HB.out).f k hlt;have HCk:=Hq (HC.out k hlt HT.out wr HB.out);go_wp2_with fail;refine HCk.out.mono ?_;rintro e w1 ⟨rfl,hb⟩;have HB1:=Hq (HB.out.trans (hb.mono HB.out.size));have HK1:=Hq ((hb.block _ (lt_of_block HK.out)).trans HK.out);clear hb x0 x1 x2 x3 x4 x5 hf
    by_cases he:es k=0
    · have HT2:Hid (∀ i,i<k+1->es i=0):=Hq (fun i hi=>by
       rcases Nat.lt_or_ge i k with h|h
       · exact HT.out i h
       · obtain rfl:i=k:=by omega
         exact he)
      rw [he];clear he;go_wp2;go_roundw
      case rel => exact ⟨k+1,by omega,by go_num,HT2,HB1,HK1⟩
      case measure => simp [intOf]<;>omega
    · have hq:(es k != 0)=true:=by simpa using he
      have HE:=Hq he;clear he;go_wp2;go_ret2;exact .inl ⟨k,hlt,HT.out,HE.out,rfl,HB1.out⟩
  · obtain rfl:k=n:=by omega
    have y1:=block1 (HS.out.below HB.out).d;have HDk:=Hq (HD.out HT.out wr HB.out);go_wp2_with fail;refine HDk.out.mono ?_;rintro e w1 ⟨v,rfl,hp⟩;have HP:=Hq hp;clear hp x0 x1 x2 x3 x4 x5 y1;go_wp2;go_ret2;exact .inr ⟨HT.out,v,wr,HB.out,rfl,HP.out⟩
end Go.Proofs.YtdmecdjfbpblgaaGreatDoor
