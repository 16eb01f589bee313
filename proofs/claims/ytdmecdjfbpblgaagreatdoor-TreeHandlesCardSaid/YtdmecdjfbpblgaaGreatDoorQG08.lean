/-
  Whether two operations are the same, as Go compares structs.
-/
import Derived.Test.YtdmecdjfbpblgaaGreatDoorQG07
namespace Go.Proofs.YtdmecdjfbpblgaaGreatDoor.Ops
set_option maxRecDepth 100000
set_option maxHeartbeats 32000000
open Go.ChangeShapes Go.WideShapes Go.ChangeAt Go.RowKit
set_option linter.unusedVariables false
set_option linter.unusedSimpArgs false
theorem zb4:Tryz.prog.underlying 59=some (.struct (Tryz.prog.fieldsOf 59)):=by kernel_rfl
theorem zpp:(Tryz.prog.fieldsOf 59).toList.map (fun f=>(f.type,f.offset,decide (f.name ≠ "_")))=[(3,0,true),(3,1,true),(3,2,true),(3,3,true),(9,4,true),(9,5,true)]:=by kernel_rfl
theorem eq_op (a0 a1 a2 a3 b0 b1 b2 b3:Int) (a4 a5 b4 b5:ByteArray) (W:World):(Op.equalIn 10000 59 (.agg #[.int .i64 a0,.int .i64 a1,.int .i64 a2,.int .i64 a3,.string a4,.string a5]) (.agg #[.int .i64 b0,.int .i64 b1,.int .i64 b2,.int .i64 b3,.string b4,.string b5])).run Tryz.prog W = .ok ((a0 == b0) && ((a1 == b1) && ((a2 == b2) && ((a3 == b3) && ((a4.toList == b4.toList) && (a5.toList == b5.toList)))))) W:=by
 rw [show (10000:Nat)=9999+1 from rfl,run_equalIn_struct W 9999 _ _ _ zb4 (by kernel_rfl)];have hf:=zpp;generalize (Tryz.prog.fieldsOf 59).toList=fs at *;have hl:=congrArg List.length hf;simp only [List.length_map,List.length_cons,List.length_nil] at hl
 match fs,hl,hf with
 | [f0,f1,f2,f3,f4,f5],_,hf =>
   simp only [List.map_cons,List.map_nil,List.cons.injEq,Prod.mk.injEq,decide_eq_true_eq,and_true] at hf;obtain ⟨⟨t0,o0,n0⟩,⟨t1,o1,n1⟩,⟨t2,o2,n2⟩,⟨t3,o3,n3⟩,⟨t4,o4,n4⟩,t5,o5,n5⟩:=hf;have hG:Tryz.prog.plainKey 9=true:=by kernel_rfl
   have hH:Tryz.prog.plainKey 3=true:=by kernel_rfl
   simp only [Op.eqFields,n0,n1,n2,n3,n4,n5,t0,t1,t2,t3,t4,t5,o0,o1,o2,o3,o4,o5,ne_eq,not_true,not_false_eq_true,if_true,Sem.run_bind];rw [run_part_plain W hH (v:=.int .i64 a0) rfl];simp only [Result.andThen_ok];rw [run_part_plain W hH (v:=.int .i64 b0) rfl];simp only [Result.andThen_ok];rw [run_equalIn_int W 9998 _ .i64 .i64 a0 b0 (by kernel_rfl)];simp only [Result.andThen_ok];cases h0:(a0 == b0)
   · rfl
   simp only [Bool.not_true,Bool.false_eq_true,if_false,Sem.run_bind,Bool.true_and];rw [run_part_plain W hH (v:=.int .i64 a1) rfl];simp only [Result.andThen_ok];rw [run_part_plain W hH (v:=.int .i64 b1) rfl];simp only [Result.andThen_ok];rw [run_equalIn_int W 9998 _ .i64 .i64 a1 b1 (by kernel_rfl)];simp only [Result.andThen_ok];cases h1:(a1 == b1)
   · rfl
   simp only [Bool.not_true,Bool.false_eq_true,if_false,Sem.run_bind,Bool.true_and];rw [run_part_plain W hH (v:=.int .i64 a2) rfl];simp only [Result.andThen_ok];rw [run_part_plain W hH (v:=.int .i64 b2) rfl];simp only [Result.andThen_ok];rw [run_equalIn_int W 9998 _ .i64 .i64 a2 b2 (by kernel_rfl)];simp only [Result.andThen_ok];cases h2:(a2 == b2)
   · rfl
   simp only [Bool.not_true,Bool.false_eq_true,if_false,Sem.run_bind,Bool.true_and];rw [run_part_plain W hH (v:=.int .i64 a3) rfl];simp only [Result.andThen_ok];rw [run_part_plain W hH (v:=.int .i64 b3) rfl];simp only [Result.andThen_ok];rw [run_equalIn_int W 9998 _ .i64 .i64 a3 b3 (by kernel_rfl)];simp only [Result.andThen_ok];cases h3:(a3 == b3)
   · rfl
   simp only [Bool.not_true,Bool.false_eq_true,if_false,Sem.run_bind,Bool.true_and];rw [run_part_plain W hG (v:=.string a4) rfl];simp only [Result.andThen_ok];rw [run_part_plain W hG (v:=.string b4) rfl];simp only [Result.andThen_ok];rw [run_equalIn_string W 9998 _ a4 b4 (by kernel_rfl)];simp only [Result.andThen_ok];cases h4:(a4.toList == b4.toList)
   · rfl
   simp only [Bool.not_true,Bool.false_eq_true,if_false,Sem.run_bind,Bool.true_and];rw [run_part_plain W hG (v:=.string a5) rfl];simp only [Result.andThen_ok];rw [run_part_plain W hG (v:=.string b5) rfl];simp only [Result.andThen_ok];rw [run_equalIn_string W 9998 _ a5 b5 (by kernel_rfl)];simp only [Result.andThen_ok,Bool.true_and];cases h5:(a5.toList == b5.toList)
   · rfl
   · rfl
theorem znr (n:Int) (w:World):Calls Tryz.prog 101 #[.int .i64 n] w fun e w'=>e = .returned (.bool (isK n))/\w'=w:=by
 by_cases h1:1<=n
 · by_cases h8:n<=8
   · have:isK n=true:=zir.2 ⟨h1,h8⟩;rw [this];go_enter Tryz.func101,Tryz.ntmps101;go_wp2;go_ret;exact ⟨rfl,rfl⟩
   · have:isK n=false:=by rw [isK,decide_eq_false_iff_not];omega
     rw [this];go_enter Tryz.func101,Tryz.ntmps101;go_wp2;go_ret;exact ⟨rfl,rfl⟩
 · have:isK n=false:=by rw [isK,decide_eq_false_iff_not];omega
   rw [this];go_enter Tryz.func101,Tryz.ntmps101;go_wp2;go_ret;exact ⟨rfl,rfl⟩
theorem zro {o:Po} (hk:isK o.kind=true) (h1:o.name.size<=255) (h2:o.text.size<=255):mayO o=((o.kind == (kept o).kind) && ((o.id == (kept o).id) && ((o.dst == (kept o).dst) && ((o.pos == (kept o).pos) && ((o.name.toList == (kept o).name.toList) && (o.text.toList == (kept o).text.toList)))))):=by
 have key:∀ (b:Bool) (n:Int),(b || decide (n=0))=(n == if b=true then n else 0):=fun b n=>by cases b<;>simp [Bool.beq_eq_decide_eq]
 have keyS:∀ (b:Bool) (s:ByteArray),(b || decide (s.size=0))=(s.toList == (if b=true then s else ⟨#[]⟩).toList):=fun b s=>by
  cases b with
  | true=>simp
  | false =>
    by_cases h:s.size=0
    · rw [decide_eq_true h,zco h];exact (show true=(([]:List UInt8) == (⟨#[]⟩:ByteArray).toList) by decide +kernel)
    · have h':s≠⟨#[]⟩:=fun e=>h (by rw [e];rfl)
      rw [decide_eq_false h];simp only [Bool.false_or,Bool.false_eq_true,if_false];exact (zpj h').symm
 unfold mayO kept;simp only [];rw [hk,decide_eq_true h1,decide_eq_true h2,key,key,key,keyS,keyS];simp
theorem zel (o:Po) (w:World) (hK:KT w):Calls Tryz.prog 47 #[opv o] w (GivesV (.bool (mayO o)) w):=by
 have HI:=Hq (fun V=>znr o.kind V);have HK:=Hq hK
 by_cases h0:isK o.kind=true
 · by_cases h1:o.name.size<=255
   · by_cases h2:o.text.size<=255
     · have HM:=Hq (zro h0 h1 h2);have HT:=Hq (fun V hV=>zuy o V h0 hV);rw [h0] at HI;have h1':¬ (255:Int)<(o.name.size:Int):=by omega
       have h2':¬ (255:Int)<(o.text.size:Int):=by omega
       unfold opv at *;generalize mayO o=R at *;clear hK h1 h2 h0;go_enter Tryz.func47,Tryz.ntmps47;obtain ⟨W,hW⟩:∃ W,W=w.alloc (.cells #[.int .i64 o.kind,.int .i64 o.id,.int .i64 o.dst,.int .i64 o.pos,.string o.name,.string o.text] 59):=⟨_,rfl⟩;have HWb:Hid (Below w.heap.size w W):=Hq (by rw [hW];exact Bq _ _);have HWk:Hid (W.heap[w.heap.size]? = some (.cells #[.int .i64 o.kind,.int .i64 o.id,.int .i64 o.dst,.int .i64 o.pos,.string o.name,.string o.text] 59 (0,0))):=Hq (by rw [hW];exact heap_alloc_new _ _);have HCV:Hid (∀ V,Below W.heap.size W V->V.cell? ⟨w.heap.size,0,none⟩=some (.int .i64 o.kind)/\V.cell? ⟨w.heap.size,1,none⟩=some (.int .i64 o.id)/\V.cell? ⟨w.heap.size,2,none⟩=some (.int .i64 o.dst)/\V.cell? ⟨w.heap.size,3,none⟩=some (.int .i64 o.pos)/\V.cell? ⟨w.heap.size,4,none⟩=some (.string o.name)/\V.cell? ⟨w.heap.size,5,none⟩=some (.string o.text)):=Hq (fun V hb=>block6 ((hb.block _ (Array.getElem?_eq_some_iff.1 HWk.out).1).trans HWk.out));have HTV:=Hq (fun V (hb:Below W.heap.size W V)=>HT.out V (HK.out.below (HWb.out.trans (hb.mono HWb.out.size))));obtain ⟨x0,x1,x2,x3,x4,x5⟩:=HCV.out W (Below.refl _ _);generalize kept o=q at *
       go_wp2_with (first|rw [<- hW]|(go_at_call 101;refine (HI.out _).mono ?_;rintro e w' ⟨rfl,hw⟩;obtain rfl:=hw.symm))
       clear x0 x1 x2 x3 x4 x5 hW;have hE:=eq_op o.kind o.id o.dst o.pos q.kind q.id q.dst q.pos o.name o.text q.name q.text;rw [<- HM.out] at hE
       go_region_held3 (fun V=>V.cell? ⟨w.heap.size,0,none⟩=some (.int .i64 o.kind)/\V.cell? ⟨w.heap.size,1,none⟩=some (.int .i64 o.id)/\V.cell? ⟨w.heap.size,2,none⟩=some (.int .i64 o.dst)/\V.cell? ⟨w.heap.size,3,none⟩=some (.int .i64 o.pos)/\V.cell? ⟨w.heap.size,4,none⟩=some (.string o.name)/\V.cell? ⟨w.heap.size,5,none⟩=some (.string o.text))
        (first|with_reducible exact HCV.out _ (Below.refl _ _)|with_reducible exact HCV.out _ (Below.refl _ _).drew|with_reducible exact HCV.out _ HB1.out)
        (first
          | (go_at_call 102;refine (HTV.out _ (Below.refl _ _).drew).mono ?_;rintro e w1 ⟨rfl,hb⟩;have HB1:=Hq ((Below.refl W.heap.size W).drew.trans (hb.mono (by simp)));clear hb))
       go_wp2;go_ret;exact ⟨rfl,HWb.out.trans (HB1.out.mono HWb.out.size)⟩
     · have hf:mayO o=false:=by rw [mayO,decide_eq_false h2];simp
       rw [hf];rw [h0] at HI;have h1':¬ (255:Int)<(o.name.size:Int):=by omega
       have h2':(255:Int)<(o.text.size:Int):=by omega
       unfold opv;clear hK h1 h2 h0 hf;go_enter Tryz.func47,Tryz.ntmps47
       go_wp2_with (go_at_call 101;refine (HI.out _).mono ?_;rintro e w' ⟨rfl,rfl⟩)
       go_ret;exact ⟨rfl,Bq _ _⟩
   · have hf:mayO o=false:=by rw [mayO,decide_eq_false h1];simp
     rw [hf];rw [h0] at HI;have h1':(255:Int)<(o.name.size:Int):=by omega
     unfold opv;clear hK h1 h0 hf;go_enter Tryz.func47,Tryz.ntmps47
     go_wp2_with (go_at_call 101;refine (HI.out _).mono ?_;rintro e w' ⟨rfl,rfl⟩)
     go_ret;exact ⟨rfl,Bq _ _⟩
 · have h0':isK o.kind=false:=by simpa using h0
   have hf:mayO o=false:=by rw [mayO,h0'];rfl
   rw [hf];rw [h0'] at HI;unfold opv;clear hK h0 h0' hf;go_enter Tryz.func47,Tryz.ntmps47
   go_wp2_with (go_at_call 101;refine (HI.out _).mono ?_;rintro e w' ⟨rfl,rfl⟩)
   go_ret;exact ⟨rfl,Bq _ _⟩
end Go.Proofs.YtdmecdjfbpblgaaGreatDoor.Ops
