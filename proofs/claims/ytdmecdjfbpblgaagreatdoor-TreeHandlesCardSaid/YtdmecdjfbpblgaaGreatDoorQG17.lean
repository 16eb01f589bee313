/-
  The shell of a card: a world that bears the tables; what the table of kinds says; a wrap that hands on a world's shape, and that the tables are laid.
-/
import Derived.Test.YtdmecdjfbpblgaaGreatDoorQG06
import Derived.LaidMore
import Derived.LaidSub
import Derived.HandedShaped
import Derived.Stop.Joined
namespace Go.Proofs.YtdmecdjfbpblgaaGreatDoor
set_option maxRecDepth 100000
set_option maxHeartbeats 32000000
open Go.ChangeShapes Go.WideShapes Go.ChangeAt Go.RowKit
set_option linter.unusedVariables false
theorem own:ownKnob Tryz.prog.godebug=none:=by kernel_rfl
theorem laidOut:laidOutB Tryz.prog=true:=by kernel_rfl
noncomputable def laidWorld (os:Os):World :=
 let w0:=World.doorLaid Tryz.prog 4000 os
 { w0 with heap:=w0.heap.modify 2 fun
  | .cells _ t frozen=>.cells (Go.Pinned.utf8FirstZ.map (fun z:Nat=>Value.int .u8 (z:Int))).toArray t frozen
  | o=>o }
theorem laid_met (os:Os) (args:Array Value):laidMetH Tryz.prog Rows.treeHandlesRow.laid ((laidWorld os).forCall (fun _ _=>0) ⟨#[],args,[]⟩).memory :=
 laidMetH_of_parts3 (fuel:=8) (laidMet_of_run' 8 (by kernel_rfl) (by kernel_rfl)) (by kernel_rfl) (by kernel_rfl)
theorem under_k:Tryz.prog.underlying 204=some (.struct (Tryz.prog.fieldsOf 204)):=by kernel_rfl
theorem under_ks:Tryz.prog.underlying 205=some (.array 9 204):=by kernel_rfl
theorem cells_k:Tryz.prog.cellsOf 204=6:=by kernel_rfl
theorem cells_ks:Tryz.prog.cellsOf 205=54:=by kernel_rfl
theorem cells_bool:Tryz.prog.cellsOf 4=1:=by kernel_rfl
theorem fld_k0:((Tryz.prog.fieldsOf 204)[0]?).map (fun f=>(f.type,f.offset))=some (9,0):=by kernel_rfl
theorem fld_k1:((Tryz.prog.fieldsOf 204)[1]?).map (fun f=>(f.type,f.offset))=some (4,1):=by kernel_rfl
theorem fld_k2:((Tryz.prog.fieldsOf 204)[2]?).map (fun f=>(f.type,f.offset))=some (4,2):=by kernel_rfl
theorem fld_k3:((Tryz.prog.fieldsOf 204)[3]?).map (fun f=>(f.type,f.offset))=some (4,3):=by kernel_rfl
theorem fld_k4:((Tryz.prog.fieldsOf 204)[4]?).map (fun f=>(f.type,f.offset))=some (4,4):=by kernel_rfl
theorem fld_k5:((Tryz.prog.fieldsOf 204)[5]?).map (fun f=>(f.type,f.offset))=some (4,5):=by kernel_rfl
theorem fld_k:∀ (i:Nat),i<6->((Tryz.prog.fieldsOf 204)[i]?).map (fun f=>(f.type,f.offset))=some (if i=0 then 9 else 4,i)
 | 0,_=>fld_k0
 | 1,_=>fld_k1
 | 2,_=>fld_k2
 | 3,_=>fld_k3
 | 4,_=>fld_k4
 | 5,_=>fld_k5
 | _+6,h=>absurd h (by omega)
theorem kind_cells {H:Type} {enc:TypeId × Value->H} {w:World} {base:Nat} {sp:Nat->Bool} {held:Bool} {m:Nat} {cs:List Value} {bs:List UInt8} {b1 b2 b3 b4 b5:Bool} {p:List MemPlace}
 (h:DataW.trod enc Tryz.prog w base sp held m 204 cs=some (.agg [.lit (.string bs),.lit (.bool b1),.lit (.bool b2),.lit (.bool b3),.lit (.bool b4),.lit (.bool b5)],p)) :
 cs[0]? = some (.string ⟨bs.toArray⟩)/\cs[1]? = some (.bool b1)/\cs[2]? = some (.bool b2)/\cs[3]? = some (.bool b3)/\cs[4]? = some (.bool b4)/\cs[5]? = some (.bool b5):=by
 obtain ⟨xs,n,-,hx,hl,hxl,hf⟩:=DataW.trod_struct under_k h;rw [cells_k] at hl;have hm:xs.map (·.1)=[.lit (.string bs),.lit (.bool b1),.lit (.bool b2),.lit (.bool b3),.lit (.bool b4),.lit (.bool b5)]:=by
  have:=congrArg Prod.fst hx;simp only [DataW.agg.injEq] at this;exact this.symm
 have hxs:xs.length=6:=by have:=congrArg List.length hm;simpa using this
 have key:∀ i,i<6->∃ x,xs[i]? = some x/\(xs.map (·.1))[i]? = some x.1/\DataW.trod enc Tryz.prog w base sp held n (if i=0 then 9 else 4) ((cs.drop i).take 1)=some x:=by
  intro i hi;obtain ⟨f,hfi,he⟩:=Option.map_eq_some_iff.1 (fld_k i hi);have e1:f.type=if i=0 then 9 else 4:=congrArg Prod.fst he
  have e2:f.offset=i:=congrArg Prod.snd he;have:=hf i f hfi;have hc:Tryz.prog.cellsOf (if i=0 then 9 else 4)=1:=by split;exact zf0;exact cells_bool
  rw [e1,e2,hc,List.getElem?_eq_getElem (by omega)] at this;exact ⟨_,List.getElem?_eq_getElem (by omega),by rw [List.getElem?_map,List.getElem?_eq_getElem (by omega)];rfl,this⟩
 have one:∀ i v,(cs.drop i).take 1=[v]->cs[i]? = some v:=fun i v e=>by
  have:=congrArg (·[0]?) e;simpa [List.getElem?_take,List.getElem?_drop] using this
 have bl:∀ i b,1<=i->i<6->(xs.map (·.1))[i]? = some (DataW.lit (.bool b))->cs[i]? = some (.bool b):=fun i b h1 h6 hb=>by
  obtain ⟨x,-,hx2,ht⟩:=key i h6;rw [if_neg (by omega)] at ht;obtain ⟨b',hb',hx'⟩:=DataW.trod_bool Tryz.underlying4 ht;rw [hb,hx'] at hx2;simp only [Option.some.injEq,DataW.lit.injEq,Lit.bool.injEq] at hx2;rw [hx2];exact one i _ hb'
 refine ⟨?_,bl 1 b1 (by omega) (by omega) (by rw [hm];rfl),bl 2 b2 (by omega) (by omega) (by rw [hm];rfl),bl 3 b3 (by omega) (by omega) (by rw [hm];rfl),bl 4 b4 (by omega) (by omega) (by rw [hm];rfl),bl 5 b5 (by omega) (by omega) (by rw [hm];rfl)⟩;obtain ⟨x,-,hx2,ht⟩:=key 0 (by omega);rw [if_pos rfl] at ht;obtain ⟨s,hs,hx',-⟩:=DataW.trod_string Tryz.underlying9 ht;rw [hm,hx'] at hx2;simp only [List.getElem?_cons_zero,Option.some.injEq,DataW.lit.injEq,Lit.string.injEq] at hx2;rw [one 0 _ hs,hx2]
theorem glob_k:Tryz.prog.globalNamed "treillage/op.kinds" = some 0:=by kernel_rfl
theorem kt_of {W:World} {T:List (String × DataW Unit)} (hT:T.filter (fun x=>x.1 == "treillage/op.kinds")=[("treillage/op.kinds",Rows.laid_treillage_op_kinds)]) (h:laidMetH Tryz.prog T W):Ops.KT W:=by
 have hk:=h.filter (fun x=>x.1 == "treillage/op.kinds");rw [hT,MakeChecks.laidMetH_plain _ _ _ (by kernel_rfl)] at hk
 · obtain ⟨ps,⟨g,t,cs,fuel,p,q,hg,ht,hvar,hd,-,-⟩,-⟩:=hk;obtain rfl:=Option.some.inj (glob_k.symm.trans hg);obtain rfl:205=t:=Option.some.inj ((show (Tryz.prog.globals[0]?).map (·.type)=some 205 by kernel_rfl).symm.trans ht);obtain ⟨xs,m,-,hx,hl,hxl,hf⟩:=DataW.trod_array under_ks hd;rw [cells_ks] at hl;rw [cells_k] at hf;have hm:xs.map (·.1)=(match (Rows.laid_treillage_op_kinds:DataW Unit) with | .agg l=>l|_=>[]):=by
    have:=congrArg Prod.fst hx;unfold Rows.laid_treillage_op_kinds at this ⊢;simp only [DataW.agg.injEq] at this;exact this.symm
   have cell:∀ (k i:Nat) (v:Value),((cs.toList.drop (k*6)).take 6)[i]? = some v->i<6->W.cell? ⟨0,k*6+i,none⟩=some v:=fun k i v hv hi=>by
    rw [List.getElem?_take_of_lt hi,List.getElem?_drop] at hv;rw [World.var?_cell glob_k hvar (k*6+i)];simpa using hv
   have w0:0<W.heap.size:=by
    unfold World.var? at hvar;rw [glob_k,Option.bind_some] at hvar
    rcases Nat.lt_or_ge 0 W.heap.size with h'|h'
    · exact h'
    · rw [Array.getElem?_eq_none h'] at hvar;cases hvar
   have row:∀ (k:Nat) (bs:List UInt8) (b1 b2 b3 b4 b5:Bool),k<9->(xs.map (·.1))[k]? = some (DataW.agg [.lit (.string bs),.lit (.bool b1),.lit (.bool b2),.lit (.bool b3),.lit (.bool b4),.lit (.bool b5)])->W.cell? ⟨0,k*6,none⟩=some (.string ⟨bs.toArray⟩)/\W.cell? ⟨0,k*6+1,none⟩=some (.bool b1)/\W.cell? ⟨0,k*6+2,none⟩=some (.bool b2)/\W.cell? ⟨0,k*6+3,none⟩=some (.bool b3)/\W.cell? ⟨0,k*6+4,none⟩=some (.bool b4)/\W.cell? ⟨0,k*6+5,none⟩=some (.bool b5):=fun k bs b1 b2 b3 b4 b5 h9 hk=>by
    have hlt:k<xs.length:=by omega
    have h1:=hf k h9;rw [List.getElem?_eq_getElem hlt] at h1;rw [List.getElem?_map,List.getElem?_eq_getElem hlt] at hk;simp only [Option.map_some,Option.some.injEq] at hk;have h2:xs[k]=(DataW.agg [.lit (.string bs),.lit (.bool b1),.lit (.bool b2),.lit (.bool b3),.lit (.bool b4),.lit (.bool b5)],xs[k].2):=by rw [<- hk]
    rw [h2] at h1;obtain ⟨a0,a1,a2,a3,a4,a5⟩:=kind_cells h1;exact ⟨cell k 0 _ a0 (by omega),cell k 1 _ a1 (by omega),cell k 2 _ a2 (by omega),cell k 3 _ a3 (by omega),cell k 4 _ a4 (by omega),cell k 5 _ a5 (by omega)⟩
   refine ⟨w0,fun k h1 h8=>?_⟩;have:k=1\/k=2\/k=3\/k=4\/k=5\/k=6\/k=7\/k=8:=by omega
   rcases this with rfl|rfl|rfl|rfl|rfl|rfl|rfl|rfl
   · exact row 1 _ _ _ _ _ _ (by omega) (by rw [hm];rfl)
   · exact row 2 _ _ _ _ _ _ (by omega) (by rw [hm];rfl)
   · exact row 3 _ _ _ _ _ _ (by omega) (by rw [hm];rfl)
   · exact row 4 _ _ _ _ _ _ (by omega) (by rw [hm];rfl)
   · exact row 5 _ _ _ _ _ _ (by omega) (by rw [hm];rfl)
   · exact row 6 _ _ _ _ _ _ (by omega) (by rw [hm];rfl)
   · exact row 7 _ _ _ _ _ _ (by omega) (by rw [hm];rfl)
   · exact row 8 _ _ _ _ _ _ (by omega) (by rw [hm];rfl)
theorem both {H:Type} {enc:TypeId × Value->H} {a:Assume} {C:Checked} {os:Os} {f:FuncId} {fn:Func} {s:ChangeSpec} {conds:List PathCond} {apart fresh handsOn again:Bool} {X:World->Array Value->Prop}
 (own:ownKnob C.prog.godebug=none) (started:os.Started) (noInit:C.prog.inits.idxOf? f=none) (hfn:C.prog.funcs[f]? = some fn)
 (witness:∃ (w:World) (tape:Tape) (i:Input),w.os=os/\(w.forCall tape i).Shaped C.prog/\i.vars=[]/\Input.okWide C.prog (w.forCall tape i) .any w.heap.size f i /\
   ((s.pre enc C.prog fn conds apart (w.forCall tape i).memory i.args/\X (w.forCall tape i).memory i.args)/\sizedMet enc C.prog fn (OpenSpec.ofChange s) apart (w.forCall tape i).memory i.args)/\a.holds C.prog (lone (Frame.enter C.prog f i.args .normal) [] (w.forCall tape i)))
 (contract:∀ (W:World) (base:Nat) (args:Array Value) (ds gs:List (DataW H)) (before:List MemPlace),
   (∀ (j:Nat) t v,fn.params[j]? = some t->args[j]? = some v->Value.okWide C.prog W .any base t v) ->
   DataW.Whole enc C.prog fn.params.toList s.vars apart W args.toList ds gs before->W.ShapedOpen C.prog->X W.memory args ->
   Calls C.prog f args W fun e W'=>∃ v,e = .returned v/\s.post enc C.prog fn apart fresh handsOn again W args v W') :
 ReturnsInHanded a C os f .any (fun w args=>(s.pre enc C.prog fn conds apart w args/\X w args)/\sizedMet enc C.prog fn (OpenSpec.ofChange s) apart w args) (s.post enc C.prog fn apart fresh handsOn again):=by
 refine returnsInHanded_of_calls own started noInit witness ?_;intro w tape i h1 h2 h3 hok hpre hholds;obtain ⟨_,_,_,fn',hfn',_,_,_,_,hval⟩:=hok;obtain rfl:fn'=fn:=Option.some.inj (hfn'.symm.trans hfn);obtain ⟨⟨⟨ds,gs,before,hw,hc⟩,hx⟩,hz⟩:=hpre;refine (contract (w.forCall tape i) w.heap.size i.args ds gs before hval (DataW.Whole.of_heap (w':=w.forCall tape i) (by rfl) hw) h2 hx).mono fun e W' ⟨v,he,hp⟩=>?_
 subst he;exact ChangeSpec.post_blind hp
end Go.Proofs.YtdmecdjfbpblgaaGreatDoor
