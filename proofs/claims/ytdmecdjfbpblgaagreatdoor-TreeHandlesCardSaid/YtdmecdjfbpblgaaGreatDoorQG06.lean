/-
  What an operation's kind has, handed on and made anew.
-/
import Derived.Test.YtdmecdjfbpblgaaGreatDoorQG05
namespace Go.Proofs.YtdmecdjfbpblgaaGreatDoor.Ops
set_option maxRecDepth 100000
set_option maxHeartbeats 32000000
open Go.ChangeShapes Go.WideShapes Go.ChangeAt Go.RowKit
set_option linter.unusedVariables false
set_option linter.unusedSimpArgs false
def opv (o:Po):Value:=.agg #[.int .i64 o.kind,.int .i64 o.id,.int .i64 o.dst,.int .i64 o.pos,.string o.name,.string o.text]
def kword (k:Int):ByteArray:=if k=1 then ⟨#[101,108,101,109,101,110,116]⟩ else if k=2 then ⟨#[116,101,120,116]⟩ else if k=3 then ⟨#[99,111,109,109,101,110,116]⟩ else if k=4 then ⟨#[105,110,115,101,114,116]⟩ else if k=5 then ⟨#[114,101,109,111,118,101]⟩ else if k=6 then ⟨#[115,101,116]⟩ else if k=7 then ⟨#[117,110,115,101,116]⟩ else ⟨#[99,104,97,110,103,101]⟩
def KT (w:World):Prop:=0<w.heap.size/\∀ k:Nat,1<=k->k<=8->w.cell? ⟨0,k*6,none⟩=some (.string (kword k))/\w.cell? ⟨0,k*6+1,none⟩=some (.bool (hasI k))/\w.cell? ⟨0,k*6+2,none⟩=some (.bool (hasT k))/\w.cell? ⟨0,k*6+3,none⟩=some (.bool (hasT k))/\w.cell? ⟨0,k*6+4,none⟩=some (.bool (hasN k))/\w.cell? ⟨0,k*6+5,none⟩=some (.bool (hasX k))
theorem KT.below {w w':World} (h:KT w) (hb:Below w.heap.size w w'):KT w':=by
 refine ⟨Nat.lt_of_lt_of_le h.1 hb.size,fun k h1 h2=>?_⟩;have key:∀ j v,w.cell? ⟨0,j,none⟩=some v->w'.cell? ⟨0,j,none⟩=some v:=fun j v hv=>(hb.cell (p:=⟨0,j,none⟩) h.1).trans hv
 obtain ⟨a,b,c,d,e,f⟩:=h.2 k h1 h2;exact ⟨key _ _ a,key _ _ b,key _ _ c,key _ _ d,key _ _ e,key _ _ f⟩
def kept (o:Po):Po:=⟨o.kind,if hasI o.kind then o.id else 0,if hasT o.kind then o.dst else 0,if hasT o.kind then o.pos else 0,if hasN o.kind then o.name else ⟨#[]⟩,if hasX o.kind then o.text else ⟨#[]⟩⟩
def GivesV (v:Value) (w:World) (en:Ending) (w':World):Prop:=en = .returned v/\Below w.heap.size w w'
theorem id1 (n:Int) (w:World):Calls Tryz.prog 103 #[.int .i64 n] w fun e w'=>e = .returned (.int .i64 n)/\w'=w:=by
 go_enter Tryz.func103,Tryz.ntmps103;go_wp2;go_ret;exact ⟨rfl,rfl⟩
theorem id2 (s:ByteArray) (w:World):Calls Tryz.prog 104 #[.string s] w fun e w'=>e = .returned (.string s)/\w'=w:=by
 go_enter Tryz.func104,Tryz.ntmps104;go_wp2;go_ret;exact ⟨rfl,rfl⟩
theorem block6 {w:World} {k:Nat} {a b c d e f:Value} {t:TypeId} (h:w.heap[k]? = some (.cells #[a,b,c,d,e,f] t (0,0))) :
 w.cell? ⟨k,0,none⟩=some a/\w.cell? ⟨k,1,none⟩=some b/\w.cell? ⟨k,2,none⟩=some c/\w.cell? ⟨k,3,none⟩=some d/\w.cell? ⟨k,4,none⟩=some e/\w.cell? ⟨k,5,none⟩=some f:=by
 simp [World.cell?,h]
end Go.Proofs.YtdmecdjfbpblgaaGreatDoor.Ops
