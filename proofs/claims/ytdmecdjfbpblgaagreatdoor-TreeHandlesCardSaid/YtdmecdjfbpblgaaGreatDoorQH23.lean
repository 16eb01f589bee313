/-
  A map of what was seen, made by the call itself, while nothing else changes.
-/
import Derived.Test.YtdmecdjfbpblgaaGreatDoorQH16
namespace Go.Proofs.YtdmecdjfbpblgaaGreatDoor
set_option maxRecDepth 100000
set_option maxHeartbeats 32000000
open Go.ChangeShapes Go.WideShapes Go.ChangeAt Go.RowKit Go.Maps
set_option linter.unusedVariables false
set_option linter.unusedSimpArgs false
theorem lawK:Keyed Tryz.prog 37:=int_keyed Tryz.underlying37
theorem zeroI (w:World):(zeroValue 3).run Tryz.prog w = .ok (.int .i64 0) w:=by kernel_rfl
theorem keyU {h:Int} (h0:0<=h) (h1:h<=18446744073709551615):keyOf Tryz.prog 37 (.int .u64 h)=some (.int .u64 h) :=
 keyOf_int_mk Tryz.underlying37 (by simp [Lit.wf,IntKind.min,IntKind.max,IntKind.signed,IntKind.bits];omega)
theorem zeb {w w':World} {b n:Nat} {D:DataW Unit} (h:w.ownsMap Tryz.prog 37 (plainElem Tryz.prog 3) b n D) (hb:Below w.heap.size w w'):w'.ownsMap Tryz.prog 37 (plainElem Tryz.prog 3) b n D :=
 h.kept ⟨hb.os,hb.tape,hb.output,hb.size,fun k hk _=>hb.block k hk⟩ (row:=none) (by simp)
theorem zip {w:World} {b n k:Nat} {D:DataW Unit} {cs:Array Value} {t:TypeId} (h:w.ownsMap Tryz.prog 37 (plainElem Tryz.prog 3) b n D) (hk:w.heap[k]? = some (.cells cs t (0,0))):b≠k:=by
 obtain ⟨es,c,hm,_⟩:=h;rintro rfl;rw [hm] at hk;cases hk
theorem za2 {w:World} {b n base:Nat} {D:DataW Unit} {e:TypeId} {v:Value} {m:Nat} {xs:List Value} (h:w.ownsMap Tryz.prog 37 (plainElem Tryz.prog 3) b n D) (hr:w.ownsRow base e 1 v m xs):v.ownBlock≠some b:=by
 obtain ⟨es,c,hm,_⟩:=h
 rcases hr.2 with ⟨rfl,_⟩|⟨g,cap,cur,rfl,_,hg,_⟩
 · simp [Value.ownBlock]
 · intro e;obtain rfl:g=b:=by simpa [Value.ownBlock] using e
   rw [hm] at hg;cases hg
theorem V.Ar.grown {w w':World} {b:Nat} {vg vu vf:Value} {s:V.St} {row:Option Nat} (h:V.Ar w b vg vu vf s) (hg:w.grownBy w' row) (h1:vg.ownBlock≠row) (h2:vu.ownBlock≠row) (h3:vf.ownBlock≠row):V.Ar w' b vg vu vf s :=
 ⟨h.g.kept hg (.inr h1),h.u.kept hg (.inr h2),h.f.kept hg (.inr h3)⟩
def Seen (Y:World) (B i:Nat) (l:List Int):Prop:=∃ D,Y.ownsMap Tryz.prog 37 (plainElem (H:=Unit) Tryz.prog 3) B i D/\∀ h:Int,h ∉ l.take i->D.atKey (.int .u64 h) (.lit (.int .i64 0)) = .lit (.int .i64 0)
theorem Seen.made (w:World) (l:List Int):Seen (w.alloc (.map #[] 0)) w.heap.size 0 l:=⟨.map [],World.ownsMap_made w Tryz.prog 37 (plainElem (H:=Unit) Tryz.prog 3),fun h _=>rfl⟩
theorem zl0 {l:List Int} (hn:l.Nodup) {i:Nat} (hi:i<l.length):l[i] ∉ l.take i:=by
 intro h;obtain ⟨j,hj,e⟩:=List.getElem_of_mem h;rw [List.length_take] at hj;rw [List.getElem_take] at e;exact List.pairwise_iff_getElem.1 hn j i (by omega) hi (by omega) e
theorem zl1 {l:List Int} {D:DataW Unit} {i:Nat} (hi:i<l.length) (h:∀ h:Int,h ∉ l.take i->D.atKey (.int .u64 h) (.lit (.int .i64 0)) = .lit (.int .i64 0)) (d:DataW Unit):∀ h:Int,h ∉ l.take (i+1)->(D.put (.int .u64 l[i]) d).atKey (.int .u64 h) (.lit (.int .i64 0)) = .lit (.int .i64 0):=fun y hy=>by
 rw [List.take_succ_eq_append_getElem hi,List.mem_append,List.mem_singleton] at hy;rw [atKey_put_other (by intro e;injection e with _ e;exact hy (.inr e))];exact h y (fun hm=>hy (.inl hm))
end Go.Proofs.YtdmecdjfbpblgaaGreatDoor
