/-
  Arenas as plain lists: what is taken, given back, live. No program here.
-/
import Derived.Test.YtdmecdjfbpblgaaGreatDoorRows
import Derived.ProofKit
import Derived.OpenShut
import Derived.Lib.Hide
import Derived.Lib.ItoaNum
import Derived.Lib.Zigzag
import Derived.BigQuiet
import Derived.Deep.OwnRows
import Derived.Deep.AppendLies
import Derived.Laws.CopyOwn
import Derived.Laws.AppendOwnNone
import Derived.WalkSmall
import Derived.Deep.RegionHeld3
import Derived.Deep.CutRange
namespace Go.Proofs.YtdmecdjfbpblgaaGreatDoor.V
set_option maxRecDepth 100000
set_option maxHeartbeats 32000000
set_option linter.unusedVariables false
structure St where
 gens:List Int
 used:List Bool
 free:List Int
def hd (i g:Int):Int:=g*16777216+i
def St.tk (s:St) (i:Nat):St:={ s with used:=s.used.set i true,free:=s.free.dropLast }
def St.gb (s:St) (i:Nat) (g:Int):St:={ gens:=s.gens.set i g,used:=s.used.set i false,free:=s.free++[(i:Int)] }
def St.lv (s:St) (h:Int):Bool:=s.used.getD (h % 16777216).toNat false && (s.gens.getD (h % 16777216).toNat 0 == h / 16777216)
def St.al (s:St):Nat->List Int
 | 0=>[]
 | k+1=>if s.used.getD k false then s.al k++[hd k (s.gens.getD k 0)] else s.al k
def downs:Nat->List Int
 | 0=>[]
 | k+1=>(k:Int)::downs k
def fresh (n:Nat):St:=⟨List.replicate n 1,List.replicate n false,downs n⟩
theorem zbq:∀ k,(downs k).length=k
 | 0=>rfl
 | k+1=>by rw [downs,List.length_cons,zbq k]
def upG (n k:Nat):List Int:=List.replicate k 1++List.replicate (n - k) 0
def upF (n k:Nat):List Int:=List.replicate (n - k) 0++downs k
theorem zr5 {n k:Nat} (h:k<n):(upG n k).set k 1=upG n (k+1):=by
 unfold upG;obtain ⟨d,hd⟩:∃ d,n - k=d+1:=⟨n - k - 1,by omega⟩;rw [hd,show n - (k+1)=d by omega,List.set_append_right k 1 (by simp),List.length_replicate,Nat.sub_self,List.replicate_succ,List.set_cons_zero,List.replicate_succ' (n:=k)];simp
theorem zr6 {n k:Nat} (h:k<n):(upF n k).set (n - 1 - k) (k:Int)=upF n (k+1):=by
 unfold upF;obtain ⟨d,hd⟩:∃ d,n - k=d+1:=⟨n - k - 1,by omega⟩;rw [hd,show n - (k+1)=d by omega,show n - 1 - k=d by omega,List.replicate_succ',List.append_assoc,List.set_append_right d _ (by simp),List.length_replicate,Nat.sub_self];simp [downs]
theorem zt1 (n:Nat):upG n n=List.replicate n 1:=by simp [upG]
theorem zt2 (n:Nat):upF n n=downs n:=by simp [upF]
theorem zr7 (n:Nat):upG n 0=List.replicate n 0:=by simp [upG]
theorem zr8 (n:Nat):upF n 0=List.replicate n 0:=by simp [upF,downs]
open Go.ChangeShapes Go.WideShapes Go.ChangeAt Go.RowKit
theorem own:ownKnob Tryz.prog.godebug=none:=by kernel_rfl
theorem zeo {k:IntKind} {a b:Int} (h:a=b):Ending.returned (.int k a) = .returned (.int k b):=by rw [h]
theorem ze {a b:Bool} (h:a=b):Ending.returned (.bool a) = .returned (.bool b):=by rw [h]
theorem zr9 {k:IntKind} {a b:Int} {c:Bool} (h:a=b):Ending.returned (.tuple #[.int k a,.bool c]) = .returned (.tuple #[.int k b,.bool c]):=by rw [h]
theorem and24 (x:Int) (h0:0<=x) (h1:x<=18446744073709551615):bits .and .u64 x 16777215=x % 16777216:=by
 have h:=bits_mask .u64 64 (by decide) wraps_u64 24 (by decide) x h0 (by omega);simpa using h
theorem or24 (g i:Int) (h0:0<=i) (h1:i<=16777215) (g0:0<=g) (g1:g<=1099511627775):bits .or .u64 (g*16777216) i=g*16777216+i :=
 bits_join .u64 64 (by decide) wraps_u64 24 _ _ (by omega) (by omega) (by omega) h0 (by omega) (by omega)
theorem zap (u:Int) (w:World) (h0:0<=u) (h1:u<=18446744073709551615) :
 Calls Tryz.prog 21 #[.int .u64 u] w fun e w'=>e = .returned (.int .i64 (u % 16777216))/\w=w':=by
 have Hb:=Lib.hid (and24 u h0 h1);go_enter Tryz.func21,Tryz.ntmps21;go_wp2;go_ret;exact ⟨zeo (by rw [Hb.out,IntWalk.wrap64_in _ (by omega)]),rfl⟩
theorem zgt (u:Int) (w:World) (h0:0<=u) (h1:u<=18446744073709551615) :
 Calls Tryz.prog 26 #[.int .u64 u] w fun e w'=>e = .returned (.int .u64 (u / 16777216))/\w=w':=by
 go_enter Tryz.func26,Tryz.ntmps26;go_wp2;go_ret;exact ⟨rfl,rfl⟩
theorem zsa (u:Int) (w:World) (h0:0<=u) (h1:u<=18446744073709551615) :
 Calls Tryz.prog 51 #[.int .u64 u] w fun e w'=>e = .returned (.int .u64 ((u+16777216) % 18446744073709551616))/\w=w':=by
 go_enter Tryz.func51,Tryz.ntmps51;go_wp2;go_ret;exact ⟨zeo (by rw [IntKind.wrap_u64]),rfl⟩
theorem of_in (i g:Int) (w:World) (h0:0<=i) (h1:i<=16777215) (g0:0<=g) (g1:g<=1099511627775) :
 Calls Tryz.prog 159 #[.int .i64 i,.int .u64 g] w fun e w'=>e = .returned (.tuple #[.int .u64 (g*16777216+i),.bool true])/\w=w':=by
 have hB:(g / 1099511627776 != 0)=false:=by rw [show g / 1099511627776=0 by omega];rfl
 have Hb:=Lib.hid (or24 g i h0 h1 g0 g1);go_enter Tryz.func159,Tryz.ntmps159;go_wp2;go_ret2;exact ⟨zr9 Hb.out,rfl⟩
theorem still {P:Program} {f:FuncId} {args:Array Value} {w:World} {n:Nat} {v:Value} (h:Calls P f args (w.drewN n) fun e w'=>e = .returned v/\w.drewN n=w') :
 Calls P f args (w.drewN n) fun e w'=>e = .returned v/\∃ m,w'=w.drewN m:=by
 refine h.mono ?_;rintro e w' ⟨he,hw⟩;exact ⟨he,n,hw.symm⟩
theorem own_below {w w':World} {base:Nat} {e:TypeId} {size n:Nat} {v:Value} {xs:List Value} (h:w.ownsRow base e size v n xs) (hb:Below w.heap.size w w'):w'.ownsRow base e size v n xs:=by
 refine ⟨h.1,?_⟩
 rcases h.2 with h'|⟨g,cap,cur,h1,h2,h3,h4⟩
 · exact .inl h'
 · exact .inr ⟨g,cap,cur,h1,h2,(hb.block g (Array.getElem?_eq_some_iff.1 h3).1).trans h3,h4⟩
theorem zo {w:World} {base base':Nat} {e:TypeId} {size n:Nat} {v:Value} {xs:List Value} (h:w.ownsRow base e size v n xs) (hb:base'<=base):w.ownsRow base' e size v n xs:=by
 refine ⟨h.1,?_⟩
 rcases h.2 with h'|⟨g,cap,cur,h1,h2,h3,h4⟩
 · exact .inl h'
 · exact .inr ⟨g,cap,cur,h1,Nat.le_trans hb h2,h3,h4⟩
theorem zh {w:World} {base:Nat} {e:TypeId} {v:Value} {n:Nat} {xs:List Value} (h:w.ownsRow base e 1 v n xs):∃ p cap,v = .slice p n cap/\n<=cap/\cap<=maxLen/\xs.length=n:=by
 have h1:=h.1;rw [Nat.mul_one] at h1
 rcases h.2 with ⟨rfl,rfl⟩|⟨g,cap,cur,rfl,_,_,hnc,hcm,_⟩
 · exact ⟨none,0,rfl,Nat.le_refl _,by simp [maxLen],h1⟩
 · exact ⟨_,cap,rfl,hnc,hcm,h1⟩
theorem zag {w:World} {base:Nat} {e:TypeId} {p:Option Addr} {n cap:Nat} {xs:List Value} (h:w.ownsRow base e 1 (.slice p n cap) n xs) (hn:0<n):∃ g,p=some ⟨g,0,none⟩/\base<=g/\g<w.heap.size:=by
 rcases h.2 with ⟨_,rfl⟩|⟨g,cap',cur,hv,hb,hg,_⟩
 · omega
 · cases hv;exact ⟨g,rfl,hb,(Array.getElem?_eq_some_iff.1 hg).1⟩
theorem zsb {w:World} {base:Nat} {e:TypeId} {v:Value} {k:Nat} {xs:List Value} (h:w.ownsRow base e 1 v (k+1) xs):∃ g cap,v = .slice (some ⟨g,0,none⟩) (k+1) cap:=by
 obtain ⟨p,cap,rfl,_⟩:=zh h;obtain ⟨g,rfl,_⟩:=zag h (by omega);exact ⟨g,cap,rfl⟩
theorem add_plain (g i j:Nat):(⟨g,i,none⟩:Addr).add j=⟨g,i+j,none⟩:=by unfold Addr.add;split<;>simp_all
def GivesRow (e:TypeId) (xs:List Value) (w:World) (en:Ending) (w':World):Prop :=
 ∃ v,en = .returned v/\w'.ownsRow w.heap.size e 1 v xs.length xs/\Below w.heap.size w w'
theorem zfc {α:Type} (L cs:List α) (h:L.length=cs.length):splice L 0 cs=cs:=by
 unfold splice;rw [List.take_zero,List.nil_append,Nat.zero_add,<- h,List.drop_length,List.append_nil]
theorem za4:(Tryz.prog.info? 37).map (fun i=>(i.zero,i.size,i.bytes))=some (some (.int .u64 0),1,8):=by kernel_rfl
theorem zp8 (v:Value) (n:Nat) (xs:List Value) (b:Nat) (w:World) (h:w.ownsRow b 37 1 v n xs) (h1:∀ u∈xs,u.oneCell'=true) (hl:n<=100000) :
 Calls Tryz.prog 105 #[v] w (GivesRow 37 xs w):=by
 obtain ⟨p,cap,rfl,hnc,hcm,hx⟩:=zh h;have hmk:=fun W:World=>run_make_row' (P:=Tryz.prog) 26 37 (.int .u64 0) 8 Tryz.underlying26 za4 rfl .i64 .i64 n (by omega) (by omega) W
 have hsz:(Tryz.prog.info? 37).map (·.size)=some 1:=by kernel_rfl
 have HSZ:=Lib.hid hsz;have HX:=Lib.hid hx;have HO:=Lib.hid h;clear h hx hsz;go_enter Tryz.func105,Tryz.ntmps105
 go_wp2_with (with_reducible refine wpList_copy_splice rfl (.tmp 7) (.tmp 8) 26 26 rfl 37 Tryz.underlying26 HSZ.out (some ⟨w.heap.size,0,none⟩) p n n n cap rfl rfl w.heap.size 0 (madeCells #[.int .u64 0] n).toList 37 ?hg xs ?hn ?hpos ?hfit h1 w.heap.size w ?hb (Nat.le_refl _) ?hk)
 case hg => rw [Array.toArray_toList];exact heap_alloc_new w _
 case hn => rw [HX.out];exact (Nat.min_self n).symm
 case hpos =>
  intro h0
  try refine ⟨rfl,?_⟩
  obtain ⟨g,rfl,hg0,hg1⟩:=zag HO.out (by have:=HX.out;omega);refine ⟨_,rfl,fun j u hu=>?_⟩;have:=HO.out.cells rfl j u hu;rw [<- this];exact World.cell?_alloc_lt w _ _ (by rw [add_plain];exact hg1)
 case hfit => have h0:(madeCells #[.int .u64 0] n).toList.length=n:=by rw [Array.length_toList,size_madeCells]
              have:=HX.out;omega
 case hb => exact (Below.refl _ w).alloc (Nat.le_refl _) _
 case hk =>
  intro w' HG hb;have HB:=Lib.hid hb;clear hb;go_wp2;go_ret;have e:splice (madeCells #[.int .u64 0] n).toList 0 xs=xs:=zfc _ _ (by rw [Array.length_toList,size_madeCells,HX.out]);have hG:=HG.out;rw [e] at hG;have hx:=HX.out;subst hx;refine ⟨_,rfl,⟨by rw [Nat.mul_one],.inr ⟨w.heap.size,xs.length,xs.toArray,rfl,Nat.le_refl _,hG,Nat.le_refl _,by unfold maxLen;omega,by simp,?_⟩⟩,HB.out⟩;rw [Nat.mul_one];exact List.take_length
theorem zk0:(Tryz.prog.info? 4).map (fun i=>(i.zero,i.size,i.bytes))=some (some (.bool false),1,1):=by kernel_rfl
theorem zp9 (v:Value) (n:Nat) (xs:List Value) (b:Nat) (w:World) (h:w.ownsRow b 4 1 v n xs) (h1:∀ u∈xs,u.oneCell'=true) (hl:n<=100000) :
 Calls Tryz.prog 106 #[v] w (GivesRow 4 xs w):=by
 obtain ⟨p,cap,rfl,hnc,hcm,hx⟩:=zh h;have hmk:=fun W:World=>run_make_row' (P:=Tryz.prog) 27 4 (.bool false) 1 Tryz.underlying27 zk0 rfl .i64 .i64 n (by omega) (by omega) W
 have hsz:(Tryz.prog.info? 4).map (·.size)=some 1:=by kernel_rfl
 have HSZ:=Lib.hid hsz;have HX:=Lib.hid hx;have HO:=Lib.hid h;clear h hx hsz;go_enter Tryz.func106,Tryz.ntmps106
 go_wp2_with (with_reducible refine wpList_copy_splice rfl (.tmp 7) (.tmp 8) 27 27 rfl 4 Tryz.underlying27 HSZ.out (some ⟨w.heap.size,0,none⟩) p n n n cap rfl rfl w.heap.size 0 (madeCells #[.bool false] n).toList 4 ?hg xs ?hn ?hpos ?hfit h1 w.heap.size w ?hb (Nat.le_refl _) ?hk)
 case hg => rw [Array.toArray_toList];exact heap_alloc_new w _
 case hn => rw [HX.out];exact (Nat.min_self n).symm
 case hpos =>
  intro h0
  try refine ⟨rfl,?_⟩
  obtain ⟨g,rfl,hg0,hg1⟩:=zag HO.out (by have:=HX.out;omega);refine ⟨_,rfl,fun j u hu=>?_⟩;have:=HO.out.cells rfl j u hu;rw [<- this];exact World.cell?_alloc_lt w _ _ (by rw [add_plain];exact hg1)
 case hfit => have h0:(madeCells #[.bool false] n).toList.length=n:=by rw [Array.length_toList,size_madeCells]
              have:=HX.out;omega
 case hb => exact (Below.refl _ w).alloc (Nat.le_refl _) _
 case hk =>
  intro w' HG hb;have HB:=Lib.hid hb;clear hb;go_wp2;go_ret;have e:splice (madeCells #[.bool false] n).toList 0 xs=xs:=zfc _ _ (by rw [Array.length_toList,size_madeCells,HX.out]);have hG:=HG.out;rw [e] at hG;have hx:=HX.out;subst hx;refine ⟨_,rfl,⟨by rw [Nat.mul_one],.inr ⟨w.heap.size,xs.length,xs.toArray,rfl,Nat.le_refl _,hG,Nat.le_refl _,by unfold maxLen;omega,by simp,?_⟩⟩,HB.out⟩;rw [Nat.mul_one];exact List.take_length
theorem zic:(Tryz.prog.info? 3).map (fun i=>(i.zero,i.size,i.bytes))=some (some (.int .i64 0),1,8):=by kernel_rfl
theorem zqa (v:Value) (n:Nat) (xs:List Value) (b:Nat) (w:World) (h:w.ownsRow b 3 1 v n xs) (h1:∀ u∈xs,u.oneCell'=true) (hl:n<=100000) :
 Calls Tryz.prog 107 #[v] w (GivesRow 3 xs w):=by
 obtain ⟨p,cap,rfl,hnc,hcm,hx⟩:=zh h;have hmk:=fun W:World=>run_make_row' (P:=Tryz.prog) 28 3 (.int .i64 0) 8 Tryz.underlying28 zic rfl .i64 .i64 n (by omega) (by omega) W
 have hsz:(Tryz.prog.info? 3).map (·.size)=some 1:=by kernel_rfl
 have HSZ:=Lib.hid hsz;have HX:=Lib.hid hx;have HO:=Lib.hid h;clear h hx hsz;go_enter Tryz.func107,Tryz.ntmps107
 go_wp2_with (with_reducible refine wpList_copy_splice rfl (.tmp 7) (.tmp 8) 28 28 rfl 3 Tryz.underlying28 HSZ.out (some ⟨w.heap.size,0,none⟩) p n n n cap rfl rfl w.heap.size 0 (madeCells #[.int .i64 0] n).toList 3 ?hg xs ?hn ?hpos ?hfit h1 w.heap.size w ?hb (Nat.le_refl _) ?hk)
 case hg => rw [Array.toArray_toList];exact heap_alloc_new w _
 case hn => rw [HX.out];exact (Nat.min_self n).symm
 case hpos =>
  intro h0
  try refine ⟨rfl,?_⟩
  obtain ⟨g,rfl,hg0,hg1⟩:=zag HO.out (by have:=HX.out;omega);refine ⟨_,rfl,fun j u hu=>?_⟩;have:=HO.out.cells rfl j u hu;rw [<- this];exact World.cell?_alloc_lt w _ _ (by rw [add_plain];exact hg1)
 case hfit => have h0:(madeCells #[.int .i64 0] n).toList.length=n:=by rw [Array.length_toList,size_madeCells]
              have:=HX.out;omega
 case hb => exact (Below.refl _ w).alloc (Nat.le_refl _) _
 case hk =>
  intro w' HG hb;have HB:=Lib.hid hb;clear hb;go_wp2;go_ret;have e:splice (madeCells #[.int .i64 0] n).toList 0 xs=xs:=zfc _ _ (by rw [Array.length_toList,size_madeCells,HX.out]);have hG:=HG.out;rw [e] at hG;have hx:=HX.out;subst hx;refine ⟨_,rfl,⟨by rw [Nat.mul_one],.inr ⟨w.heap.size,xs.length,xs.toArray,rfl,Nat.le_refl _,hG,Nat.le_refl _,by unfold maxLen;omega,by simp,?_⟩⟩,HB.out⟩;rw [Nat.mul_one];exact List.take_length
def gvs (l:List Int):List Value:=l.map (Value.int .u64)
def bvs (l:List Bool):List Value:=l.map Value.bool
def ivs (l:List Int):List Value:=l.map (Value.int .i64)
theorem zcc (l:List Int):∀ u∈gvs l,u.oneCell'=true:=by
 intro u hu;simp only [gvs,List.mem_map] at hu;obtain ⟨x,_,rfl⟩:=hu;rfl
theorem ziz (l:List Bool):∀ u∈bvs l,u.oneCell'=true:=by
 intro u hu;simp only [bvs,List.mem_map] at hu;obtain ⟨x,_,rfl⟩:=hu;rfl
theorem zcs (l:List Int):∀ u∈ivs l,u.oneCell'=true:=by
 intro u hu;simp only [ivs,List.mem_map] at hu;obtain ⟨x,_,rfl⟩:=hu;rfl
theorem zac (l:List Int):(gvs l).length=l.length:=by simp [gvs]
theorem zid (l:List Bool):(bvs l).length=l.length:=by simp [bvs]
theorem zam (l:List Int):(ivs l).length=l.length:=by simp [ivs]
structure Ar (w:World) (b:Nat) (vg vu vf:Value) (s:St):Prop where
 g:w.ownsRow b 37 1 vg s.gens.length (gvs s.gens)
 u:w.ownsRow b 4 1 vu s.used.length (bvs s.used)
 f:w.ownsRow b 3 1 vf s.free.length (ivs s.free)
theorem Ar.below {w w':World} {b:Nat} {vg vu vf:Value} {s:St} (h:Ar w b vg vu vf s) (hb:Below w.heap.size w w'):Ar w' b vg vu vf s :=
 ⟨own_below h.g hb,own_below h.u hb,own_below h.f hb⟩
theorem Ar.drew {w:World} {b:Nat} {vg vu vf:Value} {s:St} (h:Ar w b vg vu vf s):Ar w.drew b vg vu vf s:=⟨h.g.drew,h.u.drew,h.f.drew⟩
theorem Ar.drewN {w:World} {b:Nat} {vg vu vf:Value} {s:St} (h:Ar w b vg vu vf s) (n:Nat):Ar (w.drewN n) b vg vu vf s:=h.below (below_drewN (Below.refl _ _) n)
theorem Ar.drop {w:World} {b b':Nat} {vg vu vf:Value} {s:St} (h:Ar w b vg vu vf s) (hb:b'<=b):Ar w b' vg vu vf s :=
 ⟨zo h.g hb,zo h.u hb,zo h.f hb⟩
def GivesSt (s:St) (w:World) (en:Ending) (w':World):Prop :=
 ∃ vg vu vf,en = .returned (.agg #[vg,vu,vf])/\Ar w' w.heap.size vg vu vf s/\Below w.heap.size w w'
theorem keep3 {W w':World} {B k:Nat} {a b c:Value} (h0:W.cell? ⟨k,0,none⟩=some a) (h1:W.cell? ⟨k,1,none⟩=some b) (h2:W.cell? ⟨k,2,none⟩=some c) (hk:k<B) (hb:Below B W w') :
 w'.cell? ⟨k,0,none⟩=some a/\w'.cell? ⟨k,1,none⟩=some b/\w'.cell? ⟨k,2,none⟩=some c/\Hid (Below B W w') :=
 ⟨(hb.cell (p:=⟨k,0,none⟩) hk).trans h0,(hb.cell (p:=⟨k,1,none⟩) hk).trans h1,(hb.cell (p:=⟨k,2,none⟩) hk).trans h2,Lib.hid hb⟩
theorem block3 {w:World} {k:Nat} {a b c:Value} {t:TypeId} (h:w.heap[k]? = some (.cells #[a,b,c] t (0,0))) :
 w.cell? ⟨k,0,none⟩=some a/\w.cell? ⟨k,1,none⟩=some b/\w.cell? ⟨k,2,none⟩=some c/\w.frozen? ⟨k,0,none⟩=false/\w.frozen? ⟨k,1,none⟩=false/\w.frozen? ⟨k,2,none⟩=false:=by
 simp [World.cell?,World.frozen?,h]
theorem zfd (vg vu vf:Value) (s:St) (b:Nat) (w:World) (h:Ar w b vg vu vf s) (hg:s.gens.length<=1000) (hu:s.used.length<=1000) (hf:s.free.length<=1000) :
 Calls Tryz.prog 48 #[.agg #[vg,vu,vf]] w (GivesSt s w):=by
 obtain ⟨pg,cg,rfl,_,_,_⟩:=zh h.g;obtain ⟨pu,cu,rfl,_,_,_⟩:=zh h.u;obtain ⟨pf,cf,rfl,_,_,_⟩:=zh h.f;have HA:=Lib.hid h;clear h;go_enter Tryz.func48,Tryz.ntmps48;go_wp2_with fail;obtain ⟨W,hW⟩:∃ W,W=(w.alloc (.cells #[.slice pg s.gens.length cg,.slice pu s.used.length cu,.slice pf s.free.length cf] 30)).alloc (.cells #[.slice none 0 0,.slice none 0 0,.slice none 0 0] 30):=⟨_,rfl⟩;have HW:Hid (Below w.heap.size w W/\W.heap.size=w.heap.size+2/\W.heap[w.heap.size]? = some (.cells #[.slice pg s.gens.length cg,.slice pu s.used.length cu,.slice pf s.free.length cf] 30 (0,0))/\W.heap[w.heap.size+1]? = some (.cells #[.slice none 0 0,.slice none 0 0,.slice none 0 0] 30 (0,0))):=Lib.hid (by
  subst hW;refine ⟨((Below.refl _ w).alloc (Nat.le_refl _) _).alloc (by simp) _,by simp,?_,?_⟩
  · rw [heap_alloc_old _ _ (by simp)];exact heap_alloc_new w _
  · exact (show (w.alloc (.cells #[.slice pg s.gens.length cg,.slice pu s.used.length cu,.slice pf s.free.length cf] 30)).heap.size=w.heap.size+1 by simp) ▸ heap_alloc_new _ _)
 rw [<- hW];clear hW;obtain ⟨c0,c1,c2,_,_,_⟩:=block3 HW.out.2.2.1;have hBW:Below (w.heap.size+1) W W.drew:=(Below.refl _ _).drew;have HBW:=Lib.hid hBW;have HC:=Lib.hid (And.intro c0 (And.intro c1 c2));clear hBW c0 c1 c2;have HS:=Lib.hid HW.out.2.1;have HT0:=Lib.hid HW.out.2.2.2
 go_region_held3 (fun w'=>w'.cell? ⟨w.heap.size,0,none⟩=some (.slice pg s.gens.length cg)/\w'.cell? ⟨w.heap.size,1,none⟩=some (.slice pu s.used.length cu)/\w'.cell? ⟨w.heap.size,2,none⟩=some (.slice pf s.free.length cf)/\Hid (Below (w.heap.size+1) W w'))
  (first
    | exact keep3 HC.out.1 HC.out.2.1 HC.out.2.2 (by omega) HBW.out
    | exact keep3 HC.out.1 HC.out.2.1 HC.out.2.2 (by omega) HB1.out
    | exact keep3 HC.out.1 HC.out.2.1 HC.out.2.2 (by omega) HB2.out
    | exact keep3 HC.out.1 HC.out.2.1 HC.out.2.2 (by omega) HB3.out
    | exact keep3 HC.out.1 HC.out.2.1 HC.out.2.2 (by omega) (((HB3.out.setCell (by simp) _).setCell (by simp) _).setCell (by simp) _))
  (first
    | (go_at_call 105
       refine (zp8 _ _ _ b _ (own_below HA.out.g (HW.out.1.trans (HBW.out.mono (by omega)))) (zcc _) (by omega)).mono ?_;rintro e w1 ⟨v1,rfl,ho1,hb1⟩;obtain ⟨p1,k1,rfl,-,-,-⟩:=zh ho1;have HO1:=Lib.hid ho1;have HB1:Hid (Below (w.heap.size+1) W w1):=Lib.hid (HBW.out.trans (hb1.mono (by have:=HS.out;simp;omega)));have HT1:Hid (w1.heap[w.heap.size+1]? = some (.cells #[.slice none 0 0,.slice none 0 0,.slice none 0 0] 30 (0,0))):=Lib.hid ((hb1.block _ (by have:=HS.out;simp;omega)).trans HT0.out);clear hb1 ho1)
    | (go_at_call 106
       refine (zp9 _ _ _ b _ (own_below HA.out.u (HW.out.1.trans (HB1.out.mono (by omega)))) (ziz _) (by omega)).mono ?_;rintro e w2 ⟨v2,rfl,ho2,hb2⟩;obtain ⟨p2,k2,rfl,-,-,-⟩:=zh ho2;have HO2:=Lib.hid ho2;have HO12:=Lib.hid (own_below HO1.out hb2);have HB2:Hid (Below (w.heap.size+1) W w2):=Lib.hid (HB1.out.trans (hb2.mono (by have:=HS.out;have:=HB1.out.size;omega)));have HT2:Hid (w2.heap[w.heap.size+1]? = some (.cells #[.slice none 0 0,.slice none 0 0,.slice none 0 0] 30 (0,0))):=Lib.hid ((hb2.block _ (by have:=HS.out;have:=HB1.out.size;omega)).trans HT1.out);clear hb2 ho2)
    | (go_at_call 107
       refine (zqa _ _ _ b _ (own_below HA.out.f (HW.out.1.trans (HB2.out.mono (by omega)))) (zcs _) (by omega)).mono ?_;rintro e w3 ⟨v3,rfl,ho3,hb3⟩;obtain ⟨p3,k3,rfl,-,-,-⟩:=zh ho3;have HO3:=Lib.hid ho3;have HO13:=Lib.hid (own_below HO12.out hb3);have HO23:=Lib.hid (own_below HO2.out hb3);have HB3:Hid (Below (w.heap.size+1) W w3):=Lib.hid (HB2.out.trans (hb3.mono (by have:=HS.out;have:=HB2.out.size;omega)));have HT3:Hid (w3.heap[w.heap.size+1]? = some (.cells #[.slice none 0 0,.slice none 0 0,.slice none 0 0] 30 (0,0))):=Lib.hid ((hb3.block _ (by have:=HS.out;have:=HB2.out.size;omega)).trans HT2.out);obtain ⟨d0,d1,d2,z0,z1,z2⟩:=block3 HT3.out;clear hb3 ho3))
 go_wp2;have hs:=HS.out;have h1:=HB1.out.size;have h2:=HB2.out.size;refine bodyPost_ret (v:=.agg #[.slice p1 s.gens.length k1,.slice p2 s.used.length k2,.slice p3 s.free.length k3]) (by simp [results,Tryz.results48,go_sem,d0,d1,d2]) rfl ⟨_,_,_,rfl,⟨?_,?_,?_⟩,?_⟩
 · have:=HO13.out;rw [zac] at this;exact zo (ownsRow_setCell_below (ownsRow_setCell_below (ownsRow_setCell_below this (by simp;omega) _) (by simp;omega) _) (by simp;omega) _) (by simp;omega)
 · have:=HO23.out;rw [zid] at this;exact zo (ownsRow_setCell_below (ownsRow_setCell_below (ownsRow_setCell_below this (by simp;omega) _) (by simp;omega) _) (by simp;omega) _) (by omega)
 · have:=HO3.out;rw [zam] at this;exact zo (ownsRow_setCell_below (ownsRow_setCell_below (ownsRow_setCell_below this (by simp;omega) _) (by simp;omega) _) (by simp;omega) _) (by omega)
 · exact (((HW.out.1.trans (HB3.out.mono (by omega))).setCell (by simp) _).setCell (by simp) _).setCell (by simp) _
theorem zqb (k a b gu i last n m cu cf:Nat) (vg:Value) (pf:Option Addr) (w:World)
 (hk:w.heap[k]? = some (.cells #[vg,.slice (some ⟨gu,0,none⟩) m cu,.slice pf n cf] 30 (0,0)))
 (ha:w.cell? ⟨a,0,none⟩=some (.int .i64 last)) (hb:w.cell? ⟨b,0,none⟩=some (.int .i64 i))
 (hc:∃ u,w.cell? ⟨gu,i,none⟩=some (.bool u)) (hz:w.frozen? ⟨gu,i,none⟩=false) (hi:i<m) (hl:last<n) (hn:n<=cf) (hcf:cf<=maxLen) (hm:m<=1000) (ak:a≠k) (bk:b≠k) (gk:gu≠k) :
 Calls Tryz.prog 125 #[.pointer (some ⟨k,0,none⟩),.pointer (some ⟨a,0,none⟩),.pointer (some ⟨b,0,none⟩)] w fun e w' =>
  e = .returned (.tuple #[])/\∃ d,w'=((w.setCell ⟨k,2,none⟩ (.slice pf last cf)).setCell ⟨gu,i,none⟩ (.bool true)).drewN d:=by
 obtain ⟨c0,c1,c2,z0,z1,z2⟩:=block3 hk;unfold maxLen at hcf;obtain ⟨u,hu⟩:=hc;have h1:(0:Int)<=(last:Int):=by omega
 have h2:(last:Int)<=(cf:Int):=by omega
 have h3:(0:Int)<=(i:Int):=by omega
 have h4:(i:Int)<(m:Int):=by omega
 go_enter Tryz.func125,Tryz.ntmps125;go_wp2_with fail
 go_region
 go_wp2_with fail
 go_region
 go_end0
 exact ⟨rfl,2,rfl⟩
theorem zi {w:World} {base k:Nat} {e t:TypeId} {v:Value} {n:Nat} {xs:List Value} {cs:Array Value} (h:w.ownsRow base e 1 v n xs) (hk:w.heap[k]? = some (.cells cs t (0,0))) (hne:e≠t):v.ownBlock≠some k:=by
 rcases h.2 with ⟨rfl,_⟩|⟨g,cap,cur,rfl,_,hg,_⟩
 · simp [Value.ownBlock]
 · intro he;obtain rfl:g=k:=by simpa [Value.ownBlock] using he
   rw [hg] at hk;cases hk;exact hne rfl
theorem zp {w:World} {base base' k:Nat} {e t:TypeId} {v v':Value} {n n':Nat} {xs xs':List Value} (h:w.ownsRow base e 1 v n xs) (h':w.ownsRow base' t 1 v' n' xs') (hk:v'.ownBlock=some k) (hne:e≠t):v.ownBlock≠some k:=by
 rcases h'.2 with ⟨rfl,_⟩|⟨g,cap,cur,rfl,_,hg,_⟩
 · simp [Value.ownBlock] at hk
 · obtain rfl:g=k:=by simpa [Value.ownBlock] using hk
   exact zi h hg hne
theorem zw (w:World) (p:Addr) (u:Value) {k:Nat} (h:p.block≠k):(w.setCell p u).heap[k]? = w.heap[k]?:=Below.heap_setCell w p u k (Ne.symm h)
theorem zjf {w:World} {k:Nat} {a b c:Value} {t:TypeId} (h:w.heap[k]? = some (.cells #[a,b,c] t (0,0))) (x:Value):(w.setCell ⟨k,2,none⟩ x).heap[k]? = some (.cells #[a,b,x] t (0,0)):=by
 simp [World.setCell,Array.getElem?_modify,h]
def TurnsSt (k B:Nat) (vg vu:Value) (s':St) (w:World) (en:Ending) (w':World):Prop :=
 en = .returned (.tuple #[])/\∃ vf',w'.heap[k]? = some (.cells #[vg,vu,vf'] 30 (0,0))/\Ar w' B vg vu vf' s'/\Below B w w'
theorem zgb (l:List Bool) (i:Nat) (x:Bool):bvs (l.set i x)=(bvs l).set i (.bool x):=by simp [bvs,List.map_set]
theorem zeg (l:List Int) (i:Nat) (x:Int):gvs (l.set i x)=(gvs l).set i (.int .u64 x):=by simp [gvs,List.map_set]
theorem zeh {w:World} {base g n cap i:Nat} {l:List Bool} (h:w.ownsRow base 4 1 (.slice (some ⟨g,0,none⟩) n cap) n (bvs l)) (hi:i<n):w.cell? ⟨g,i,none⟩=some (.bool (l.getD i false)):=by
 have hl:l.length=n:=by have:=h.1;rw [zid,Nat.mul_one] at this;exact this
 rw [h.cellAt i (by omega),bvs,List.getElem?_map,List.getD,List.getElem?_eq_getElem (by omega)];rfl
theorem zau {w:World} {base g n cap i:Nat} {l:List Int} (h:w.ownsRow base 37 1 (.slice (some ⟨g,0,none⟩) n cap) n (gvs l)) (hi:i<n):w.cell? ⟨g,i,none⟩=some (.int .u64 (l.getD i 0)):=by
 have hl:l.length=n:=by have:=h.1;rw [zac,Nat.mul_one] at this;exact this
 rw [h.cellAt i (by omega),gvs,List.getElem?_map,List.getD,List.getElem?_eq_getElem (by omega)];rfl
theorem zbw {w:World} {base g n cap i:Nat} {l:List Int} (h:w.ownsRow base 3 1 (.slice (some ⟨g,0,none⟩) n cap) n (ivs l)) (hi:i<n):w.cell? ⟨g,i,none⟩=some (.int .i64 (l.getD i 0)):=by
 have hl:l.length=n:=by have:=h.1;rw [zam,Nat.mul_one] at this;exact this
 rw [h.cellAt i (by omega),ivs,List.getElem?_map,List.getD,List.getElem?_eq_getElem (by omega)];rfl
theorem zsc (k a b i B:Nat) (vg vu vf:Value) (s:St) (w:World) (hk:w.heap[k]? = some (.cells #[vg,vu,vf] 30 (0,0))) (hBk:B<=k) (hA:Ar w B vg vu vf s)
 (ha:w.cell? ⟨a,0,none⟩=some (.int .i64 ((s.free.length:Int) - 1))) (hb:w.cell? ⟨b,0,none⟩=some (.int .i64 i)) (haB:a<B) (hbB:b<B)
 (hi:i<s.used.length) (hf:0<s.free.length) (hm:s.used.length<=1000) :
 Calls Tryz.prog 125 #[.pointer (some ⟨k,0,none⟩),.pointer (some ⟨a,0,none⟩),.pointer (some ⟨b,0,none⟩)] w (TurnsSt k B vg vu (s.tk i) w):=by
 obtain ⟨pu,cu,rfl,hu1,hu2,_⟩:=zh hA.u;obtain ⟨pf,cf,rfl,hf1,hf2,_⟩:=zh hA.f;obtain ⟨gu,rfl,hgu,hgu'⟩:=zag hA.u (by omega);obtain ⟨gf,rfl,hgf,hgf'⟩:=zag hA.f hf;have hku:gu≠k:=fun e=>zi hA.u hk (by decide) (by rw [e];rfl)
 have hkf:gf≠k:=fun e=>zi hA.f hk (by decide) (by rw [e];rfl)
 have hgk:vg.ownBlock≠some k:=zi hA.g hk (by decide);have hgg:vg.ownBlock≠some gu:=zp hA.g hA.u rfl (by decide);have hff:gf≠gu:=fun e=>zp hA.f hA.u rfl (by decide) (by rw [e];rfl)
 have hlast:((s.free.length:Int) - 1)=((s.free.length - 1:Nat):Int):=by omega
 rw [hlast] at ha;refine (zqb k a b gu i (s.free.length - 1) s.free.length s.used.length cu cf vg _ w hk ha hb ⟨_,zeh hA.u hi⟩ (hA.u.frozenAt i) hi (by omega) hf1 hf2 hm (by omega) (by omega) hku).mono ?_;rintro e w' ⟨rfl,d,rfl⟩;refine ⟨rfl,.slice (some ⟨gf,0,none⟩) (s.free.length - 1) cf,?_,⟨?_,?_,?_⟩,below_drewN (((Below.refl _ w).setCell hBk _).setCell hgu _) d⟩
 · show ((w.setCell ⟨k,2,none⟩ _).setCell ⟨gu,i,none⟩ _).heap[k]? = _;rw [zw _ _ _ hku];exact zjf hk _
 · show ((w.setCell ⟨k,2,none⟩ _).setCell ⟨gu,i,none⟩ _).ownsRow _ _ _ _ _ _;exact ownsRow_setCell_other (ownsRow_setCell_other hA.g hgk _) hgg _
 · show ((w.setCell ⟨k,2,none⟩ _).setCell ⟨gu,i,none⟩ _).ownsRow _ _ _ _ _ _;have h1:=(ownsRow_setCell_other hA.u (a:=⟨k,2,none⟩) (by simpa [Value.ownBlock] using hku) (.slice (some ⟨gf,0,none⟩) (s.free.length - 1) cf)).stored i (.bool true);rw [St.tk,List.length_set,zgb];exact h1.1
 · show ((w.setCell ⟨k,2,none⟩ _).setCell ⟨gu,i,none⟩ _).ownsRow _ _ _ _ _ _;have h1:=ownsRow_setCell_other (ownsRow_setCell_other hA.f (a:=⟨k,2,none⟩) (by simpa [Value.ownBlock] using hkf) (.slice (some ⟨gf,0,none⟩) (s.free.length - 1) cf)) (a:=⟨gu,i,none⟩) (by simpa [Value.ownBlock] using hff) (.bool true);obtain ⟨fr,x,hfr⟩:∃ fr x,s.free=fr++[x]:=⟨_,_,(List.dropLast_concat_getLast (List.ne_nil_of_length_pos hf)).symm⟩;rw [St.tk];simp only [hfr,List.dropLast_concat,List.length_append,List.length_cons,List.length_nil,Nat.zero_add,Nat.add_sub_cancel] at h1 ⊢;rw [ivs,List.map_append] at h1;exact ownsRow_pop (by simp [ivs]) h1
theorem zsd (k a i B:Nat) (h:Int) (vg vu vf:Value) (s:St) (w:World) (hk:w.heap[k]? = some (.cells #[vg,vu,vf] 30 (0,0))) (hBk:B<=k) (hA:Ar w B vg vu vf s)
 (ha:w.cell? ⟨a,0,none⟩=some (.int .u64 h)) (haB:a<B) (h0:0<=h) (h1:h<=18446744073709551615) (hhi:h % 16777216=i)
 (hi:i<s.gens.length) (hi':i<s.used.length) (hg:s.gens.length<=1000) (hm:s.used.length<=1000) (hf:s.free.length<=1000) :
 Calls Tryz.prog 50 #[.pointer (some ⟨k,0,none⟩),.pointer (some ⟨a,0,none⟩)] w (TurnsSt k B vg vu (s.gb i ((h+16777216) % 18446744073709551616 / 16777216)) w):=by
 obtain ⟨pg,cg,rfl,hg1,hg2,_⟩:=zh hA.g;obtain ⟨pu,cu,rfl,hu1,hu2,_⟩:=zh hA.u;obtain ⟨pf,cf,rfl,hf1,hf2,_⟩:=zh hA.f;obtain ⟨gg,rfl,hgg,hgg'⟩:=zag hA.g (by omega);obtain ⟨gu,rfl,hgu,hgu'⟩:=zag hA.u (by omega);have hkg:gg≠k:=fun e=>zi hA.g hk (by decide) (by rw [e];rfl)
 have hku:gu≠k:=fun e=>zi hA.u hk (by decide) (by rw [e];rfl)
 have hgu2:gg≠gu:=fun e=>zp hA.g hA.u rfl (by decide) (by rw [e];rfl)
 obtain ⟨c0,c1,c2,z0,z1,z2⟩:=block3 hk;have cg0:=zau hA.g hi;have zg0:=hA.g.frozenAt i;have cu0:=zeh hA.u hi';have zu0:=hA.u.frozenAt i;have i0:(0:Int)<=(i:Int):=by omega
 have i1:(i:Int)<(s.gens.length:Int):=by omega
 have i2:(i:Int)<(s.used.length:Int):=by omega
 have ag:gg≠a:=by omega
 have HA:=Lib.hid hA;have HK:=Lib.hid hk;have HI:=Lib.hid hhi;clear hA hk hhi;go_enter Tryz.func50,Tryz.ntmps50;go_wp2_with fail;refine (zap h _ h0 h1).mono ?_;rw [HI.out];rintro e w' ⟨rfl,rfl⟩;go_wp2_with fail
 go_region_held3 (fun w'=>w'.cell? ⟨k,0,none⟩=some (.slice (some ⟨gg,0,none⟩) s.gens.length cg)/\w'.cell? ⟨a,0,none⟩=some (.int .u64 h))
  (go_keep)
  (first
    | (go_at_call 51;refine (zsa h _ h0 h1).mono ?_;rintro e w' ⟨rfl,rfl⟩)
    | (go_at_call 26;refine (zgt _ _ (by omega) (by omega)).mono ?_;rintro e w' ⟨rfl,rfl⟩))
 obtain ⟨G,hG⟩:∃ G,(h+16777216) % 18446744073709551616 / 16777216=G:=⟨_,rfl⟩;rw [hG];have HGe:=Lib.hid hG;clear hG;obtain ⟨i0',hi0,hz0,hz1,hz2⟩:=info_parts zic;have hI:=Lib.hid hi0;have hZ0:=Lib.hid hz0;have hZ1:=Lib.hid hz1;have hZ2:=Lib.hid hz2;clear hi0 hz0 hz1 hz2;have hkf:(Value.slice pf s.free.length cf).ownBlock≠some k:=zi HA.out.f HK.out (by decide);have hgf:(Value.slice pf s.free.length cf).ownBlock≠some gg:=zp HA.out.f HA.out.g rfl (by decide);have huf:(Value.slice pf s.free.length cf).ownBlock≠some gu:=zp HA.out.f HA.out.u rfl (by decide);have HN:=Lib.hid (And.intro hkf (And.intro hgf huf));have HG2:Hid (Ar ((w.setCell ⟨gg,i,none⟩ (.int .u64 G)).setCell ⟨gu,i,none⟩ (.bool false)) B (.slice (some ⟨gg,0,none⟩) s.gens.length cg) (.slice (some ⟨gu,0,none⟩) s.used.length cu) (.slice pf s.free.length cf) { s with gens:=s.gens.set i G,used:=s.used.set i false }):=Lib.hid (by
  have h1:=(HA.out.g.stored i (.int .u64 G)).1;have h2:=(ownsRow_setCell_other HA.out.u (a:=⟨gg,i,none⟩) (by simpa [Value.ownBlock] using Ne.symm hgu2) (.int .u64 G)).stored i (.bool false);refine ⟨?_,?_,?_⟩
  · simp only [List.length_set,zeg];exact ownsRow_setCell_other h1 (by simpa [Value.ownBlock] using hgu2) _
  · simp only [List.length_set,zgb];exact h2.1
  · exact ownsRow_setCell_other (ownsRow_setCell_other HA.out.f hgf _) huf _)
 have HK2:Hid (((w.setCell ⟨gg,i,none⟩ (.int .u64 G)).setCell ⟨gu,i,none⟩ (.bool false)).heap[k]? = some (.cells #[.slice (some ⟨gg,0,none⟩) s.gens.length cg,.slice (some ⟨gu,0,none⟩) s.used.length cu,.slice pf s.free.length cf] 30 (0,0))):=Lib.hid (by
  rw [zw _ _ _ hku,zw _ _ _ hkg];exact HK.out)
 have HB2:Hid (Below B w ((w.setCell ⟨gg,i,none⟩ (.int .u64 G)).setCell ⟨gu,i,none⟩ (.bool false))):=Lib.hid (((Below.refl _ w).setCell hgg _).setCell hgu _);clear hkf hgf huf;have hkw:=lt_of_block HK.out;go_upto_region 3 with fail
 obtain ⟨W,hW⟩:∃ W,W=((w.setCell ⟨gg,i,none⟩ (.int .u64 G)).setCell ⟨gu,i,none⟩ (.bool false)).drew:=⟨_,rfl⟩;rw [<- hW];have HGW:Hid (Ar W B (.slice (some ⟨gg,0,none⟩) s.gens.length cg) (.slice (some ⟨gu,0,none⟩) s.used.length cu) (.slice pf s.free.length cf) { s with gens:=s.gens.set i G,used:=s.used.set i false }):=Lib.hid (by rw [hW];exact HG2.out.drew);have HKW:Hid (W.heap[k]? = some (.cells #[.slice (some ⟨gg,0,none⟩) s.gens.length cg,.slice (some ⟨gu,0,none⟩) s.used.length cu,.slice pf s.free.length cf] 30 (0,0))):=Lib.hid (by rw [hW];exact HK2.out);have HF:Hid (W.ownsRow B 3 1 (.slice pf s.free.length cf) s.free.length (ivs s.free)):=Lib.hid HGW.out.f;have HBW:Hid (Below B w W):=Lib.hid (by rw [hW];exact HB2.out.drew);clear hW HG2 HK2 HB2 c0 c1 c2 z0 z1 z2 cg0 zg0 cu0 zu0;obtain ⟨c0,c1,c2,z0,z1,z2⟩:=block3 HKW.out;have hkW:=lt_of_block HKW.out;have hBs:=HBW.out.size
 go_wp2_with (at_builtin; refine wpList_append_own_at _ rfl _ _ 28 rfl B 3 i0' (.int .i64 0) 1 8 Tryz.underlying28 hI.out hZ0.out hZ1.out hZ2.out rfl (by decide) _ _ _ rfl (HF.out.alloc _) ⟨W.heap.size, 0, none⟩ 1 1 [.int .i64 i] rfl rfl (cell_one_new _ _ _) (by simp [Value.oneCell']) (by unfold maxLen; omega) (by omega) (by simp; omega) ?_; intro v' w5 hown' hgrow _ hat; obtain ⟨g', cap', rfl⟩ := zsb hown'
              have HO':=Lib.hid hown';have HGR:Hid ((W.alloc (.cells #[.int .i64 i] 3)).grownBy w5 (Value.slice pf s.free.length cf).ownBlock):=Lib.hid hgrow;have HK5:Hid (w5.heap[k]? = some (.cells #[.slice (some ⟨gg,0,none⟩) s.gens.length cg,.slice (some ⟨gu,0,none⟩) s.used.length cu,.slice pf s.free.length cf] 30 (0,0))):=Lib.hid (by
               rw [hgrow.block k (by simp;omega) (Ne.symm HN.out.1)];exact (Below.heap_alloc _ _ k hkW).trans HKW.out)
              obtain ⟨d0,d1,d2,y0,y1,y2⟩:=block3 HK5.out;clear hown' hgrow hat)
 have hne5:(Value.slice (some ⟨g',0,none⟩) (s.free.length+1) cap').ownBlock≠some k:=zi HO'.out HK5.out (by decide)
 go_end0
 refine ⟨rfl,_,zjf HK5.out _,⟨?_,?_,?_⟩,?_⟩
 · rw [HGe.out];exact ownsRow_setCell_other ((HGW.out.g.alloc _).kept HGR.out (.inr (Ne.symm HN.out.2.1))) (by simpa [Value.ownBlock] using hkg) _
 · rw [HGe.out];exact ownsRow_setCell_other ((HGW.out.u.alloc _).kept HGR.out (.inr (Ne.symm HN.out.2.2))) (by simpa [Value.ownBlock] using hku) _
 · have:=ownsRow_setCell_other HO'.out (a:=⟨k,2,none⟩) hne5 (.slice (some ⟨g',0,none⟩) (s.free.length+1) cap');simp only [St.gb,List.length_append,List.length_cons,List.length_nil,Nat.zero_add,ivs,List.map_append,List.map_cons,List.map_nil] at this ⊢;exact this
 · exact ((HBW.out.alloc (by omega) _).grown HGR.out (by simp;omega) (fun q e=>(HF.out.lt q e).1)).setCell hBk _
end Go.Proofs.YtdmecdjfbpblgaaGreatDoor.V
