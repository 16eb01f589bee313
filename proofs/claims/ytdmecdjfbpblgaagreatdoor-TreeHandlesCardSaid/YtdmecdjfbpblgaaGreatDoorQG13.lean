/-
  Rows of numbers of the call's own: laid over, made shorter; slices.Insert of one number.
-/
import Derived.Test.YtdmecdjfbpblgaaGreatDoorQG12
import Derived.Lib.AppendZerosOnto
import Derived.Shelf.Spec.SlicesInsert
namespace Go.Proofs.YtdmecdjfbpblgaaGreatDoor
set_option maxRecDepth 100000
set_option maxHeartbeats 32000000
open Go.ChangeShapes Go.WideShapes Go.ChangeAt Go.RowKit
set_option linter.unusedVariables false
set_option linter.unusedSimpArgs false
theorem zg2 (l:List Int) (i:Nat) (x:Int):ivs (l.set i x)=(ivs l).set i (.int .i64 x):=by simp [ivs,List.map_set]
theorem zc9 (a b:List Int):ivs (a++b)=ivs a++ivs b:=by simp [ivs]
theorem zbw {w:World} {base g n cap i:Nat} {l:List Int} (h:w.ownsRow base 3 1 (.slice (some ⟨g,0,none⟩) n cap) n (ivs l)) (hi:i<n):w.cell? ⟨g,i,none⟩=some (.int .i64 (l.getD i 0)):=by
 have hl:l.length=n:=by have:=h.1;rw [zam,Nat.mul_one] at this;exact this
 rw [h.cellAt i (by omega),ivs,List.getElem?_map,List.getD,List.getElem?_eq_getElem (by omega)];rfl
theorem zf5 {w:World} {b g n cap:Nat} {l:List Int} (h:w.ownsRow b 3 1 (.slice (some ⟨g,0,none⟩) n cap) n (ivs l)) (o:Nat):∀ j u,(ivs (l.drop o))[j]? = some u->w.cell? ⟨g,o+j,none⟩=some u:=by
 intro j u hj;have:(ivs l)[o+j]? = some u:=by
  simp only [ivs,List.map_drop] at hj ⊢
  rwa [List.getElem?_drop] at hj
 have:=h.cells rfl (o+j) u this
 rwa [add_plain,Nat.zero_add] at this
theorem zaq {w:World} {base size g n cap:Nat} {e:TypeId} {xs:List Value} (h:w.ownsRow base e size (.slice (some ⟨g,0,none⟩) n cap) n xs):∃ cur,w.heap[g]? = some (.cells cur e (0,0))/\base<=g:=by
 rcases h.2 with ⟨h',_⟩|⟨g',cap',cur,h1,h2,h3,_⟩
 · cases h'
 · cases h1;exact ⟨cur,h3,h2⟩
theorem zn4 (W:World):(sizeOf 3).run Tryz.prog W = .ok 1 W:=by
 obtain ⟨i,hi,-⟩:=info_parts zcp;rw [run_sizeOf W hi];exact congrArg (fun n=>Result.ok n W) (show Tryz.prog.cellsOf 3=1 by kernel_rfl)
theorem zbd {g:Nat}:∀ (vs:List Value) (o:Nat) (w V:World),w.grownBy V (some g)->w.grownBy (V.setCells g o vs) (some g)
 | [],o,w,V,h=>h
 | v::r,o,w,V,h=>zbd r (o+1) _ _ (h.trans ⟨rfl,rfl,rfl,by simp [World.setCell],fun k _ hk=>Below.heap_setCell _ _ _ _ (fun e=>hk (by rw [e]))⟩)
theorem zf6 {g:Nat}:∀ (vs:List Value) (o:Nat) (w V:World),w.grownBy V none->w.heap.size<=g->w.grownBy (V.setCells g o vs) none
 | [],o,w,V,h,hg=>h
 | v::r,o,w,V,h,hg=>zf6 r (o+1) _ _ ⟨h.os,h.tape,h.output,by simpa [World.setCell] using h.size,fun k hk hn=>by
    rw [Below.heap_setCell _ _ _ _ (by show k≠g;omega)];exact h.block k hk hn⟩ hg
theorem zar (w:World) (row:Option Nat):w.grownBy w row:=⟨rfl,rfl,rfl,Nat.le_refl _,fun _ _ _=>rfl⟩
theorem ze6 {w V:World} {row:Option Nat} (h:w.grownBy V row):w.grownBy V.drew row:=⟨h.os,h.tape,h.output,h.size,h.block⟩
def GivesI (B:Nat) (v:Value) (l:List Int) (w:World) (en:Ending) (w':World):Prop :=
 ∃ v',en = .returned v'/\w'.ownsRow B 3 1 v' l.length (ivs l)/\w.grownBy w' v.ownBlock/\(v'.ownBlock=v.ownBlock\/∀ k,v'.ownBlock=some k->w.heap.size<=k)
def over (l:List Int) (o:Nat):List Int->List Int
 | []=>l
 | x::r=>over (l.set o x) (o+1) r
theorem zgs:∀ (m:List Int) (l:List Int) (o:Nat),o+m.length<=l.length->over l o m=l.take o++m++l.drop (o+m.length)
 | [],l,o,h=>by simp [over]
 | x::r,l,o,h=>by
   rw [over,zgs r _ _ (by simp at h ⊢;omega)];have ho:o<l.length:=by simp at h;omega
   rw [List.take_succ_eq_append_getElem (by simp;exact ho),List.getElem_set_self,List.take_set_of_le (Nat.le_refl _),List.drop_set_of_lt (by omega)];simp;congr 1;omega
theorem ze7 {B g n cap:Nat}:∀ (m:List Int) (o:Nat) (w:World) (l:List Int),w.ownsRow B 3 1 (.slice (some ⟨g,0,none⟩) n cap) n (ivs l)->(w.setCells g o (ivs m)).ownsRow B 3 1 (.slice (some ⟨g,0,none⟩) n cap) n (ivs (over l o m))
 | [],o,w,l,h=>h
 | x::r,o,w,l,h=>by
   have h1:=(h.stored o (.int .i64 x)).1;rw [<- zg2] at h1;exact ze7 r (o+1) _ _ h1
theorem zn5 {w:World} {B g n cap:Nat} {l:List Int} (h:w.ownsRow B 3 1 (.slice (some ⟨g,0,none⟩) n cap) n (ivs l)) {m:Nat} (hm:m<=n):w.ownsRow B 3 1 (.slice (some ⟨g,0,none⟩) m cap) m (ivs (l.take m)):=by
 have h1:=h.1
 rcases h.2 with ⟨h',_⟩|⟨g',cap',cur,hv,h2,h3,h4,h5,h6,h7⟩
 · cases h'
 · cases hv;refine ⟨by rw [zam] at h1 ⊢;rw [List.length_take];omega,.inr ⟨g,cap,cur,rfl,h2,h3,by omega,h5,h6,?_⟩⟩;rw [ivs,List.map_take,<- ivs,<- h7,List.take_take];congr 1;omega
def overV (l:List Value) (o:Nat):List Value->List Value
 | []=>l
 | x::r=>overV (l.set o x) (o+1) r
theorem ze8:∀ (m:List Value) (l:List Value) (o:Nat),o+m.length<=l.length->overV l o m=l.take o++m++l.drop (o+m.length)
 | [],l,o,h=>by simp [overV]
 | x::r,l,o,h=>by
   rw [overV,ze8 r _ _ (by simp at h ⊢;omega)];have ho:o<l.length:=by simp at h;omega
   rw [List.take_succ_eq_append_getElem (by simp;exact ho),List.getElem_set_self,List.take_set_of_le (Nat.le_refl _),List.drop_set_of_lt (by omega)];simp;congr 1;omega
theorem zf7 {B g n cap:Nat}:∀ (m:List Value) (o:Nat) (w:World) (l:List Value),w.ownsRow B 3 1 (.slice (some ⟨g,0,none⟩) n cap) n l->(w.setCells g o m).ownsRow B 3 1 (.slice (some ⟨g,0,none⟩) n cap) n (overV l o m)
 | [],o,w,l,h=>h
 | x::r,o,w,l,h=>zf7 r (o+1) _ _ (h.stored o x).1
theorem zn6 {w:World} {B g n cap:Nat} {xs:List Value} (h:w.ownsRow B 3 1 (.slice (some ⟨g,0,none⟩) n cap) n xs) (hn:n<cap):∃ u,w.ownsRow B 3 1 (.slice (some ⟨g,0,none⟩) (n+1) cap) (n+1) (xs++[u]):=by
 have h1:=h.1
 rcases h.2 with ⟨h',_⟩|⟨g',cap',cur,hv,h2,h3,h4,h5,h6,h7⟩
 · cases h'
 · cases hv;rw [Nat.mul_one] at h6;obtain ⟨u,hu⟩:∃ u,cur.toList[n]? = some u:=⟨_,List.getElem?_eq_getElem (by simp;omega)⟩;refine ⟨u,by simp;omega,.inr ⟨g,cap,cur,rfl,h2,h3,hn,h5,by omega,?_⟩⟩;rw [Nat.mul_one] at h7 ⊢;rw [List.take_add_one,h7,hu];rfl
theorem zn7 (B vb:Nat) (x:Int) (l:List Int) (v:Value) (w:World) (ho:w.ownsRow B 3 1 v l.length (ivs l)) (hv:w.heap[vb]? = some (.cells #[.int .i64 x] 3 (0,0))) (hB:B<=w.heap.size) (hl:l.length<=1000) :
 Calls Tryz.prog 136 #[v,.int .i64 l.length,.slice (some ⟨vb,0,none⟩) 1 1] w (GivesI B v (l++[x]) w):=by
 obtain ⟨pl,cap,rfl,hnc,hcm,-⟩:=zh ho;unfold maxLen at hcm;obtain ⟨i0',hi0,hz0,hz1,hz2⟩:=info_parts zcp;have hI:=Hq hi0;have hZ0:=Hq hz0;have hZ1:=Hq hz1;have hZ2:=Hq hz2;clear hi0 hz0 hz1 hz2;have HO:=Hq ho;have HV:Hid (∀ j u,[Value.int .i64 x][j]? = some u->w.cell? ((⟨vb,0,none⟩:Addr).add j)=some u):=Hq (fun j u hu=>by
  rw [add_plain]
  match j,hu with
  | 0,hu=>cases hu;simp [World.cell?,hv]
  | j+1,hu=>simp at hu)
 have n0:(0:Int)<=(l.length:Int):=by omega
 have hnc':(l.length:Int)<=(cap:Int):=by omega
 have key:Hid (pl=none->l.length=0/\cap=0):=Hq (fun e=>by
  rcases ho.2 with ⟨h1,h2⟩|⟨g,c,cur,h1,-⟩
  · exact ⟨h2,(Value.slice.inj h1).2.2⟩
  · have:=(Value.slice.inj h1).1;rw [e] at this;cases this)
 clear ho hv;cases pl with
 | none =>
   obtain ⟨h1,h2⟩:=key.out rfl;have:l=[]:=List.eq_nil_of_length_eq_zero h1;subst this;subst h2;go_enter Tryz.func136,Tryz.ntmps136
   go_wp2_with (at_builtin; refine wpList_append_own_at _ rfl _ _ 28 rfl B 3 i0' (.int .i64 0) 1 8 Tryz.underlying28 hI.out hZ0.out hZ1.out hZ2.out rfl (by decide) _ _ _ rfl HO.out ⟨vb, 0, none⟩ 1 1 [.int .i64 x] rfl rfl HV.out (by simp [Value.oneCell']) (by simp [maxLen]) (by simp) hB ?_; intro v' w5 hown' hgrow _ hat; have HO' := Hq hown'
                have HGR:=Hq hgrow;have HAT:=Hq hat;clear hown' hgrow hat)
   go_ret;exact ⟨v',rfl,HO'.out,HGR.out,HAT.out.imp_right fun e k hk=>by rw [e] at hk;exact Nat.le_of_eq (Option.some.inj hk)⟩
 | some a =>
   obtain ⟨g,rfl⟩:∃ g,a=⟨g,0,none⟩:=by
    rcases HO.out.2 with ⟨h1,_⟩|⟨g,c,cur,h1,_⟩
    · have:=(Value.slice.inj h1).1;cases this
    · have:=(Value.slice.inj h1).1;exact ⟨g,Option.some.inj this⟩
   obtain ⟨n,hn⟩:∃ n,l.length=n:=⟨_,rfl⟩;have HN:=Hq hn;rw [hn] at HO n0 hnc' hl ⊢;clear hn;go_enter Tryz.func136,Tryz.ntmps136
   go_wp2_with (at_builtin; refine wpList_append_own_at _ rfl _ _ 28 rfl B 3 i0' (.int .i64 0) 1 8 Tryz.underlying28 hI.out hZ0.out hZ1.out hZ2.out rfl (by decide) _ _ _ rfl HO.out ⟨vb, 0, none⟩ 1 1 [.int .i64 x] rfl rfl HV.out (by simp [Value.oneCell']) (by unfold maxLen; omega) (by omega) hB ?_; intro v' w5 hown' hgrow _ hat; have HO' := Hq hown'
                have HGR:=Hq hgrow;have HAT:=Hq hat;clear hown' hgrow hat)
   all_goals go_ret
   all_goals
    refine ⟨v',rfl,?_,HGR.out,HAT.out.imp_right fun e k hk=>by rw [e] at hk;exact Nat.le_of_eq (Option.some.inj hk)⟩;rw [List.length_append,HN.out,zc9];exact HO'.out
theorem zmd (k B vb g cap:Nat) (x:Int) (l:List Int) (w:World) (ho:w.ownsRow B 3 1 (.slice (some ⟨g,0,none⟩) l.length cap) l.length (ivs l)) (hv:w.heap[vb]? = some (.cells #[.int .i64 x] 3 (0,0))) (hvg:vb≠g) (hk:k<l.length) (hl:l.length<=1000) (hroom:l.length<cap) (hcm:cap<=9223372036854775807) :
 Calls Tryz.prog 136 #[.slice (some ⟨g,0,none⟩) l.length cap,.int .i64 k,.slice (some ⟨vb,0,none⟩) 1 1] w (GivesI B (.slice (some ⟨g,0,none⟩) l.length cap) (l.take k++[x]++l.drop k) w):=by
 obtain ⟨u,hu⟩:=zn6 ho hroom;obtain ⟨cur,hgb,hBg⟩:=zaq ho;obtain ⟨n,hn⟩:∃ n,l.length=n:=⟨_,rfl⟩;rw [hn] at ho hk hl hroom hu ⊢;have hsz:(Tryz.prog.info? 3).map (·.size)=some 1:=by kernel_rfl
 have hvc:w.cell? ⟨vb,0,none⟩=some (.int .i64 x):=by simp [World.cell?,hv]
 have hdl:(ivs (l.drop k)).length=n - k:=by rw [zam,List.length_drop,hn]
 have hcell:∀ j,j<n+1->(w.cell? ⟨g,j,none⟩).isSome=true:=fun j hj=>by
  rw [hu.cellAt j (by omega),List.getElem?_eq_getElem (by have:=hu.1;omega)];rfl
 have hfz:∀ j,w.frozen? ⟨g,j,none⟩=false:=fun j=>hu.frozenAt j
 have hcs:cur.size≠0:=by
  rcases ho.2 with ⟨h',_⟩|⟨g',cap',cur',hv',_,h3,_,_,h6,_⟩
  · cases h'
  · cases hv';rw [hgb] at h3;cases h3;omega
 have hov:∀ lb cb,(callFunc 161 #[.slice (some ⟨vb,0,none⟩) 1 1,.slice (some ⟨g,k+1,none⟩) lb cb]).run Tryz.prog w = .ok (.value (.bool false)) w:=fun lb cb=>by
  rw [run_callFunc_extern Tryz.func161 (by kernel_rfl) (by kernel_rfl) (by kernel_rfl) (e:=Extern.SlicesOverlaps.overlaps #[28,28] #[4]) (by kernel_rfl),
   Lib.run_overlaps_apart w 28 4 3 Tryz.underlying28 1 zn4 ⟨vb,0,none⟩ ⟨g,k+1,none⟩ 1 1 lb cb hvg 3 3 1 cur.size (by simp [World.shape?,hv]) (by simp [World.shape?,hgb]) hcs (by simp [World.frozen?,hv]) (by simp [World.frozen?,hv])]
  rfl
 have hcp1:∀ ty dc sc,(Builtin.copy_ #[28,28] ty #[.slice (some ⟨g,k+1,none⟩) (n - k) dc,.slice (some ⟨g,k,none⟩) (n+1 - k) sc]).run Tryz.prog w.drew = .ok (goInt (ivs (l.drop k)).length) (w.drew.setCells g (k+1) (ivs (l.drop k))):=fun ty dc sc =>
  run_copy_cells w.drew _ _ ty 3 g (k+1) (n - k) dc ⟨g,k,none⟩ (n+1 - k) sc (ivs (l.drop k)) Tryz.underlying28 hsz (by rw [hdl];simp only [Nat.min_def];split<;>omega)
   (fun j v hj=>by rw [Addr.add_lit];exact zf5 ho k j v hj)
   (fun j hj=>hcell _ (by omega)) (fun j hj=>hfz _) (zcs _)
 obtain ⟨W1,hW1⟩:∃ W1,W1=w.drew.setCells g (k+1) (ivs (l.drop k)):=⟨_,rfl⟩;have hO1:W1.ownsRow B 3 1 (.slice (some ⟨g,0,none⟩) (n+1) cap) (n+1) (overV (ivs l++[u]) (k+1) (ivs (l.drop k))):=by
  rw [hW1];exact zf7 _ _ _ _ hu.drew
 have hB1:w.grownBy W1 (some g):=by rw [hW1];exact zbd _ _ _ _ (ze6 (zar _ _))
 have hc1:∀ j,j<n+1->(W1.cell? ⟨g,j,none⟩).isSome=true:=fun j hj=>by
  rw [hO1.cellAt j (by omega),List.getElem?_eq_getElem (by have:=hO1.1;omega)];rfl
 have hvc1:W1.cell? ⟨vb,0,none⟩=some (.int .i64 x):=by
  rw [hW1,World.cell?_setCells_out g _ _ _ _ (fun h _=>absurd h hvg)];exact hvc
 have hcp2:∀ (W:World),(∀ y,W.cell? y=W1.cell? y)->(∀ y,W.frozen? y=W1.frozen? y)->∀ ty dc,(Builtin.copy_ #[28,28] ty #[.slice (some ⟨g,k,none⟩) (n+1 - k) dc,.slice (some ⟨vb,0,none⟩) 1 1]).run Tryz.prog W = .ok (goInt [Value.int .i64 x].length) (W.setCells g k [.int .i64 x]):=fun W hWc hWf ty dc =>
  run_copy_cells W _ _ ty 3 g k (n+1 - k) dc ⟨vb,0,none⟩ 1 1 [.int .i64 x] Tryz.underlying28 hsz (by simp only [List.length_singleton,Nat.min_def];split<;>omega)
   (fun j v hj=>by
     rw [Addr.add_lit,hWc]
     match j,hj with
     | 0,hj=>cases hj;exact hvc1
     | j+1,hj=>simp at hj)
   (fun j hj=>by rw [hWc];exact hc1 _ (by simp at hj;omega)) (fun j hj=>by rw [hWf];exact hO1.frozenAt _) (by simp [Value.oneCell'])
 have hO2:=zf7 [.int .i64 x] k W1 _ hO1;have hfin:overV (overV (ivs l++[u]) (k+1) (ivs (l.drop k))) k [.int .i64 x]=ivs (l.take k++[x]++l.drop k):=by
  have h1:(ivs l++[u]).length=n+1:=by simp [ivs,hn]
  have h2:(ivs l++[u]).drop (k+1+(n - k))=[]:=List.drop_eq_nil_of_le (by rw [h1];omega);have e1:overV (ivs l++[u]) (k+1) (ivs (l.drop k))=(ivs l++[u]).take (k+1)++ivs (l.drop k):=by
   rw [ze8 (ivs (l.drop k)) _ _ (by rw [hdl,h1];omega),hdl,h2,List.append_nil]
  have h3:((ivs l++[u]).take (k+1)).length=k+1:=by rw [List.length_take,h1];omega
  rw [e1,ze8 [.int .i64 x] _ _ (by rw [List.length_append,h3,hdl];simp<;>omega)];have e2:((ivs l++[u]).take (k+1)++ivs (l.drop k)).take k=ivs (l.take k):=by
   rw [List.take_append_of_le_length (by rw [h3];omega),List.take_take,Nat.min_eq_left (by omega),List.take_append_of_le_length (by rw [zam,hn];omega),ivs,ivs,List.map_take]
  have e3:((ivs l++[u]).take (k+1)++ivs (l.drop k)).drop (k+[Value.int .i64 x].length)=ivs (l.drop k):=List.drop_left' h3;rw [e2,e3,zc9,zc9];rfl
 rw [hfin] at hO2;have HFL:Hid ((l.take k++[x]++l.drop k).length=n+1):=Hq (by simp;omega);have HO2:=Hq hO2;have HB2:=Hq (zbd [.int .i64 x] k w W1 hB1);rw [<- hW1] at hcp1;have HW1:=Hq hW1;have mixed:Tryz.prog.follows Departure.mixedOrders=true:=by kernel_rfl
 have hz1:¬ (((1:Nat):Int)=0):=by decide
 have hz2:¬ ((k:Int)=(n:Int)):=by omega
 have k0:(0:Int)<=(k:Int):=by omega
 have kn:(k:Int)<=(n:Int):=by omega
 have kn1:(k:Int)<=(n:Int)+1:=by omega
 have kc:(k:Int)<=(cap:Int):=by omega
 have hr1:¬ ((cap:Int)<(n:Int)+1):=by omega
 have hr2:(n:Int)+1<=(cap:Int):=by omega
 have hr3:(0:Int)<=(n:Int)+1:=by omega
 have hr4:((n:Int)+1).toNat=n+1:=by omega
 have hk4:((k:Int)+1).toNat=k+1:=by omega
 have hk5:(0:Int)<=(k:Int)+1:=by omega
 have hk6:(k:Int)+1<=(n:Int)+1:=by omega
 have hw1:IntKind.i64.wrap ((k:Int)+1)=(k:Int)+1:=by rw [IntKind.wrap_i64];omega
 have hb2:¬ (cap=k+1):=by omega
 have hb4:¬ (cap=k):=by omega
 clear hW1 ho hv hu hgb hO1 hO2 hfin hB1 hc1 hvc1 hcell hfz hvc hdl;go_enter Tryz.func136,Tryz.ntmps136
 go_wp2_with (simp only [hov])
 go_region_law_o (refine step_copy_runI rfl _ _ 28 28 rfl _ _ (by simp [Act.eval,Act.put]) (by simp [Act.eval,Act.put]) (hcp1 _ _ _) ?_)
 go_wp2_with (at_builtin;refine wpList_copy_runI _ rfl _ _ 28 28 rfl _ _ rfl rfl (hcp2 _ (fun _=>rfl) (fun _=>rfl) _ _) ?_)
 go_ret;refine ⟨_,rfl,?_,HB2.out,.inl rfl⟩;rw [HFL.out];exact HO2.out
theorem zme (k B vb g:Nat) (x:Int) (l:List Int) (w:World) (ho:w.ownsRow B 3 1 (.slice (some ⟨g,0,none⟩) l.length l.length) l.length (ivs l)) (hv:w.heap[vb]? = some (.cells #[.int .i64 x] 3 (0,0))) (hk:k<l.length) (hl:l.length<=1000) (hB:B<=w.heap.size) :
 Calls Tryz.prog 136 #[.slice (some ⟨g,0,none⟩) l.length l.length,.int .i64 k,.slice (some ⟨vb,0,none⟩) 1 1] w (GivesI B (.slice (some ⟨g,0,none⟩) l.length l.length) (l.take k++[x]++l.drop k) w):=by
 obtain ⟨cur,hgb,hBg⟩:=zaq ho;obtain ⟨n,hn⟩:∃ n,l.length=n:=⟨_,rfl⟩;rw [hn] at ho hk hl ⊢;have hsz:(Tryz.prog.info? 3).map (·.size)=some 1:=by kernel_rfl
 obtain ⟨i0,hi0,hz0,hzs,hzb⟩:=info_parts zcp;have hvc:w.cell? ⟨vb,0,none⟩=some (.int .i64 x):=by simp [World.cell?,hv]
 have hbw:=lt_of_block hgb;have hvw:=lt_of_block hv;have hdl:(ivs (l.drop k)).length=n - k:=by rw [zam,List.length_drop,hn]
 have hik:k+(n+1 - k)=n+1:=by omega
 have hold:(Builtin.firstCells i0.size k (.slice (some ⟨g,0,none⟩) k n)).run Tryz.prog w.drew = .ok (ivs (l.take k)).toArray w.drew:=by
  rw [hzs];exact run_firstCells_some w.drew 1 k ⟨g,0,none⟩ k n (ivs (l.take k)) (by rw [zam,List.length_take];omega) (fun j v hj=>by
   have:(ivs l)[j]? = some v:=by
    simp only [ivs,List.map_take] at hj ⊢;rw [List.getElem?_take] at hj
    split at hj
    · exact hj
    · cases hj
   exact ho.cells rfl j v this)
 have hGn:n+1<=grownCap w (n+1) n 3:=grownCap_ge w _ _ _;have hG63:=grownCap_le_maxLen w (n+1) n 3 (by unfold maxLen;omega);have hrz:∀ ty,_:=fun ty=>Lib.run_append_grow_zeros (P:=Tryz.prog) w 28 3 ty 3 i0 (.int .i64 0) .i64 .i64 Tryz.underlying28 Tryz.underlying3 hi0 hz0 (some ⟨g,0,none⟩) k n (ivs (l.take k)) hold (n+1 - k) (by omega) (by omega) (by omega) (by omega) (by rw [hzb];omega) (by rw [hzb,hik];exact growslice_fits (by omega) (by omega))
 rw [hik] at hrz;generalize grownCap w (n+1) n 3=G at *;obtain ⟨ROW,hROW⟩:∃ ROW:Array Value,ROW=(ivs (l.take k)).toArray++Builtin.zeroCells (Value.int .i64 0).cells (n+1 - k)++Builtin.zeroCells (Value.int .i64 0).cells (G - (n+1)):=⟨_,rfl⟩;rw [<- hROW] at hrz;have hzc:∀ m,(Builtin.zeroCells (Value.int .i64 0).cells m).toList=ivs (List.replicate m 0):=fun m=>by
  simp [Builtin.zeroCells,Value.cells,ivs];apply List.ext_getElem
  · simp
  · intro i h1 h2;simp;rw [Nat.mod_one];rfl
 have hRs:ROW.size=G:=by
  have:=congrArg List.length (hzc (n+1 - k));have h2:=congrArg List.length (hzc (G - (n+1)));rw [hROW,Array.size_append,Array.size_append];rw [zam,Array.length_toList] at this h2;rw [this,h2];simp [ivs];omega
 have hRl:ROW.toList.take (n+1)=ivs (l.take k++List.replicate (n+1 - k) 0):=by
  rw [hROW,Array.toList_append,Array.toList_append,hzc,hzc,List.take_left' (by simp [ivs];omega),zc9]
 obtain ⟨W1,hW1⟩:∃ W1,W1=w.drew.alloc (.cells ROW 3):=⟨_,rfl⟩;rw [<- hW1] at hrz;have hO1:W1.ownsRow B 3 1 (.slice (some ⟨w.heap.size,0,none⟩) (n+1) G) (n+1) (ivs (l.take k++List.replicate (n+1 - k) 0)):=by
  rw [hW1];refine ⟨by simp [ivs];omega,.inr ⟨w.heap.size,G,ROW,rfl,hB,heap_alloc_new w.drew _,hGn,hG63,by rw [Nat.mul_one];exact hRs,by rw [Nat.mul_one];exact hRl⟩⟩
 have hB1:w.grownBy W1 none:=by rw [hW1];exact (ze6 (zar w none)).trans (World.grownBy_alloc _ _ _)
 have hcells:∀ (W:World) (xs:List Value),W.ownsRow B 3 1 (.slice (some ⟨w.heap.size,0,none⟩) (n+1) G) (n+1) xs->∀ j,j<n+1->(W.cell? ⟨w.heap.size,j,none⟩).isSome=true:=fun W xs h j hj=>by
  rw [h.cellAt j (by omega),List.getElem?_eq_getElem (by have:=h.1;omega)];rfl
 have hOv:W1.cell? ⟨vb,0,none⟩=some (.int .i64 x):=by rw [hW1];exact (World.cell?_alloc_lt w.drew _ _ hvw).trans hvc
 have hcpA:∀ (W:World),(∀ y,W.cell? y=W1.cell? y)->(∀ y,W.frozen? y=W1.frozen? y)->∀ ty dc,(Builtin.copy_ #[28,28] ty #[.slice (some ⟨w.heap.size,k,none⟩) (n+1 - k) dc,.slice (some ⟨vb,0,none⟩) 1 1]).run Tryz.prog W = .ok (goInt [Value.int .i64 x].length) (W.setCells w.heap.size k [.int .i64 x]):=fun W hWc hWf ty dc =>
  run_copy_cells W _ _ ty 3 w.heap.size k (n+1 - k) dc ⟨vb,0,none⟩ 1 1 [.int .i64 x] Tryz.underlying28 hsz (by simp only [List.length_singleton,Nat.min_def];split<;>omega)
   (fun j v hj=>by
     rw [Addr.add_lit,hWc]
     match j,hj with
     | 0,hj=>cases hj;exact hOv
     | j+1,hj=>simp at hj)
   (fun j hj=>by rw [hWc];exact hcells _ _ hO1 _ (by simp at hj;omega)) (fun j hj=>by rw [hWf];exact hO1.frozenAt _) (by simp [Value.oneCell'])
 have hO2:=ze7 [x] k W1 _ hO1;have hcpB:∀ (W:World),(∀ y,W.cell? y=(W1.setCells w.heap.size k [.int .i64 x]).cell? y)->(∀ y,W.frozen? y=(W1.setCells w.heap.size k [.int .i64 x]).frozen? y)->∀ ty dc sc,(Builtin.copy_ #[28,28] ty #[.slice (some ⟨w.heap.size,k+1,none⟩) (n - k) dc,.slice (some ⟨g,k,none⟩) (n - k) sc]).run Tryz.prog W = .ok (goInt (ivs (l.drop k)).length) (W.setCells w.heap.size (k+1) (ivs (l.drop k))):=fun W hWc hWf ty dc sc =>
  run_copy_cells W _ _ ty 3 w.heap.size (k+1) (n - k) dc ⟨g,k,none⟩ (n - k) sc (ivs (l.drop k)) Tryz.underlying28 hsz (by rw [hdl];simp [Nat.min_def])
   (fun j v hj=>by
     rw [Addr.add_lit,hWc,World.cell?_setCells_out _ _ _ _ _ (fun h _=>absurd h (by show g≠w.heap.size;omega)),hW1];exact (World.cell?_alloc_lt w.drew _ _ hbw).trans (zf5 ho k j v hj))
   (fun j hj=>by rw [hWc];exact hcells _ _ hO2 _ (by rw [hdl] at hj;omega))
   (fun j hj=>by rw [hWf];exact hO2.frozenAt _) (zcs _)
 have hO3:=ze7 (l.drop k) (k+1) _ _ hO2.drew;have hfin:over (over (l.take k++List.replicate (n+1 - k) 0) k [x]) (k+1) (l.drop k)=l.take k++[x]++l.drop k:=by
  have ht:(l.take k).length=k:=by rw [List.length_take];omega
  rw [zgs [x] _ _ (by simp;omega)];have e1:(l.take k++List.replicate (n+1 - k) 0).take k=l.take k:=List.take_left' ht;rw [e1,zgs _ _ _ (by simp;omega)];have e2:(l.take k++[x]++(l.take k++List.replicate (n+1 - k) 0).drop (k+[x].length)).take (k+1)=l.take k++[x]:=List.take_left' (by simp;omega);have e3:(l.take k++[x]++(l.take k++List.replicate (n+1 - k) 0).drop (k+[x].length)).drop (k+1+(l.drop k).length)=[]:=List.drop_eq_nil_of_le (by simp;omega);rw [e2,e3,List.append_nil]
 rw [hfin] at hO3;have HFL:Hid ((l.take k++[x]++l.drop k).length=n+1):=Hq (by simp;omega);have HO3:=Hq hO3;have HB3:=Hq (zf6 (ivs (l.drop k)) (k+1) w _ (ze6 (zf6 (ivs [x]) k w W1 hB1 (Nat.le_refl _))) (Nat.le_refl _));have mixed:Tryz.prog.follows Departure.mixedOrders=true:=by kernel_rfl
 have hz2:¬ ((k:Int)=(n:Int)):=by omega
 have k0:(0:Int)<=(k:Int):=by omega
 have kn:(k:Int)<=(n:Int):=by omega
 have kn1:(k:Int)<=(n:Int)+1:=by omega
 have hr1:(n:Int)<(n:Int)+1:=by omega
 have hkk:(n:Int)+1 - (k:Int)=((n+1 - k:Nat):Int):=by omega
 have hk4:((k:Int)+1).toNat=k+1:=by omega
 have hk5:(0:Int)<=(k:Int)+1:=by omega
 have hk6:(k:Int)+1<=(n:Int)+1:=by omega
 have hw1:IntKind.i64.wrap ((k:Int)+1)=(k:Int)+1:=by rw [IntKind.wrap_i64];omega
 have hG1:¬ (G=k):=by omega
 have hG2:¬ (G=k+1):=by omega
 have hnk:¬ (n=k):=by omega
 have hGi:(k:Int)<=(G:Int):=by omega
 have hGi2:(n:Int)+1<=(G:Int):=by omega
 unfold maxLen at hG63;have HW1:=Hq hW1;have hcpB':=hcpB ((W1.setCells w.heap.size k [.int .i64 x]).drew) (fun _=>rfl) (fun _=>rfl);clear hcpB;rw [<- hkk] at hrz;clear hW1 ho hv hgb hO1 hO2 hO3 hfin hB1 hvc hdl hold hRl hRs hROW hzc hcells hOv hi0 hz0 hzs hzb hkk;go_enter Tryz.func136,Tryz.ntmps136
 go_wp2_with (first
  | (at_builtin;refine Lib.wpList_append_run _ rfl _ _ _ _ rfl _ _ rfl rfl _ _ (hrz _) ?_)
  | (at_builtin;refine wpList_copy_runI _ rfl _ _ 28 28 rfl _ _ rfl rfl (hcpA _ (fun _=>rfl) (fun _=>rfl) _ _) ?_))
 go_region_law_o (refine step_copy_runI rfl _ _ 28 28 rfl _ _ (by simp [Act.eval,Act.put]) (by simp [Act.eval,Act.put]) (hcpB' _ _ _) ?_)
 go_wp2;go_ret;refine ⟨_,rfl,?_,⟨HB3.out.os,HB3.out.tape,HB3.out.output,HB3.out.size,fun q hq _=>HB3.out.block q hq (by simp)⟩,.inr fun q hq=>?_⟩
 · rw [HFL.out];exact HO3.out
 · exact Nat.le_of_eq (Option.some.inj hq)
theorem zh8 (k B vb:Nat) (x:Int) (l:List Int) (v:Value) (w:World) (ho:w.ownsRow B 3 1 v l.length (ivs l)) (hv:w.heap[vb]? = some (.cells #[.int .i64 x] 3 (0,0))) (hvg:v.ownBlock≠some vb) (hk:k<=l.length) (hl:l.length<=1000) (hB:B<=w.heap.size) :
 Calls Tryz.prog 136 #[v,.int .i64 k,.slice (some ⟨vb,0,none⟩) 1 1] w (GivesI B v (l.insertIdx k x) w):=by
 have e:l.insertIdx k x=l.take k++[x]++l.drop k:=by rw [zku hk,List.append_assoc];rfl
 rw [e]
 rcases Nat.lt_or_ge k l.length with h|h
 · obtain ⟨p,cap,rfl,hnc,hcm,-⟩:=zh ho;obtain ⟨g,rfl⟩:∃ g,p=some ⟨g,0,none⟩:=by
    rcases ho.2 with ⟨-,h'⟩|⟨g,c,cur,hv,-⟩
    · omega
    · cases hv;exact ⟨g,rfl⟩
   have hg:vb≠g:=fun e=>hvg (by simp [Value.ownBlock,e])
   rcases Nat.lt_or_ge l.length cap with h2|h2
   · unfold maxLen at hcm;exact zmd k B vb g cap x l w ho hv hg h hl h2 hcm
   · obtain rfl:cap=l.length:=by omega
     exact zme k B vb g x l w ho hv h hl hB
 · obtain rfl:k=l.length:=by omega
   rw [List.take_length,List.drop_length,List.append_nil];exact zn7 B vb x l v w ho hv hB hl
theorem OpAt.grown {w w':World} {k:Nat} {o:Ops.Po} {row:Option Nat} (h:OpAt w k o) (hg:w.grownBy w' row) (hk:row≠some k):OpAt w' k o:=(hg.block k (lt_of_block h) (Ne.symm hk)).trans h
theorem za9 {a w w':World} {row:Option Nat} (h:a.grownBy w row) (hb:Below w.heap.size w w'):a.grownBy w' row :=
 ⟨hb.os.trans h.os,hb.tape.trans h.tape,hb.output.trans h.output,Nat.le_trans h.size hb.size,fun k hk hn=>(hb.block k (Nat.lt_of_lt_of_le hk h.size)).trans (h.block k hk hn)⟩
theorem zef {α:Type} {p:α->Bool} {l:List α} {j:Nat} (h:j<l.length):(l.take (j+1)).filter p=(l.take j).filter p++if p l[j] then [l[j]] else []:=by
 rw [zaa h,List.filter_append];congr 1
 by_cases hp:p l[j]<;>simp [hp]
theorem zkv {α:Type} {p:α->Bool} {l:List α} (h:l.any p=true):∃ (i:Nat) (hi:i<l.length),fst1 p l=i/\p l[i]=true/\(l.take i).any p=false:=by
 obtain ⟨a,ha,hp⟩:=List.any_eq_true.1 h;have hlt:l.findIdx p<l.length:=List.findIdx_lt_length_of_exists ⟨a,ha,hp⟩;refine ⟨l.findIdx p,hlt,by rw [fst1,if_pos h],List.findIdx_getElem (w:=hlt),?_⟩;rw [List.any_eq_false];intro x hx;obtain ⟨j,hj,rfl⟩:=List.mem_iff_getElem.1 hx;rw [List.length_take] at hj;have hj':j<l.findIdx p:=by omega
 rw [List.getElem_take];rw [List.not_of_lt_findIdx hj'];simp
theorem zf8 {α:Type} {p:α->Bool} {l:List α} {i:Nat} (hi:i<l.length) (h0:(l.take i).any p=false) (h1:p l[i]=true):(l.take (i+1)).filter (fun x=>!p x)=l.take i:=by
 rw [zef hi,h1];simp only [Bool.not_true,Bool.false_eq_true,if_false,List.append_nil];refine List.filter_eq_self.2 (fun x hx=>?_);rw [List.any_eq_false] at h0;simpa using h0 x hx
theorem filter_all {α:Type} {p:α->Bool} {l:List α} (h:l.any p=false):l.filter (fun x=>!p x)=l:=by
 refine List.filter_eq_self.2 (fun x hx=>?_);rw [List.any_eq_false] at h;simpa using h x hx
theorem zkw {α:Type} {q:α->Bool} {l L:List α} {i j:Nat} (hL:L.length=l.length) (h1:L.take i=(l.take j).filter q) (hij:i<j) (hj:j<l.length) (h2:L.drop j=l.drop j) (hq:q l[j]=true):(L.set i l[j]).take (i+1)=(l.take (j+1)).filter q/\(L.set i l[j]).drop (j+1)=l.drop (j+1):=by
 have hi:i<L.length:=by omega
 constructor
 · rw [zef hj,hq,if_pos rfl,<- h1,List.take_succ_eq_append_getElem (by rw [List.length_set];exact hi),List.getElem_set_self,List.take_set_of_le (Nat.le_refl _)]
 · rw [List.drop_set_of_lt (by omega),<- List.drop_drop,<- List.drop_drop,h2]
theorem zkx {α:Type} {q:α->Bool} {l L:List α} {i j:Nat} (h1:L.take i=(l.take j).filter q) (hj:j<l.length) (h2:L.drop j=l.drop j) (hq:q l[j]=false):L.take i=(l.take (j+1)).filter q/\L.drop (j+1)=l.drop (j+1):=by
 constructor
 · rw [zef hj,hq,h1];simp
 · rw [<- List.drop_drop,<- List.drop_drop,h2]
theorem drop_at {α:Type} {l L:List α} {j:Nat} (h:L.drop j=l.drop j):L[j]? = l[j]?:=by
 have:=congrArg (fun x=>x[0]?) h;simpa [List.getElem?_drop] using this
theorem zn8 (kb:Nat) (o:Ops.Po) (B:Nat) (l:List Int) (v:Value) (w:World) (hO:OpAt w kb o) (ho:w.ownsRow B 3 1 v l.length (ivs l)) (hl:l.length<=1000) (hkb:v.ownBlock≠some kb) :
 Calls Tryz.prog 140 #[v,.func (.func 141) #[] #[.pointer (some ⟨kb,0,none⟩)]] w fun e w'=>∃ v',e = .returned v'/\w'.ownsRow B 3 1 v' (l.filter fun x=>!isId o x).length (ivs (l.filter fun x=>!isId o x))/\w.grownBy w' v.ownBlock/\v'.ownBlock=v.ownBlock:=by
 obtain ⟨pl,cap,rfl,hnc,hcm,-⟩:=zh ho;unfold maxLen at hcm;have HIX:=Hq (zl8 kb o pl l cap w hO (zmx ho) hl)
 rcases Bool.eq_false_or_eq_true (l.any (isId o)) with hany|hany
 · obtain ⟨i0,hi0,hf,hp,h0⟩:=zkv hany;obtain ⟨g,rfl⟩:∃ g,pl=some ⟨g,0,none⟩:=by
    rcases ho.2 with ⟨-,h'⟩|⟨g,c,cur,hv,-⟩
    · omega
    · cases hv;exact ⟨g,rfl⟩
   have hgk:kb≠g:=fun e=>hkb (by simp [Value.ownBlock,e])
   have HGK:Hid (some g≠some kb):=Hq (fun e=>hgk (Option.some.inj e).symm);rw [hf] at HIX;have HS:Hid (l.take i0=(l.take (i0+1)).filter (fun x=>!isId o x)):=Hq (zf8 hi0 h0 hp).symm;obtain ⟨n,hn⟩:∃ n,l.length=n:=⟨_,rfl⟩;have HN:=Hq hn;have HO:=Hq hO;have HW0:Hid (w.ownsRow B 3 1 (.slice (some ⟨g,0,none⟩) n cap) n (ivs l)):=Hq (by rw [hn] at ho;exact ho);rw [hn] at hl hnc hi0 HIX ⊢;obtain ⟨i0',hIi,hz0,hz1,hz2⟩:=info_parts zcp;have hv3:∀ w,(zeroValue 3).run Tryz.prog w = .ok (.int .i64 0) w:=fun w=>by simp [zeroValue,typeInfo,hIi,hz0]
   have hcl:∀ (i:Nat) (W1:World) (L:List Int),i<n->W1.ownsRow B 3 1 (.slice (some ⟨g,0,none⟩) n cap) n (ivs L)->∀ ty,(Builtin.clear_ #[28] ty #[.slice (some ⟨g,i,none⟩) (n - i) (cap - i)]).run Tryz.prog W1 = .ok (.tuple #[]) (W1.setCells g i (List.replicate (n - i) (.int .i64 0))) :=
    fun i W1 L hi hO1 ty=>Lib.run_clear_slice W1 _ 3 ty _ Tryz.underlying28 hv3 rfl rfl g i (n - i) (cap - i) (by omega) (fun t ht=>by rw [zbw hO1 (by omega)];rfl) (fun t ht=>hO1.frozenAt _)
   have HCL:=Hq hcl;clear ho hO hcl hIi hz0 hz1 hz2 hv3 hn hany hf hp h0 hgk hkb;go_enter Tryz.func140,Tryz.ntmps140;go_wp2_with fail;refine HIX.out.mono ?_;rintro e w1 ⟨rfl,hb⟩;have HG1:Hid (w.grownBy w1 (some g)):=Hq (za9 (zar w _) hb);have HW1:Hid (w1.ownsRow B 3 1 (.slice (some ⟨g,0,none⟩) n cap) n (ivs l)):=Hq (own_below HW0.out hb);clear hb;have q0:¬ ((i0:Int) = -1):=by omega
   have q1:((i0:Int) == -1)=false:=by simp
   go_wp2
   go_loopw [5,6] (fun qi qj wr=>∃ (i j:Nat) (L:List Int),qi = .int .i64 i/\qj = .int .i64 j/\i<j/\j<=n/\Hid (L.length=l.length)/\Hid (L.take i=(l.take j).filter (fun x=>!isId o x))/\Hid (L.drop j=l.drop j)/\Hid (wr.ownsRow B 3 1 (.slice (some ⟨g,0,none⟩) n cap) n (ivs L))/\Hid (w.grownBy wr (some g))) (fun _ qj _=>n - (intOf qj).toNat)
   case atStart => exact ⟨i0,i0+1,l,rfl,by go_num,by omega,by omega,Hq rfl,HS,Hq rfl,HW1,HG1⟩
   case round =>
    obtain ⟨i,j,L,rfl,rfl,hij,hjn,HL,HT,HD,HW,HG⟩:=hrel
    by_cases hlt:j<n
    · have j0:(0:Int)<=(j:Int):=by omega
      have j1:(j:Int)<(n:Int):=by omega
      have i1:(0:Int)<=(i:Int):=by omega
      have i2:(i:Int)<(n:Int):=by omega
      have hjl:j<l.length:=by rw [HN.out];exact hlt
      have hcj:wr.cell? ⟨g,j,none⟩=some (.int .i64 l[j]):=by
       rw [zbw HW.out hlt];have:=drop_at HD.out;rw [List.getD_eq_getElem?_getD,this,List.getElem?_eq_getElem hjl];rfl
      have hfz:wr.frozen? ⟨g,i,none⟩=false:=HW.out.frozenAt _;have HR:=Hq (removed1 kb o l[j] wr (HO.out.grown HG.out HGK.out));have HK1:=Hq (fun (hq:(!isId o l[j])=true)=>zkw HL.out HT.out hij hjl HD.out hq);have HK2:=Hq (fun (hq:(!isId o l[j])=false)=>zkx HT.out hjl HD.out hq);generalize l[j]=y at *;go_wp2_with fail;refine HR.out.mono ?_;rintro e w2 ⟨rfl,hb⟩;have HW2:Hid (w2.ownsRow B 3 1 (.slice (some ⟨g,0,none⟩) n cap) n (ivs L)):=Hq (own_below HW.out hb);have HG2:=Hq (za9 HG.out hb);clear hb hcj hfz
      rcases Bool.eq_false_or_eq_true (isId o y) with hy|hy
      · have HK:=Hq (HK2.out (by rw [hy];rfl));rw [hy];go_wp2;go_roundw
        case rel => exact ⟨i,j+1,L,rfl,by go_num,by omega,by omega,HL,Hq HK.out.1,Hq HK.out.2,HW2,HG2⟩
        case measure => simp [intOf]<;>omega
      · have HK:=Hq (HK1.out (by rw [hy];rfl));rw [hy];obtain ⟨old,hco⟩:∃ u,w2.cell? ⟨g,i,none⟩=some u:=⟨_,zbw HW2.out (by omega)⟩;have hfz:w2.frozen? ⟨g,i,none⟩=false:=HW2.out.frozenAt _;have HW3:Hid ((w2.setCell ⟨g,i,none⟩ (.int .i64 y)).ownsRow B 3 1 (.slice (some ⟨g,0,none⟩) n cap) n (ivs (L.set i y))):=Hq (by rw [zg2];exact (HW2.out.stored i _).1);have HG3:=Hq (HG2.out.trans (HW2.out.stored i (.int .i64 y)).2);go_wp2;go_roundw
        case rel => exact ⟨i+1,j+1,L.set i y,by go_num,by go_num,by omega,by omega,Hq (by rw [List.length_set];exact HL.out),Hq HK.out.1,Hq HK.out.2,HW3,HG3⟩
        case measure => simp [intOf]<;>omega
    · obtain rfl:j=n:=by omega
      have hin:i<j:=hij;have HC:=Hq (HCL.out i wr L hin HW.out);have hcl:=HC.out;have e1:(i:Int)<=(j:Int):=by omega
      have e2:(0:Int)<=(i:Int):=by omega
      have e3:¬ (cap=i):=by omega
      have e4:i<=cap:=by omega
      have e5:i<=j:=by omega
      have e6:(i:Int)<=(cap:Int):=by omega
      go_wp2;go_ret;have hz:(List.replicate (j - i) (Value.int .i64 0))=ivs (List.replicate (j - i) 0):=by simp [ivs]
      have hT:=HT.out;have hle:(l.take j).filter (fun x=>!isId o x)=l.filter (fun x=>!isId o x):=by rw [<- HN.out,List.take_length]
      rw [hle] at hT;have hLl:L.length=j:=by rw [HL.out,HN.out]
      have hlen:(l.filter fun x=>!isId o x).length=i:=by rw [<- hT,List.length_take];omega
      refine ⟨_,rfl,?_,?_,rfl⟩
      · rw [hlen,hz];have h3:=zn5 (ze7 (List.replicate (j - i) 0) i wr _ HW.out) (m:=i) (by omega);rw [zgs _ _ _ (by simp;omega),List.append_assoc,List.take_left' (by rw [List.length_take];omega),hT] at h3;exact h3
      · exact zbd _ _ _ _ HG.out
 · rw [zb8 hany] at HIX;rw [filter_all hany];have HO:=Hq ho;obtain ⟨n,hn⟩:∃ n,l.length=n:=⟨_,rfl⟩;rw [hn] at HO HIX hnc hl ⊢;clear ho hO hn hany;go_enter Tryz.func140,Tryz.ntmps140;go_wp2_with fail;refine HIX.out.mono ?_;rintro e w1 ⟨rfl,hb⟩;have HB:=Hq hb;clear hb;go_wp2;go_ret;exact ⟨_,rfl,own_below HO.out HB.out,za9 (zar w _) HB.out,rfl⟩
theorem Chg.alloc (w:World) (o:Obj) (g:Nat) (G:List Mn):Chg w (w.alloc o) g G g G:=⟨rfl,rfl,rfl,by simp,fun k hk _=>heap_alloc_old _ _ hk,fun k hk=>.inl hk⟩
theorem OF.c6 {w:World} {base g n cap:Nat} {G:List Mn} (h:OF w base (.slice (some ⟨g,0,none⟩) n cap) G) (hn:n=G.length) {k:Nat} (hk:k<G.length):C6 w g (k*6) G[k]:=by subst hn;exact zbk h.row hk
theorem OF.fz {w:World} {base g n cap o:Nat} {G:List Mn} (h:OF w base (.slice (some ⟨g,0,none⟩) n cap) G) (hn:n=G.length):w.frozen? ⟨g,o,none⟩=false:=by subst hn;exact zci h.row
theorem OF.kb {w:World} {base:Nat} {v:Value} {G:List Mn} (h:OF w base v G) {m:Mn} (hm:m∈G) {k:Nat} (hk:w.heap.size<=k):kB m≠some k/\aB m≠some k :=
 ⟨fun e=>by have:=(h.lst m hm).ki.lt k e;omega,fun e=>by have:=(h.lst m hm).at_.lt k e;omega⟩
theorem OpAt.chg {w w':World} {g g':Nat} {G G':List Mn} {k:Nat} {o:Ops.Po} (h:OpAt w k o) (hc:Chg w w' g G g' G') (hk:¬ Own g G k):OpAt w' k o:=(hc.keep k (lt_of_block h) hk).trans h
theorem zpw (o:Ops.Po) (i:Nat) (hi:o.id=i) (l:List Int):(l.filter fun x=>!isId o x)=l.filter fun k=>decide (k≠(i:Int)):=by
 refine List.filter_congr (fun x _=>?_);unfold isId;rw [hi]
 by_cases h:x=(i:Int)<;>simp [h]
theorem zg3 (base g cap:Nat) (G:List Mn) (o:Ops.Po) (w:World) (h:OF w base (.slice (some ⟨g,0,none⟩) G.length cap) G) (hn:G.length<=1000) (hks:∀ m∈G,m.kids.length<=1000) (i p:Nat) (hi:o.id=i) (hil:i<G.length) (hp:par G i=(p:Int)) (hpl:p<G.length) :
 Calls Tryz.prog 93 #[.slice (some ⟨g,0,none⟩) G.length cap,Ops.opv o] w fun e w'=>e = .returned (.slice (some ⟨g,0,none⟩) G.length cap) /\
  ∃ G',OF w' base (.slice (some ⟨g,0,none⟩) G.length cap) G'/\G'.map core=(remP G i).map core/\Chg w w' g G g G':=by
 have hsame:(G[p].kids.filter fun x=>!isId o x)=(kidsOf G (par G i).toNat).filter fun k=>decide (k≠(i:Int)):=by
  rw [zpw o i hi,hp,Int.toNat_natCast,zae hpl]
 obtain ⟨kd,id,dst,ps,nm0,tx⟩:=o;unfold Ops.opv;simp only [] at hi ⊢;subst hi;obtain ⟨W,hW⟩:∃ W,W=w.alloc (.cells #[.int .i64 kd,.int .i64 i,.int .i64 dst,.int .i64 ps,.string nm0,.string tx] 59):=⟨_,rfl⟩;have HOp:Hid (OpAt W w.heap.size ⟨kd,i,dst,ps,nm0,tx⟩):=Hq (by rw [hW];exact heap_alloc_new _ _);have HC0:Hid (Chg w W g G g G):=Hq (by rw [hW];exact Chg.alloc _ _ _ _);have HO:=Hq (h.below (by rw [hW];exact Bq _ _:Below w.heap.size w W));have hno:¬ Own g G w.heap.size:=fun e=>by have:=h.own e;omega
 have HNO:=Hq hno;have hkbn:=(h.kb (List.getElem_mem hpl) (Nat.le_refl w.heap.size)).1;obtain ⟨kb,hkb⟩:∃ k,k=w.heap.size:=⟨_,rfl⟩;rw [<- hkb] at HOp HNO hkbn;have hgl:¬ kb=g:=fun e=>HNO.out (.inl e)
 have HP:Hid (par G i=(p:Int)):=Hq hp;obtain ⟨x0,x1,x2,x3,x4,x5⟩:=block6 HOp.out;have y4:=(HO.out.c6 rfl hil).c4;have y5:=(HO.out.c6 rfl hpl).c5;rw [<- zby hil,hp] at y4;have HD:=Hq (zn8 kb ⟨kd,i,dst,ps,nm0,tx⟩ base G[p].kids (.slice G[p].kA G[p].kids.length G[p].kC) W HOp.out (HO.out.lst _ (List.getElem_mem hpl)).ki (hks _ (List.getElem_mem hpl)) hkbn);have k0:(0:Int)<=(i:Int):=by omega
 have k1:(i:Int)<(G.length:Int):=by omega
 have k2:(0:Int)<=(p:Int):=by omega
 have k3:(p:Int)<(G.length:Int):=by omega
 obtain ⟨l',hl'⟩:∃ l,(G[p].kids.filter fun x=>!isId ⟨kd,i,dst,ps,nm0,tx⟩ x)=l:=⟨_,rfl⟩;have h64:∀ x∈l',I64 x:=fun x hx=>by
  rw [<- hl'] at hx;exact (h.fit _ (List.getElem_mem hpl)).ks64 x (List.mem_filter.1 hx).1
 have H64:=Hq h64;have HSM:Hid (l'=(kidsOf G (par G i).toNat).filter fun k=>decide (k≠(i:Int))):=Hq (by rw [<- hl'];exact hsame);rw [hl'] at HD;obtain ⟨n,hnn⟩:∃ n,G.length=n:=⟨_,rfl⟩;have HNN:=Hq hnn;rw [hnn] at k1 k3 hn ⊢;have HB:Hid (kB G[p]=(Value.slice G[p].kA G[p].kids.length G[p].kC).ownBlock):=Hq rfl;generalize (G[p]).kids.length=kn at *;generalize (G[p]).kC=kc at *;generalize (G[p]).kA=kA at *;clear h hno hsame hp hl' hnn h64 hkbn;go_enter Tryz.func93,Tryz.ntmps93;go_upto_region 1 with fail
 rw [<- hW,<- hkb];clear hW hkb;go_wp2_with fail;refine HD.out.mono ?_;rintro e V ⟨v',rfl,hrow,hgr,hob⟩;obtain ⟨pk,ck,rfl,-,-,-⟩:=zh hrow;have HK:=Hq (OF.kids (V:=V) (p:=pk) (c:=ck) (l:=l') HO.out hpl (by rw [HB.out];exact hgr) hrow (.inl (by rw [HB.out];exact hob)) H64.out);have hV5:∃ u,V.cell? ⟨g,p*6+5,none⟩=some u:=by
  have:=zt HO.out.row (HO.out.lst _ (List.getElem_mem hpl)).ki (by decide) (by rw [<- HB.out] at hgr;exact hgr);exact ⟨_,(zbk this hpl).c5⟩
 obtain ⟨old5,z5⟩:=hV5;have fz5:V.frozen? ⟨g,p*6+5,none⟩=false:=by
  have:=zt HO.out.row (HO.out.lst _ (List.getElem_mem hpl)).ki (by decide) (by rw [<- HB.out] at hgr;exact hgr);exact zci this
 obtain ⟨S,hS⟩:∃ S,S=V.setCell ⟨g,p*6+5,none⟩ (.slice pk l'.length ck):=⟨_,rfl⟩;rw [<- hS] at HK;have HOS:Hid (OpAt S kb ⟨kd,i,dst,ps,nm0,tx⟩):=Hq (HOp.out.chg HK.out.2 HNO.out);have hl2:(setKd p l' pk ck G).length=G.length:=by simp [setKd]
 have HL2:=Hq hl2;have hil2:i<(setKd p l' pk ck G).length:=by rw [hl2];exact hil
 obtain ⟨old4,z4⟩:∃ u,S.cell? ⟨g,i*6+4,none⟩=some u:=⟨_,(HK.out.1.c6 HL2.out.symm hil2).c4⟩;have fz4:S.frozen? ⟨g,i*6+4,none⟩=false:=HK.out.1.fz HL2.out.symm;clear hrow hgr hob x0 x1 x2 x3 x4 x5 y4 y5 hl2;obtain ⟨x0,x1,x2,x3,x4,x5⟩:=block6 HOS.out;go_upto_region 3 with fail
 rw [<- hS];clear hS z5 fz5;go_wp2;go_ret;have hO:=HK.out.1;rw [HNN.out,<- HNN.out,<- HL2.out] at hO;have HM:=OF.mod (f:=fun m=>{ m with parent:=-1 }) (d:=4) (u:=.int .i64 (-1)) hO hil2 (by omega) rfl (fun m=>⟨rfl,rfl,rfl,rfl,rfl,rfl⟩) (hO.fit _ (List.getElem_mem hil2)).k64 (by simp [I64]);refine ⟨rfl,(setKd p l' pk ck G).modify i fun m=>{ m with parent:=-1 },?_,?_,?_⟩
 · have e:((setKd p l' pk ck G).modify i fun m=>{ m with parent:=-1 }).length=n:=by rw [List.length_modify,HL2.out,HNN.out]
   rw [e] at HM;exact HM
 · have e1:((setKd p l' pk ck G).modify i fun m=>{ m with parent:=-1 })=setPar (setKd p l' pk ck G) i (-1):=rfl;rw [e1,za8,ze5,zhl];unfold remP;rw [zb5,zax,HSM.out,HP.out,Int.toNat_natCast]
 · exact (HC0.out.trans HK.out.2).trans (Chg.store (zar _ none) (fun k e=>by cases e) _ _ (fun k hk=>.inl (zc0 (f:=fun m=>{ m with parent:=-1 }) (fun m=>⟨rfl,rfl⟩) hk)))
end Go.Proofs.YtdmecdjfbpblgaaGreatDoor
