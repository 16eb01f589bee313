/-
  A loop over an iterator that keeps cells of its own, laid when it begins: the iterator's contract (Tells), and the law of the loop.
-/
import Derived.Test.YtcndplnnighjkaaGreatDoorPG01
import Derived.Test.YtcndplnnighjkaaGreatDoorPG25
import Derived.RangeFuncNested
import Derived.RangeFuncBound
import Derived.RangeFuncCalls
import Derived.RangeFuncLeaves
import Derived.RangeFuncBox
import Derived.Shelf.Abstract
import Derived.OwnWalkIn
import Derived.TacticsInMore
import Derived.LoopNIn
import Derived.LoopIn
import Derived.Maps.OwnIn
import Derived.Maps.AppendAt
namespace Go.Proofs.YtcndplnnighjkaaGreatDoor
open Go Go.RowKit
set_option linter.unusedVariables false
theorem round_any {m m' : Nat} {P : Program} {l : Nat} {f : FuncId} {tmps : Array Value} {assign body : Code} {w : World} {R : Ending -> World -> Prop} (h : RoundIn Fence.wide m P l f tmps assign body w R) : RoundIn Fence.wide m' P l f tmps assign body w R :=
 ⟨h.1, fun c cs _ => h.2 c cs (room_wide _)⟩
def Tells (P : Program) (gf : Nat) (lb : Array Value) (ys : List Nat) (Kp : World -> World -> Prop) (w0 : World) : Prop :=
 ∀ (n l : Nat) (J Jx : List Nat -> World -> Prop) (W : World), Below w0.heap.size w0 W -> (∀ W', Below W.heap.size W W' -> J [] W') ->
  (∀ m pre x W1, J pre W1 -> pre ++ [x] <+: ys -> YieldAt Fence.wide m P l #[.int .i64 (x : Nat)] W1 fun e W' =>
    (e = .returned (.bool true) /\ J (pre ++ [x]) W' /\ Kp W1 W') \/ (e = .returned (.bool false) /\ Jx (pre ++ [x]) W')) ->
  CallsIn Fence.wide n P gf (#[.func (.yield l) #[] #[]] ++ lb) W fun e W' => (∃ v, e = .returned v) /\ ((∃ xs, xs = ys /\ J xs W') \/ (∃ pre, pre <+: ys /\ Jx pre W'))
theorem wpIn_tells {P : Program} {n : Nat} {g : Operand} {p : Tmp} {assign body : Code} {Q : Exit -> Act -> World -> Prop} {a : Act} {w : World} {gf : Nat} {lb : Array Value}
 (hg : a.eval g = .func (.func gf) #[] lb) (eg : ∀ args w, (callFunc gf args).run P w = .ok (.enter gf args) w) {ys : List Nat} {Kp : World -> World -> Prop} {w0 : World} (hseq : Tells P gf lb ys Kp w0)
 (hKt : ∀ {A B C : World}, Kp A B -> Kp B C -> Kp A C) (hKb : ∀ (W : World) (l : Nat) (o o' : Obj), w.heap.size <= l -> W.heap[l]? = some o -> o.isCells = false -> o.isWalk = false -> Kp W (W.putObj l o')) (hb0 : Below w0.heap.size w0 w)
 (I : List Nat -> World -> Prop) (Ix : Code -> List Nat -> World -> Prop) (hI : OwnFrom w.heap.size I) (hIx : ∀ c, OwnFrom w.heap.size (Ix c)) (h0 : ∀ W', Below w.heap.size w W' -> I [] W') (a₁ : Nat -> Act)
 (hassign : ∀ (l x : Nat) (W : World) (K : Act -> World -> Prop), K (a₁ x) W ->
   assign.wpIn (Fence.wide.inRound l) n P (Exit.then K (fun _ _ _ => False)) { tmps := ((#[p] : Array Tmp).zip #[Value.int .i64 (x : Nat)]).foldl (fun t (q, v) => t.setIfInBounds q v) a.tmps, defers := [] } W)
 (hbody : ∀ (l : Nat) (pre : List Nat) (x : Nat) (W : World), I pre W -> pre ++ [x] <+: ys -> body.wpIn (Fence.wide.inRound l) n P (ownPostG w.heap.size Kp I Ix (pre ++ [x]) W) (a₁ x) W)
 (hdone : ∀ (D : Nat) (W : World), w.heap.size <= D -> I ys W -> W.heap[D]? = some (.deferred (some [])) -> Q .normal { a with defers := { target := .collected D, args := #[] } :: a.defers } W)
 (hstop : ∀ (D : Nat) (c : Code) (pre : List Nat) (W : World), w.heap.size <= D -> pre <+: ys -> Ix c pre W -> W.heap[D]? = some (.deferred (some [])) -> c.wpIn Fence.wide n P Q { a with defers := { target := .collected D, args := #[] } :: a.defers } W) :
 (Code.rangeFunc g #[p] assign body).wpIn Fence.wide n P Q a w := by
 refine wpIn_rangeFunc fun fn hfn => ?_
 obtain ⟨rec, hrec⟩ : ∃ rec : LoopState -> Option Code -> Loop, rec = fun st pe => { state := st, pending := pe, fn, tmps := a.tmps, params := #[p], assign, body, defers := w.heap.size } := ⟨_, rfl⟩
 obtain ⟨s, hs⟩ : ∃ s, w.heap.size = s := ⟨_, rfl⟩
 obtain ⟨W1, hW1⟩ : ∃ W1, (w.alloc (.deferred (some []))).alloc (.loop (rec .ready none)) = W1 := ⟨_, rfl⟩
 have hsz : W1.heap.size = s + 2 := by rw [<- hW1, <- hs]; simp
 have hL1 : W1.heap[s + 1]? = some (.loop (rec .ready none)) := by
  rw [<- hW1, <- hs]
  have := World.alloc_heap_new (w.alloc (.deferred (some []))) (.loop (rec .ready none))
  rwa [World.size_alloc] at this
 have hK1 : W1.heap[s]? = some (.deferred (some [])) := by
  rw [<- hW1, <- hs]
  exact (Below.heap_alloc _ _ _ (by simp)).trans (World.alloc_heap_new w _)
 have hwb : Below w.heap.size w W1 := by
  rw [<- hW1]
  exact ((Below.refl _ w).alloc (Nat.le_refl _) _).alloc (by simp) _
 have hb1 : Below w0.heap.size w0 W1 := hb0.trans (hwb.mono hb0.size)
 have henter : (Instr.enterLoop fn a.tmps #[p] assign body Fence.wide.round).run P w = .ok (s + 1, [{ target := .collected s, args := #[] }]) W1 := by
  rw [<- hW1, hrec, <- hs]
  exact run_enterLoop_outer _ _ _ _ _
 refine ⟨s + 1, _, W1, { target := .fn (.func gf) lb, args := #[.func (.yield (s + 1)) #[] #[]] }, W1, gf, #[.func (.yield (s + 1)) #[] #[]] ++ lb, W1, henter, ?_, fun _ _ => trivial, ?_, fun h => (by cases h), ?_⟩
 · simp only [resolve, hg]
   simp [go_sem]
 · simp [invoke, go_sem, eg]
 refine (hseq (n - 1) (s + 1) (fun pre W => I pre W /\ W.heap[s + 1]? = some (.loop (rec .ready none)) /\ W.heap[s]? = some (.deferred (some [])))
  (fun pre W => ∃ c, Ix c pre W /\ W.heap[s + 1]? = some (.loop (rec .done (some c))) /\ W.heap[s]? = some (.deferred (some []))) W1 hb1
  (fun W' hb => ⟨h0 W' (hwb.trans (hb.mono (by omega))), (hb.block (s + 1) (by omega)).trans hL1, (hb.block s (by omega)).trans hK1⟩) ?_).mono ?_
 · rintro m pre x W ⟨hi, hl, hk⟩ hlen
   have hlt : s + 1 < W.heap.size := (Array.getElem?_eq_some_iff.1 hl).1
   have hy := run_yield (P := P) (args := #[.int .i64 (x : Nat)]) hl (by rw [hrec]; rfl)
   rw [hrec] at hy
   refine ⟨fn, _, assign, body, hy, round_any (roundIn_of_wpIn (n := n) hfn (hassign _ x W _ ?_))⟩
   clear hy
   obtain ⟨V, hV⟩ : ∃ V, W.putObj (s + 1) (.loop { rec .ready none with state := .busy }) = V := ⟨_, rfl⟩
   have hl2 : V.heap[s + 1]? = some (.loop { rec .ready none with state := .busy }) := by rw [<- hV]; exact World.putObj_heap_same hlt
   have hk2 : V.heap[s]? = some (.deferred (some [])) := by rw [<- hV]; exact (World.putObj_heap_other (by omega)).trans hk
   have hKV : Kp W V := by rw [<- hV]; exact hKb _ _ _ _ (by omega) hl rfl rfl
   have hIV : I pre V := by rw [<- hV]; exact hI.putObj _ hi (by omega) hl rfl
   refine ⟨V, by rw [<- hV]; exact run_beginRound hl (by rw [hrec]), ?_⟩
   clear hV
   refine wpIn_mono (hbody _ pre x V hIV hlen) ?_
   have fin : ∀ (jump : Option Code) (U : World), KeepsFrom w.heap.size V U ->
    (Instr.endRound (s + 1) jump).run P U = .ok (.bool jump.isNone) (U.putObj (s + 1) (.loop (rec (if jump.isNone then .ready else .done) jump))) /\
    U.heap[s + 1]? = some (.loop { rec .ready none with state := .busy }) /\
    (U.putObj (s + 1) (.loop (rec (if jump.isNone then .ready else .done) jump))).heap[s + 1]? = some (.loop (rec (if jump.isNone then .ready else .done) jump)) /\
    (U.putObj (s + 1) (.loop (rec (if jump.isNone then .ready else .done) jump))).heap[s]? = some (.deferred (some [])) := fun jump U hkU => by
    have hlU := hkU.same _ _ (by omega) hl2 rfl
    have hr := run_endRound (P := P) jump hlU
    rw [hrec] at hr ⊢
    exact ⟨hr, by rw [hrec] at hlU; exact hlU, World.putObj_heap_same (Array.getElem?_eq_some_iff.1 hlU).1, (World.putObj_heap_other (by omega)).trans (hkU.same _ _ (by omega) hk2 rfl)⟩
   have out : ∀ (c : Code) (U : World), KeepsFrom w.heap.size V U -> Ix c (pre ++ [x]) U -> ∃ v U', (Instr.endRound (s + 1) (some c)).run P U = .ok v U' /\
    ((Ending.returned v = .returned (.bool true) /\ (I (pre ++ [x]) U' /\ U'.heap[s + 1]? = some (.loop (rec .ready none)) /\ U'.heap[s]? = some (.deferred (some []))) /\ Kp W U') \/
    (Ending.returned v = .returned (.bool false) /\ ∃ c, Ix c (pre ++ [x]) U' /\ U'.heap[s + 1]? = some (.loop (rec .done (some c))) /\ U'.heap[s]? = some (.deferred (some [])))) := fun c U hkU hix => by
    obtain ⟨hr, hl3, hl4, hk4⟩ := fin (some c) U hkU
    exact ⟨_, _, hr, .inr ⟨rfl, c, (hIx c).putObj _ hix (by omega) hl3 rfl, hl4, hk4⟩⟩
   rintro e a3 U hp
   cases e with
   | normal =>
     obtain ⟨hkU, hkp, hiU⟩ := hp
     obtain ⟨hr, hl3, hl4, hk4⟩ := fin none U hkU
     exact ⟨_, _, hr, .inl ⟨rfl, ⟨hI.putObj _ hiU (by omega) hl3 rfl, hl4, hk4⟩, hKt hKV (hKt hkp (hKb _ _ _ _ (by omega) hl3 rfl rfl))⟩⟩
   | ret => exact out .ret U hp.1 hp.2
   | exit id => exact out (.exit id) U hp.1 hp.2
   | goto t => exact out (.goto t) U hp.1 hp.2
   | panic ch => exact hp.elim
   | outgrown => exact hp.elim
 · rintro e U ⟨⟨v, rfl⟩, (⟨xs, rfl, hi, hl, hk⟩ | ⟨pre, hpre, c, hi, hl, hk⟩)⟩
   · have hr := run_endLoop (P := P) hl (by rw [hrec]; simp)
     rw [hrec] at hr hl
     exact ⟨none, _, hr, hdone _ _ (by omega) (hI.putObj _ hi (by omega) hl rfl) ((World.putObj_heap_other (by omega)).trans hk)⟩
   · have hr := run_endLoop (P := P) hl (by rw [hrec]; simp)
     rw [hrec] at hr hl
     exact ⟨some c, _, hr, hstop _ c pre _ (by omega) hpre ((hIx c).putObj _ hi (by omega) hl rfl) ((World.putObj_heap_other (by omega)).trans hk)⟩
end Go.Proofs.YtcndplnnighjkaaGreatDoor
namespace Go.Proofs.YtcndplnnighjkaaGreatDoor
open Go.ChangeShapes Go.WideShapes Go.ChangeAt Go.RowKit
set_option linter.unusedVariables false
set_option linter.unusedSimpArgs false
attribute [local go_sem] Oper.semAt_some
def Kept (t : TypeId) (W W' : World) : Prop := ∀ (k : Nat) (cs : Array Value), W.heap[k]? = some (.cells cs t (0, 0)) -> W'.heap[k]? = some (.cells cs t (0, 0))
structure Kpo (n0 : Nat) (W W' : World) : Prop where
 bel : Below n0 W W'
 fn : Kept 83 W W'
 fo : Kept 26 W W'
theorem Kpo.refl (n0 : Nat) (W : World) : Kpo n0 W W := ⟨Below.refl _ _, fun _ _ h => h, fun _ _ h => h⟩
theorem Kpo.trans {n0 : Nat} {A B C : World} (h : Kpo n0 A B) (k : Kpo n0 B C) : Kpo n0 A C := ⟨h.bel.trans k.bel, fun _ _ x => k.fn _ _ (h.fn _ _ x), fun _ _ x => k.fo _ _ (h.fo _ _ x)⟩
theorem Kpo.put {n0 : Nat} {w : World} (hn : n0 <= w.heap.size) (W : World) (l : Nat) (o o' : Obj) (hl : w.heap.size <= l) (h : W.heap[l]? = some o) (hc : o.isCells = false) (hw : o.isWalk = false) : Kpo n0 W (W.putObj l o') := by
 have ne : ∀ (k : Nat) (cs : Array Value) (t : TypeId), W.heap[k]? = some (.cells cs t (0, 0)) -> k ≠ l := fun k cs t hk e => by
  subst e
  rw [h] at hk
  cases hk
  cases hc
 exact ⟨belowK_b hn W l o o' hl h hc hw, fun k cs hk => (World.putObj_heap_other (ne k cs _ hk)).trans hk, fun k cs hk => (World.putObj_heap_other (ne k cs _ hk)).trans hk⟩
theorem Kpo.below {n0 : Nat} {W W' : World} (h : Below W.heap.size W W') (hn : n0 <= W.heap.size) : Kpo n0 W W' :=
 ⟨h.mono hn, fun k cs hk => (h.block k (lt_of_block hk)).trans hk, fun k cs hk => (h.block k (lt_of_block hk)).trans hk⟩
def otellF (ky kf kt : Nat) : Value := .func (.func 109) #[] #[.pointer (some ⟨ky, 0, none⟩), .pointer (some ⟨kf, 0, none⟩), .pointer (some ⟨kt, 0, none⟩)]
structure Cto (w0 : World) (A : Option Addr) (n c ky kf kt l : Nat) (w : World) : Prop where
 bel : Below w0.heap.size w0 w
 y : w.heap[ky]? = some (.cells #[.func (.yield l) #[] #[]] 83 (0, 0))
 f : w.heap[kf]? = some (.cells #[.slice A n c] 26 (0, 0))
 t : w.heap[kt]? = some (.cells #[otellF ky kf kt] 83 (0, 0))
theorem Cto.step {w0 w w' : World} {A : Option Addr} {n c ky kf kt l : Nat} (h : Cto w0 A n c ky kf kt l w) (k : Kpo w0.heap.size w w') : Cto w0 A n c ky kf kt l w' :=
 ⟨h.bel.trans k.bel, k.fn _ _ h.y, k.fo _ _ h.f, k.fn _ _ h.t⟩
theorem flatN_take {α : Type} (P : α -> List Nat) (l : List α) (j : Nat) : (l.take j).flatMap P <+: l.flatMap P := by
 have : l.flatMap P = (l.take j).flatMap P ++ (l.drop j).flatMap P := by rw [<- List.flatMap_append, List.take_append_drop]
 exact ⟨_, this.symm⟩
set_option maxRecDepth 100000 in
set_option maxHeartbeats 8000000 in
theorem otell_in (w0 : World) (A : Option Addr) (F : List Mn) (c ky kf kt l : Nat) (ys : List Nat) (hF : FR w0 A F) (hz : Sz2 F) (J Jx : List Nat -> World -> Prop)
 (hY : ∀ m pre x W, J pre W -> pre ++ [x] <+: ys -> YieldAt Fence.wide m Tryz.prog l #[.int .i64 (x : Nat)] W fun e W' => (e = .returned (.bool true) /\ J (pre ++ [x]) W' /\ Kpo w0.heap.size W W') \/ (e = .returned (.bool false) /\ Jx (pre ++ [x]) W')) :
 ∀ (f i : Nat) (pre : List Nat) (n : Nat) (w : World), Dp F f i -> Cto w0 A F.length c ky kf kt l w -> J pre w -> pre ++ vis F f i <+: ys ->
  CallsIn Fence.wide n Tryz.prog 109 #[.int .i64 i, .pointer (some ⟨ky, 0, none⟩), .pointer (some ⟨kf, 0, none⟩), .pointer (some ⟨kt, 0, none⟩)] w fun e w' => (e = .returned (.bool true) /\ J (pre ++ vis F f i) w' /\ Kpo w0.heap.size w w') \/ (e = .returned (.bool false) /\ ∃ q, q <+: vis F f i /\ Jx (pre ++ q) w') := by
 have HF := Lib.hid hF
 have HZ := Lib.hid hz
 have HY := Lib.hid hY
 clear hF hz hY
 intro f
 induction f with
 | zero => intro i pre n w hd; exact absurd hd (by simp [Dp])
 | succ f ih =>
   intro i pre n w hd hctx hJ hlen
   obtain ⟨hiF, hkd⟩ := hd
   have HIH := Lib.hid ih
   have HKD := Lib.hid hkd
   rw [kidsOf_at hiF] at HKD
   have HC := Lib.hid hctx
   have hkl := HZ.out.kids F[i] (List.getElem_mem _)
   have hnl := HZ.out.len
   have HV : Hid (vis F (f + 1) i = i :: F[i].kids.flatMap (fun k => vis F f k.toNat)) := Lib.hid (by rw [vis, kidsOf_at hiF])
   obtain ⟨fn, tmps, assign, body, hy, hR⟩ := HY.out n pre i w hJ (by
    obtain ⟨t, ht⟩ := hlen
    exact ⟨F[i].kids.flatMap (fun k => vis F f k.toNat) ++ t, by rw [<- ht, HV.out]; simp⟩)
   have HR := Lib.hid hR
   have HFk : Hid (∀ W', Below w0.heap.size w0 W' -> ∃ g off, A = some ⟨g, off, none⟩ /\ g < W'.heap.size /\ W'.cell? ⟨g, off + i * 6 + 5, none⟩ = some (.slice F[i].kA F[i].kids.length F[i].kC) /\ IR W' F[i].kA F[i].kids) := Lib.hid (fun W' hb => by
    obtain ⟨-, g, off, hA, hg, hn⟩ := HF.out.below hb i F[i] (List.getElem?_eq_getElem hiF)
    exact ⟨g, off, hA, hg, hn.c5, hn.ir⟩)
   have HIr : Hid (∀ W', Below w0.heap.size w0 W' -> IR W' F[i].kA F[i].kids) := Lib.hid (fun W' hb => by
    obtain ⟨-, g, off, hA, hg, hn⟩ := HF.out.below hb i F[i] (List.getElem?_eq_getElem hiF)
    exact hn.ir)
   have i0 : (0 : Int) <= (i : Int) := by omega
   have i1 : (i : Int) < (F.length : Int) := by omega
   have x0 := block1 HC.out.y
   clear ih hkd hctx hR hJ
   generalize vis F (f + 1) i = PR at *
   generalize F[i] = m at *
   generalize F.length = nF at *
   obtain ⟨kl, hkle⟩ : ∃ kl, m.kids.length = kl := ⟨_, rfl⟩
   have HKL := Lib.hid hkle
   rw [hkle] at HFk hkl
   clear hkle
   generalize m.kids = kids at *
   generalize m.kA = kA at *
   generalize m.kC = kC at *
   refine callsIn_of_wp Tryz.func109 rfl trivial ?_ rfl
   simp only [Tryz.ntmps109, List.size_toArray, List.length_cons, List.length_nil, Nat.reduceAdd, Nat.reduceSub, Array.replicate_succ, Array.replicate_zero, List.push_toArray, List.append_toArray, List.nil_append, List.cons_append]
   gi_wp2
   refine ⟨fun h => (by cases h), (round_any HR.out).mono ?_⟩
   rintro e w1 (⟨rfl, hJ1, hk1⟩ | ⟨rfl, hJx1⟩)
   · have HJ1 := Lib.hid hJ1
     have HK1 := Lib.hid hk1
     have HC1 := Lib.hid (HC.out.step hk1)
     clear hJ1 hk1 x0 hy
     have x1 := block1 HC1.out.f
     obtain ⟨g, off, rfl, hg, c5, -⟩ := HFk.out w1 HC1.out.bel
     have HS0 : Hid (J (pre ++ (i :: (kids.take 0).flatMap (fun k => vis F f k.toNat))) w1) := Lib.hid (by simpa using HJ1.out)
     gi_wp2
     gi_loopw [18] (fun q wr => ∃ j : Nat, j <= kl /\ q = .int .i64 j /\ Hid (J (pre ++ (i :: (kids.take j).flatMap (fun k => vis F f k.toNat))) wr) /\ Hid (Kpo w0.heap.size w wr) /\ Hid (Cto w0 (some ⟨g, off, none⟩) nF c ky kf kt l wr)) (fun q _ => kl - (intOf q).toNat)
     case atStart => exact ⟨0, Nat.zero_le _, rfl, HS0, HK1, HC1⟩
     case round =>
      obtain ⟨j, hj, rfl, HJj, HKj, HCj⟩ := hrel
      by_cases hlt : j < kl
      · have k0 : (0 : Int) <= (j : Int) := by omega
        have k1 : (j : Int) < (kl : Int) := by omega
        have hjl : j < kids.length := by rw [HKL.out]; exact hlt
        have hir := HIr.out wr HCj.out.bel
        obtain ⟨gk, ok, hAk, hgk, hck⟩ := hir j hjl
        obtain ⟨hy0, hyd⟩ := HKD.out (kids.getD j 0) (by rw [getD_at 0 hjl]; exact List.getElem_mem _)
        have HT2 : Hid ((kids.take (j + 1)).flatMap (fun k => vis F f k.toNat) = (kids.take j).flatMap (fun k => vis F f k.toNat) ++ vis F f (kids.getD j 0).toNat) := Lib.hid (by rw [take_more hjl, List.flatMap_append, getD_at 0 hjl]; simp)
        have HPx := Lib.hid (flatN_take (fun k : Int => vis F f k.toNat) kids (j + 1))
        generalize kids.getD j 0 = y at *
        obtain ⟨k, rfl⟩ := Int.eq_ofNat_of_zero_le hy0
        rw [Int.toNat_natCast] at HT2 hyd
        have HCl := Lib.hid (HIH.out k _ (n - 1) wr hyd HCj.out HJj.out (by
         obtain ⟨t, ht⟩ := hlen
         obtain ⟨u, hu⟩ := HPx.out
         rw [HT2.out] at hu
         exact ⟨u ++ t, by rw [<- ht, HV.out, <- hu]; simp⟩))
        have y1 := block1 HCj.out.t
        unfold otellF at y1
        subst hAk
        clear hyd hir
        gi_wp2
        refine ⟨trivial, fun h => (by cases h), HCl.out.mono ?_⟩
        rintro e w5 (⟨rfl, hJ5, hk5⟩ | ⟨rfl, q, hq, hx5⟩)
        · have HJ5 : Hid (J (pre ++ (i :: (kids.take (j + 1)).flatMap (fun k => vis F f k.toNat))) w5) := Lib.hid (by rw [HT2.out, <- List.cons_append, <- List.append_assoc]; exact hJ5)
          have HK5 := Lib.hid (HKj.out.trans hk5)
          have HC5 := Lib.hid (HCj.out.step hk5)
          clear hJ5 hk5
          gi_wp2
          go_roundw
          case rel => exact ⟨j + 1, by omega, by go_num, HJ5, HK5, HC5⟩
          case measure => simp [intOf] <;> omega
        · have HX5 : Hid (∃ q, q <+: PR /\ Jx (pre ++ q) w5) := Lib.hid (by
           refine ⟨(i :: (kids.take j).flatMap (fun k => vis F f k.toNat)) ++ q, ?_, by rw [<- List.append_assoc]; exact hx5⟩
           obtain ⟨t, ht⟩ := hq
           obtain ⟨u, hu⟩ := HPx.out
           rw [HT2.out, <- ht] at hu
           exact ⟨t ++ u, by rw [HV.out, <- hu]; simp⟩)
          clear hq hx5
          gi_wp2
          go_ret
          exact .inr ⟨rfl, HX5.out⟩
      · obtain rfl : j = kl := by omega
        have et : kids.take j = kids := List.take_of_length_le (by rw [HKL.out]; exact Nat.le_refl _)
        rw [et, <- HV.out] at HJj
        gi_wp2
        go_ret
        exact .inl ⟨rfl, HJj.out, HKj.out⟩
   · gi_wp2
     go_ret
     exact .inr ⟨rfl, [i], by rw [HV.out]; exact ⟨_, rfl⟩, hJx1⟩
end Go.Proofs.YtcndplnnighjkaaGreatDoor
namespace Go.Proofs.YtcndplnnighjkaaGreatDoor
open Go.ChangeShapes Go.WideShapes Go.ChangeAt Go.RowKit
set_option linter.unusedVariables false
set_option linter.unusedSimpArgs false
attribute [local go_sem] Oper.semAt_some
def orderF (kf ki : Nat) : Array Value := #[.pointer (some ⟨kf, 0, none⟩), .pointer (some ⟨ki, 0, none⟩)]
set_option maxRecDepth 100000 in
set_option maxHeartbeats 2000000 in
theorem order1_tells (w0 wb : World) (A : Option Addr) (F : List Mn) (c kf ki i : Nat) (hF : FR w0 A F) (hz : Sz2 F) (hm : mayB F = true) (hi : i < F.length) (hb : Below w0.heap.size w0 wb)
 (hf : wb.heap[kf]? = some (.cells #[.slice A F.length c] 26 (0, 0))) (hid : wb.heap[ki]? = some (.cells #[.int .i64 i] 3 (0, 0))) :
 Tells Tryz.prog 108 (orderF kf ki) (ord F i) (Kpo w0.heap.size) wb := by
 intro n l J Jx w hw hJ hY
 have HO := Lib.hid (fun (ky kt : Nat) (W : World) (hC : Cto w0 A F.length c ky kf kt l W) (hJW : J [] W) => otell_in w0 A F c ky kf kt l (ord F i) hF hz J Jx hY F.length i [] (n - 1) W (dp_all hm hi) hC hJW (List.prefix_refl _))
 have HJ := Lib.hid hJ
 have HB := Lib.hid (hb.trans (hw.mono hb.size))
 have x0 := block1 ((hw.block kf (lt_of_block hf)).trans hf)
 have x1 := block1 ((hw.block ki (lt_of_block hid)).trans hid)
 have HX := Lib.hid ((hw.block kf (lt_of_block hf)).trans hf)
 have hl1 : kf < w.heap.size := lt_of_block HX.out
 have hl2 : ki < w.heap.size := lt_of_block ((hw.block ki (lt_of_block hid)).trans hid)
 clear hJ hY hw hf hid hb hF hm hi hz
 have HE : Hid (vis F F.length i = ord F i) := Lib.hid rfl
 generalize F.length = nF at *
 unfold orderF
 refine callsIn_of_wp Tryz.func108 rfl trivial ?_ rfl
 simp only [Tryz.ntmps108, List.size_toArray, List.length_cons, List.length_nil, Nat.reduceAdd, Nat.reduceSub, Array.replicate_succ, Array.replicate_zero, List.push_toArray, List.append_toArray, List.nil_append, List.cons_append]
 gi_wp2
 refine ⟨trivial, fun h => (by cases h), ?_⟩
 obtain ⟨V1, hV1⟩ : ∃ V1, V1 = w.alloc (.cells #[.func (.yield l) #[] #[]] 83) := ⟨_, rfl⟩
 have h1 : V1.heap[w.heap.size]? = some (.cells #[.func (.yield l) #[] #[]] 83 (0, 0)) := by rw [hV1]; exact heap_alloc_new _ _
 have hb1 : Below w.heap.size w V1 := by rw [hV1]; exact (Below.refl _ _).alloc (Nat.le_refl _) _
 have hs1 : V1.heap.size = w.heap.size + 1 := by rw [hV1]; simp
 rw [<- hV1]
 obtain ⟨V, hV⟩ : ∃ V, V = V1.alloc (.cells #[otellF w.heap.size kf (w.heap.size + 1)] 83) := ⟨_, rfl⟩
 have h2 : V.heap[w.heap.size + 1]? = some (.cells #[otellF w.heap.size kf (w.heap.size + 1)] 83 (0, 0)) := by rw [hV, <- hs1]; exact heap_alloc_new _ _
 have hb2 : Below V1.heap.size V1 V := by rw [hV]; exact (Below.refl _ _).alloc (Nat.le_refl _) _
 have hbV : Below w.heap.size w V := hb1.trans (hb2.mono hb1.size)
 have hC : Cto w0 A nF c w.heap.size kf (w.heap.size + 1) l V := ⟨HB.out.trans (hbV.mono HB.out.size), (hb2.block w.heap.size (by omega)).trans h1, (hbV.block kf hl1).trans HX.out, h2⟩
 have HG := Lib.hid (HO.out w.heap.size (w.heap.size + 1) V hC (HJ.out V hbV))
 unfold otellF at hV
 rw [<- hV]
 refine HG.out.mono ?_
 rintro e w1 (⟨rfl, hJ1, hk1⟩ | ⟨rfl, q, hq, hx⟩)
 · gi_wp2
   go_end0
   rw [HE.out, List.nil_append] at hJ1
   exact ⟨⟨_, rfl⟩, .inl ⟨_, rfl, hJ1⟩⟩
 · gi_wp2
   go_end0
   rw [HE.out] at hq
   exact ⟨⟨_, rfl⟩, .inr ⟨q, hq, by simpa using hx⟩⟩
theorem order_any (A : Option Addr) (n c : Nat) (i : Int) (w : World) :
 Calls Tryz.prog 64 #[.slice A n c, .int .i64 i] w fun e w' => e = .returned (.func (.func 108) #[] (orderF w.heap.size (w.heap.size + 1))) /\
  w'.heap[w.heap.size]? = some (.cells #[.slice A n c] 26 (0, 0)) /\ w'.heap[w.heap.size + 1]? = some (.cells #[.int .i64 i] 3 (0, 0)) /\ Below w.heap.size w w' := by
 have hmf : ∀ (fn : Fn) (first cap : Array Value) (w : World), (Instr.makeFunc fn first cap).run Tryz.prog w = .ok (.func fn first cap) w := fun _ _ _ _ => rfl
 go_enter Tryz.func64, Tryz.ntmps64
 go_wp2
 go_ret
 have h1 := heap_alloc_new w (.cells #[.slice A n c] 26)
 have h2 := heap_alloc_new (w.alloc (.cells #[.slice A n c] 26)) (.cells #[.int .i64 i] 3)
 rw [World.size_alloc] at h2
 exact ⟨rfl, (Below.heap_alloc _ _ _ (by simp)).trans h1, h2, ((Below.refl _ _).alloc (Nat.le_refl _) _).alloc (by simp) _⟩
theorem kept_append {W w1 : World} {n₀ B : Nat} {t T e : TypeId} {size : Nat} {v : Value} {k : Nat} {xs : List Value} {tmp : Obj} (hv : Boxed W B T v) (hrow : W.ownsRow n₀ e size v k xs) (hgrow : (W.alloc tmp).grownBy w1 v.ownBlock) (h1 : t ≠ T) (h2 : t ≠ e) (v' : Value) :
 Kept t W (w1.setCell ⟨B, 0, none⟩ v') := fun q cs hq => by
 have hlt := lt_of_block hq
 have e1 : (W.alloc tmp).heap[q]? = some (.cells cs t (0, 0)) := (Below.heap_alloc _ _ _ hlt).trans hq
 have hne : v.ownBlock ≠ some q := by
  rcases hrow.2 with ⟨rfl, _⟩ | ⟨g, cap, cur, rfl, _, hgb, _⟩
  · simp [Value.ownBlock]
  · intro hh
    obtain rfl : g = q := by simpa [Value.ownBlock] using hh
    rw [hq] at hgb
    exact h2 (Obj.cells.inj (Option.some.inj hgb)).2.1
 have e2 := (hgrow.block q (by simp; omega) (fun hh => hne hh.symm)).trans e1
 have hB : q ≠ B := by
  intro hh
  subst hh
  have := hv
  unfold Boxed at this
  rw [hq] at this
  exact h1 (Obj.cells.inj (Option.some.inj this)).2.1
 exact (Below.heap_setCell _ _ _ _ hB).trans e2
def ivN (l : List Nat) : List Value := ivs (l.map Int.ofNat)
theorem ivN_snoc (l : List Nat) (x : Nat) : ivN (l ++ [x]) = ivN l ++ [.int .i64 (x : Nat)] := by simp [ivN, ivs]
set_option maxRecDepth 100000 in
set_option maxHeartbeats 4000000 in
theorem appendSeq_any (ys : List Nat) (hN : ys.length <= 1000) (kf ki n0 : Nat) (wb w : World) (hT : Tells Tryz.prog 108 (orderF kf ki) ys (Kpo n0) wb) (hb : Below wb.heap.size wb w) (hn : n0 <= w.heap.size) :
 Calls Tryz.prog 107 #[.slice none 0 0, .func (.func 108) #[] (orderF kf ki)] w fun e w' => ∃ v, e = .returned v /\ w'.ownsRow w.heap.size 3 1 v ys.length (ivN ys) /\ Below w.heap.size w w' := by
 refine (callsIn_wide (n := 3)).1 ?_
 refine callsIn_of_wp_marks Tryz.func107 rfl trivial ?_ rfl
 simp only [Tryz.ntmps107, List.size_toArray, List.length_cons, List.length_nil, Nat.reduceAdd, Nat.reduceSub, Array.replicate_succ, Array.replicate_zero, List.push_toArray, List.append_toArray, List.nil_append, List.cons_append]
 gi_wp2
 have b0 := Boxed.new w 28 (.slice none 0 0)
 have hB0 : Below w.heap.size w (w.alloc (.cells #[.slice none 0 0] 28)) := (Below.refl _ w).alloc (Nat.le_refl _) _
 have hsz : (w.alloc (.cells #[.slice none 0 0] 28)).heap.size = w.heap.size + 1 := by simp
 revert b0 hB0 hsz
 generalize w.alloc (.cells #[.slice none 0 0] 28) = W0
 intro b0 hB0 hsz
 have HSZ := Lib.hid hsz
 clear hsz
 obtain ⟨i0, hi, hz0, hz1, hz2⟩ := info_parts info_int
 refine wpIn_tells rfl (enters_of Tryz.func108 (by kernel_rfl) rfl) hT (fun h k => h.trans k) (Kpo.put (by rw [HSZ.out]; omega)) (hb.trans (hB0.mono hb.size))
  (fun pre W => (∃ v, Boxed W w.heap.size 28 v /\ W.ownsRow w.heap.size 3 1 v pre.length (ivN pre) /\ True) /\ Below w.heap.size w W)
  (fun _ _ _ => False)
  (OwnFrom.and (Own.from (holdsRow_own w.heap.size w.heap.size 28 3 1 (fun pre : List Nat => pre.length) ivN (fun _ _ => True)) _) (ownFrom_below (Nat.le_refl _) (by rw [HSZ.out]; omega)))
  (fun _ _ _ _ _ hs _ _ => hs)
  (fun W' hb' => ⟨⟨_, (hb'.block w.heap.size (by rw [HSZ.out]; omega)).trans b0, World.ownsRow_nil _ _ _ _, trivial⟩, hB0.trans (hb'.mono hB0.size)⟩)
  (fun x => { tmps := #[.slice none 0 0, .func (.func 108) #[] (orderF kf ki), .pointer (some ⟨w.heap.size, 0, none⟩), undef, .slice none 0 0, .int .i64 (x : Nat), .func (.func 108) #[] (orderF kf ki), .int .i64 (x : Nat), undef, undef, undef, undef, undef], defers := [] }) ?assign ?body ?done ?stop
 case assign =>
  intro l x W K hK
  gi_wp2
  exact hK
 case body =>
  rintro l pre x W ⟨⟨v, hv, hrow, _⟩, hB⟩ hlt
  have hc := hv.cell
  have hlt := hlt.length_le
  rw [List.length_append, List.length_singleton] at hlt
  gi_wp2_with (gi_at_builtin; refine wpListIn_append_own _ rfl _ _ 28 rfl w.heap.size 3 i0 (.int .i64 0) 1 8 Tryz.underlying28 hi hz0 hz1 hz2 rfl (by decide) _ _ _ rfl (hrow.alloc _) ⟨W.heap.size, 0, none⟩ 1 1 [.int .i64 (x : Nat)] rfl rfl (cell_one_new _ _ _) (by simp [Value.oneCell']) (by unfold maxLen; omega) (by omega) (by have := hB.size; simp; omega) ?_; intro v' w2 hown' hgrow _; obtain ⟨g', cap', rfl⟩ := ownsRow_succ hown'
               obtain ⟨hv1, hv2, hr2, hk2, hb2⟩ := hv.appended (by decide) hrow hB.size (Nat.le_refl _) hown' hgrow
               have hK1 := kept_append (t := 83) hv hrow hgrow (by decide) (by decide) (.slice (some ⟨g', 0, none⟩) (pre.length + 1) cap')
               have hK2 := kept_append (t := 26) hv hrow hgrow (by decide) (by decide) (.slice (some ⟨g', 0, none⟩) (pre.length + 1) cap')
               have hc1 := hv1.cell
               have hf1 := hv1.frozen)
  exact ⟨hk2.from _, ⟨hb2.mono hn, hK1, hK2⟩, ⟨_, hv2, by rw [List.length_append, ivN_snoc]; exact hr2, trivial⟩, hB.trans hb2⟩
 case done =>
  rintro D W hD ⟨⟨v, hv, hrow, _⟩, hB⟩ hK
  have hc := hv.cell
  rw [HSZ.out] at hD
  gi_wp2
  refine ⟨by simp, .inl ⟨_, _, rfl, run_takeDeferred hK, ?_⟩⟩
  exact ⟨_, results_tmp rfl _ _ _, v, rfl, ownsRow_putObj hrow (.deferred none) hK rfl, hB.trans (belowK_b (w := w) (Nat.le_refl _) W D _ _ (by omega) hK rfl rfl)⟩
 case stop =>
  rintro D c pre W _ _ h _
  exact h.elim
end Go.Proofs.YtcndplnnighjkaaGreatDoor
namespace Go.Proofs.YtcndplnnighjkaaGreatDoor
open Go.ChangeShapes Go.WideShapes Go.ChangeAt Go.RowKit
set_option linter.unusedVariables false
set_option linter.unusedSimpArgs false
theorem collect_any (ys : List Nat) (hN : ys.length <= 1000) (kf ki n0 : Nat) (wb w : World) (hT : Tells Tryz.prog 108 (orderF kf ki) ys (Kpo n0) wb) (hb : Below wb.heap.size wb w) (hn : n0 <= w.heap.size) :
 Calls Tryz.prog 63 #[.func (.func 108) #[] (orderF kf ki)] w fun e w' => ∃ v, e = .returned v /\ w'.ownsRow w.heap.size 3 1 v ys.length (ivN ys) /\ Below w.heap.size w w' := by
 have H := Lib.hid (appendSeq_any ys hN kf ki n0 wb w hT hb hn)
 clear hT hb
 generalize orderF kf ki = lb at *
 go_enter Tryz.func63, Tryz.ntmps63
 go_wp2_with fail
 refine H.out.mono ?_
 rintro e w1 ⟨v, rfl, hv, hb⟩
 go_wp2
 go_ret
 exact ⟨v, rfl, hv, hb⟩
set_option maxRecDepth 100000 in
theorem worder_any (A : Option Addr) (F : List Mn) (c i : Nat) (w : World) (hF : FR w A F) (hm : mayB F = true) (hi : i < F.length) :
 Calls Tryz.prog 36 #[.slice A F.length c, .int .i64 i] w fun e w' => ∃ v, e = .returned (.tuple #[v, .int .i64 0]) /\ w'.ownsRow w.heap.size 3 1 v (ord F i).length (ivN (ord F i)) /\ Below w.heap.size w w' := by
 have HN := Lib.hid (wnode_any A F c (i : Int) w hF hm)
 rw [show isB F (i : Int) = true by rw [isB, decide_eq_true_eq]; omega] at HN
 have HO := Lib.hid (fun (V : World) => order_any A F.length c (i : Int) V)
 have HC := Lib.hid (fun (V V2 : World) (kf ki : Nat) (hb : Below w.heap.size w V) (hb2 : Below V.heap.size V V2) (h1 : V2.heap[kf]? = some (.cells #[.slice A F.length c] 26 (0, 0))) (h2 : V2.heap[ki]? = some (.cells #[.int .i64 i] 3 (0, 0))) =>
  collect_any (ord F i) (by have := ord_len hm hi; have := (may_sz hm).1; omega) kf ki V.heap.size V2 V2 (order1_tells V V2 A F c kf ki i (hF.below hb) (may_sz2 hm) hm hi hb2 h1 h2) (Below.refl _ _) hb2.size)
 have hlo := ord_len hm hi
 obtain ⟨n, hn⟩ : ∃ n, F.length = n := ⟨_, rfl⟩
 rw [hn] at HN HO HC hi ⊢
 clear hF hm hn hlo
 generalize ord F i = ys at *
 go_enter Tryz.func36, Tryz.ntmps36
 go_wp2_with fail
 refine HN.out.mono ?_
 rintro e w1 ⟨rfl, hb⟩
 have HB := Lib.hid hb
 clear hb
 go_wp2_with fail
 refine (HO.out w1).mono ?_
 rintro e w2 ⟨rfl, h1, h2, hb⟩
 have HB2 := Lib.hid hb
 have HC2 := Lib.hid (HC.out w1 w2 _ _ HB.out hb h1 h2)
 clear hb h1 h2
 generalize orderF w1.heap.size (w1.heap.size + 1) = lb at *
 go_wp2_with fail
 refine HC2.out.mono ?_
 rintro e w3 ⟨v, rfl, hv, hb⟩
 go_wp2
 go_ret2
 exact ⟨v, rfl, own_mono hv (Nat.le_trans HB.out.size HB2.out.size), HB.out.trans ((HB2.out.trans (hb.mono HB2.out.size)).mono HB.out.size)⟩
end Go.Proofs.YtcndplnnighjkaaGreatDoor
