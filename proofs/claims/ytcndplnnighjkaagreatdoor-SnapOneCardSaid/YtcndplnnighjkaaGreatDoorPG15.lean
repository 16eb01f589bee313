/-
  A map from numbers to functions that the call makes: what is laid into it, and what it says.
-/
import Derived.Test.YtcndplnnighjkaaGreatDoorPG01
import Derived.Test.YtcndplnnighjkaaGreatDoorPG11
import Derived.MapKept
import Derived.Maps.Own
import Derived.Maps.OwnOps
namespace Go.Proofs.YtcndplnnighjkaaGreatDoor
open Go.ChangeShapes Go.WideShapes Go.ChangeAt Go.RowKit Go.MapKept
set_option linter.unusedVariables false
set_option linter.unusedSimpArgs false
def setB (w : World) (r : Nat) (o : Obj) : World := { w with heap := w.heap.setIfInBounds r o }
theorem setB_same {w : World} {r : Nat} {o o' : Obj} (h : w.heap[r]? = some o) : (setB w r o').heap[r]? = some o' := by
 have hlt : r < w.heap.size := (Array.getElem?_eq_some_iff.1 h).1
 simp [setB, hlt]
theorem setB_other {w : World} {r k : Nat} {o : Obj} (h : k ≠ r) : (setB w r o).heap[k]? = w.heap[k]? := by simp [setB, Ne.symm h]
theorem setB_size (w : World) (r : Nat) (o : Obj) : (setB w r o).heap.size = w.heap.size := by simp [setB]
theorem Below.setB {B : Nat} {a w : World} (h : Below B a w) {r : Nat} (hr : B <= r) (o : Obj) : Below B a (setB w r o) :=
 h.trans ⟨rfl, rfl, rfl, by rw [setB_size]; exact Nat.le_refl _, fun k hk => setB_other (by omega)⟩
theorem run_ins {w : World} {r clock : Nat} {es : Array MapEntry} {k : Int} {v : Value} (h : w.heap[r]? = some (.map es clock)) (hf : Instr.findNow (.int .i64) (.int .i64 k) es.toList 0 = some none) :
 (Instr.mapUpdate 76 (.map (some r)) (.int .i64 k) v).run Tryz.prog w = .ok () (setB w r (.map (es.push { key := .int .i64 k, val := v, born := clock }) (clock + 1))) := by
 have hu : Tryz.prog.underlying 76 = some (.map 3 79) := Tryz.underlying76
 have hi : Tryz.prog.underlying 3 = some (.int .i64) := Tryz.underlying3
 have h1 : (getObj r).run Tryz.prog w = .ok (.map es clock) w := by simp [getObj, Sem.run, h]
 have h2 : (Instr.checkKey false 10000 3 (.int .i64 k)).run Tryz.prog w = .ok () w := run_checkKey hi (by simp [IsKey]) false 9999
 have h3 := run_findKey (P := Tryz.prog) (w := w) hi hf
 simp [Instr.mapUpdate, run_underlying hu, h1, h2, h3, run_setObj_map _ h, setB]
theorem run_look {w : World} {r clock i : Nat} {es : Array MapEntry} {k : Int} {v : Value} (h : w.heap[r]? = some (.map es clock)) (hf : Instr.findNow (.int .i64) (.int .i64 k) es.toList 0 = some (some (i, v))) :
 (Instr.lookup 76 (.map (some r)) (.int .i64 k) false).run Tryz.prog w = .ok v w := by
 have hu : Tryz.prog.underlying 76 = some (.map 3 79) := Tryz.underlying76
 have hi : Tryz.prog.underlying 3 = some (.int .i64) := Tryz.underlying3
 have h1 : (getObj r).run Tryz.prog w = .ok (.map es clock) w := by simp [getObj, Sem.run, h]
 have h2 : (Instr.checkKey es.isEmpty 10000 3 (.int .i64 k)).run Tryz.prog w = .ok () w := run_checkKey hi (by simp [IsKey]) _ 9999
 have h3 := run_findKey (P := Tryz.prog) (w := w) hi hf
 simp [Instr.lookup, run_underlying hu, h1, h2, h3]
theorem wpList_ins {w : World} {ops : Array Oper} {rest : List Oper} {o : Oper} {a : Act} {Q : Exit -> Act -> World -> Prop}
 (hg : o.guard = none) (m x v : Operand) (hop : o.op = Op.insert 76 m x v) {r clock : Nat} {es : Array MapEntry} {k : Int} {u : Value}
 (hm : a.eval m = .map (some r)) (hx : a.eval x = .int .i64 k) (hv : a.eval v = u) (h : w.heap[r]? = some (.map es clock)) (hf : Instr.findNow (.int .i64) (.int .i64 k) es.toList 0 = some none)
 (hK : wpList Tryz.prog ops Q rest (a.put o.dst undef) (setB w r (.map (es.push { key := .int .i64 k, val := u, born := clock }) (clock + 1)))) :
 wpList Tryz.prog ops Q (o :: rest) a w := by
 refine wpList_plain hg fun K' hK' => ?_
 unfold Oper.wp
 simp [execOp, hop, hm, hx, hv, run_ins h hf, Result.andThen]
 exact hK' _ _ hK
def ents (l : List (Int × Value)) : Array MapEntry := (l.zipIdx.map fun (p, i) => { key := .int .i64 p.1, val := p.2, born := i }).toArray
def MapAt (w : World) (r : Nat) (l : List (Int × Value)) : Prop := w.heap[r]? = some (.map (ents l) l.length)
theorem ents_push (l : List (Int × Value)) (k : Int) (v : Value) : (ents l).push { key := .int .i64 k, val := v, born := l.length } = ents (l ++ [(k, v)]) := by
 simp [ents, List.zipIdx_append]
theorem MapAt.ins {w : World} {r : Nat} {l : List (Int × Value)} (h : MapAt w r l) (k : Int) (v : Value) : MapAt (Proofs.YtcndplnnighjkaaGreatDoor.setB w r (.map ((ents l).push { key := .int .i64 k, val := v, born := l.length }) (l.length + 1))) r (l ++ [(k, v)]) := by
 unfold MapAt
 rw [setB_same h, ents_push]
 simp
theorem find_none {l : List (Int × Value)} {k : Int} (h : ∀ p ∈ l, p.1 ≠ k) : Instr.findNow (.int .i64) (.int .i64 k) (ents l).toList 0 = some none := by
 have key : ∀ (l : List (Int × Value)) (i j : Nat), (∀ p ∈ l, p.1 ≠ k) -> Instr.findNow (.int .i64) (.int .i64 k) ((l.zipIdx i).map fun (p, i) => ({ key := .int .i64 p.1, val := p.2, born := i } : MapEntry)) j = some none := by
  intro l
  induction l with
  | nil => intro i j _; rfl
  | cons p l ih =>
    intro i j h
    have h1 := h p (by simp)
    have hb : (k == p.1) = false := by simpa using fun e => h1 e.symm
    simp only [List.zipIdx_cons, List.map_cons, Instr.findNow, Instr.sameNow, if_true, hb]
    exact ih _ _ (fun q hq => h q (by simp [hq]))
 simpa [ents] using key l 0 0 h
theorem find_some {l : List (Int × Value)} {k : Int} {v : Value} (h : ∃ a b, l = a ++ (k, v) :: b /\ ∀ p ∈ a, p.1 ≠ k) : ∃ i, Instr.findNow (.int .i64) (.int .i64 k) (ents l).toList 0 = some (some (i, v)) := by
 obtain ⟨a, b, rfl, ha⟩ := h
 have key : ∀ (a : List (Int × Value)) (i j : Nat), (∀ p ∈ a, p.1 ≠ k) -> ∃ n, Instr.findNow (.int .i64) (.int .i64 k) (((a ++ (k, v) :: b).zipIdx i).map fun (p, i) => ({ key := .int .i64 p.1, val := p.2, born := i } : MapEntry)) j = some (some (n, v)) := by
  intro a
  induction a with
  | nil => intro i j _; exact ⟨j, by simp [Instr.findNow, Instr.sameNow]⟩
  | cons p l ih =>
    intro i j h
    have h1 := h p (by simp)
    have hb : (k == p.1) = false := by simpa using fun e => h1 e.symm
    simp only [List.cons_append, List.zipIdx_cons, List.map_cons, Instr.findNow, Instr.sameNow, if_true, hb]
    exact ih _ _ (fun q hq => h q (by simp [hq]))
 simpa [ents] using key a 0 0 ha
end Go.Proofs.YtcndplnnighjkaaGreatDoor
namespace Go.Proofs.YtcndplnnighjkaaGreatDoor
open Go.ChangeShapes Go.WideShapes Go.ChangeAt Go.RowKit
set_option linter.unusedVariables false
set_option linter.unusedSimpArgs false
def Agr (n : Nat) (w V : World) : Prop := w.heap.size <= V.heap.size /\ ∀ k, n <= k -> k < w.heap.size -> V.heap[k]? = w.heap[k]?
theorem Agr.refl (n : Nat) (w : World) : Agr n w w := ⟨Nat.le_refl _, fun _ _ _ => rfl⟩
theorem Agr.trans {n : Nat} {a b c : World} (h : Agr n a b) (k : Agr n b c) : Agr n a c := ⟨Nat.le_trans h.1 k.1, fun i h1 h2 => (k.2 i h1 (Nat.lt_of_lt_of_le h2 h.1)).trans (h.2 i h1 h2)⟩
theorem Agr.below {n : Nat} {a b : World} (h : Below a.heap.size a b) : Agr n a b := ⟨h.size, fun k _ hk => h.block k hk⟩
theorem Agr.mono {n m : Nat} {a b : World} (h : Agr n a b) (hm : n <= m) : Agr m a b := ⟨h.1, fun k h1 h2 => h.2 k (Nat.le_trans hm h1) h2⟩
def qF (n : Nat) : Value := .func (.func n) #[] #[]
def unlF (a b : Nat) : Value := .func (.func 120) #[] #[.pointer (some ⟨a, 0, none⟩), .pointer (some ⟨b, 0, none⟩)]
def stepF (c d : Nat) : Value := .func (.func 118) #[] #[.pointer (some ⟨c, 0, none⟩), .pointer (some ⟨d, 0, none⟩)]
def addF (k : Nat) : Value := .func (.func 119) #[] #[.pointer (some ⟨k, 0, none⟩)]
def idsF (k : Nat) : Value := .func (.func 126) #[] #[.pointer (some ⟨k, 0, none⟩)]
def KindAt (w : World) (n1 kc kd : Nat) (D : Value) (l : List (Value × Int)) : Prop :=
 ∃ gc kq ke, StepAt w kc kd gc l.length kq ke D /\ n1 <= kc /\ n1 <= kd /\ n1 <= gc /\ ∀ j (h : j < l.length), ChkAt w (kq j) (ke j) l[j].1 l[j].2 /\ n1 <= kq j /\ n1 <= ke j
theorem KindAt.agr {w V : World} {n1 kc kd : Nat} {D : Value} {l : List (Value × Int)} (h : KindAt w n1 kc kd D l) (ha : Agr n1 w V) : KindAt V n1 kc kd D l := by
 obtain ⟨gc, kq, ke, h1, h2, h3, h4, h5⟩ := h
 have key : ∀ {k : Nat} {o : Obj}, n1 <= k -> w.heap[k]? = some o -> V.heap[k]? = some o := fun hk ho => (ha.2 _ hk (lt_of_block ho)).trans ho
 refine ⟨gc, kq, ke, ⟨key h2 h1.c, key h3 h1.d, Nat.lt_of_lt_of_le h1.l ha.1, fun j hj => ?_⟩, h2, h3, h4, fun j hj => ?_⟩
 · rw [<- h1.f j hj]
   exact World.cell?_of_block (ha.2 _ h4 h1.l)
 · obtain ⟨a, b, c⟩ := h5 j hj
   exact ⟨⟨key b a.1, key c a.2⟩, b, c⟩
def KxAt (w : World) (n1 kx : Nat) (k : Int) : Prop := w.heap[kx]? = some (.cells #[.int .i64 k] 3 (0, 0)) /\ n1 <= kx
theorem KxAt.agr {w V : World} {n1 kx : Nat} {k : Int} (h : KxAt w n1 kx k) (ha : Agr n1 w V) : KxAt V n1 kx k := ⟨(ha.2 _ h.2 (lt_of_block h.1)).trans h.1, h.2⟩
def IdsAt (w : World) (n1 kk : Nat) (l : List Int) : Prop := ∃ gk, w.heap[kk]? = some (.cells #[.slice (some ⟨gk, 0, none⟩) l.length l.length] 28 (0, 0)) /\ w.heap[gk]? = some (.cells (l.map (Value.int .i64)).toArray 3 (0, 0)) /\ n1 <= kk /\ n1 <= gk
theorem IdsAt.agr {w V : World} {n1 kk : Nat} {l : List Int} (h : IdsAt w n1 kk l) (ha : Agr n1 w V) : IdsAt V n1 kk l := by
 obtain ⟨gk, h1, h2, h3, h4⟩ := h
 exact ⟨gk, (ha.2 _ h3 (lt_of_block h1)).trans h1, (ha.2 _ h4 (lt_of_block h2)).trans h2, h3, h4⟩
theorem KindAt.mk {w : World} {n1 kc kd gc : Nat} {D : Value} (kqs kes : List Nat) {l : List (Value × Int)} (hl : kqs.length = l.length) (hl2 : kes.length = l.length) (hc : w.heap[kc]? = some (.cells #[.slice (some ⟨gc, 0, none⟩) l.length l.length] 137 (0, 0))) (hd : w.heap[kd]? = some (.cells #[D] 115 (0, 0)))
 (hg : w.heap[gc]? = some (.cells (List.zipWith unlF kqs kes).toArray 118 (0, 0))) (h1 : n1 <= kc) (h2 : n1 <= kd) (h3 : n1 <= gc) (h : ∀ j (h : j < l.length), ChkAt w (kqs.getD j 0) (kes.getD j 0) l[j].1 l[j].2 /\ n1 <= kqs.getD j 0 /\ n1 <= kes.getD j 0) : KindAt w n1 kc kd D l := by
 refine ⟨gc, fun j => kqs.getD j 0, fun j => kes.getD j 0, ⟨hc, hd, lt_of_block hg, fun j hj => ?_⟩, h1, h2, h3, h⟩
 have : (List.zipWith unlF kqs kes)[j]? = some (unlF (kqs.getD j 0) (kes.getD j 0)) := by
  rw [List.getElem?_zipWith, List.getElem?_eq_getElem (by omega), List.getElem?_eq_getElem (by omega)]
  simp [List.getD, List.getElem?_eq_getElem (show j < kqs.length by omega), List.getElem?_eq_getElem (show j < kes.length by omega)]
 simp [World.cell?, hg, this]
 rfl
def Ent (l : List (Int × Value)) (k : Int) (v : Value) : Prop := ∃ a b, l = a ++ (k, v) :: b /\ ∀ p ∈ a, p.1 ≠ k
theorem Ent.last {l : List (Int × Value)} {k : Int} {v : Value} (h : ∀ p ∈ l, p.1 < k) : Ent (l ++ [(k, v)]) k v := ⟨l, [], rfl, fun p hp => by have := h p hp; omega⟩
theorem Ent.more {l : List (Int × Value)} {k : Int} {v : Value} (h : Ent l k v) (p : Int × Value) : Ent (l ++ [p]) k v := by
 obtain ⟨a, b, rfl, ha⟩ := h
 exact ⟨a, b ++ [p], by simp, ha⟩
theorem lt_more {l : List (Int × Value)} {k k' : Int} {v : Value} (h : ∀ p ∈ l, p.1 < k) (hk : k < k') : ∀ p ∈ l ++ [(k, v)], p.1 < k' := by
 intro p hp
 rcases List.mem_append.1 hp with h' | h'
 · have := h p h'; omega
 · rw [List.mem_singleton] at h'; rw [h']; exact hk
theorem wpList_insM {w : World} {ops : Array Oper} {rest : List Oper} {o : Oper} {a : Act} {Q : Exit -> Act -> World -> Prop}
 (hg : o.guard = none) (m x v : Operand) (hop : o.op = Op.insert 76 m x v) {r : Nat} {l : List (Int × Value)} {k : Int} {u : Value}
 (hm : a.eval m = .map (some r)) (hx : a.eval x = .int .i64 k) (hv : a.eval v = u) (h : MapAt w r l) (hl : ∀ p ∈ l, p.1 < k)
 (hK : ∀ W', MapAt W' r (l ++ [(k, u)]) -> Agr (r + 1) w W' -> (∀ B, B <= r -> Below B w W') -> wpList Tryz.prog ops Q rest (a.put o.dst undef) W') :
 wpList Tryz.prog ops Q (o :: rest) a w :=
 wpList_ins hg m x v hop hm hx hv h (find_none (fun p hp => by have := hl p hp; omega)) (hK _ (h.ins k u) ⟨Nat.le_of_eq (setB_size _ _ _).symm, fun j h1 _ => setB_other (by omega)⟩ (fun B hB => Below.setB (Below.refl _ _) hB _))
set_option maxHeartbeats 1000000 in
theorem unless_any (err : Int) (n : Nat) (c : Array Value) (w : World) : Calls Tryz.prog 78 #[.int .i64 err, .func (.func n) #[] c] w fun e w' =>
 ∃ kq ke, e = .returned (unlF kq ke) /\ ChkAt w' kq ke (.func (.func n) #[] c) err /\ w.heap.size <= kq /\ w.heap.size <= ke /\ Below w.heap.size w w' := by
 go_enter Tryz.func78, Tryz.ntmps78
 go_wp2
 go_ret
 refine ⟨w.heap.size + 1, w.heap.size, rfl, ⟨?_, ?_⟩, by omega, Nat.le_refl _, ((Below.refl _ _).alloc (Nat.le_refl _) _).alloc (by simp) _⟩
 · have := heap_alloc_new (w.alloc (.cells #[.int .i64 err] 29)) (.cells #[.func (.func n) #[] c] 121)
   simpa using this
 · rw [heap_alloc_old _ _ (by simp)]
   exact heap_alloc_new _ _
set_option maxHeartbeats 1000000 in
theorem checked_any (D : Nat) (c : Array Value) (gc n : Nat) (w : World) : Calls Tryz.prog 76 #[.func (.func D) #[] c, .slice (some ⟨gc, 0, none⟩) n n] w fun e w' =>
 ∃ kc kd, e = .returned (stepF kc kd) /\ w'.heap[kc]? = some (.cells #[.slice (some ⟨gc, 0, none⟩) n n] 137 (0, 0)) /\ w'.heap[kd]? = some (.cells #[.func (.func D) #[] c] 115 (0, 0)) /\ w.heap.size <= kc /\ w.heap.size <= kd /\ Below w.heap.size w w' := by
 go_enter Tryz.func76, Tryz.ntmps76
 go_wp2
 go_ret
 refine ⟨w.heap.size + 1, w.heap.size, rfl, ?_, ?_, by omega, Nat.le_refl _, ((Below.refl _ _).alloc (Nat.le_refl _) _).alloc (by simp) _⟩
 · have := heap_alloc_new (w.alloc (.cells #[.func (.func D) #[] c] 115)) (.cells #[.slice (some ⟨gc, 0, none⟩) n n] 137)
   simpa using this
 · rw [heap_alloc_old _ _ (by simp)]
   exact heap_alloc_new _ _
set_option maxHeartbeats 1000000 in
theorem added_any (k : Int) (w : World) : Calls Tryz.prog 77 #[.int .i64 k] w fun e w' => ∃ kx, e = .returned (addF kx) /\ w'.heap[kx]? = some (.cells #[.int .i64 k] 3 (0, 0)) /\ w.heap.size <= kx /\ Below w.heap.size w w' := by
 go_enter Tryz.func77, Tryz.ntmps77
 go_wp2
 go_ret
 exact ⟨w.heap.size, rfl, heap_alloc_new _ _, Nat.le_refl _, (Below.refl _ _).alloc (Nat.le_refl _) _⟩
set_option maxHeartbeats 1000000 in
theorem idIs_any (gk n : Nat) (w : World) : Calls Tryz.prog 93 #[.slice (some ⟨gk, 0, none⟩) n n] w fun e w' => ∃ kk, e = .returned (idsF kk) /\ w'.heap[kk]? = some (.cells #[.slice (some ⟨gk, 0, none⟩) n n] 28 (0, 0)) /\ w.heap.size <= kk /\ Below w.heap.size w w' := by
 go_enter Tryz.func93, Tryz.ntmps93
 go_wp2
 go_ret
 exact ⟨w.heap.size, rfl, heap_alloc_new _ _, Nat.le_refl _, (Below.refl _ _).alloc (Nat.le_refl _) _⟩
def KAt (w : World) (n1 : Nat) (l : List (Int × Value)) (k : Int) (D : Value) (cs : List (Value × Int)) : Prop := ∃ kc kd, Ent l k (stepF kc kd) /\ KindAt w n1 kc kd D cs
theorem KAt.agr {w V : World} {n1 : Nat} {l : List (Int × Value)} {k : Int} {D : Value} {cs : List (Value × Int)} (h : KAt w n1 l k D cs) (ha : Agr n1 w V) : KAt V n1 l k D cs := by
 obtain ⟨kc, kd, h1, h2⟩ := h
 exact ⟨kc, kd, h1, h2.agr ha⟩
theorem KAt.more {w : World} {n1 : Nat} {l : List (Int × Value)} {k : Int} {D : Value} {cs : List (Value × Int)} (h : KAt w n1 l k D cs) (p : Int × Value) : KAt w n1 (l ++ [p]) k D cs := by
 obtain ⟨kc, kd, h1, h2⟩ := h
 exact ⟨kc, kd, h1.more p, h2⟩
structure Known (w : World) (n1 : Nat) (l : List (Int × Value)) : Prop where
 k1 : ∃ kx : Nat, KxAt w n1 kx 1 /\ KAt w n1 l 1 (addF kx) [(qF 79, 74), (qF 80, 2)]
 k2 : ∃ kx : Nat, KxAt w n1 kx 2 /\ KAt w n1 l 2 (addF kx) [(qF 81, 74), (qF 80, 2)]
 k3 : ∃ kx : Nat, KxAt w n1 kx 3 /\ KAt w n1 l 3 (addF kx) [(qF 81, 74), (qF 80, 2)]
 k4 : KAt w n1 l 4 (qF 82) [(qF 83, 70), (qF 84, 70), (qF 85, 71), (qF 86, 71), (qF 87, 71), (qF 88, 72), (qF 89, 73)]
 k5 : KAt w n1 l 5 (qF 90) [(qF 83, 70), (qF 85, 71), (qF 91, 3)]
 k6 : ∃ kk : Nat, IdsAt w n1 kk [1] /\ KAt w n1 l 6 (qF 92) [(qF 83, 70), (idsF kk, 71), (qF 79, 74), (qF 81, 74), (qF 94, 75)]
 k7 : ∃ kk : Nat, IdsAt w n1 kk [1] /\ KAt w n1 l 7 (qF 95) [(qF 83, 70), (idsF kk, 71), (qF 96, 75)]
 k8 : ∃ kk : Nat, IdsAt w n1 kk [2, 3] /\ KAt w n1 l 8 (qF 97) [(qF 83, 70), (idsF kk, 71), (qF 81, 74)]
theorem Known.agr {w V : World} {n1 : Nat} {l : List (Int × Value)} (h : Known w n1 l) (ha : Agr n1 w V) : Known V n1 l :=
 ⟨by obtain ⟨x, h1, h2⟩ := h.k1; exact ⟨x, h1.agr ha, h2.agr ha⟩,
  by obtain ⟨x, h1, h2⟩ := h.k2; exact ⟨x, h1.agr ha, h2.agr ha⟩,
  by obtain ⟨x, h1, h2⟩ := h.k3; exact ⟨x, h1.agr ha, h2.agr ha⟩,
  h.k4.agr ha,
  h.k5.agr ha,
  by obtain ⟨x, h1, h2⟩ := h.k6; exact ⟨x, h1.agr ha, h2.agr ha⟩,
  by obtain ⟨x, h1, h2⟩ := h.k7; exact ⟨x, h1.agr ha, h2.agr ha⟩,
  by obtain ⟨x, h1, h2⟩ := h.k8; exact ⟨x, h1.agr ha, h2.agr ha⟩⟩
set_option maxRecDepth 100000 in
set_option maxHeartbeats 8000000 in
theorem steps_any (w : World) : Calls Tryz.prog 49 #[] w fun e w' => ∃ m l, e = .returned (.map (some m)) /\ w.heap.size <= m /\ MapAt w' m l /\ Known w' (m + 1) l /\ Below w.heap.size w w' := by
 obtain ⟨V0, hV0⟩ : ∃ V, V = w.alloc (.map #[] 0) := ⟨_, rfl⟩
 obtain ⟨l0, hl0⟩ : ∃ l : List (Int × Value), l = [] := ⟨_, rfl⟩
 have HM : Hid (MapAt V0 w.heap.size l0) := Lib.hid (by rw [hV0, hl0]; exact heap_alloc_new _ _)
 have HL : Hid (∀ p ∈ l0, p.1 < 1) := Lib.hid (by rw [hl0]; intro p hp; cases hp)
 have HB : Hid (Below w.heap.size w V0) := Lib.hid (by rw [hV0]; exact (Below.refl _ _).alloc (Nat.le_refl _) _)
 have HZ : Hid (w.heap.size + 1 <= V0.heap.size) := Lib.hid (by rw [hV0]; simp)
 clear hl0
 have hmm := @run_makeMap Tryz.prog
 obtain ⟨r, hr⟩ : ∃ r, r = w.heap.size := ⟨_, rfl⟩
 have HR := Lib.hid hr
 go_enter Tryz.func49, Tryz.ntmps49
 go_wp2_with fail
 rw [<- hV0]
 clear hV0
 refine (added_any 1 V0).mono ?_
 rintro e V1 ⟨kx1, rfl, h1, h2, hb⟩
 have HZB := HZ
 have ha : Agr (w.heap.size + 1) V0 V1 := Agr.below hb
 replace HM := Lib.hid (show MapAt V1 w.heap.size l0 from (hb.block _ (lt_of_block HM.out)).trans HM.out)
 replace HZ := Lib.hid (Nat.le_trans HZ.out hb.size)
 replace HB := Lib.hid (HB.out.trans (hb.mono HB.out.size))
 have HX1 := Lib.hid (show KxAt V1 (w.heap.size + 1) kx1 1 from ⟨h1, Nat.le_trans HZB.out h2⟩)
 clear hb ha HZB h1 h2
 go_wp2_with fail
 refine (unless_any 74 79 #[] V1).mono ?_
 rintro e V2 ⟨a1_0, b1_0, rfl, h1, h2, h3, hb⟩
 have HZB := HZ
 have ha : Agr (w.heap.size + 1) V1 V2 := Agr.below hb
 replace HX1 := Lib.hid (HX1.out.agr ha)
 replace HM := Lib.hid (show MapAt V2 w.heap.size l0 from (hb.block _ (lt_of_block HM.out)).trans HM.out)
 replace HZ := Lib.hid (Nat.le_trans HZ.out hb.size)
 replace HB := Lib.hid (HB.out.trans (hb.mono HB.out.size))
 have HC1_0 := Lib.hid (show ChkAt V2 a1_0 b1_0 (qF 79) 74 /\ w.heap.size + 1 <= a1_0 /\ w.heap.size + 1 <= b1_0 from ⟨h1, Nat.le_trans HZB.out h2, Nat.le_trans HZB.out h3⟩)
 clear hb ha HZB h1 h2 h3
 unfold unlF
 go_wp2_with fail
 refine (unless_any 2 80 #[] V2).mono ?_
 rintro e V3 ⟨a1_1, b1_1, rfl, h1, h2, h3, hb⟩
 have HZB := HZ
 have ha : Agr (w.heap.size + 1) V2 V3 := Agr.below hb
 replace HX1 := Lib.hid (HX1.out.agr ha)
 replace HC1_0 := Lib.hid (show ChkAt _ a1_0 b1_0 (qF 79) 74 /\ w.heap.size + 1 <= a1_0 /\ w.heap.size + 1 <= b1_0 from ⟨HC1_0.out.1.below hb, HC1_0.out.2⟩)
 replace HM := Lib.hid (show MapAt V3 w.heap.size l0 from (hb.block _ (lt_of_block HM.out)).trans HM.out)
 replace HZ := Lib.hid (Nat.le_trans HZ.out hb.size)
 replace HB := Lib.hid (HB.out.trans (hb.mono HB.out.size))
 have HC1_1 := Lib.hid (show ChkAt V3 a1_1 b1_1 (qF 80) 2 /\ w.heap.size + 1 <= a1_1 /\ w.heap.size + 1 <= b1_1 from ⟨h1, Nat.le_trans HZB.out h2, Nat.le_trans HZB.out h3⟩)
 clear hb ha HZB h1 h2 h3
 unfold unlF
 obtain ⟨V4, hV⟩ : ∃ V, V = V3.alloc (.cells #[unlF a1_0 b1_0, unlF a1_1 b1_1] 118) := ⟨_, rfl⟩
 have hb : Below V3.heap.size V3 V4 := by rw [hV]; exact (Below.refl _ _).alloc (Nat.le_refl _) _
 have ha : Agr (w.heap.size + 1) V3 V4 := Agr.below hb
 have HG : Hid (V4.heap[V3.heap.size]? = some (.cells #[unlF a1_0 b1_0, unlF a1_1 b1_1] 118 (0, 0)) /\ w.heap.size + 1 <= V3.heap.size) := Lib.hid ⟨by rw [hV]; exact heap_alloc_new _ _, HZ.out⟩
 obtain ⟨gc1, hgc⟩ : ∃ g, g = V3.heap.size := ⟨_, rfl⟩
 rw [<- hgc] at HG
 replace HX1 := Lib.hid (HX1.out.agr ha)
 replace HC1_0 := Lib.hid (show ChkAt _ a1_0 b1_0 (qF 79) 74 /\ w.heap.size + 1 <= a1_0 /\ w.heap.size + 1 <= b1_0 from ⟨HC1_0.out.1.below hb, HC1_0.out.2⟩)
 replace HC1_1 := Lib.hid (show ChkAt _ a1_1 b1_1 (qF 80) 2 /\ w.heap.size + 1 <= a1_1 /\ w.heap.size + 1 <= b1_1 from ⟨HC1_1.out.1.below hb, HC1_1.out.2⟩)
 replace HM := Lib.hid (show MapAt V4 w.heap.size l0 from (hb.block _ (lt_of_block HM.out)).trans HM.out)
 replace HZ := Lib.hid (Nat.le_trans HZ.out hb.size)
 replace HB := Lib.hid (HB.out.trans (hb.mono HB.out.size))
 clear hb ha
 unfold unlF at hV
 unfold addF
 go_wp2_with fail
 rw [<- hV, <- hgc]
 clear hV hgc
 refine (checked_any 119 #[.pointer (some ⟨kx1, 0, none⟩)] gc1 2 V4).mono ?_
 rintro e V5 ⟨kc1, kd1, rfl, h1, h2, h3, h4, hb⟩
 have HZB := HZ
 have ha : Agr (w.heap.size + 1) V4 V5 := Agr.below hb
 have h3' := Nat.le_trans HZ.out h3
 have h4' := Nat.le_trans HZ.out h4
 replace HX1 := Lib.hid (HX1.out.agr ha)
 replace HC1_0 := Lib.hid (show ChkAt _ a1_0 b1_0 (qF 79) 74 /\ w.heap.size + 1 <= a1_0 /\ w.heap.size + 1 <= b1_0 from ⟨HC1_0.out.1.below hb, HC1_0.out.2⟩)
 replace HC1_1 := Lib.hid (show ChkAt _ a1_1 b1_1 (qF 80) 2 /\ w.heap.size + 1 <= a1_1 /\ w.heap.size + 1 <= b1_1 from ⟨HC1_1.out.1.below hb, HC1_1.out.2⟩)
 replace HM := Lib.hid (show MapAt V5 w.heap.size l0 from (hb.block _ (lt_of_block HM.out)).trans HM.out)
 replace HZ := Lib.hid (Nat.le_trans HZ.out hb.size)
 replace HB := Lib.hid (HB.out.trans (hb.mono HB.out.size))
 have HK1 := Lib.hid (show KindAt V5 (w.heap.size + 1) kc1 kd1 (addF kx1) [(qF 79, 74), (qF 80, 2)] from KindAt.mk [a1_0, a1_1] [b1_0, b1_1] rfl rfl h1 h2 ((hb.block _ (lt_of_block HG.out.1)).trans HG.out.1) h3' h4' HG.out.2 (fun j hj => match j, hj with
  | 0, _ => HC1_0.out
  | 1, _ => HC1_1.out
  | j + 2, hj => absurd hj (by simp)))
 clear hb ha HZB h1 h2 h3 h4 h3' h4' HG HC1_0 HC1_1
 unfold stepF
 go_wp2_with (refine wpList_insM rfl _ _ _ rfl rfl rfl rfl HM.out HL.out ?_; intro V6 hm ha hbb; have HM2 := Lib.hid hm; have HA2 := Lib.hid ha; have HBB := Lib.hid hbb; clear hm ha hbb)
 have ha := HA2.out
 have hb := HBB.out w.heap.size (Nat.le_refl _)
 replace HX1 := Lib.hid (HX1.out.agr ha)
 replace HK1 := Lib.hid (show KAt V6 (w.heap.size + 1) (l0 ++ [(1, stepF kc1 kd1)]) 1 (addF kx1) [(qF 79, 74), (qF 80, 2)] from ⟨kc1, kd1, Ent.last HL.out, HK1.out.agr ha⟩)
 replace HL := Lib.hid (lt_more (v := stepF kc1 kd1) (k' := 2) HL.out (by omega))
 replace HZ := Lib.hid (Nat.le_trans HZ.out ha.1)
 replace HB := Lib.hid (HB.out.trans hb)
 have HM : Hid (MapAt V6 w.heap.size (l0 ++ [(1, stepF kc1 kd1)])) := Lib.hid HM2.out
 clear HM2 HA2 HBB ha hb
 generalize l0 ++ [(1, stepF kc1 kd1)] = l1 at *
 go_wp2_with fail
 refine (added_any 2 V6).mono ?_
 rintro e V7 ⟨kx2, rfl, h1, h2, hb⟩
 have HZB := HZ
 have ha : Agr (w.heap.size + 1) V6 V7 := Agr.below hb
 replace HX1 := Lib.hid (HX1.out.agr ha)
 replace HK1 := Lib.hid (HK1.out.agr ha)
 replace HM := Lib.hid (show MapAt V7 w.heap.size l1 from (hb.block _ (lt_of_block HM.out)).trans HM.out)
 replace HZ := Lib.hid (Nat.le_trans HZ.out hb.size)
 replace HB := Lib.hid (HB.out.trans (hb.mono HB.out.size))
 have HX2 := Lib.hid (show KxAt V7 (w.heap.size + 1) kx2 2 from ⟨h1, Nat.le_trans HZB.out h2⟩)
 clear hb ha HZB h1 h2
 go_wp2_with fail
 refine (unless_any 74 81 #[] V7).mono ?_
 rintro e V8 ⟨a2_0, b2_0, rfl, h1, h2, h3, hb⟩
 have HZB := HZ
 have ha : Agr (w.heap.size + 1) V7 V8 := Agr.below hb
 replace HX1 := Lib.hid (HX1.out.agr ha)
 replace HK1 := Lib.hid (HK1.out.agr ha)
 replace HX2 := Lib.hid (HX2.out.agr ha)
 replace HM := Lib.hid (show MapAt V8 w.heap.size l1 from (hb.block _ (lt_of_block HM.out)).trans HM.out)
 replace HZ := Lib.hid (Nat.le_trans HZ.out hb.size)
 replace HB := Lib.hid (HB.out.trans (hb.mono HB.out.size))
 have HC2_0 := Lib.hid (show ChkAt V8 a2_0 b2_0 (qF 81) 74 /\ w.heap.size + 1 <= a2_0 /\ w.heap.size + 1 <= b2_0 from ⟨h1, Nat.le_trans HZB.out h2, Nat.le_trans HZB.out h3⟩)
 clear hb ha HZB h1 h2 h3
 unfold unlF
 go_wp2_with fail
 refine (unless_any 2 80 #[] V8).mono ?_
 rintro e V9 ⟨a2_1, b2_1, rfl, h1, h2, h3, hb⟩
 have HZB := HZ
 have ha : Agr (w.heap.size + 1) V8 V9 := Agr.below hb
 replace HX1 := Lib.hid (HX1.out.agr ha)
 replace HK1 := Lib.hid (HK1.out.agr ha)
 replace HX2 := Lib.hid (HX2.out.agr ha)
 replace HC2_0 := Lib.hid (show ChkAt _ a2_0 b2_0 (qF 81) 74 /\ w.heap.size + 1 <= a2_0 /\ w.heap.size + 1 <= b2_0 from ⟨HC2_0.out.1.below hb, HC2_0.out.2⟩)
 replace HM := Lib.hid (show MapAt V9 w.heap.size l1 from (hb.block _ (lt_of_block HM.out)).trans HM.out)
 replace HZ := Lib.hid (Nat.le_trans HZ.out hb.size)
 replace HB := Lib.hid (HB.out.trans (hb.mono HB.out.size))
 have HC2_1 := Lib.hid (show ChkAt V9 a2_1 b2_1 (qF 80) 2 /\ w.heap.size + 1 <= a2_1 /\ w.heap.size + 1 <= b2_1 from ⟨h1, Nat.le_trans HZB.out h2, Nat.le_trans HZB.out h3⟩)
 clear hb ha HZB h1 h2 h3
 unfold unlF
 obtain ⟨V10, hV⟩ : ∃ V, V = V9.alloc (.cells #[unlF a2_0 b2_0, unlF a2_1 b2_1] 118) := ⟨_, rfl⟩
 have hb : Below V9.heap.size V9 V10 := by rw [hV]; exact (Below.refl _ _).alloc (Nat.le_refl _) _
 have ha : Agr (w.heap.size + 1) V9 V10 := Agr.below hb
 have HG : Hid (V10.heap[V9.heap.size]? = some (.cells #[unlF a2_0 b2_0, unlF a2_1 b2_1] 118 (0, 0)) /\ w.heap.size + 1 <= V9.heap.size) := Lib.hid ⟨by rw [hV]; exact heap_alloc_new _ _, HZ.out⟩
 obtain ⟨gc2, hgc⟩ : ∃ g, g = V9.heap.size := ⟨_, rfl⟩
 rw [<- hgc] at HG
 replace HX1 := Lib.hid (HX1.out.agr ha)
 replace HK1 := Lib.hid (HK1.out.agr ha)
 replace HX2 := Lib.hid (HX2.out.agr ha)
 replace HC2_0 := Lib.hid (show ChkAt _ a2_0 b2_0 (qF 81) 74 /\ w.heap.size + 1 <= a2_0 /\ w.heap.size + 1 <= b2_0 from ⟨HC2_0.out.1.below hb, HC2_0.out.2⟩)
 replace HC2_1 := Lib.hid (show ChkAt _ a2_1 b2_1 (qF 80) 2 /\ w.heap.size + 1 <= a2_1 /\ w.heap.size + 1 <= b2_1 from ⟨HC2_1.out.1.below hb, HC2_1.out.2⟩)
 replace HM := Lib.hid (show MapAt V10 w.heap.size l1 from (hb.block _ (lt_of_block HM.out)).trans HM.out)
 replace HZ := Lib.hid (Nat.le_trans HZ.out hb.size)
 replace HB := Lib.hid (HB.out.trans (hb.mono HB.out.size))
 clear hb ha
 unfold unlF at hV
 unfold addF
 go_wp2_with fail
 rw [<- hV, <- hgc]
 clear hV hgc
 refine (checked_any 119 #[.pointer (some ⟨kx2, 0, none⟩)] gc2 2 V10).mono ?_
 rintro e V11 ⟨kc2, kd2, rfl, h1, h2, h3, h4, hb⟩
 have HZB := HZ
 have ha : Agr (w.heap.size + 1) V10 V11 := Agr.below hb
 have h3' := Nat.le_trans HZ.out h3
 have h4' := Nat.le_trans HZ.out h4
 replace HX1 := Lib.hid (HX1.out.agr ha)
 replace HK1 := Lib.hid (HK1.out.agr ha)
 replace HX2 := Lib.hid (HX2.out.agr ha)
 replace HC2_0 := Lib.hid (show ChkAt _ a2_0 b2_0 (qF 81) 74 /\ w.heap.size + 1 <= a2_0 /\ w.heap.size + 1 <= b2_0 from ⟨HC2_0.out.1.below hb, HC2_0.out.2⟩)
 replace HC2_1 := Lib.hid (show ChkAt _ a2_1 b2_1 (qF 80) 2 /\ w.heap.size + 1 <= a2_1 /\ w.heap.size + 1 <= b2_1 from ⟨HC2_1.out.1.below hb, HC2_1.out.2⟩)
 replace HM := Lib.hid (show MapAt V11 w.heap.size l1 from (hb.block _ (lt_of_block HM.out)).trans HM.out)
 replace HZ := Lib.hid (Nat.le_trans HZ.out hb.size)
 replace HB := Lib.hid (HB.out.trans (hb.mono HB.out.size))
 have HK2 := Lib.hid (show KindAt V11 (w.heap.size + 1) kc2 kd2 (addF kx2) [(qF 81, 74), (qF 80, 2)] from KindAt.mk [a2_0, a2_1] [b2_0, b2_1] rfl rfl h1 h2 ((hb.block _ (lt_of_block HG.out.1)).trans HG.out.1) h3' h4' HG.out.2 (fun j hj => match j, hj with
  | 0, _ => HC2_0.out
  | 1, _ => HC2_1.out
  | j + 2, hj => absurd hj (by simp)))
 clear hb ha HZB h1 h2 h3 h4 h3' h4' HG HC2_0 HC2_1
 unfold stepF
 go_wp2_with (refine wpList_insM rfl _ _ _ rfl rfl rfl rfl HM.out HL.out ?_; intro V12 hm ha hbb; have HM2 := Lib.hid hm; have HA2 := Lib.hid ha; have HBB := Lib.hid hbb; clear hm ha hbb)
 have ha := HA2.out
 have hb := HBB.out w.heap.size (Nat.le_refl _)
 replace HX1 := Lib.hid (HX1.out.agr ha)
 replace HK1 := Lib.hid (HK1.out.agr ha)
 replace HX2 := Lib.hid (HX2.out.agr ha)
 replace HK2 := Lib.hid (show KAt V12 (w.heap.size + 1) (l1 ++ [(2, stepF kc2 kd2)]) 2 (addF kx2) [(qF 81, 74), (qF 80, 2)] from ⟨kc2, kd2, Ent.last HL.out, HK2.out.agr ha⟩)
 replace HK1 := Lib.hid (HK1.out.more (2, stepF kc2 kd2))
 replace HL := Lib.hid (lt_more (v := stepF kc2 kd2) (k' := 3) HL.out (by omega))
 replace HZ := Lib.hid (Nat.le_trans HZ.out ha.1)
 replace HB := Lib.hid (HB.out.trans hb)
 have HM : Hid (MapAt V12 w.heap.size (l1 ++ [(2, stepF kc2 kd2)])) := Lib.hid HM2.out
 clear HM2 HA2 HBB ha hb
 generalize l1 ++ [(2, stepF kc2 kd2)] = l2 at *
 go_wp2_with fail
 refine (added_any 3 V12).mono ?_
 rintro e V13 ⟨kx3, rfl, h1, h2, hb⟩
 have HZB := HZ
 have ha : Agr (w.heap.size + 1) V12 V13 := Agr.below hb
 replace HX1 := Lib.hid (HX1.out.agr ha)
 replace HK1 := Lib.hid (HK1.out.agr ha)
 replace HX2 := Lib.hid (HX2.out.agr ha)
 replace HK2 := Lib.hid (HK2.out.agr ha)
 replace HM := Lib.hid (show MapAt V13 w.heap.size l2 from (hb.block _ (lt_of_block HM.out)).trans HM.out)
 replace HZ := Lib.hid (Nat.le_trans HZ.out hb.size)
 replace HB := Lib.hid (HB.out.trans (hb.mono HB.out.size))
 have HX3 := Lib.hid (show KxAt V13 (w.heap.size + 1) kx3 3 from ⟨h1, Nat.le_trans HZB.out h2⟩)
 clear hb ha HZB h1 h2
 go_wp2_with fail
 refine (unless_any 74 81 #[] V13).mono ?_
 rintro e V14 ⟨a3_0, b3_0, rfl, h1, h2, h3, hb⟩
 have HZB := HZ
 have ha : Agr (w.heap.size + 1) V13 V14 := Agr.below hb
 replace HX1 := Lib.hid (HX1.out.agr ha)
 replace HK1 := Lib.hid (HK1.out.agr ha)
 replace HX2 := Lib.hid (HX2.out.agr ha)
 replace HK2 := Lib.hid (HK2.out.agr ha)
 replace HX3 := Lib.hid (HX3.out.agr ha)
 replace HM := Lib.hid (show MapAt V14 w.heap.size l2 from (hb.block _ (lt_of_block HM.out)).trans HM.out)
 replace HZ := Lib.hid (Nat.le_trans HZ.out hb.size)
 replace HB := Lib.hid (HB.out.trans (hb.mono HB.out.size))
 have HC3_0 := Lib.hid (show ChkAt V14 a3_0 b3_0 (qF 81) 74 /\ w.heap.size + 1 <= a3_0 /\ w.heap.size + 1 <= b3_0 from ⟨h1, Nat.le_trans HZB.out h2, Nat.le_trans HZB.out h3⟩)
 clear hb ha HZB h1 h2 h3
 unfold unlF
 go_wp2_with fail
 refine (unless_any 2 80 #[] V14).mono ?_
 rintro e V15 ⟨a3_1, b3_1, rfl, h1, h2, h3, hb⟩
 have HZB := HZ
 have ha : Agr (w.heap.size + 1) V14 V15 := Agr.below hb
 replace HX1 := Lib.hid (HX1.out.agr ha)
 replace HK1 := Lib.hid (HK1.out.agr ha)
 replace HX2 := Lib.hid (HX2.out.agr ha)
 replace HK2 := Lib.hid (HK2.out.agr ha)
 replace HX3 := Lib.hid (HX3.out.agr ha)
 replace HC3_0 := Lib.hid (show ChkAt _ a3_0 b3_0 (qF 81) 74 /\ w.heap.size + 1 <= a3_0 /\ w.heap.size + 1 <= b3_0 from ⟨HC3_0.out.1.below hb, HC3_0.out.2⟩)
 replace HM := Lib.hid (show MapAt V15 w.heap.size l2 from (hb.block _ (lt_of_block HM.out)).trans HM.out)
 replace HZ := Lib.hid (Nat.le_trans HZ.out hb.size)
 replace HB := Lib.hid (HB.out.trans (hb.mono HB.out.size))
 have HC3_1 := Lib.hid (show ChkAt V15 a3_1 b3_1 (qF 80) 2 /\ w.heap.size + 1 <= a3_1 /\ w.heap.size + 1 <= b3_1 from ⟨h1, Nat.le_trans HZB.out h2, Nat.le_trans HZB.out h3⟩)
 clear hb ha HZB h1 h2 h3
 unfold unlF
 obtain ⟨V16, hV⟩ : ∃ V, V = V15.alloc (.cells #[unlF a3_0 b3_0, unlF a3_1 b3_1] 118) := ⟨_, rfl⟩
 have hb : Below V15.heap.size V15 V16 := by rw [hV]; exact (Below.refl _ _).alloc (Nat.le_refl _) _
 have ha : Agr (w.heap.size + 1) V15 V16 := Agr.below hb
 have HG : Hid (V16.heap[V15.heap.size]? = some (.cells #[unlF a3_0 b3_0, unlF a3_1 b3_1] 118 (0, 0)) /\ w.heap.size + 1 <= V15.heap.size) := Lib.hid ⟨by rw [hV]; exact heap_alloc_new _ _, HZ.out⟩
 obtain ⟨gc3, hgc⟩ : ∃ g, g = V15.heap.size := ⟨_, rfl⟩
 rw [<- hgc] at HG
 replace HX1 := Lib.hid (HX1.out.agr ha)
 replace HK1 := Lib.hid (HK1.out.agr ha)
 replace HX2 := Lib.hid (HX2.out.agr ha)
 replace HK2 := Lib.hid (HK2.out.agr ha)
 replace HX3 := Lib.hid (HX3.out.agr ha)
 replace HC3_0 := Lib.hid (show ChkAt _ a3_0 b3_0 (qF 81) 74 /\ w.heap.size + 1 <= a3_0 /\ w.heap.size + 1 <= b3_0 from ⟨HC3_0.out.1.below hb, HC3_0.out.2⟩)
 replace HC3_1 := Lib.hid (show ChkAt _ a3_1 b3_1 (qF 80) 2 /\ w.heap.size + 1 <= a3_1 /\ w.heap.size + 1 <= b3_1 from ⟨HC3_1.out.1.below hb, HC3_1.out.2⟩)
 replace HM := Lib.hid (show MapAt V16 w.heap.size l2 from (hb.block _ (lt_of_block HM.out)).trans HM.out)
 replace HZ := Lib.hid (Nat.le_trans HZ.out hb.size)
 replace HB := Lib.hid (HB.out.trans (hb.mono HB.out.size))
 clear hb ha
 unfold unlF at hV
 unfold addF
 go_wp2_with fail
 rw [<- hV, <- hgc]
 clear hV hgc
 refine (checked_any 119 #[.pointer (some ⟨kx3, 0, none⟩)] gc3 2 V16).mono ?_
 rintro e V17 ⟨kc3, kd3, rfl, h1, h2, h3, h4, hb⟩
 have HZB := HZ
 have ha : Agr (w.heap.size + 1) V16 V17 := Agr.below hb
 have h3' := Nat.le_trans HZ.out h3
 have h4' := Nat.le_trans HZ.out h4
 replace HX1 := Lib.hid (HX1.out.agr ha)
 replace HK1 := Lib.hid (HK1.out.agr ha)
 replace HX2 := Lib.hid (HX2.out.agr ha)
 replace HK2 := Lib.hid (HK2.out.agr ha)
 replace HX3 := Lib.hid (HX3.out.agr ha)
 replace HC3_0 := Lib.hid (show ChkAt _ a3_0 b3_0 (qF 81) 74 /\ w.heap.size + 1 <= a3_0 /\ w.heap.size + 1 <= b3_0 from ⟨HC3_0.out.1.below hb, HC3_0.out.2⟩)
 replace HC3_1 := Lib.hid (show ChkAt _ a3_1 b3_1 (qF 80) 2 /\ w.heap.size + 1 <= a3_1 /\ w.heap.size + 1 <= b3_1 from ⟨HC3_1.out.1.below hb, HC3_1.out.2⟩)
 replace HM := Lib.hid (show MapAt V17 w.heap.size l2 from (hb.block _ (lt_of_block HM.out)).trans HM.out)
 replace HZ := Lib.hid (Nat.le_trans HZ.out hb.size)
 replace HB := Lib.hid (HB.out.trans (hb.mono HB.out.size))
 have HK3 := Lib.hid (show KindAt V17 (w.heap.size + 1) kc3 kd3 (addF kx3) [(qF 81, 74), (qF 80, 2)] from KindAt.mk [a3_0, a3_1] [b3_0, b3_1] rfl rfl h1 h2 ((hb.block _ (lt_of_block HG.out.1)).trans HG.out.1) h3' h4' HG.out.2 (fun j hj => match j, hj with
  | 0, _ => HC3_0.out
  | 1, _ => HC3_1.out
  | j + 2, hj => absurd hj (by simp)))
 clear hb ha HZB h1 h2 h3 h4 h3' h4' HG HC3_0 HC3_1
 unfold stepF
 go_wp2_with (refine wpList_insM rfl _ _ _ rfl rfl rfl rfl HM.out HL.out ?_; intro V18 hm ha hbb; have HM2 := Lib.hid hm; have HA2 := Lib.hid ha; have HBB := Lib.hid hbb; clear hm ha hbb)
 have ha := HA2.out
 have hb := HBB.out w.heap.size (Nat.le_refl _)
 replace HX1 := Lib.hid (HX1.out.agr ha)
 replace HK1 := Lib.hid (HK1.out.agr ha)
 replace HX2 := Lib.hid (HX2.out.agr ha)
 replace HK2 := Lib.hid (HK2.out.agr ha)
 replace HX3 := Lib.hid (HX3.out.agr ha)
 replace HK3 := Lib.hid (show KAt V18 (w.heap.size + 1) (l2 ++ [(3, stepF kc3 kd3)]) 3 (addF kx3) [(qF 81, 74), (qF 80, 2)] from ⟨kc3, kd3, Ent.last HL.out, HK3.out.agr ha⟩)
 replace HK1 := Lib.hid (HK1.out.more (3, stepF kc3 kd3))
 replace HK2 := Lib.hid (HK2.out.more (3, stepF kc3 kd3))
 replace HL := Lib.hid (lt_more (v := stepF kc3 kd3) (k' := 4) HL.out (by omega))
 replace HZ := Lib.hid (Nat.le_trans HZ.out ha.1)
 replace HB := Lib.hid (HB.out.trans hb)
 have HM : Hid (MapAt V18 w.heap.size (l2 ++ [(3, stepF kc3 kd3)])) := Lib.hid HM2.out
 clear HM2 HA2 HBB ha hb
 generalize l2 ++ [(3, stepF kc3 kd3)] = l3 at *
 go_wp2_with fail
 refine (unless_any 70 83 #[] V18).mono ?_
 rintro e V19 ⟨a4_0, b4_0, rfl, h1, h2, h3, hb⟩
 have HZB := HZ
 have ha : Agr (w.heap.size + 1) V18 V19 := Agr.below hb
 replace HX1 := Lib.hid (HX1.out.agr ha)
 replace HK1 := Lib.hid (HK1.out.agr ha)
 replace HX2 := Lib.hid (HX2.out.agr ha)
 replace HK2 := Lib.hid (HK2.out.agr ha)
 replace HX3 := Lib.hid (HX3.out.agr ha)
 replace HK3 := Lib.hid (HK3.out.agr ha)
 replace HM := Lib.hid (show MapAt V19 w.heap.size l3 from (hb.block _ (lt_of_block HM.out)).trans HM.out)
 replace HZ := Lib.hid (Nat.le_trans HZ.out hb.size)
 replace HB := Lib.hid (HB.out.trans (hb.mono HB.out.size))
 have HC4_0 := Lib.hid (show ChkAt V19 a4_0 b4_0 (qF 83) 70 /\ w.heap.size + 1 <= a4_0 /\ w.heap.size + 1 <= b4_0 from ⟨h1, Nat.le_trans HZB.out h2, Nat.le_trans HZB.out h3⟩)
 clear hb ha HZB h1 h2 h3
 unfold unlF
 go_wp2_with fail
 refine (unless_any 70 84 #[] V19).mono ?_
 rintro e V20 ⟨a4_1, b4_1, rfl, h1, h2, h3, hb⟩
 have HZB := HZ
 have ha : Agr (w.heap.size + 1) V19 V20 := Agr.below hb
 replace HX1 := Lib.hid (HX1.out.agr ha)
 replace HK1 := Lib.hid (HK1.out.agr ha)
 replace HX2 := Lib.hid (HX2.out.agr ha)
 replace HK2 := Lib.hid (HK2.out.agr ha)
 replace HX3 := Lib.hid (HX3.out.agr ha)
 replace HK3 := Lib.hid (HK3.out.agr ha)
 replace HC4_0 := Lib.hid (show ChkAt _ a4_0 b4_0 (qF 83) 70 /\ w.heap.size + 1 <= a4_0 /\ w.heap.size + 1 <= b4_0 from ⟨HC4_0.out.1.below hb, HC4_0.out.2⟩)
 replace HM := Lib.hid (show MapAt V20 w.heap.size l3 from (hb.block _ (lt_of_block HM.out)).trans HM.out)
 replace HZ := Lib.hid (Nat.le_trans HZ.out hb.size)
 replace HB := Lib.hid (HB.out.trans (hb.mono HB.out.size))
 have HC4_1 := Lib.hid (show ChkAt V20 a4_1 b4_1 (qF 84) 70 /\ w.heap.size + 1 <= a4_1 /\ w.heap.size + 1 <= b4_1 from ⟨h1, Nat.le_trans HZB.out h2, Nat.le_trans HZB.out h3⟩)
 clear hb ha HZB h1 h2 h3
 unfold unlF
 go_wp2_with fail
 refine (unless_any 71 85 #[] V20).mono ?_
 rintro e V21 ⟨a4_2, b4_2, rfl, h1, h2, h3, hb⟩
 have HZB := HZ
 have ha : Agr (w.heap.size + 1) V20 V21 := Agr.below hb
 replace HX1 := Lib.hid (HX1.out.agr ha)
 replace HK1 := Lib.hid (HK1.out.agr ha)
 replace HX2 := Lib.hid (HX2.out.agr ha)
 replace HK2 := Lib.hid (HK2.out.agr ha)
 replace HX3 := Lib.hid (HX3.out.agr ha)
 replace HK3 := Lib.hid (HK3.out.agr ha)
 replace HC4_0 := Lib.hid (show ChkAt _ a4_0 b4_0 (qF 83) 70 /\ w.heap.size + 1 <= a4_0 /\ w.heap.size + 1 <= b4_0 from ⟨HC4_0.out.1.below hb, HC4_0.out.2⟩)
 replace HC4_1 := Lib.hid (show ChkAt _ a4_1 b4_1 (qF 84) 70 /\ w.heap.size + 1 <= a4_1 /\ w.heap.size + 1 <= b4_1 from ⟨HC4_1.out.1.below hb, HC4_1.out.2⟩)
 replace HM := Lib.hid (show MapAt V21 w.heap.size l3 from (hb.block _ (lt_of_block HM.out)).trans HM.out)
 replace HZ := Lib.hid (Nat.le_trans HZ.out hb.size)
 replace HB := Lib.hid (HB.out.trans (hb.mono HB.out.size))
 have HC4_2 := Lib.hid (show ChkAt V21 a4_2 b4_2 (qF 85) 71 /\ w.heap.size + 1 <= a4_2 /\ w.heap.size + 1 <= b4_2 from ⟨h1, Nat.le_trans HZB.out h2, Nat.le_trans HZB.out h3⟩)
 clear hb ha HZB h1 h2 h3
 unfold unlF
 go_wp2_with fail
 refine (unless_any 71 86 #[] V21).mono ?_
 rintro e V22 ⟨a4_3, b4_3, rfl, h1, h2, h3, hb⟩
 have HZB := HZ
 have ha : Agr (w.heap.size + 1) V21 V22 := Agr.below hb
 replace HX1 := Lib.hid (HX1.out.agr ha)
 replace HK1 := Lib.hid (HK1.out.agr ha)
 replace HX2 := Lib.hid (HX2.out.agr ha)
 replace HK2 := Lib.hid (HK2.out.agr ha)
 replace HX3 := Lib.hid (HX3.out.agr ha)
 replace HK3 := Lib.hid (HK3.out.agr ha)
 replace HC4_0 := Lib.hid (show ChkAt _ a4_0 b4_0 (qF 83) 70 /\ w.heap.size + 1 <= a4_0 /\ w.heap.size + 1 <= b4_0 from ⟨HC4_0.out.1.below hb, HC4_0.out.2⟩)
 replace HC4_1 := Lib.hid (show ChkAt _ a4_1 b4_1 (qF 84) 70 /\ w.heap.size + 1 <= a4_1 /\ w.heap.size + 1 <= b4_1 from ⟨HC4_1.out.1.below hb, HC4_1.out.2⟩)
 replace HC4_2 := Lib.hid (show ChkAt _ a4_2 b4_2 (qF 85) 71 /\ w.heap.size + 1 <= a4_2 /\ w.heap.size + 1 <= b4_2 from ⟨HC4_2.out.1.below hb, HC4_2.out.2⟩)
 replace HM := Lib.hid (show MapAt V22 w.heap.size l3 from (hb.block _ (lt_of_block HM.out)).trans HM.out)
 replace HZ := Lib.hid (Nat.le_trans HZ.out hb.size)
 replace HB := Lib.hid (HB.out.trans (hb.mono HB.out.size))
 have HC4_3 := Lib.hid (show ChkAt V22 a4_3 b4_3 (qF 86) 71 /\ w.heap.size + 1 <= a4_3 /\ w.heap.size + 1 <= b4_3 from ⟨h1, Nat.le_trans HZB.out h2, Nat.le_trans HZB.out h3⟩)
 clear hb ha HZB h1 h2 h3
 unfold unlF
 go_wp2_with fail
 refine (unless_any 71 87 #[] V22).mono ?_
 rintro e V23 ⟨a4_4, b4_4, rfl, h1, h2, h3, hb⟩
 have HZB := HZ
 have ha : Agr (w.heap.size + 1) V22 V23 := Agr.below hb
 replace HX1 := Lib.hid (HX1.out.agr ha)
 replace HK1 := Lib.hid (HK1.out.agr ha)
 replace HX2 := Lib.hid (HX2.out.agr ha)
 replace HK2 := Lib.hid (HK2.out.agr ha)
 replace HX3 := Lib.hid (HX3.out.agr ha)
 replace HK3 := Lib.hid (HK3.out.agr ha)
 replace HC4_0 := Lib.hid (show ChkAt _ a4_0 b4_0 (qF 83) 70 /\ w.heap.size + 1 <= a4_0 /\ w.heap.size + 1 <= b4_0 from ⟨HC4_0.out.1.below hb, HC4_0.out.2⟩)
 replace HC4_1 := Lib.hid (show ChkAt _ a4_1 b4_1 (qF 84) 70 /\ w.heap.size + 1 <= a4_1 /\ w.heap.size + 1 <= b4_1 from ⟨HC4_1.out.1.below hb, HC4_1.out.2⟩)
 replace HC4_2 := Lib.hid (show ChkAt _ a4_2 b4_2 (qF 85) 71 /\ w.heap.size + 1 <= a4_2 /\ w.heap.size + 1 <= b4_2 from ⟨HC4_2.out.1.below hb, HC4_2.out.2⟩)
 replace HC4_3 := Lib.hid (show ChkAt _ a4_3 b4_3 (qF 86) 71 /\ w.heap.size + 1 <= a4_3 /\ w.heap.size + 1 <= b4_3 from ⟨HC4_3.out.1.below hb, HC4_3.out.2⟩)
 replace HM := Lib.hid (show MapAt V23 w.heap.size l3 from (hb.block _ (lt_of_block HM.out)).trans HM.out)
 replace HZ := Lib.hid (Nat.le_trans HZ.out hb.size)
 replace HB := Lib.hid (HB.out.trans (hb.mono HB.out.size))
 have HC4_4 := Lib.hid (show ChkAt V23 a4_4 b4_4 (qF 87) 71 /\ w.heap.size + 1 <= a4_4 /\ w.heap.size + 1 <= b4_4 from ⟨h1, Nat.le_trans HZB.out h2, Nat.le_trans HZB.out h3⟩)
 clear hb ha HZB h1 h2 h3
 unfold unlF
 go_wp2_with fail
 refine (unless_any 72 88 #[] V23).mono ?_
 rintro e V24 ⟨a4_5, b4_5, rfl, h1, h2, h3, hb⟩
 have HZB := HZ
 have ha : Agr (w.heap.size + 1) V23 V24 := Agr.below hb
 replace HX1 := Lib.hid (HX1.out.agr ha)
 replace HK1 := Lib.hid (HK1.out.agr ha)
 replace HX2 := Lib.hid (HX2.out.agr ha)
 replace HK2 := Lib.hid (HK2.out.agr ha)
 replace HX3 := Lib.hid (HX3.out.agr ha)
 replace HK3 := Lib.hid (HK3.out.agr ha)
 replace HC4_0 := Lib.hid (show ChkAt _ a4_0 b4_0 (qF 83) 70 /\ w.heap.size + 1 <= a4_0 /\ w.heap.size + 1 <= b4_0 from ⟨HC4_0.out.1.below hb, HC4_0.out.2⟩)
 replace HC4_1 := Lib.hid (show ChkAt _ a4_1 b4_1 (qF 84) 70 /\ w.heap.size + 1 <= a4_1 /\ w.heap.size + 1 <= b4_1 from ⟨HC4_1.out.1.below hb, HC4_1.out.2⟩)
 replace HC4_2 := Lib.hid (show ChkAt _ a4_2 b4_2 (qF 85) 71 /\ w.heap.size + 1 <= a4_2 /\ w.heap.size + 1 <= b4_2 from ⟨HC4_2.out.1.below hb, HC4_2.out.2⟩)
 replace HC4_3 := Lib.hid (show ChkAt _ a4_3 b4_3 (qF 86) 71 /\ w.heap.size + 1 <= a4_3 /\ w.heap.size + 1 <= b4_3 from ⟨HC4_3.out.1.below hb, HC4_3.out.2⟩)
 replace HC4_4 := Lib.hid (show ChkAt _ a4_4 b4_4 (qF 87) 71 /\ w.heap.size + 1 <= a4_4 /\ w.heap.size + 1 <= b4_4 from ⟨HC4_4.out.1.below hb, HC4_4.out.2⟩)
 replace HM := Lib.hid (show MapAt V24 w.heap.size l3 from (hb.block _ (lt_of_block HM.out)).trans HM.out)
 replace HZ := Lib.hid (Nat.le_trans HZ.out hb.size)
 replace HB := Lib.hid (HB.out.trans (hb.mono HB.out.size))
 have HC4_5 := Lib.hid (show ChkAt V24 a4_5 b4_5 (qF 88) 72 /\ w.heap.size + 1 <= a4_5 /\ w.heap.size + 1 <= b4_5 from ⟨h1, Nat.le_trans HZB.out h2, Nat.le_trans HZB.out h3⟩)
 clear hb ha HZB h1 h2 h3
 unfold unlF
 go_wp2_with fail
 refine (unless_any 73 89 #[] V24).mono ?_
 rintro e V25 ⟨a4_6, b4_6, rfl, h1, h2, h3, hb⟩
 have HZB := HZ
 have ha : Agr (w.heap.size + 1) V24 V25 := Agr.below hb
 replace HX1 := Lib.hid (HX1.out.agr ha)
 replace HK1 := Lib.hid (HK1.out.agr ha)
 replace HX2 := Lib.hid (HX2.out.agr ha)
 replace HK2 := Lib.hid (HK2.out.agr ha)
 replace HX3 := Lib.hid (HX3.out.agr ha)
 replace HK3 := Lib.hid (HK3.out.agr ha)
 replace HC4_0 := Lib.hid (show ChkAt _ a4_0 b4_0 (qF 83) 70 /\ w.heap.size + 1 <= a4_0 /\ w.heap.size + 1 <= b4_0 from ⟨HC4_0.out.1.below hb, HC4_0.out.2⟩)
 replace HC4_1 := Lib.hid (show ChkAt _ a4_1 b4_1 (qF 84) 70 /\ w.heap.size + 1 <= a4_1 /\ w.heap.size + 1 <= b4_1 from ⟨HC4_1.out.1.below hb, HC4_1.out.2⟩)
 replace HC4_2 := Lib.hid (show ChkAt _ a4_2 b4_2 (qF 85) 71 /\ w.heap.size + 1 <= a4_2 /\ w.heap.size + 1 <= b4_2 from ⟨HC4_2.out.1.below hb, HC4_2.out.2⟩)
 replace HC4_3 := Lib.hid (show ChkAt _ a4_3 b4_3 (qF 86) 71 /\ w.heap.size + 1 <= a4_3 /\ w.heap.size + 1 <= b4_3 from ⟨HC4_3.out.1.below hb, HC4_3.out.2⟩)
 replace HC4_4 := Lib.hid (show ChkAt _ a4_4 b4_4 (qF 87) 71 /\ w.heap.size + 1 <= a4_4 /\ w.heap.size + 1 <= b4_4 from ⟨HC4_4.out.1.below hb, HC4_4.out.2⟩)
 replace HC4_5 := Lib.hid (show ChkAt _ a4_5 b4_5 (qF 88) 72 /\ w.heap.size + 1 <= a4_5 /\ w.heap.size + 1 <= b4_5 from ⟨HC4_5.out.1.below hb, HC4_5.out.2⟩)
 replace HM := Lib.hid (show MapAt V25 w.heap.size l3 from (hb.block _ (lt_of_block HM.out)).trans HM.out)
 replace HZ := Lib.hid (Nat.le_trans HZ.out hb.size)
 replace HB := Lib.hid (HB.out.trans (hb.mono HB.out.size))
 have HC4_6 := Lib.hid (show ChkAt V25 a4_6 b4_6 (qF 89) 73 /\ w.heap.size + 1 <= a4_6 /\ w.heap.size + 1 <= b4_6 from ⟨h1, Nat.le_trans HZB.out h2, Nat.le_trans HZB.out h3⟩)
 clear hb ha HZB h1 h2 h3
 unfold unlF
 obtain ⟨V26, hV⟩ : ∃ V, V = V25.alloc (.cells #[unlF a4_0 b4_0, unlF a4_1 b4_1, unlF a4_2 b4_2, unlF a4_3 b4_3, unlF a4_4 b4_4, unlF a4_5 b4_5, unlF a4_6 b4_6] 118) := ⟨_, rfl⟩
 have hb : Below V25.heap.size V25 V26 := by rw [hV]; exact (Below.refl _ _).alloc (Nat.le_refl _) _
 have ha : Agr (w.heap.size + 1) V25 V26 := Agr.below hb
 have HG : Hid (V26.heap[V25.heap.size]? = some (.cells #[unlF a4_0 b4_0, unlF a4_1 b4_1, unlF a4_2 b4_2, unlF a4_3 b4_3, unlF a4_4 b4_4, unlF a4_5 b4_5, unlF a4_6 b4_6] 118 (0, 0)) /\ w.heap.size + 1 <= V25.heap.size) := Lib.hid ⟨by rw [hV]; exact heap_alloc_new _ _, HZ.out⟩
 obtain ⟨gc4, hgc⟩ : ∃ g, g = V25.heap.size := ⟨_, rfl⟩
 rw [<- hgc] at HG
 replace HX1 := Lib.hid (HX1.out.agr ha)
 replace HK1 := Lib.hid (HK1.out.agr ha)
 replace HX2 := Lib.hid (HX2.out.agr ha)
 replace HK2 := Lib.hid (HK2.out.agr ha)
 replace HX3 := Lib.hid (HX3.out.agr ha)
 replace HK3 := Lib.hid (HK3.out.agr ha)
 replace HC4_0 := Lib.hid (show ChkAt _ a4_0 b4_0 (qF 83) 70 /\ w.heap.size + 1 <= a4_0 /\ w.heap.size + 1 <= b4_0 from ⟨HC4_0.out.1.below hb, HC4_0.out.2⟩)
 replace HC4_1 := Lib.hid (show ChkAt _ a4_1 b4_1 (qF 84) 70 /\ w.heap.size + 1 <= a4_1 /\ w.heap.size + 1 <= b4_1 from ⟨HC4_1.out.1.below hb, HC4_1.out.2⟩)
 replace HC4_2 := Lib.hid (show ChkAt _ a4_2 b4_2 (qF 85) 71 /\ w.heap.size + 1 <= a4_2 /\ w.heap.size + 1 <= b4_2 from ⟨HC4_2.out.1.below hb, HC4_2.out.2⟩)
 replace HC4_3 := Lib.hid (show ChkAt _ a4_3 b4_3 (qF 86) 71 /\ w.heap.size + 1 <= a4_3 /\ w.heap.size + 1 <= b4_3 from ⟨HC4_3.out.1.below hb, HC4_3.out.2⟩)
 replace HC4_4 := Lib.hid (show ChkAt _ a4_4 b4_4 (qF 87) 71 /\ w.heap.size + 1 <= a4_4 /\ w.heap.size + 1 <= b4_4 from ⟨HC4_4.out.1.below hb, HC4_4.out.2⟩)
 replace HC4_5 := Lib.hid (show ChkAt _ a4_5 b4_5 (qF 88) 72 /\ w.heap.size + 1 <= a4_5 /\ w.heap.size + 1 <= b4_5 from ⟨HC4_5.out.1.below hb, HC4_5.out.2⟩)
 replace HC4_6 := Lib.hid (show ChkAt _ a4_6 b4_6 (qF 89) 73 /\ w.heap.size + 1 <= a4_6 /\ w.heap.size + 1 <= b4_6 from ⟨HC4_6.out.1.below hb, HC4_6.out.2⟩)
 replace HM := Lib.hid (show MapAt V26 w.heap.size l3 from (hb.block _ (lt_of_block HM.out)).trans HM.out)
 replace HZ := Lib.hid (Nat.le_trans HZ.out hb.size)
 replace HB := Lib.hid (HB.out.trans (hb.mono HB.out.size))
 clear hb ha
 unfold unlF at hV
 go_wp2_with fail
 rw [<- hV, <- hgc]
 clear hV hgc
 refine (checked_any 82 #[] gc4 7 V26).mono ?_
 rintro e V27 ⟨kc4, kd4, rfl, h1, h2, h3, h4, hb⟩
 have HZB := HZ
 have ha : Agr (w.heap.size + 1) V26 V27 := Agr.below hb
 have h3' := Nat.le_trans HZ.out h3
 have h4' := Nat.le_trans HZ.out h4
 replace HX1 := Lib.hid (HX1.out.agr ha)
 replace HK1 := Lib.hid (HK1.out.agr ha)
 replace HX2 := Lib.hid (HX2.out.agr ha)
 replace HK2 := Lib.hid (HK2.out.agr ha)
 replace HX3 := Lib.hid (HX3.out.agr ha)
 replace HK3 := Lib.hid (HK3.out.agr ha)
 replace HC4_0 := Lib.hid (show ChkAt _ a4_0 b4_0 (qF 83) 70 /\ w.heap.size + 1 <= a4_0 /\ w.heap.size + 1 <= b4_0 from ⟨HC4_0.out.1.below hb, HC4_0.out.2⟩)
 replace HC4_1 := Lib.hid (show ChkAt _ a4_1 b4_1 (qF 84) 70 /\ w.heap.size + 1 <= a4_1 /\ w.heap.size + 1 <= b4_1 from ⟨HC4_1.out.1.below hb, HC4_1.out.2⟩)
 replace HC4_2 := Lib.hid (show ChkAt _ a4_2 b4_2 (qF 85) 71 /\ w.heap.size + 1 <= a4_2 /\ w.heap.size + 1 <= b4_2 from ⟨HC4_2.out.1.below hb, HC4_2.out.2⟩)
 replace HC4_3 := Lib.hid (show ChkAt _ a4_3 b4_3 (qF 86) 71 /\ w.heap.size + 1 <= a4_3 /\ w.heap.size + 1 <= b4_3 from ⟨HC4_3.out.1.below hb, HC4_3.out.2⟩)
 replace HC4_4 := Lib.hid (show ChkAt _ a4_4 b4_4 (qF 87) 71 /\ w.heap.size + 1 <= a4_4 /\ w.heap.size + 1 <= b4_4 from ⟨HC4_4.out.1.below hb, HC4_4.out.2⟩)
 replace HC4_5 := Lib.hid (show ChkAt _ a4_5 b4_5 (qF 88) 72 /\ w.heap.size + 1 <= a4_5 /\ w.heap.size + 1 <= b4_5 from ⟨HC4_5.out.1.below hb, HC4_5.out.2⟩)
 replace HC4_6 := Lib.hid (show ChkAt _ a4_6 b4_6 (qF 89) 73 /\ w.heap.size + 1 <= a4_6 /\ w.heap.size + 1 <= b4_6 from ⟨HC4_6.out.1.below hb, HC4_6.out.2⟩)
 replace HM := Lib.hid (show MapAt V27 w.heap.size l3 from (hb.block _ (lt_of_block HM.out)).trans HM.out)
 replace HZ := Lib.hid (Nat.le_trans HZ.out hb.size)
 replace HB := Lib.hid (HB.out.trans (hb.mono HB.out.size))
 have HK4 := Lib.hid (show KindAt V27 (w.heap.size + 1) kc4 kd4 (qF 82) [(qF 83, 70), (qF 84, 70), (qF 85, 71), (qF 86, 71), (qF 87, 71), (qF 88, 72), (qF 89, 73)] from KindAt.mk [a4_0, a4_1, a4_2, a4_3, a4_4, a4_5, a4_6] [b4_0, b4_1, b4_2, b4_3, b4_4, b4_5, b4_6] rfl rfl h1 h2 ((hb.block _ (lt_of_block HG.out.1)).trans HG.out.1) h3' h4' HG.out.2 (fun j hj => match j, hj with
  | 0, _ => HC4_0.out
  | 1, _ => HC4_1.out
  | 2, _ => HC4_2.out
  | 3, _ => HC4_3.out
  | 4, _ => HC4_4.out
  | 5, _ => HC4_5.out
  | 6, _ => HC4_6.out
  | j + 7, hj => absurd hj (by simp)))
 clear hb ha HZB h1 h2 h3 h4 h3' h4' HG HC4_0 HC4_1 HC4_2 HC4_3 HC4_4 HC4_5 HC4_6
 unfold stepF
 go_wp2_with (refine wpList_insM rfl _ _ _ rfl rfl rfl rfl HM.out HL.out ?_; intro V28 hm ha hbb; have HM2 := Lib.hid hm; have HA2 := Lib.hid ha; have HBB := Lib.hid hbb; clear hm ha hbb)
 have ha := HA2.out
 have hb := HBB.out w.heap.size (Nat.le_refl _)
 replace HX1 := Lib.hid (HX1.out.agr ha)
 replace HK1 := Lib.hid (HK1.out.agr ha)
 replace HX2 := Lib.hid (HX2.out.agr ha)
 replace HK2 := Lib.hid (HK2.out.agr ha)
 replace HX3 := Lib.hid (HX3.out.agr ha)
 replace HK3 := Lib.hid (HK3.out.agr ha)
 replace HK4 := Lib.hid (show KAt V28 (w.heap.size + 1) (l3 ++ [(4, stepF kc4 kd4)]) 4 (qF 82) [(qF 83, 70), (qF 84, 70), (qF 85, 71), (qF 86, 71), (qF 87, 71), (qF 88, 72), (qF 89, 73)] from ⟨kc4, kd4, Ent.last HL.out, HK4.out.agr ha⟩)
 replace HK1 := Lib.hid (HK1.out.more (4, stepF kc4 kd4))
 replace HK2 := Lib.hid (HK2.out.more (4, stepF kc4 kd4))
 replace HK3 := Lib.hid (HK3.out.more (4, stepF kc4 kd4))
 replace HL := Lib.hid (lt_more (v := stepF kc4 kd4) (k' := 5) HL.out (by omega))
 replace HZ := Lib.hid (Nat.le_trans HZ.out ha.1)
 replace HB := Lib.hid (HB.out.trans hb)
 have HM : Hid (MapAt V28 w.heap.size (l3 ++ [(4, stepF kc4 kd4)])) := Lib.hid HM2.out
 clear HM2 HA2 HBB ha hb
 generalize l3 ++ [(4, stepF kc4 kd4)] = l4 at *
 go_wp2_with fail
 refine (unless_any 70 83 #[] V28).mono ?_
 rintro e V29 ⟨a5_0, b5_0, rfl, h1, h2, h3, hb⟩
 have HZB := HZ
 have ha : Agr (w.heap.size + 1) V28 V29 := Agr.below hb
 replace HX1 := Lib.hid (HX1.out.agr ha)
 replace HK1 := Lib.hid (HK1.out.agr ha)
 replace HX2 := Lib.hid (HX2.out.agr ha)
 replace HK2 := Lib.hid (HK2.out.agr ha)
 replace HX3 := Lib.hid (HX3.out.agr ha)
 replace HK3 := Lib.hid (HK3.out.agr ha)
 replace HK4 := Lib.hid (HK4.out.agr ha)
 replace HM := Lib.hid (show MapAt V29 w.heap.size l4 from (hb.block _ (lt_of_block HM.out)).trans HM.out)
 replace HZ := Lib.hid (Nat.le_trans HZ.out hb.size)
 replace HB := Lib.hid (HB.out.trans (hb.mono HB.out.size))
 have HC5_0 := Lib.hid (show ChkAt V29 a5_0 b5_0 (qF 83) 70 /\ w.heap.size + 1 <= a5_0 /\ w.heap.size + 1 <= b5_0 from ⟨h1, Nat.le_trans HZB.out h2, Nat.le_trans HZB.out h3⟩)
 clear hb ha HZB h1 h2 h3
 unfold unlF
 go_wp2_with fail
 refine (unless_any 71 85 #[] V29).mono ?_
 rintro e V30 ⟨a5_1, b5_1, rfl, h1, h2, h3, hb⟩
 have HZB := HZ
 have ha : Agr (w.heap.size + 1) V29 V30 := Agr.below hb
 replace HX1 := Lib.hid (HX1.out.agr ha)
 replace HK1 := Lib.hid (HK1.out.agr ha)
 replace HX2 := Lib.hid (HX2.out.agr ha)
 replace HK2 := Lib.hid (HK2.out.agr ha)
 replace HX3 := Lib.hid (HX3.out.agr ha)
 replace HK3 := Lib.hid (HK3.out.agr ha)
 replace HK4 := Lib.hid (HK4.out.agr ha)
 replace HC5_0 := Lib.hid (show ChkAt _ a5_0 b5_0 (qF 83) 70 /\ w.heap.size + 1 <= a5_0 /\ w.heap.size + 1 <= b5_0 from ⟨HC5_0.out.1.below hb, HC5_0.out.2⟩)
 replace HM := Lib.hid (show MapAt V30 w.heap.size l4 from (hb.block _ (lt_of_block HM.out)).trans HM.out)
 replace HZ := Lib.hid (Nat.le_trans HZ.out hb.size)
 replace HB := Lib.hid (HB.out.trans (hb.mono HB.out.size))
 have HC5_1 := Lib.hid (show ChkAt V30 a5_1 b5_1 (qF 85) 71 /\ w.heap.size + 1 <= a5_1 /\ w.heap.size + 1 <= b5_1 from ⟨h1, Nat.le_trans HZB.out h2, Nat.le_trans HZB.out h3⟩)
 clear hb ha HZB h1 h2 h3
 unfold unlF
 go_wp2_with fail
 refine (unless_any 3 91 #[] V30).mono ?_
 rintro e V31 ⟨a5_2, b5_2, rfl, h1, h2, h3, hb⟩
 have HZB := HZ
 have ha : Agr (w.heap.size + 1) V30 V31 := Agr.below hb
 replace HX1 := Lib.hid (HX1.out.agr ha)
 replace HK1 := Lib.hid (HK1.out.agr ha)
 replace HX2 := Lib.hid (HX2.out.agr ha)
 replace HK2 := Lib.hid (HK2.out.agr ha)
 replace HX3 := Lib.hid (HX3.out.agr ha)
 replace HK3 := Lib.hid (HK3.out.agr ha)
 replace HK4 := Lib.hid (HK4.out.agr ha)
 replace HC5_0 := Lib.hid (show ChkAt _ a5_0 b5_0 (qF 83) 70 /\ w.heap.size + 1 <= a5_0 /\ w.heap.size + 1 <= b5_0 from ⟨HC5_0.out.1.below hb, HC5_0.out.2⟩)
 replace HC5_1 := Lib.hid (show ChkAt _ a5_1 b5_1 (qF 85) 71 /\ w.heap.size + 1 <= a5_1 /\ w.heap.size + 1 <= b5_1 from ⟨HC5_1.out.1.below hb, HC5_1.out.2⟩)
 replace HM := Lib.hid (show MapAt V31 w.heap.size l4 from (hb.block _ (lt_of_block HM.out)).trans HM.out)
 replace HZ := Lib.hid (Nat.le_trans HZ.out hb.size)
 replace HB := Lib.hid (HB.out.trans (hb.mono HB.out.size))
 have HC5_2 := Lib.hid (show ChkAt V31 a5_2 b5_2 (qF 91) 3 /\ w.heap.size + 1 <= a5_2 /\ w.heap.size + 1 <= b5_2 from ⟨h1, Nat.le_trans HZB.out h2, Nat.le_trans HZB.out h3⟩)
 clear hb ha HZB h1 h2 h3
 unfold unlF
 obtain ⟨V32, hV⟩ : ∃ V, V = V31.alloc (.cells #[unlF a5_0 b5_0, unlF a5_1 b5_1, unlF a5_2 b5_2] 118) := ⟨_, rfl⟩
 have hb : Below V31.heap.size V31 V32 := by rw [hV]; exact (Below.refl _ _).alloc (Nat.le_refl _) _
 have ha : Agr (w.heap.size + 1) V31 V32 := Agr.below hb
 have HG : Hid (V32.heap[V31.heap.size]? = some (.cells #[unlF a5_0 b5_0, unlF a5_1 b5_1, unlF a5_2 b5_2] 118 (0, 0)) /\ w.heap.size + 1 <= V31.heap.size) := Lib.hid ⟨by rw [hV]; exact heap_alloc_new _ _, HZ.out⟩
 obtain ⟨gc5, hgc⟩ : ∃ g, g = V31.heap.size := ⟨_, rfl⟩
 rw [<- hgc] at HG
 replace HX1 := Lib.hid (HX1.out.agr ha)
 replace HK1 := Lib.hid (HK1.out.agr ha)
 replace HX2 := Lib.hid (HX2.out.agr ha)
 replace HK2 := Lib.hid (HK2.out.agr ha)
 replace HX3 := Lib.hid (HX3.out.agr ha)
 replace HK3 := Lib.hid (HK3.out.agr ha)
 replace HK4 := Lib.hid (HK4.out.agr ha)
 replace HC5_0 := Lib.hid (show ChkAt _ a5_0 b5_0 (qF 83) 70 /\ w.heap.size + 1 <= a5_0 /\ w.heap.size + 1 <= b5_0 from ⟨HC5_0.out.1.below hb, HC5_0.out.2⟩)
 replace HC5_1 := Lib.hid (show ChkAt _ a5_1 b5_1 (qF 85) 71 /\ w.heap.size + 1 <= a5_1 /\ w.heap.size + 1 <= b5_1 from ⟨HC5_1.out.1.below hb, HC5_1.out.2⟩)
 replace HC5_2 := Lib.hid (show ChkAt _ a5_2 b5_2 (qF 91) 3 /\ w.heap.size + 1 <= a5_2 /\ w.heap.size + 1 <= b5_2 from ⟨HC5_2.out.1.below hb, HC5_2.out.2⟩)
 replace HM := Lib.hid (show MapAt V32 w.heap.size l4 from (hb.block _ (lt_of_block HM.out)).trans HM.out)
 replace HZ := Lib.hid (Nat.le_trans HZ.out hb.size)
 replace HB := Lib.hid (HB.out.trans (hb.mono HB.out.size))
 clear hb ha
 unfold unlF at hV
 go_wp2_with fail
 rw [<- hV, <- hgc]
 clear hV hgc
 refine (checked_any 90 #[] gc5 3 V32).mono ?_
 rintro e V33 ⟨kc5, kd5, rfl, h1, h2, h3, h4, hb⟩
 have HZB := HZ
 have ha : Agr (w.heap.size + 1) V32 V33 := Agr.below hb
 have h3' := Nat.le_trans HZ.out h3
 have h4' := Nat.le_trans HZ.out h4
 replace HX1 := Lib.hid (HX1.out.agr ha)
 replace HK1 := Lib.hid (HK1.out.agr ha)
 replace HX2 := Lib.hid (HX2.out.agr ha)
 replace HK2 := Lib.hid (HK2.out.agr ha)
 replace HX3 := Lib.hid (HX3.out.agr ha)
 replace HK3 := Lib.hid (HK3.out.agr ha)
 replace HK4 := Lib.hid (HK4.out.agr ha)
 replace HC5_0 := Lib.hid (show ChkAt _ a5_0 b5_0 (qF 83) 70 /\ w.heap.size + 1 <= a5_0 /\ w.heap.size + 1 <= b5_0 from ⟨HC5_0.out.1.below hb, HC5_0.out.2⟩)
 replace HC5_1 := Lib.hid (show ChkAt _ a5_1 b5_1 (qF 85) 71 /\ w.heap.size + 1 <= a5_1 /\ w.heap.size + 1 <= b5_1 from ⟨HC5_1.out.1.below hb, HC5_1.out.2⟩)
 replace HC5_2 := Lib.hid (show ChkAt _ a5_2 b5_2 (qF 91) 3 /\ w.heap.size + 1 <= a5_2 /\ w.heap.size + 1 <= b5_2 from ⟨HC5_2.out.1.below hb, HC5_2.out.2⟩)
 replace HM := Lib.hid (show MapAt V33 w.heap.size l4 from (hb.block _ (lt_of_block HM.out)).trans HM.out)
 replace HZ := Lib.hid (Nat.le_trans HZ.out hb.size)
 replace HB := Lib.hid (HB.out.trans (hb.mono HB.out.size))
 have HK5 := Lib.hid (show KindAt V33 (w.heap.size + 1) kc5 kd5 (qF 90) [(qF 83, 70), (qF 85, 71), (qF 91, 3)] from KindAt.mk [a5_0, a5_1, a5_2] [b5_0, b5_1, b5_2] rfl rfl h1 h2 ((hb.block _ (lt_of_block HG.out.1)).trans HG.out.1) h3' h4' HG.out.2 (fun j hj => match j, hj with
  | 0, _ => HC5_0.out
  | 1, _ => HC5_1.out
  | 2, _ => HC5_2.out
  | j + 3, hj => absurd hj (by simp)))
 clear hb ha HZB h1 h2 h3 h4 h3' h4' HG HC5_0 HC5_1 HC5_2
 unfold stepF
 go_wp2_with (refine wpList_insM rfl _ _ _ rfl rfl rfl rfl HM.out HL.out ?_; intro V34 hm ha hbb; have HM2 := Lib.hid hm; have HA2 := Lib.hid ha; have HBB := Lib.hid hbb; clear hm ha hbb)
 have ha := HA2.out
 have hb := HBB.out w.heap.size (Nat.le_refl _)
 replace HX1 := Lib.hid (HX1.out.agr ha)
 replace HK1 := Lib.hid (HK1.out.agr ha)
 replace HX2 := Lib.hid (HX2.out.agr ha)
 replace HK2 := Lib.hid (HK2.out.agr ha)
 replace HX3 := Lib.hid (HX3.out.agr ha)
 replace HK3 := Lib.hid (HK3.out.agr ha)
 replace HK4 := Lib.hid (HK4.out.agr ha)
 replace HK5 := Lib.hid (show KAt V34 (w.heap.size + 1) (l4 ++ [(5, stepF kc5 kd5)]) 5 (qF 90) [(qF 83, 70), (qF 85, 71), (qF 91, 3)] from ⟨kc5, kd5, Ent.last HL.out, HK5.out.agr ha⟩)
 replace HK1 := Lib.hid (HK1.out.more (5, stepF kc5 kd5))
 replace HK2 := Lib.hid (HK2.out.more (5, stepF kc5 kd5))
 replace HK3 := Lib.hid (HK3.out.more (5, stepF kc5 kd5))
 replace HK4 := Lib.hid (HK4.out.more (5, stepF kc5 kd5))
 replace HL := Lib.hid (lt_more (v := stepF kc5 kd5) (k' := 6) HL.out (by omega))
 replace HZ := Lib.hid (Nat.le_trans HZ.out ha.1)
 replace HB := Lib.hid (HB.out.trans hb)
 have HM : Hid (MapAt V34 w.heap.size (l4 ++ [(5, stepF kc5 kd5)])) := Lib.hid HM2.out
 clear HM2 HA2 HBB ha hb
 generalize l4 ++ [(5, stepF kc5 kd5)] = l5 at *
 go_wp2_with fail
 refine (unless_any 70 83 #[] V34).mono ?_
 rintro e V35 ⟨a6_0, b6_0, rfl, h1, h2, h3, hb⟩
 have HZB := HZ
 have ha : Agr (w.heap.size + 1) V34 V35 := Agr.below hb
 replace HX1 := Lib.hid (HX1.out.agr ha)
 replace HK1 := Lib.hid (HK1.out.agr ha)
 replace HX2 := Lib.hid (HX2.out.agr ha)
 replace HK2 := Lib.hid (HK2.out.agr ha)
 replace HX3 := Lib.hid (HX3.out.agr ha)
 replace HK3 := Lib.hid (HK3.out.agr ha)
 replace HK4 := Lib.hid (HK4.out.agr ha)
 replace HK5 := Lib.hid (HK5.out.agr ha)
 replace HM := Lib.hid (show MapAt V35 w.heap.size l5 from (hb.block _ (lt_of_block HM.out)).trans HM.out)
 replace HZ := Lib.hid (Nat.le_trans HZ.out hb.size)
 replace HB := Lib.hid (HB.out.trans (hb.mono HB.out.size))
 have HC6_0 := Lib.hid (show ChkAt V35 a6_0 b6_0 (qF 83) 70 /\ w.heap.size + 1 <= a6_0 /\ w.heap.size + 1 <= b6_0 from ⟨h1, Nat.le_trans HZB.out h2, Nat.le_trans HZB.out h3⟩)
 clear hb ha HZB h1 h2 h3
 unfold unlF
 obtain ⟨V36, hV⟩ : ∃ V, V = V35.alloc (.cells #[.int .i64 1] 3) := ⟨_, rfl⟩
 have hb : Below V35.heap.size V35 V36 := by rw [hV]; exact (Below.refl _ _).alloc (Nat.le_refl _) _
 have ha : Agr (w.heap.size + 1) V35 V36 := Agr.below hb
 have HG6 : Hid (V36.heap[V35.heap.size]? = some (.cells #[.int .i64 1] 3 (0, 0)) /\ w.heap.size + 1 <= V35.heap.size) := Lib.hid ⟨by rw [hV]; exact heap_alloc_new _ _, HZ.out⟩
 obtain ⟨gk6, hgk⟩ : ∃ g, g = V35.heap.size := ⟨_, rfl⟩
 rw [<- hgk] at HG6
 replace HX1 := Lib.hid (HX1.out.agr ha)
 replace HK1 := Lib.hid (HK1.out.agr ha)
 replace HX2 := Lib.hid (HX2.out.agr ha)
 replace HK2 := Lib.hid (HK2.out.agr ha)
 replace HX3 := Lib.hid (HX3.out.agr ha)
 replace HK3 := Lib.hid (HK3.out.agr ha)
 replace HK4 := Lib.hid (HK4.out.agr ha)
 replace HK5 := Lib.hid (HK5.out.agr ha)
 replace HC6_0 := Lib.hid (show ChkAt _ a6_0 b6_0 (qF 83) 70 /\ w.heap.size + 1 <= a6_0 /\ w.heap.size + 1 <= b6_0 from ⟨HC6_0.out.1.below hb, HC6_0.out.2⟩)
 replace HM := Lib.hid (show MapAt V36 w.heap.size l5 from (hb.block _ (lt_of_block HM.out)).trans HM.out)
 replace HZ := Lib.hid (Nat.le_trans HZ.out hb.size)
 replace HB := Lib.hid (HB.out.trans (hb.mono HB.out.size))
 clear hb ha
 go_wp2_with fail
 rw [<- hV, <- hgk]
 clear hV hgk
 refine (idIs_any gk6 1 V36).mono ?_
 rintro e V37 ⟨kk6, rfl, h1, h2, hb⟩
 have HZB := HZ
 have ha : Agr (w.heap.size + 1) V36 V37 := Agr.below hb
 have HI6 := Lib.hid (show IdsAt V37 (w.heap.size + 1) kk6 [1] from ⟨gk6, h1, (hb.block _ (lt_of_block HG6.out.1)).trans HG6.out.1, Nat.le_trans HZ.out h2, HG6.out.2⟩)
 replace HX1 := Lib.hid (HX1.out.agr ha)
 replace HK1 := Lib.hid (HK1.out.agr ha)
 replace HX2 := Lib.hid (HX2.out.agr ha)
 replace HK2 := Lib.hid (HK2.out.agr ha)
 replace HX3 := Lib.hid (HX3.out.agr ha)
 replace HK3 := Lib.hid (HK3.out.agr ha)
 replace HK4 := Lib.hid (HK4.out.agr ha)
 replace HK5 := Lib.hid (HK5.out.agr ha)
 replace HC6_0 := Lib.hid (show ChkAt _ a6_0 b6_0 (qF 83) 70 /\ w.heap.size + 1 <= a6_0 /\ w.heap.size + 1 <= b6_0 from ⟨HC6_0.out.1.below hb, HC6_0.out.2⟩)
 replace HM := Lib.hid (show MapAt V37 w.heap.size l5 from (hb.block _ (lt_of_block HM.out)).trans HM.out)
 replace HZ := Lib.hid (Nat.le_trans HZ.out hb.size)
 replace HB := Lib.hid (HB.out.trans (hb.mono HB.out.size))
 clear hb ha HZB h1 h2 HG6
 unfold idsF
 go_wp2_with fail
 refine (unless_any 71 126 #[.pointer (some ⟨kk6, 0, none⟩)] V37).mono ?_
 rintro e V38 ⟨a6_1, b6_1, rfl, h1, h2, h3, hb⟩
 have HZB := HZ
 have ha : Agr (w.heap.size + 1) V37 V38 := Agr.below hb
 replace HX1 := Lib.hid (HX1.out.agr ha)
 replace HK1 := Lib.hid (HK1.out.agr ha)
 replace HX2 := Lib.hid (HX2.out.agr ha)
 replace HK2 := Lib.hid (HK2.out.agr ha)
 replace HX3 := Lib.hid (HX3.out.agr ha)
 replace HK3 := Lib.hid (HK3.out.agr ha)
 replace HK4 := Lib.hid (HK4.out.agr ha)
 replace HK5 := Lib.hid (HK5.out.agr ha)
 replace HC6_0 := Lib.hid (show ChkAt _ a6_0 b6_0 (qF 83) 70 /\ w.heap.size + 1 <= a6_0 /\ w.heap.size + 1 <= b6_0 from ⟨HC6_0.out.1.below hb, HC6_0.out.2⟩)
 replace HI6 := Lib.hid (HI6.out.agr ha)
 replace HM := Lib.hid (show MapAt V38 w.heap.size l5 from (hb.block _ (lt_of_block HM.out)).trans HM.out)
 replace HZ := Lib.hid (Nat.le_trans HZ.out hb.size)
 replace HB := Lib.hid (HB.out.trans (hb.mono HB.out.size))
 have HC6_1 := Lib.hid (show ChkAt V38 a6_1 b6_1 (idsF kk6) 71 /\ w.heap.size + 1 <= a6_1 /\ w.heap.size + 1 <= b6_1 from ⟨h1, Nat.le_trans HZB.out h2, Nat.le_trans HZB.out h3⟩)
 clear hb ha HZB h1 h2 h3
 unfold unlF
 go_wp2_with fail
 refine (unless_any 74 79 #[] V38).mono ?_
 rintro e V39 ⟨a6_2, b6_2, rfl, h1, h2, h3, hb⟩
 have HZB := HZ
 have ha : Agr (w.heap.size + 1) V38 V39 := Agr.below hb
 replace HX1 := Lib.hid (HX1.out.agr ha)
 replace HK1 := Lib.hid (HK1.out.agr ha)
 replace HX2 := Lib.hid (HX2.out.agr ha)
 replace HK2 := Lib.hid (HK2.out.agr ha)
 replace HX3 := Lib.hid (HX3.out.agr ha)
 replace HK3 := Lib.hid (HK3.out.agr ha)
 replace HK4 := Lib.hid (HK4.out.agr ha)
 replace HK5 := Lib.hid (HK5.out.agr ha)
 replace HC6_0 := Lib.hid (show ChkAt _ a6_0 b6_0 (qF 83) 70 /\ w.heap.size + 1 <= a6_0 /\ w.heap.size + 1 <= b6_0 from ⟨HC6_0.out.1.below hb, HC6_0.out.2⟩)
 replace HI6 := Lib.hid (HI6.out.agr ha)
 replace HC6_1 := Lib.hid (show ChkAt _ a6_1 b6_1 (idsF kk6) 71 /\ w.heap.size + 1 <= a6_1 /\ w.heap.size + 1 <= b6_1 from ⟨HC6_1.out.1.below hb, HC6_1.out.2⟩)
 replace HM := Lib.hid (show MapAt V39 w.heap.size l5 from (hb.block _ (lt_of_block HM.out)).trans HM.out)
 replace HZ := Lib.hid (Nat.le_trans HZ.out hb.size)
 replace HB := Lib.hid (HB.out.trans (hb.mono HB.out.size))
 have HC6_2 := Lib.hid (show ChkAt V39 a6_2 b6_2 (qF 79) 74 /\ w.heap.size + 1 <= a6_2 /\ w.heap.size + 1 <= b6_2 from ⟨h1, Nat.le_trans HZB.out h2, Nat.le_trans HZB.out h3⟩)
 clear hb ha HZB h1 h2 h3
 unfold unlF
 go_wp2_with fail
 refine (unless_any 74 81 #[] V39).mono ?_
 rintro e V40 ⟨a6_3, b6_3, rfl, h1, h2, h3, hb⟩
 have HZB := HZ
 have ha : Agr (w.heap.size + 1) V39 V40 := Agr.below hb
 replace HX1 := Lib.hid (HX1.out.agr ha)
 replace HK1 := Lib.hid (HK1.out.agr ha)
 replace HX2 := Lib.hid (HX2.out.agr ha)
 replace HK2 := Lib.hid (HK2.out.agr ha)
 replace HX3 := Lib.hid (HX3.out.agr ha)
 replace HK3 := Lib.hid (HK3.out.agr ha)
 replace HK4 := Lib.hid (HK4.out.agr ha)
 replace HK5 := Lib.hid (HK5.out.agr ha)
 replace HC6_0 := Lib.hid (show ChkAt _ a6_0 b6_0 (qF 83) 70 /\ w.heap.size + 1 <= a6_0 /\ w.heap.size + 1 <= b6_0 from ⟨HC6_0.out.1.below hb, HC6_0.out.2⟩)
 replace HI6 := Lib.hid (HI6.out.agr ha)
 replace HC6_1 := Lib.hid (show ChkAt _ a6_1 b6_1 (idsF kk6) 71 /\ w.heap.size + 1 <= a6_1 /\ w.heap.size + 1 <= b6_1 from ⟨HC6_1.out.1.below hb, HC6_1.out.2⟩)
 replace HC6_2 := Lib.hid (show ChkAt _ a6_2 b6_2 (qF 79) 74 /\ w.heap.size + 1 <= a6_2 /\ w.heap.size + 1 <= b6_2 from ⟨HC6_2.out.1.below hb, HC6_2.out.2⟩)
 replace HM := Lib.hid (show MapAt V40 w.heap.size l5 from (hb.block _ (lt_of_block HM.out)).trans HM.out)
 replace HZ := Lib.hid (Nat.le_trans HZ.out hb.size)
 replace HB := Lib.hid (HB.out.trans (hb.mono HB.out.size))
 have HC6_3 := Lib.hid (show ChkAt V40 a6_3 b6_3 (qF 81) 74 /\ w.heap.size + 1 <= a6_3 /\ w.heap.size + 1 <= b6_3 from ⟨h1, Nat.le_trans HZB.out h2, Nat.le_trans HZB.out h3⟩)
 clear hb ha HZB h1 h2 h3
 unfold unlF
 go_wp2_with fail
 refine (unless_any 75 94 #[] V40).mono ?_
 rintro e V41 ⟨a6_4, b6_4, rfl, h1, h2, h3, hb⟩
 have HZB := HZ
 have ha : Agr (w.heap.size + 1) V40 V41 := Agr.below hb
 replace HX1 := Lib.hid (HX1.out.agr ha)
 replace HK1 := Lib.hid (HK1.out.agr ha)
 replace HX2 := Lib.hid (HX2.out.agr ha)
 replace HK2 := Lib.hid (HK2.out.agr ha)
 replace HX3 := Lib.hid (HX3.out.agr ha)
 replace HK3 := Lib.hid (HK3.out.agr ha)
 replace HK4 := Lib.hid (HK4.out.agr ha)
 replace HK5 := Lib.hid (HK5.out.agr ha)
 replace HC6_0 := Lib.hid (show ChkAt _ a6_0 b6_0 (qF 83) 70 /\ w.heap.size + 1 <= a6_0 /\ w.heap.size + 1 <= b6_0 from ⟨HC6_0.out.1.below hb, HC6_0.out.2⟩)
 replace HI6 := Lib.hid (HI6.out.agr ha)
 replace HC6_1 := Lib.hid (show ChkAt _ a6_1 b6_1 (idsF kk6) 71 /\ w.heap.size + 1 <= a6_1 /\ w.heap.size + 1 <= b6_1 from ⟨HC6_1.out.1.below hb, HC6_1.out.2⟩)
 replace HC6_2 := Lib.hid (show ChkAt _ a6_2 b6_2 (qF 79) 74 /\ w.heap.size + 1 <= a6_2 /\ w.heap.size + 1 <= b6_2 from ⟨HC6_2.out.1.below hb, HC6_2.out.2⟩)
 replace HC6_3 := Lib.hid (show ChkAt _ a6_3 b6_3 (qF 81) 74 /\ w.heap.size + 1 <= a6_3 /\ w.heap.size + 1 <= b6_3 from ⟨HC6_3.out.1.below hb, HC6_3.out.2⟩)
 replace HM := Lib.hid (show MapAt V41 w.heap.size l5 from (hb.block _ (lt_of_block HM.out)).trans HM.out)
 replace HZ := Lib.hid (Nat.le_trans HZ.out hb.size)
 replace HB := Lib.hid (HB.out.trans (hb.mono HB.out.size))
 have HC6_4 := Lib.hid (show ChkAt V41 a6_4 b6_4 (qF 94) 75 /\ w.heap.size + 1 <= a6_4 /\ w.heap.size + 1 <= b6_4 from ⟨h1, Nat.le_trans HZB.out h2, Nat.le_trans HZB.out h3⟩)
 clear hb ha HZB h1 h2 h3
 unfold unlF
 obtain ⟨V42, hV⟩ : ∃ V, V = V41.alloc (.cells #[unlF a6_0 b6_0, unlF a6_1 b6_1, unlF a6_2 b6_2, unlF a6_3 b6_3, unlF a6_4 b6_4] 118) := ⟨_, rfl⟩
 have hb : Below V41.heap.size V41 V42 := by rw [hV]; exact (Below.refl _ _).alloc (Nat.le_refl _) _
 have ha : Agr (w.heap.size + 1) V41 V42 := Agr.below hb
 have HG : Hid (V42.heap[V41.heap.size]? = some (.cells #[unlF a6_0 b6_0, unlF a6_1 b6_1, unlF a6_2 b6_2, unlF a6_3 b6_3, unlF a6_4 b6_4] 118 (0, 0)) /\ w.heap.size + 1 <= V41.heap.size) := Lib.hid ⟨by rw [hV]; exact heap_alloc_new _ _, HZ.out⟩
 obtain ⟨gc6, hgc⟩ : ∃ g, g = V41.heap.size := ⟨_, rfl⟩
 rw [<- hgc] at HG
 replace HX1 := Lib.hid (HX1.out.agr ha)
 replace HK1 := Lib.hid (HK1.out.agr ha)
 replace HX2 := Lib.hid (HX2.out.agr ha)
 replace HK2 := Lib.hid (HK2.out.agr ha)
 replace HX3 := Lib.hid (HX3.out.agr ha)
 replace HK3 := Lib.hid (HK3.out.agr ha)
 replace HK4 := Lib.hid (HK4.out.agr ha)
 replace HK5 := Lib.hid (HK5.out.agr ha)
 replace HC6_0 := Lib.hid (show ChkAt _ a6_0 b6_0 (qF 83) 70 /\ w.heap.size + 1 <= a6_0 /\ w.heap.size + 1 <= b6_0 from ⟨HC6_0.out.1.below hb, HC6_0.out.2⟩)
 replace HI6 := Lib.hid (HI6.out.agr ha)
 replace HC6_1 := Lib.hid (show ChkAt _ a6_1 b6_1 (idsF kk6) 71 /\ w.heap.size + 1 <= a6_1 /\ w.heap.size + 1 <= b6_1 from ⟨HC6_1.out.1.below hb, HC6_1.out.2⟩)
 replace HC6_2 := Lib.hid (show ChkAt _ a6_2 b6_2 (qF 79) 74 /\ w.heap.size + 1 <= a6_2 /\ w.heap.size + 1 <= b6_2 from ⟨HC6_2.out.1.below hb, HC6_2.out.2⟩)
 replace HC6_3 := Lib.hid (show ChkAt _ a6_3 b6_3 (qF 81) 74 /\ w.heap.size + 1 <= a6_3 /\ w.heap.size + 1 <= b6_3 from ⟨HC6_3.out.1.below hb, HC6_3.out.2⟩)
 replace HC6_4 := Lib.hid (show ChkAt _ a6_4 b6_4 (qF 94) 75 /\ w.heap.size + 1 <= a6_4 /\ w.heap.size + 1 <= b6_4 from ⟨HC6_4.out.1.below hb, HC6_4.out.2⟩)
 replace HM := Lib.hid (show MapAt V42 w.heap.size l5 from (hb.block _ (lt_of_block HM.out)).trans HM.out)
 replace HZ := Lib.hid (Nat.le_trans HZ.out hb.size)
 replace HB := Lib.hid (HB.out.trans (hb.mono HB.out.size))
 clear hb ha
 unfold unlF at hV
 go_wp2_with fail
 rw [<- hV, <- hgc]
 clear hV hgc
 refine (checked_any 92 #[] gc6 5 V42).mono ?_
 rintro e V43 ⟨kc6, kd6, rfl, h1, h2, h3, h4, hb⟩
 have HZB := HZ
 have ha : Agr (w.heap.size + 1) V42 V43 := Agr.below hb
 have h3' := Nat.le_trans HZ.out h3
 have h4' := Nat.le_trans HZ.out h4
 replace HX1 := Lib.hid (HX1.out.agr ha)
 replace HK1 := Lib.hid (HK1.out.agr ha)
 replace HX2 := Lib.hid (HX2.out.agr ha)
 replace HK2 := Lib.hid (HK2.out.agr ha)
 replace HX3 := Lib.hid (HX3.out.agr ha)
 replace HK3 := Lib.hid (HK3.out.agr ha)
 replace HK4 := Lib.hid (HK4.out.agr ha)
 replace HK5 := Lib.hid (HK5.out.agr ha)
 replace HC6_0 := Lib.hid (show ChkAt _ a6_0 b6_0 (qF 83) 70 /\ w.heap.size + 1 <= a6_0 /\ w.heap.size + 1 <= b6_0 from ⟨HC6_0.out.1.below hb, HC6_0.out.2⟩)
 replace HI6 := Lib.hid (HI6.out.agr ha)
 replace HC6_1 := Lib.hid (show ChkAt _ a6_1 b6_1 (idsF kk6) 71 /\ w.heap.size + 1 <= a6_1 /\ w.heap.size + 1 <= b6_1 from ⟨HC6_1.out.1.below hb, HC6_1.out.2⟩)
 replace HC6_2 := Lib.hid (show ChkAt _ a6_2 b6_2 (qF 79) 74 /\ w.heap.size + 1 <= a6_2 /\ w.heap.size + 1 <= b6_2 from ⟨HC6_2.out.1.below hb, HC6_2.out.2⟩)
 replace HC6_3 := Lib.hid (show ChkAt _ a6_3 b6_3 (qF 81) 74 /\ w.heap.size + 1 <= a6_3 /\ w.heap.size + 1 <= b6_3 from ⟨HC6_3.out.1.below hb, HC6_3.out.2⟩)
 replace HC6_4 := Lib.hid (show ChkAt _ a6_4 b6_4 (qF 94) 75 /\ w.heap.size + 1 <= a6_4 /\ w.heap.size + 1 <= b6_4 from ⟨HC6_4.out.1.below hb, HC6_4.out.2⟩)
 replace HM := Lib.hid (show MapAt V43 w.heap.size l5 from (hb.block _ (lt_of_block HM.out)).trans HM.out)
 replace HZ := Lib.hid (Nat.le_trans HZ.out hb.size)
 replace HB := Lib.hid (HB.out.trans (hb.mono HB.out.size))
 have HK6 := Lib.hid (show KindAt V43 (w.heap.size + 1) kc6 kd6 (qF 92) [(qF 83, 70), (idsF kk6, 71), (qF 79, 74), (qF 81, 74), (qF 94, 75)] from KindAt.mk [a6_0, a6_1, a6_2, a6_3, a6_4] [b6_0, b6_1, b6_2, b6_3, b6_4] rfl rfl h1 h2 ((hb.block _ (lt_of_block HG.out.1)).trans HG.out.1) h3' h4' HG.out.2 (fun j hj => match j, hj with
  | 0, _ => HC6_0.out
  | 1, _ => HC6_1.out
  | 2, _ => HC6_2.out
  | 3, _ => HC6_3.out
  | 4, _ => HC6_4.out
  | j + 5, hj => absurd hj (by simp)))
 clear hb ha HZB h1 h2 h3 h4 h3' h4' HG HC6_0 HC6_1 HC6_2 HC6_3 HC6_4
 unfold stepF
 go_wp2_with (refine wpList_insM rfl _ _ _ rfl rfl rfl rfl HM.out HL.out ?_; intro V44 hm ha hbb; have HM2 := Lib.hid hm; have HA2 := Lib.hid ha; have HBB := Lib.hid hbb; clear hm ha hbb)
 have ha := HA2.out
 have hb := HBB.out w.heap.size (Nat.le_refl _)
 replace HX1 := Lib.hid (HX1.out.agr ha)
 replace HK1 := Lib.hid (HK1.out.agr ha)
 replace HX2 := Lib.hid (HX2.out.agr ha)
 replace HK2 := Lib.hid (HK2.out.agr ha)
 replace HX3 := Lib.hid (HX3.out.agr ha)
 replace HK3 := Lib.hid (HK3.out.agr ha)
 replace HK4 := Lib.hid (HK4.out.agr ha)
 replace HK5 := Lib.hid (HK5.out.agr ha)
 replace HI6 := Lib.hid (HI6.out.agr ha)
 replace HK6 := Lib.hid (show KAt V44 (w.heap.size + 1) (l5 ++ [(6, stepF kc6 kd6)]) 6 (qF 92) [(qF 83, 70), (idsF kk6, 71), (qF 79, 74), (qF 81, 74), (qF 94, 75)] from ⟨kc6, kd6, Ent.last HL.out, HK6.out.agr ha⟩)
 replace HK1 := Lib.hid (HK1.out.more (6, stepF kc6 kd6))
 replace HK2 := Lib.hid (HK2.out.more (6, stepF kc6 kd6))
 replace HK3 := Lib.hid (HK3.out.more (6, stepF kc6 kd6))
 replace HK4 := Lib.hid (HK4.out.more (6, stepF kc6 kd6))
 replace HK5 := Lib.hid (HK5.out.more (6, stepF kc6 kd6))
 replace HL := Lib.hid (lt_more (v := stepF kc6 kd6) (k' := 7) HL.out (by omega))
 replace HZ := Lib.hid (Nat.le_trans HZ.out ha.1)
 replace HB := Lib.hid (HB.out.trans hb)
 have HM : Hid (MapAt V44 w.heap.size (l5 ++ [(6, stepF kc6 kd6)])) := Lib.hid HM2.out
 clear HM2 HA2 HBB ha hb
 generalize l5 ++ [(6, stepF kc6 kd6)] = l6 at *
 go_wp2_with fail
 refine (unless_any 70 83 #[] V44).mono ?_
 rintro e V45 ⟨a7_0, b7_0, rfl, h1, h2, h3, hb⟩
 have HZB := HZ
 have ha : Agr (w.heap.size + 1) V44 V45 := Agr.below hb
 replace HX1 := Lib.hid (HX1.out.agr ha)
 replace HK1 := Lib.hid (HK1.out.agr ha)
 replace HX2 := Lib.hid (HX2.out.agr ha)
 replace HK2 := Lib.hid (HK2.out.agr ha)
 replace HX3 := Lib.hid (HX3.out.agr ha)
 replace HK3 := Lib.hid (HK3.out.agr ha)
 replace HK4 := Lib.hid (HK4.out.agr ha)
 replace HK5 := Lib.hid (HK5.out.agr ha)
 replace HI6 := Lib.hid (HI6.out.agr ha)
 replace HK6 := Lib.hid (HK6.out.agr ha)
 replace HM := Lib.hid (show MapAt V45 w.heap.size l6 from (hb.block _ (lt_of_block HM.out)).trans HM.out)
 replace HZ := Lib.hid (Nat.le_trans HZ.out hb.size)
 replace HB := Lib.hid (HB.out.trans (hb.mono HB.out.size))
 have HC7_0 := Lib.hid (show ChkAt V45 a7_0 b7_0 (qF 83) 70 /\ w.heap.size + 1 <= a7_0 /\ w.heap.size + 1 <= b7_0 from ⟨h1, Nat.le_trans HZB.out h2, Nat.le_trans HZB.out h3⟩)
 clear hb ha HZB h1 h2 h3
 unfold unlF
 obtain ⟨V46, hV⟩ : ∃ V, V = V45.alloc (.cells #[.int .i64 1] 3) := ⟨_, rfl⟩
 have hb : Below V45.heap.size V45 V46 := by rw [hV]; exact (Below.refl _ _).alloc (Nat.le_refl _) _
 have ha : Agr (w.heap.size + 1) V45 V46 := Agr.below hb
 have HG7 : Hid (V46.heap[V45.heap.size]? = some (.cells #[.int .i64 1] 3 (0, 0)) /\ w.heap.size + 1 <= V45.heap.size) := Lib.hid ⟨by rw [hV]; exact heap_alloc_new _ _, HZ.out⟩
 obtain ⟨gk7, hgk⟩ : ∃ g, g = V45.heap.size := ⟨_, rfl⟩
 rw [<- hgk] at HG7
 replace HX1 := Lib.hid (HX1.out.agr ha)
 replace HK1 := Lib.hid (HK1.out.agr ha)
 replace HX2 := Lib.hid (HX2.out.agr ha)
 replace HK2 := Lib.hid (HK2.out.agr ha)
 replace HX3 := Lib.hid (HX3.out.agr ha)
 replace HK3 := Lib.hid (HK3.out.agr ha)
 replace HK4 := Lib.hid (HK4.out.agr ha)
 replace HK5 := Lib.hid (HK5.out.agr ha)
 replace HI6 := Lib.hid (HI6.out.agr ha)
 replace HK6 := Lib.hid (HK6.out.agr ha)
 replace HC7_0 := Lib.hid (show ChkAt _ a7_0 b7_0 (qF 83) 70 /\ w.heap.size + 1 <= a7_0 /\ w.heap.size + 1 <= b7_0 from ⟨HC7_0.out.1.below hb, HC7_0.out.2⟩)
 replace HM := Lib.hid (show MapAt V46 w.heap.size l6 from (hb.block _ (lt_of_block HM.out)).trans HM.out)
 replace HZ := Lib.hid (Nat.le_trans HZ.out hb.size)
 replace HB := Lib.hid (HB.out.trans (hb.mono HB.out.size))
 clear hb ha
 go_wp2_with fail
 rw [<- hV, <- hgk]
 clear hV hgk
 refine (idIs_any gk7 1 V46).mono ?_
 rintro e V47 ⟨kk7, rfl, h1, h2, hb⟩
 have HZB := HZ
 have ha : Agr (w.heap.size + 1) V46 V47 := Agr.below hb
 have HI7 := Lib.hid (show IdsAt V47 (w.heap.size + 1) kk7 [1] from ⟨gk7, h1, (hb.block _ (lt_of_block HG7.out.1)).trans HG7.out.1, Nat.le_trans HZ.out h2, HG7.out.2⟩)
 replace HX1 := Lib.hid (HX1.out.agr ha)
 replace HK1 := Lib.hid (HK1.out.agr ha)
 replace HX2 := Lib.hid (HX2.out.agr ha)
 replace HK2 := Lib.hid (HK2.out.agr ha)
 replace HX3 := Lib.hid (HX3.out.agr ha)
 replace HK3 := Lib.hid (HK3.out.agr ha)
 replace HK4 := Lib.hid (HK4.out.agr ha)
 replace HK5 := Lib.hid (HK5.out.agr ha)
 replace HI6 := Lib.hid (HI6.out.agr ha)
 replace HK6 := Lib.hid (HK6.out.agr ha)
 replace HC7_0 := Lib.hid (show ChkAt _ a7_0 b7_0 (qF 83) 70 /\ w.heap.size + 1 <= a7_0 /\ w.heap.size + 1 <= b7_0 from ⟨HC7_0.out.1.below hb, HC7_0.out.2⟩)
 replace HM := Lib.hid (show MapAt V47 w.heap.size l6 from (hb.block _ (lt_of_block HM.out)).trans HM.out)
 replace HZ := Lib.hid (Nat.le_trans HZ.out hb.size)
 replace HB := Lib.hid (HB.out.trans (hb.mono HB.out.size))
 clear hb ha HZB h1 h2 HG7
 unfold idsF
 go_wp2_with fail
 refine (unless_any 71 126 #[.pointer (some ⟨kk7, 0, none⟩)] V47).mono ?_
 rintro e V48 ⟨a7_1, b7_1, rfl, h1, h2, h3, hb⟩
 have HZB := HZ
 have ha : Agr (w.heap.size + 1) V47 V48 := Agr.below hb
 replace HX1 := Lib.hid (HX1.out.agr ha)
 replace HK1 := Lib.hid (HK1.out.agr ha)
 replace HX2 := Lib.hid (HX2.out.agr ha)
 replace HK2 := Lib.hid (HK2.out.agr ha)
 replace HX3 := Lib.hid (HX3.out.agr ha)
 replace HK3 := Lib.hid (HK3.out.agr ha)
 replace HK4 := Lib.hid (HK4.out.agr ha)
 replace HK5 := Lib.hid (HK5.out.agr ha)
 replace HI6 := Lib.hid (HI6.out.agr ha)
 replace HK6 := Lib.hid (HK6.out.agr ha)
 replace HC7_0 := Lib.hid (show ChkAt _ a7_0 b7_0 (qF 83) 70 /\ w.heap.size + 1 <= a7_0 /\ w.heap.size + 1 <= b7_0 from ⟨HC7_0.out.1.below hb, HC7_0.out.2⟩)
 replace HI7 := Lib.hid (HI7.out.agr ha)
 replace HM := Lib.hid (show MapAt V48 w.heap.size l6 from (hb.block _ (lt_of_block HM.out)).trans HM.out)
 replace HZ := Lib.hid (Nat.le_trans HZ.out hb.size)
 replace HB := Lib.hid (HB.out.trans (hb.mono HB.out.size))
 have HC7_1 := Lib.hid (show ChkAt V48 a7_1 b7_1 (idsF kk7) 71 /\ w.heap.size + 1 <= a7_1 /\ w.heap.size + 1 <= b7_1 from ⟨h1, Nat.le_trans HZB.out h2, Nat.le_trans HZB.out h3⟩)
 clear hb ha HZB h1 h2 h3
 unfold unlF
 go_wp2_with fail
 refine (unless_any 75 96 #[] V48).mono ?_
 rintro e V49 ⟨a7_2, b7_2, rfl, h1, h2, h3, hb⟩
 have HZB := HZ
 have ha : Agr (w.heap.size + 1) V48 V49 := Agr.below hb
 replace HX1 := Lib.hid (HX1.out.agr ha)
 replace HK1 := Lib.hid (HK1.out.agr ha)
 replace HX2 := Lib.hid (HX2.out.agr ha)
 replace HK2 := Lib.hid (HK2.out.agr ha)
 replace HX3 := Lib.hid (HX3.out.agr ha)
 replace HK3 := Lib.hid (HK3.out.agr ha)
 replace HK4 := Lib.hid (HK4.out.agr ha)
 replace HK5 := Lib.hid (HK5.out.agr ha)
 replace HI6 := Lib.hid (HI6.out.agr ha)
 replace HK6 := Lib.hid (HK6.out.agr ha)
 replace HC7_0 := Lib.hid (show ChkAt _ a7_0 b7_0 (qF 83) 70 /\ w.heap.size + 1 <= a7_0 /\ w.heap.size + 1 <= b7_0 from ⟨HC7_0.out.1.below hb, HC7_0.out.2⟩)
 replace HI7 := Lib.hid (HI7.out.agr ha)
 replace HC7_1 := Lib.hid (show ChkAt _ a7_1 b7_1 (idsF kk7) 71 /\ w.heap.size + 1 <= a7_1 /\ w.heap.size + 1 <= b7_1 from ⟨HC7_1.out.1.below hb, HC7_1.out.2⟩)
 replace HM := Lib.hid (show MapAt V49 w.heap.size l6 from (hb.block _ (lt_of_block HM.out)).trans HM.out)
 replace HZ := Lib.hid (Nat.le_trans HZ.out hb.size)
 replace HB := Lib.hid (HB.out.trans (hb.mono HB.out.size))
 have HC7_2 := Lib.hid (show ChkAt V49 a7_2 b7_2 (qF 96) 75 /\ w.heap.size + 1 <= a7_2 /\ w.heap.size + 1 <= b7_2 from ⟨h1, Nat.le_trans HZB.out h2, Nat.le_trans HZB.out h3⟩)
 clear hb ha HZB h1 h2 h3
 unfold unlF
 obtain ⟨V50, hV⟩ : ∃ V, V = V49.alloc (.cells #[unlF a7_0 b7_0, unlF a7_1 b7_1, unlF a7_2 b7_2] 118) := ⟨_, rfl⟩
 have hb : Below V49.heap.size V49 V50 := by rw [hV]; exact (Below.refl _ _).alloc (Nat.le_refl _) _
 have ha : Agr (w.heap.size + 1) V49 V50 := Agr.below hb
 have HG : Hid (V50.heap[V49.heap.size]? = some (.cells #[unlF a7_0 b7_0, unlF a7_1 b7_1, unlF a7_2 b7_2] 118 (0, 0)) /\ w.heap.size + 1 <= V49.heap.size) := Lib.hid ⟨by rw [hV]; exact heap_alloc_new _ _, HZ.out⟩
 obtain ⟨gc7, hgc⟩ : ∃ g, g = V49.heap.size := ⟨_, rfl⟩
 rw [<- hgc] at HG
 replace HX1 := Lib.hid (HX1.out.agr ha)
 replace HK1 := Lib.hid (HK1.out.agr ha)
 replace HX2 := Lib.hid (HX2.out.agr ha)
 replace HK2 := Lib.hid (HK2.out.agr ha)
 replace HX3 := Lib.hid (HX3.out.agr ha)
 replace HK3 := Lib.hid (HK3.out.agr ha)
 replace HK4 := Lib.hid (HK4.out.agr ha)
 replace HK5 := Lib.hid (HK5.out.agr ha)
 replace HI6 := Lib.hid (HI6.out.agr ha)
 replace HK6 := Lib.hid (HK6.out.agr ha)
 replace HC7_0 := Lib.hid (show ChkAt _ a7_0 b7_0 (qF 83) 70 /\ w.heap.size + 1 <= a7_0 /\ w.heap.size + 1 <= b7_0 from ⟨HC7_0.out.1.below hb, HC7_0.out.2⟩)
 replace HI7 := Lib.hid (HI7.out.agr ha)
 replace HC7_1 := Lib.hid (show ChkAt _ a7_1 b7_1 (idsF kk7) 71 /\ w.heap.size + 1 <= a7_1 /\ w.heap.size + 1 <= b7_1 from ⟨HC7_1.out.1.below hb, HC7_1.out.2⟩)
 replace HC7_2 := Lib.hid (show ChkAt _ a7_2 b7_2 (qF 96) 75 /\ w.heap.size + 1 <= a7_2 /\ w.heap.size + 1 <= b7_2 from ⟨HC7_2.out.1.below hb, HC7_2.out.2⟩)
 replace HM := Lib.hid (show MapAt V50 w.heap.size l6 from (hb.block _ (lt_of_block HM.out)).trans HM.out)
 replace HZ := Lib.hid (Nat.le_trans HZ.out hb.size)
 replace HB := Lib.hid (HB.out.trans (hb.mono HB.out.size))
 clear hb ha
 unfold unlF at hV
 go_wp2_with fail
 rw [<- hV, <- hgc]
 clear hV hgc
 refine (checked_any 95 #[] gc7 3 V50).mono ?_
 rintro e V51 ⟨kc7, kd7, rfl, h1, h2, h3, h4, hb⟩
 have HZB := HZ
 have ha : Agr (w.heap.size + 1) V50 V51 := Agr.below hb
 have h3' := Nat.le_trans HZ.out h3
 have h4' := Nat.le_trans HZ.out h4
 replace HX1 := Lib.hid (HX1.out.agr ha)
 replace HK1 := Lib.hid (HK1.out.agr ha)
 replace HX2 := Lib.hid (HX2.out.agr ha)
 replace HK2 := Lib.hid (HK2.out.agr ha)
 replace HX3 := Lib.hid (HX3.out.agr ha)
 replace HK3 := Lib.hid (HK3.out.agr ha)
 replace HK4 := Lib.hid (HK4.out.agr ha)
 replace HK5 := Lib.hid (HK5.out.agr ha)
 replace HI6 := Lib.hid (HI6.out.agr ha)
 replace HK6 := Lib.hid (HK6.out.agr ha)
 replace HC7_0 := Lib.hid (show ChkAt _ a7_0 b7_0 (qF 83) 70 /\ w.heap.size + 1 <= a7_0 /\ w.heap.size + 1 <= b7_0 from ⟨HC7_0.out.1.below hb, HC7_0.out.2⟩)
 replace HI7 := Lib.hid (HI7.out.agr ha)
 replace HC7_1 := Lib.hid (show ChkAt _ a7_1 b7_1 (idsF kk7) 71 /\ w.heap.size + 1 <= a7_1 /\ w.heap.size + 1 <= b7_1 from ⟨HC7_1.out.1.below hb, HC7_1.out.2⟩)
 replace HC7_2 := Lib.hid (show ChkAt _ a7_2 b7_2 (qF 96) 75 /\ w.heap.size + 1 <= a7_2 /\ w.heap.size + 1 <= b7_2 from ⟨HC7_2.out.1.below hb, HC7_2.out.2⟩)
 replace HM := Lib.hid (show MapAt V51 w.heap.size l6 from (hb.block _ (lt_of_block HM.out)).trans HM.out)
 replace HZ := Lib.hid (Nat.le_trans HZ.out hb.size)
 replace HB := Lib.hid (HB.out.trans (hb.mono HB.out.size))
 have HK7 := Lib.hid (show KindAt V51 (w.heap.size + 1) kc7 kd7 (qF 95) [(qF 83, 70), (idsF kk7, 71), (qF 96, 75)] from KindAt.mk [a7_0, a7_1, a7_2] [b7_0, b7_1, b7_2] rfl rfl h1 h2 ((hb.block _ (lt_of_block HG.out.1)).trans HG.out.1) h3' h4' HG.out.2 (fun j hj => match j, hj with
  | 0, _ => HC7_0.out
  | 1, _ => HC7_1.out
  | 2, _ => HC7_2.out
  | j + 3, hj => absurd hj (by simp)))
 clear hb ha HZB h1 h2 h3 h4 h3' h4' HG HC7_0 HC7_1 HC7_2
 unfold stepF
 go_wp2_with (refine wpList_insM rfl _ _ _ rfl rfl rfl rfl HM.out HL.out ?_; intro V52 hm ha hbb; have HM2 := Lib.hid hm; have HA2 := Lib.hid ha; have HBB := Lib.hid hbb; clear hm ha hbb)
 have ha := HA2.out
 have hb := HBB.out w.heap.size (Nat.le_refl _)
 replace HX1 := Lib.hid (HX1.out.agr ha)
 replace HK1 := Lib.hid (HK1.out.agr ha)
 replace HX2 := Lib.hid (HX2.out.agr ha)
 replace HK2 := Lib.hid (HK2.out.agr ha)
 replace HX3 := Lib.hid (HX3.out.agr ha)
 replace HK3 := Lib.hid (HK3.out.agr ha)
 replace HK4 := Lib.hid (HK4.out.agr ha)
 replace HK5 := Lib.hid (HK5.out.agr ha)
 replace HI6 := Lib.hid (HI6.out.agr ha)
 replace HK6 := Lib.hid (HK6.out.agr ha)
 replace HI7 := Lib.hid (HI7.out.agr ha)
 replace HK7 := Lib.hid (show KAt V52 (w.heap.size + 1) (l6 ++ [(7, stepF kc7 kd7)]) 7 (qF 95) [(qF 83, 70), (idsF kk7, 71), (qF 96, 75)] from ⟨kc7, kd7, Ent.last HL.out, HK7.out.agr ha⟩)
 replace HK1 := Lib.hid (HK1.out.more (7, stepF kc7 kd7))
 replace HK2 := Lib.hid (HK2.out.more (7, stepF kc7 kd7))
 replace HK3 := Lib.hid (HK3.out.more (7, stepF kc7 kd7))
 replace HK4 := Lib.hid (HK4.out.more (7, stepF kc7 kd7))
 replace HK5 := Lib.hid (HK5.out.more (7, stepF kc7 kd7))
 replace HK6 := Lib.hid (HK6.out.more (7, stepF kc7 kd7))
 replace HL := Lib.hid (lt_more (v := stepF kc7 kd7) (k' := 8) HL.out (by omega))
 replace HZ := Lib.hid (Nat.le_trans HZ.out ha.1)
 replace HB := Lib.hid (HB.out.trans hb)
 have HM : Hid (MapAt V52 w.heap.size (l6 ++ [(7, stepF kc7 kd7)])) := Lib.hid HM2.out
 clear HM2 HA2 HBB ha hb
 generalize l6 ++ [(7, stepF kc7 kd7)] = l7 at *
 go_wp2_with fail
 refine (unless_any 70 83 #[] V52).mono ?_
 rintro e V53 ⟨a8_0, b8_0, rfl, h1, h2, h3, hb⟩
 have HZB := HZ
 have ha : Agr (w.heap.size + 1) V52 V53 := Agr.below hb
 replace HX1 := Lib.hid (HX1.out.agr ha)
 replace HK1 := Lib.hid (HK1.out.agr ha)
 replace HX2 := Lib.hid (HX2.out.agr ha)
 replace HK2 := Lib.hid (HK2.out.agr ha)
 replace HX3 := Lib.hid (HX3.out.agr ha)
 replace HK3 := Lib.hid (HK3.out.agr ha)
 replace HK4 := Lib.hid (HK4.out.agr ha)
 replace HK5 := Lib.hid (HK5.out.agr ha)
 replace HI6 := Lib.hid (HI6.out.agr ha)
 replace HK6 := Lib.hid (HK6.out.agr ha)
 replace HI7 := Lib.hid (HI7.out.agr ha)
 replace HK7 := Lib.hid (HK7.out.agr ha)
 replace HM := Lib.hid (show MapAt V53 w.heap.size l7 from (hb.block _ (lt_of_block HM.out)).trans HM.out)
 replace HZ := Lib.hid (Nat.le_trans HZ.out hb.size)
 replace HB := Lib.hid (HB.out.trans (hb.mono HB.out.size))
 have HC8_0 := Lib.hid (show ChkAt V53 a8_0 b8_0 (qF 83) 70 /\ w.heap.size + 1 <= a8_0 /\ w.heap.size + 1 <= b8_0 from ⟨h1, Nat.le_trans HZB.out h2, Nat.le_trans HZB.out h3⟩)
 clear hb ha HZB h1 h2 h3
 unfold unlF
 obtain ⟨V54, hV⟩ : ∃ V, V = V53.alloc (.cells #[.int .i64 2, .int .i64 3] 3) := ⟨_, rfl⟩
 have hb : Below V53.heap.size V53 V54 := by rw [hV]; exact (Below.refl _ _).alloc (Nat.le_refl _) _
 have ha : Agr (w.heap.size + 1) V53 V54 := Agr.below hb
 have HG8 : Hid (V54.heap[V53.heap.size]? = some (.cells #[.int .i64 2, .int .i64 3] 3 (0, 0)) /\ w.heap.size + 1 <= V53.heap.size) := Lib.hid ⟨by rw [hV]; exact heap_alloc_new _ _, HZ.out⟩
 obtain ⟨gk8, hgk⟩ : ∃ g, g = V53.heap.size := ⟨_, rfl⟩
 rw [<- hgk] at HG8
 replace HX1 := Lib.hid (HX1.out.agr ha)
 replace HK1 := Lib.hid (HK1.out.agr ha)
 replace HX2 := Lib.hid (HX2.out.agr ha)
 replace HK2 := Lib.hid (HK2.out.agr ha)
 replace HX3 := Lib.hid (HX3.out.agr ha)
 replace HK3 := Lib.hid (HK3.out.agr ha)
 replace HK4 := Lib.hid (HK4.out.agr ha)
 replace HK5 := Lib.hid (HK5.out.agr ha)
 replace HI6 := Lib.hid (HI6.out.agr ha)
 replace HK6 := Lib.hid (HK6.out.agr ha)
 replace HI7 := Lib.hid (HI7.out.agr ha)
 replace HK7 := Lib.hid (HK7.out.agr ha)
 replace HC8_0 := Lib.hid (show ChkAt _ a8_0 b8_0 (qF 83) 70 /\ w.heap.size + 1 <= a8_0 /\ w.heap.size + 1 <= b8_0 from ⟨HC8_0.out.1.below hb, HC8_0.out.2⟩)
 replace HM := Lib.hid (show MapAt V54 w.heap.size l7 from (hb.block _ (lt_of_block HM.out)).trans HM.out)
 replace HZ := Lib.hid (Nat.le_trans HZ.out hb.size)
 replace HB := Lib.hid (HB.out.trans (hb.mono HB.out.size))
 clear hb ha
 go_wp2_with fail
 rw [<- hV, <- hgk]
 clear hV hgk
 refine (idIs_any gk8 2 V54).mono ?_
 rintro e V55 ⟨kk8, rfl, h1, h2, hb⟩
 have HZB := HZ
 have ha : Agr (w.heap.size + 1) V54 V55 := Agr.below hb
 have HI8 := Lib.hid (show IdsAt V55 (w.heap.size + 1) kk8 [2, 3] from ⟨gk8, h1, (hb.block _ (lt_of_block HG8.out.1)).trans HG8.out.1, Nat.le_trans HZ.out h2, HG8.out.2⟩)
 replace HX1 := Lib.hid (HX1.out.agr ha)
 replace HK1 := Lib.hid (HK1.out.agr ha)
 replace HX2 := Lib.hid (HX2.out.agr ha)
 replace HK2 := Lib.hid (HK2.out.agr ha)
 replace HX3 := Lib.hid (HX3.out.agr ha)
 replace HK3 := Lib.hid (HK3.out.agr ha)
 replace HK4 := Lib.hid (HK4.out.agr ha)
 replace HK5 := Lib.hid (HK5.out.agr ha)
 replace HI6 := Lib.hid (HI6.out.agr ha)
 replace HK6 := Lib.hid (HK6.out.agr ha)
 replace HI7 := Lib.hid (HI7.out.agr ha)
 replace HK7 := Lib.hid (HK7.out.agr ha)
 replace HC8_0 := Lib.hid (show ChkAt _ a8_0 b8_0 (qF 83) 70 /\ w.heap.size + 1 <= a8_0 /\ w.heap.size + 1 <= b8_0 from ⟨HC8_0.out.1.below hb, HC8_0.out.2⟩)
 replace HM := Lib.hid (show MapAt V55 w.heap.size l7 from (hb.block _ (lt_of_block HM.out)).trans HM.out)
 replace HZ := Lib.hid (Nat.le_trans HZ.out hb.size)
 replace HB := Lib.hid (HB.out.trans (hb.mono HB.out.size))
 clear hb ha HZB h1 h2 HG8
 unfold idsF
 go_wp2_with fail
 refine (unless_any 71 126 #[.pointer (some ⟨kk8, 0, none⟩)] V55).mono ?_
 rintro e V56 ⟨a8_1, b8_1, rfl, h1, h2, h3, hb⟩
 have HZB := HZ
 have ha : Agr (w.heap.size + 1) V55 V56 := Agr.below hb
 replace HX1 := Lib.hid (HX1.out.agr ha)
 replace HK1 := Lib.hid (HK1.out.agr ha)
 replace HX2 := Lib.hid (HX2.out.agr ha)
 replace HK2 := Lib.hid (HK2.out.agr ha)
 replace HX3 := Lib.hid (HX3.out.agr ha)
 replace HK3 := Lib.hid (HK3.out.agr ha)
 replace HK4 := Lib.hid (HK4.out.agr ha)
 replace HK5 := Lib.hid (HK5.out.agr ha)
 replace HI6 := Lib.hid (HI6.out.agr ha)
 replace HK6 := Lib.hid (HK6.out.agr ha)
 replace HI7 := Lib.hid (HI7.out.agr ha)
 replace HK7 := Lib.hid (HK7.out.agr ha)
 replace HC8_0 := Lib.hid (show ChkAt _ a8_0 b8_0 (qF 83) 70 /\ w.heap.size + 1 <= a8_0 /\ w.heap.size + 1 <= b8_0 from ⟨HC8_0.out.1.below hb, HC8_0.out.2⟩)
 replace HI8 := Lib.hid (HI8.out.agr ha)
 replace HM := Lib.hid (show MapAt V56 w.heap.size l7 from (hb.block _ (lt_of_block HM.out)).trans HM.out)
 replace HZ := Lib.hid (Nat.le_trans HZ.out hb.size)
 replace HB := Lib.hid (HB.out.trans (hb.mono HB.out.size))
 have HC8_1 := Lib.hid (show ChkAt V56 a8_1 b8_1 (idsF kk8) 71 /\ w.heap.size + 1 <= a8_1 /\ w.heap.size + 1 <= b8_1 from ⟨h1, Nat.le_trans HZB.out h2, Nat.le_trans HZB.out h3⟩)
 clear hb ha HZB h1 h2 h3
 unfold unlF
 go_wp2_with fail
 refine (unless_any 74 81 #[] V56).mono ?_
 rintro e V57 ⟨a8_2, b8_2, rfl, h1, h2, h3, hb⟩
 have HZB := HZ
 have ha : Agr (w.heap.size + 1) V56 V57 := Agr.below hb
 replace HX1 := Lib.hid (HX1.out.agr ha)
 replace HK1 := Lib.hid (HK1.out.agr ha)
 replace HX2 := Lib.hid (HX2.out.agr ha)
 replace HK2 := Lib.hid (HK2.out.agr ha)
 replace HX3 := Lib.hid (HX3.out.agr ha)
 replace HK3 := Lib.hid (HK3.out.agr ha)
 replace HK4 := Lib.hid (HK4.out.agr ha)
 replace HK5 := Lib.hid (HK5.out.agr ha)
 replace HI6 := Lib.hid (HI6.out.agr ha)
 replace HK6 := Lib.hid (HK6.out.agr ha)
 replace HI7 := Lib.hid (HI7.out.agr ha)
 replace HK7 := Lib.hid (HK7.out.agr ha)
 replace HC8_0 := Lib.hid (show ChkAt _ a8_0 b8_0 (qF 83) 70 /\ w.heap.size + 1 <= a8_0 /\ w.heap.size + 1 <= b8_0 from ⟨HC8_0.out.1.below hb, HC8_0.out.2⟩)
 replace HI8 := Lib.hid (HI8.out.agr ha)
 replace HC8_1 := Lib.hid (show ChkAt _ a8_1 b8_1 (idsF kk8) 71 /\ w.heap.size + 1 <= a8_1 /\ w.heap.size + 1 <= b8_1 from ⟨HC8_1.out.1.below hb, HC8_1.out.2⟩)
 replace HM := Lib.hid (show MapAt V57 w.heap.size l7 from (hb.block _ (lt_of_block HM.out)).trans HM.out)
 replace HZ := Lib.hid (Nat.le_trans HZ.out hb.size)
 replace HB := Lib.hid (HB.out.trans (hb.mono HB.out.size))
 have HC8_2 := Lib.hid (show ChkAt V57 a8_2 b8_2 (qF 81) 74 /\ w.heap.size + 1 <= a8_2 /\ w.heap.size + 1 <= b8_2 from ⟨h1, Nat.le_trans HZB.out h2, Nat.le_trans HZB.out h3⟩)
 clear hb ha HZB h1 h2 h3
 unfold unlF
 obtain ⟨V58, hV⟩ : ∃ V, V = V57.alloc (.cells #[unlF a8_0 b8_0, unlF a8_1 b8_1, unlF a8_2 b8_2] 118) := ⟨_, rfl⟩
 have hb : Below V57.heap.size V57 V58 := by rw [hV]; exact (Below.refl _ _).alloc (Nat.le_refl _) _
 have ha : Agr (w.heap.size + 1) V57 V58 := Agr.below hb
 have HG : Hid (V58.heap[V57.heap.size]? = some (.cells #[unlF a8_0 b8_0, unlF a8_1 b8_1, unlF a8_2 b8_2] 118 (0, 0)) /\ w.heap.size + 1 <= V57.heap.size) := Lib.hid ⟨by rw [hV]; exact heap_alloc_new _ _, HZ.out⟩
 obtain ⟨gc8, hgc⟩ : ∃ g, g = V57.heap.size := ⟨_, rfl⟩
 rw [<- hgc] at HG
 replace HX1 := Lib.hid (HX1.out.agr ha)
 replace HK1 := Lib.hid (HK1.out.agr ha)
 replace HX2 := Lib.hid (HX2.out.agr ha)
 replace HK2 := Lib.hid (HK2.out.agr ha)
 replace HX3 := Lib.hid (HX3.out.agr ha)
 replace HK3 := Lib.hid (HK3.out.agr ha)
 replace HK4 := Lib.hid (HK4.out.agr ha)
 replace HK5 := Lib.hid (HK5.out.agr ha)
 replace HI6 := Lib.hid (HI6.out.agr ha)
 replace HK6 := Lib.hid (HK6.out.agr ha)
 replace HI7 := Lib.hid (HI7.out.agr ha)
 replace HK7 := Lib.hid (HK7.out.agr ha)
 replace HC8_0 := Lib.hid (show ChkAt _ a8_0 b8_0 (qF 83) 70 /\ w.heap.size + 1 <= a8_0 /\ w.heap.size + 1 <= b8_0 from ⟨HC8_0.out.1.below hb, HC8_0.out.2⟩)
 replace HI8 := Lib.hid (HI8.out.agr ha)
 replace HC8_1 := Lib.hid (show ChkAt _ a8_1 b8_1 (idsF kk8) 71 /\ w.heap.size + 1 <= a8_1 /\ w.heap.size + 1 <= b8_1 from ⟨HC8_1.out.1.below hb, HC8_1.out.2⟩)
 replace HC8_2 := Lib.hid (show ChkAt _ a8_2 b8_2 (qF 81) 74 /\ w.heap.size + 1 <= a8_2 /\ w.heap.size + 1 <= b8_2 from ⟨HC8_2.out.1.below hb, HC8_2.out.2⟩)
 replace HM := Lib.hid (show MapAt V58 w.heap.size l7 from (hb.block _ (lt_of_block HM.out)).trans HM.out)
 replace HZ := Lib.hid (Nat.le_trans HZ.out hb.size)
 replace HB := Lib.hid (HB.out.trans (hb.mono HB.out.size))
 clear hb ha
 unfold unlF at hV
 go_wp2_with fail
 rw [<- hV, <- hgc]
 clear hV hgc
 refine (checked_any 97 #[] gc8 3 V58).mono ?_
 rintro e V59 ⟨kc8, kd8, rfl, h1, h2, h3, h4, hb⟩
 have HZB := HZ
 have ha : Agr (w.heap.size + 1) V58 V59 := Agr.below hb
 have h3' := Nat.le_trans HZ.out h3
 have h4' := Nat.le_trans HZ.out h4
 replace HX1 := Lib.hid (HX1.out.agr ha)
 replace HK1 := Lib.hid (HK1.out.agr ha)
 replace HX2 := Lib.hid (HX2.out.agr ha)
 replace HK2 := Lib.hid (HK2.out.agr ha)
 replace HX3 := Lib.hid (HX3.out.agr ha)
 replace HK3 := Lib.hid (HK3.out.agr ha)
 replace HK4 := Lib.hid (HK4.out.agr ha)
 replace HK5 := Lib.hid (HK5.out.agr ha)
 replace HI6 := Lib.hid (HI6.out.agr ha)
 replace HK6 := Lib.hid (HK6.out.agr ha)
 replace HI7 := Lib.hid (HI7.out.agr ha)
 replace HK7 := Lib.hid (HK7.out.agr ha)
 replace HC8_0 := Lib.hid (show ChkAt _ a8_0 b8_0 (qF 83) 70 /\ w.heap.size + 1 <= a8_0 /\ w.heap.size + 1 <= b8_0 from ⟨HC8_0.out.1.below hb, HC8_0.out.2⟩)
 replace HI8 := Lib.hid (HI8.out.agr ha)
 replace HC8_1 := Lib.hid (show ChkAt _ a8_1 b8_1 (idsF kk8) 71 /\ w.heap.size + 1 <= a8_1 /\ w.heap.size + 1 <= b8_1 from ⟨HC8_1.out.1.below hb, HC8_1.out.2⟩)
 replace HC8_2 := Lib.hid (show ChkAt _ a8_2 b8_2 (qF 81) 74 /\ w.heap.size + 1 <= a8_2 /\ w.heap.size + 1 <= b8_2 from ⟨HC8_2.out.1.below hb, HC8_2.out.2⟩)
 replace HM := Lib.hid (show MapAt V59 w.heap.size l7 from (hb.block _ (lt_of_block HM.out)).trans HM.out)
 replace HZ := Lib.hid (Nat.le_trans HZ.out hb.size)
 replace HB := Lib.hid (HB.out.trans (hb.mono HB.out.size))
 have HK8 := Lib.hid (show KindAt V59 (w.heap.size + 1) kc8 kd8 (qF 97) [(qF 83, 70), (idsF kk8, 71), (qF 81, 74)] from KindAt.mk [a8_0, a8_1, a8_2] [b8_0, b8_1, b8_2] rfl rfl h1 h2 ((hb.block _ (lt_of_block HG.out.1)).trans HG.out.1) h3' h4' HG.out.2 (fun j hj => match j, hj with
  | 0, _ => HC8_0.out
  | 1, _ => HC8_1.out
  | 2, _ => HC8_2.out
  | j + 3, hj => absurd hj (by simp)))
 clear hb ha HZB h1 h2 h3 h4 h3' h4' HG HC8_0 HC8_1 HC8_2
 unfold stepF
 go_wp2_with (refine wpList_insM rfl _ _ _ rfl rfl rfl rfl HM.out HL.out ?_; intro V60 hm ha hbb; have HM2 := Lib.hid hm; have HA2 := Lib.hid ha; have HBB := Lib.hid hbb; clear hm ha hbb)
 have ha := HA2.out
 have hb := HBB.out w.heap.size (Nat.le_refl _)
 replace HX1 := Lib.hid (HX1.out.agr ha)
 replace HK1 := Lib.hid (HK1.out.agr ha)
 replace HX2 := Lib.hid (HX2.out.agr ha)
 replace HK2 := Lib.hid (HK2.out.agr ha)
 replace HX3 := Lib.hid (HX3.out.agr ha)
 replace HK3 := Lib.hid (HK3.out.agr ha)
 replace HK4 := Lib.hid (HK4.out.agr ha)
 replace HK5 := Lib.hid (HK5.out.agr ha)
 replace HI6 := Lib.hid (HI6.out.agr ha)
 replace HK6 := Lib.hid (HK6.out.agr ha)
 replace HI7 := Lib.hid (HI7.out.agr ha)
 replace HK7 := Lib.hid (HK7.out.agr ha)
 replace HI8 := Lib.hid (HI8.out.agr ha)
 replace HK8 := Lib.hid (show KAt V60 (w.heap.size + 1) (l7 ++ [(8, stepF kc8 kd8)]) 8 (qF 97) [(qF 83, 70), (idsF kk8, 71), (qF 81, 74)] from ⟨kc8, kd8, Ent.last HL.out, HK8.out.agr ha⟩)
 replace HK1 := Lib.hid (HK1.out.more (8, stepF kc8 kd8))
 replace HK2 := Lib.hid (HK2.out.more (8, stepF kc8 kd8))
 replace HK3 := Lib.hid (HK3.out.more (8, stepF kc8 kd8))
 replace HK4 := Lib.hid (HK4.out.more (8, stepF kc8 kd8))
 replace HK5 := Lib.hid (HK5.out.more (8, stepF kc8 kd8))
 replace HK6 := Lib.hid (HK6.out.more (8, stepF kc8 kd8))
 replace HK7 := Lib.hid (HK7.out.more (8, stepF kc8 kd8))
 replace HL := Lib.hid (lt_more (v := stepF kc8 kd8) (k' := 9) HL.out (by omega))
 replace HZ := Lib.hid (Nat.le_trans HZ.out ha.1)
 replace HB := Lib.hid (HB.out.trans hb)
 have HM : Hid (MapAt V60 w.heap.size (l7 ++ [(8, stepF kc8 kd8)])) := Lib.hid HM2.out
 clear HM2 HA2 HBB ha hb
 generalize l7 ++ [(8, stepF kc8 kd8)] = l8 at *
 go_ret
 exact ⟨w.heap.size, l8, rfl, Nat.le_refl _, HM.out, ⟨⟨kx1, HX1.out, HK1.out⟩, ⟨kx2, HX2.out, HK2.out⟩, ⟨kx3, HX3.out, HK3.out⟩, HK4.out, HK5.out, ⟨kk6, HI6.out, HK6.out⟩, ⟨kk7, HI7.out, HK7.out⟩, ⟨kk8, HI8.out, HK8.out⟩⟩, HB.out⟩
end Go.Proofs.YtcndplnnighjkaaGreatDoor
