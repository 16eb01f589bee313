/-
  What an operation's kind has, handed on and made anew.
-/
import Derived.Test.YtcndplnnighjkaaGreatDoorPG05
import Derived.Test.YtcndplnnighjkaaGreatDoorShelf
import Derived.ChangeSlices
import Derived.Carry
import Derived.ChangeMaps5
import Derived.Deep.Slices
import Derived.Deep.RegionHeld3
namespace Go.Proofs.YtcndplnnighjkaaGreatDoor.Ops
open Go.ChangeShapes Go.WideShapes Go.ChangeAt Go.RowKit
set_option linter.unusedVariables false
set_option linter.unusedSimpArgs false
def opv (o : Po) : Value := .agg #[.int .i64 o.kind, .int .i64 o.id, .int .i64 o.dst, .int .i64 o.pos, .string o.name, .string o.text]
def kword (k : Int) : ByteArray := if k = 1 then ⟨#[101, 108, 101, 109, 101, 110, 116]⟩ else if k = 2 then ⟨#[116, 101, 120, 116]⟩ else if k = 3 then ⟨#[99, 111, 109, 109, 101, 110, 116]⟩ else if k = 4 then ⟨#[105, 110, 115, 101, 114, 116]⟩ else if k = 5 then ⟨#[114, 101, 109, 111, 118, 101]⟩ else if k = 6 then ⟨#[115, 101, 116]⟩ else if k = 7 then ⟨#[117, 110, 115, 101, 116]⟩ else ⟨#[99, 104, 97, 110, 103, 101]⟩
def KT (w : World) : Prop := 0 < w.heap.size /\ ∀ k : Nat, 1 <= k -> k <= 8 -> w.cell? ⟨0, k * 6, none⟩ = some (.string (kword k)) /\ w.cell? ⟨0, k * 6 + 1, none⟩ = some (.bool (hasI k)) /\ w.cell? ⟨0, k * 6 + 2, none⟩ = some (.bool (hasT k)) /\ w.cell? ⟨0, k * 6 + 3, none⟩ = some (.bool (hasT k)) /\ w.cell? ⟨0, k * 6 + 4, none⟩ = some (.bool (hasN k)) /\ w.cell? ⟨0, k * 6 + 5, none⟩ = some (.bool (hasX k))
theorem KT.below {w w' : World} (h : KT w) (hb : Below w.heap.size w w') : KT w' := by
 refine ⟨Nat.lt_of_lt_of_le h.1 hb.size, fun k h1 h2 => ?_⟩
 have key : ∀ j v, w.cell? ⟨0, j, none⟩ = some v -> w'.cell? ⟨0, j, none⟩ = some v := fun j v hv => (hb.cell (p := ⟨0, j, none⟩) h.1).trans hv
 obtain ⟨a, b, c, d, e, f⟩ := h.2 k h1 h2
 exact ⟨key _ _ a, key _ _ b, key _ _ c, key _ _ d, key _ _ e, key _ _ f⟩
def kept (o : Po) : Po := ⟨o.kind, if hasI o.kind then o.id else 0, if hasT o.kind then o.dst else 0, if hasT o.kind then o.pos else 0, if hasN o.kind then o.name else ⟨#[]⟩, if hasX o.kind then o.text else ⟨#[]⟩⟩
def GivesV (v : Value) (w : World) (en : Ending) (w' : World) : Prop := en = .returned v /\ Below w.heap.size w w'
set_option maxHeartbeats 400000 in
theorem id1 (n : Int) (w : World) : Calls Tryz.prog 100 #[.int .i64 n] w fun e w' => e = .returned (.int .i64 n) /\ w' = w := by
 go_enter Tryz.func100, Tryz.ntmps100
 go_wp2
 go_ret
 exact ⟨rfl, rfl⟩
set_option maxHeartbeats 400000 in
theorem id2 (s : ByteArray) (w : World) : Calls Tryz.prog 101 #[.string s] w fun e w' => e = .returned (.string s) /\ w' = w := by
 go_enter Tryz.func101, Tryz.ntmps101
 go_wp2
 go_ret
 exact ⟨rfl, rfl⟩
def KeepO (V V' : World) : Prop := V.heap.size <= V'.heap.size /\ ∀ (k : Nat) (cs : Array Value), (V.heap[k]? = some (Obj.cells cs 40 (0, 0)) \/ V.heap[k]? = some (Obj.cells cs 143 (0, 0))) -> V'.heap[k]? = V.heap[k]?
def Stab (n : Nat) (V V' : World) : Prop := Below n V V' /\ ∀ k, k < V.heap.size -> (∀ cs : Array Value, V.heap[k]? ≠ some (Obj.cells cs 40 (0, 0)) /\ V.heap[k]? ≠ some (Obj.cells cs 143 (0, 0))) -> V'.heap[k]? = V.heap[k]?
theorem block6 {w : World} {k : Nat} {a b c d e f : Value} {t : TypeId} (h : w.heap[k]? = some (.cells #[a, b, c, d, e, f] t (0, 0))) :
 w.cell? ⟨k, 0, none⟩ = some a /\ w.cell? ⟨k, 1, none⟩ = some b /\ w.cell? ⟨k, 2, none⟩ = some c /\ w.cell? ⟨k, 3, none⟩ = some d /\ w.cell? ⟨k, 4, none⟩ = some e /\ w.cell? ⟨k, 5, none⟩ = some f := by
 simp [World.cell?, h]
theorem four_blocks {w W : World} {a b c d : Array Value} (h : W = (((w.alloc (.cells a 40)).alloc (.cells b 40)).alloc (.cells c 143)).alloc (.cells d 40)) :
 Stab w.heap.size w W /\ W.heap[w.heap.size]? = some (.cells a 40 (0, 0)) /\ W.heap[w.heap.size + 1 + 1]? = some (.cells c 143 (0, 0)) /\ W.heap[w.heap.size + 1 + 1 + 1]? = some (.cells d 40 (0, 0)) /\ W.heap[w.heap.size + 1]? = some (.cells b 40 (0, 0)) := by
 have key : ∀ (V : World) (o : Obj) (k : Nat), k < V.heap.size -> (V.alloc o).heap[k]? = V.heap[k]? := fun V o k hk => heap_alloc_old _ _ hk
 have s1 : ∀ (V : World) (o : Obj), (V.alloc o).heap.size = V.heap.size + 1 := fun V o => by simp
 refine ⟨⟨by rw [h]; exact ((((Below.refl _ _).alloc (Nat.le_refl _) _).alloc (by simp) _).alloc (by simp; omega) _).alloc (by simp; omega) _, fun k hk _ => ?_⟩, ?_, ?_, ?_, ?_⟩
 · rw [h, key _ _ _ (by simp only [s1]; omega), key _ _ _ (by simp only [s1]; omega), key _ _ _ (by simp only [s1]; omega), key _ _ _ hk]
 · rw [h, key _ _ _ (by simp only [s1]; omega), key _ _ _ (by simp only [s1]; omega), key _ _ _ (by simp only [s1]; omega)]
   exact heap_alloc_new _ _
 · rw [h, key _ _ _ (by simp only [s1]; omega)]
   have := heap_alloc_new ((w.alloc (.cells a 40)).alloc (.cells b 40)) (.cells c 143)
   simp only [s1] at this
   exact this
 · rw [h]
   have := heap_alloc_new (((w.alloc (.cells a 40)).alloc (.cells b 40)).alloc (.cells c 143)) (.cells d 40)
   simp only [s1] at this
   exact this
 · rw [h, key _ _ _ (by simp only [s1]; omega), key _ _ _ (by simp only [s1]; omega)]
   have := heap_alloc_new (w.alloc (.cells a 40)) (.cells b 40)
   simp only [s1] at this
   exact this
theorem keep_blocks {W V : World} {n p q : Nat} {a c d : Array Value} (j : Nat) (v : Value) (B0 : W.heap[n]? = some (.cells a 40 (0, 0))) (B1 : W.heap[p]? = some (.cells c 143 (0, 0))) (B2 : W.heap[q]? = some (.cells d 40 (0, 0))) (hK : KeepO W V) (hn : n ≠ q := by omega) (hp : p ≠ q := by omega) (hq : n <= q := by omega) :
 V.heap[n]? = some (.cells a 40 (0, 0)) /\ V.heap[p]? = some (.cells c 143 (0, 0)) /\ V.heap[q]? = some (.cells d 40 (0, 0)) /\ Stab n V (V.setCell ⟨q, j, none⟩ v) /\
 (V.setCell ⟨q, j, none⟩ v).heap[n]? = some (.cells a 40 (0, 0)) /\ (V.setCell ⟨q, j, none⟩ v).heap[p]? = some (.cells c 143 (0, 0)) /\ (V.setCell ⟨q, j, none⟩ v).heap[q]? = some (.cells (d.setIfInBounds j v) 40 (0, 0)) := by
 have h0 := (hK.2 n a (.inl B0)).trans B0
 have h1 := (hK.2 p c (.inr B1)).trans B1
 have h2 := (hK.2 q d (.inl B2)).trans B2
 have ho : ∀ k, k ≠ q -> (V.setCell ⟨q, j, none⟩ v).heap[k]? = V.heap[k]? := fun k hk => by
  unfold World.setCell
  simp [Array.getElem?_modify, Ne.symm hk]
 refine ⟨h0, h1, h2, ⟨(Below.refl _ _).setCell hq _, fun k hk hx => ?_⟩, (ho n hn).trans h0, (ho p hp).trans h1, ?_⟩
 · refine ho k (fun e => ?_)
   subst e
   exact (hx d).1 h2
 · unfold World.setCell
   simp [Array.getElem?_modify, h2]
theorem keep_res {W V : World} {p q : Nat} {d : Array Value} (j : Nat) (v : Value) (B3 : W.heap[p]? = some (.cells d 40 (0, 0))) (hK : KeepO W V) (hp : p ≠ q := by omega) : (V.setCell ⟨q, j, none⟩ v).heap[p]? = some (.cells d 40 (0, 0)) := by
 have h2 := (hK.2 p d (.inl B3)).trans B3
 rw [<- h2]
 unfold World.setCell
 simp [Array.getElem?_modify, Ne.symm hp]
theorem stab_res {W : World} {n p : Nat} {d : Array Value} (B3 : W.heap[p]? = some (.cells d 40 (0, 0))) (hp : n <= p) (v0 v1 v2 v3 v4 v5 : Value) :
 Stab n W ((((((W.setCell ⟨p, 0, none⟩ v0).setCell ⟨p, 1, none⟩ v1).setCell ⟨p, 2, none⟩ v2).setCell ⟨p, 3, none⟩ v3).setCell ⟨p, 4, none⟩ v4).setCell ⟨p, 5, none⟩ v5) := by
 have ho : ∀ (V : World) (j k : Nat) (v : Value), k ≠ p -> (V.setCell ⟨p, j, none⟩ v).heap[k]? = V.heap[k]? := fun V j k v hk => by
  unfold World.setCell
  simp [Array.getElem?_modify, Ne.symm hk]
 refine ⟨((((((Below.refl _ _).setCell hp _).setCell hp _).setCell hp _).setCell hp _).setCell hp _).setCell hp _, fun k hk hx => ?_⟩
 have hkp : k ≠ p := fun e => by
  subst e
  exact (hx d).1 B3
 rw [ho _ _ _ _ hkp, ho _ _ _ _ hkp, ho _ _ _ _ hkp, ho _ _ _ _ hkp, ho _ _ _ _ hkp, ho _ _ _ _ hkp]
theorem froz {W : World} {p : Nat} {d : Array Value} (B3 : W.heap[p]? = some (.cells d 40 (0, 0))) (j : Nat) : W.frozen? ⟨p, j, none⟩ = false := by simp [World.frozen?, B3]
def thrM {σ : Type} (gN : σ -> Int -> Int × σ) (gT : σ -> ByteArray -> ByteArray × σ) (o : Po) (s : σ) : Po × σ :=
 let i := if hasI o.kind then gN s o.id else (0, s)
 let t := if hasT o.kind then gN i.2 o.dst else (0, i.2)
 let a := if hasT o.kind then gN t.2 o.pos else (0, t.2)
 let n := if hasN o.kind then gT a.2 o.name else (⟨#[]⟩, a.2)
 let x := if hasX o.kind then gT n.2 o.text else (⟨#[]⟩, n.2)
 (⟨o.kind, i.1, t.1, a.1, n.1, x.1⟩, x.2)
end Go.Proofs.YtcndplnnighjkaaGreatDoor.Ops
