/-
  What the laws of layer 8 share: their bound; the forest that operations made.
-/
import Derived.Test.YtcndplnnighjkaaGreatDoorPG16
import Derived.Test.YtcndplnnighjkaaGreatDoorPG25
import Derived.Test.YtcndplnnighjkaaGreatDoorPG27
import Derived.Test.YtcndplnnighjkaaGreatDoorPG22
namespace Go.Proofs.YtcndplnnighjkaaGreatDoor
open Go.ChangeShapes Go.WideShapes Go.ChangeAt Go.RowKit
set_option linter.unusedVariables false
set_option linter.unusedSimpArgs false
def GrownRes (l : List Ops.Po) (w : World) (e : Ending) (w' : World) : Prop := ∃ (A : Option Addr) (G : List Mn) (c : Nat), e = .returned (.slice A G.length c) /\ FR w' A G /\ mayB G = true /\ G.map core = (onesP [newM] l).map core /\ Below w.heap.size w w'
end Go.Proofs.YtcndplnnighjkaaGreatDoor
namespace Go.Proofs.YtcndplnnighjkaaGreatDoor
open Go.ChangeShapes Go.WideShapes Go.ChangeAt Go.RowKit
set_option linter.unusedVariables false
set_option linter.unusedSimpArgs false
theorem vis_like {F G : List Mn} (h : G.map core = F.map core) : ∀ (f i : Nat), vis G f i = vis F f i
 | 0, _ => rfl
 | f + 1, i => by
   rw [vis, vis, kids_like h, flatMap_congr' (fun k _ => vis_like h f k.toNat)]
theorem ord_like {F G : List Mn} (h : G.map core = F.map core) (i : Nat) : ord G i = ord F i := by unfold ord; rw [len_like h]; exact vis_like h _ _
theorem core_txt (F : List Mn) (k : Nat) : txt (F.map core) k = txt F k := by
 unfold txt
 rw [List.getElem?_map]
 cases F[k]? <;> rfl
theorem txt_like {F G : List Mn} (h : G.map core = F.map core) (k : Nat) : txt G k = txt F k := by rw [<- core_txt G, h, core_txt]
theorem cont_like {F G : List Mn} (h : G.map core = F.map core) (i : Nat) : cont G i = cont F i := by
 unfold cont
 rw [ord_like h, flatMap_congr' (fun k _ => txt_like h k)]
theorem core_hasId (F : List Mn) (t : ByteArray) (k : Nat) : hasId (F.map core) t k = hasId F t k := by
 unfold hasId
 rw [List.getElem?_map]
 cases F[k]? <;> rfl
theorem hasId_like {F G : List Mn} (h : G.map core = F.map core) (t : ByteArray) : hasId G t = hasId F t := funext fun k => by rw [<- core_hasId G, h, core_hasId]
theorem byP_like {F G : List Mn} (h : G.map core = F.map core) (t : ByteArray) : byP G t = byP F t := by unfold byP; rw [ord_like h, hasId_like h]
theorem isB_like {F G : List Mn} (h : G.map core = F.map core) (x : Int) : isB G x = isB F x := by unfold isB; rw [len_like h]
theorem upP_like {F G : List Mn} (h : G.map core = F.map core) (x : Int) : upP G x = upP F x := by unfold upP; rw [isB_like h, par_like h]
theorem ol_new (w : World) {l : List Ops.Po} (hf : ∀ o ∈ l, Ops.Fit o) : Ops.OL (w.alloc (.cells (ocells l).toArray 40)) (some ⟨w.heap.size, 0, none⟩) l := fun i o ho => by
 obtain ⟨hi, rfl⟩ := List.getElem?_eq_some_iff.1 ho
 have hb := heap_alloc_new w (.cells (ocells l).toArray 40)
 have key : ∀ k, k < 6 -> (w.alloc (.cells (ocells l).toArray 40)).cell? ⟨w.heap.size, i * 6 + k, none⟩ = (opc l[i])[k]? := fun k hk => by
  rw [<- ocells_at hi hk]
  unfold World.cell?
  rw [hb]
  simp
 have k0 := key 0 (by omega)
 have k1 := key 1 (by omega)
 have k2 := key 2 (by omega)
 have k3 := key 3 (by omega)
 have k4 := key 4 (by omega)
 have k5 := key 5 (by omega)
 refine ⟨hf _ (List.getElem_mem hi), w.heap.size, 0, rfl, by simp, ?_, ?_, ?_, ?_, ?_, ?_⟩
 · rw [Nat.zero_add]; exact k0
 · rw [Nat.zero_add]; exact k1
 · rw [Nat.zero_add]; exact k2
 · rw [Nat.zero_add]; exact k3
 · rw [Nat.zero_add]; exact k4
 · rw [Nat.zero_add]; exact k5
end Go.Proofs.YtcndplnnighjkaaGreatDoor
