/-
  What the laws of layer 10 share: their bound; the forest that operations made.
-/
import Derived.Test.YtcndplnnighjkaaGreatDoorPG16
import Derived.Test.YtcndplnnighjkaaGreatDoorPG25
import Derived.Test.YtcndplnnighjkaaGreatDoorPG28
import Derived.Test.YtcndplnnighjkaaGreatDoorPG43
import Derived.Test.YtcndplnnighjkaaGreatDoorPG40
import Derived.Test.YtcndplnnighjkaaGreatDoorPG36
import Derived.Test.YtcndplnnighjkaaGreatDoorPG27
namespace Go.Proofs.YtcndplnnighjkaaGreatDoor.Fi
open Go.ChangeShapes Go.WideShapes Go.ChangeAt Go.RowKit
open Sx (Tr Ms Mr TR MR XR tV r1 ls te stp rws cx cl cx_iff)
set_option linter.unusedVariables false
set_option linter.unusedSimpArgs false
theorem tls_map {α β : Type} (f : α -> β) : ∀ l : List α, tls (l.map f) = (tls l).map (List.map f)
 | [] => rfl
 | a :: l => by simp [tls, tls_map f l]
theorem fitsB_core (m : Mn) (T : List Tr) : fitsB (core m) T = fitsB m T := rfl
theorem eD_core : ∀ (rr : List (List Tr × Bool)) (w : List Mn), eD fitsB rr (w.map core) = eD fitsB rr w
 | [], w => by cases w <;> rfl
 | s :: rr, [] => rfl
 | s :: rr, m :: up => by
   have e : (tls (up.map core)).any (eD fitsB rr) = (tls up).any (eD fitsB rr) := by
    rw [tls_map, List.any_map]
    congr 1
    funext l
    exact eD_core rr l
   simp only [List.map_cons, eD, fitsB_core, eD_core rr up, e]
theorem wayL_core (F : List Mn) : ∀ (g : Nat) (x : Int), wayL (F.map core) g x = (wayL F g x).map core
 | 0, x => rfl
 | g + 1, x => by
   unfold wayL
   split
   · rfl
   · rw [core_par, wayL_core F g, List.map_append, List.getElem?_map]
     cases F[x.toNat]? <;> rfl
theorem isP_core (F : List Mn) (x : List Mr) (i : Nat) : isP (F.map core) x i = isP F x i := by
 unfold isP wayU
 congr 1
 funext m
 rw [List.length_map, wayL_core, eD_core]
theorem isP_like {F G : List Mn} (h : G.map core = F.map core) (x : List Mr) : isP G x = isP F x := funext fun i => by rw [<- isP_core G, h, isP_core]
theorem isP_cx {F : List Mn} {x y : List Mr} (h : cx x = cx y) (i : Nat) : isP F x i = isP F y i := by
 have key : ∀ z : List Mr, isP F z i = (cx z).any (fun l => eD fitsB l.reverse (wayU F i)) := fun z => by
  unfold isP cx
  rw [List.any_map]
  rfl
 rw [key, key, h]
theorem wx_names {x : List Mr} {N : Nat} (h : Sl.wx (rws x) <= N) : ∀ m ∈ x, ∀ s ∈ m.2, ∀ t ∈ s.2.1, t.2.1.size <= N := fun m hm s hs t ht => by
 have h2 := Sl.wx_row (List.mem_map_of_mem (f := fun m : Mr => m.2.map stp) hm)
 have h4 := Sl.wr_step (List.mem_map_of_mem (f := stp) hs)
 have h5 := Sl.wc_test (List.mem_map_of_mem (f := te) ht)
 have e : Sl.ws (stp s) = 4 + Sl.wc (s.2.1.map te) := rfl
 have e2 : Sl.wt (te t) = t.2.1.size + t.2.2.size + 6 := by
  show (ls t.2.1).length + (ls t.2.2).length + 6 = _
  rw [Sx.ls_len, Sx.ls_len]
 unfold Sl.wr at h2
 rw [rws] at h
 omega
theorem xs_of {w : World} {base : Nat} {v : Value} {x : List Mr} (h : Sx.Sr w base v x) (hw : Sl.wx (rws x) <= 100000) : ∃ A c, v = .slice A x.length c /\ Xs w A x := by
 obtain ⟨A, c, rfl, hX⟩ := Sx.xr_of h
 refine ⟨A, c, rfl, hX, ?_, fun m hm => ?_⟩
 · have := own_caps h.row
   omega
 · have hr := h.sub m hm
   have hc := own_caps hr.row
   refine ⟨fun s hs => ⟨?_, fun t ht => wx_names hw m hm s hs t ht⟩, hc.1, hc.2⟩
   have := own_caps (hr.sub s hs)
   omega
end Go.Proofs.YtcndplnnighjkaaGreatDoor.Fi
namespace Go.Proofs.YtcndplnnighjkaaGreatDoor.Fi
open Go.ChangeShapes Go.WideShapes Go.ChangeAt Go.RowKit
open Sx (Tr Ms Mr TR MR XR tV r1 ls te stp rws)
set_option linter.unusedVariables false
set_option linter.unusedSimpArgs false
theorem attrs_one {l : List (ByteArray × ByteArray)} (h : attrsB l = true) {i j : Nat} (hj : j < l.length) (hi : i < j) : (l[i]'(by omega)).1 ≠ l[j].1 := by
 unfold attrsB at h
 rw [Bool.and_eq_true] at h
 have h1 := List.all_eq_true.1 h.2 j (List.mem_range.2 hj)
 simp only [Bool.and_eq_true, Bool.not_eq_true', List.any_eq_false] at h1
 have h2 := h1.2.2 (l[i]'(by omega)) (List.mem_take_iff_getElem.2 ⟨i, by omega, rfl⟩)
 rw [List.getD_eq_getElem?_getD, List.getElem?_eq_getElem hj] at h2
 intro e
 rw [Option.getD_some, <- e] at h2
 simp at h2
theorem val_iff {l : List (ByteArray × ByteArray)} (h : attrsB l = true) (n v : ByteArray) : decide (valP l n = some v) = l.any (fun a => decide (a = (n, v))) := by
 rw [Bool.eq_iff_iff, decide_eq_true_eq, List.any_eq_true]
 constructor
 · intro hv
   unfold valP at hv
   obtain ⟨a, ha, rfl⟩ := Option.map_eq_some_iff.1 hv
   have h1 := List.find?_some ha
   have h1 : a.1 = n := by simpa using h1
   exact ⟨a, List.mem_of_find?_eq_some ha, by rw [decide_eq_true_eq, <- h1]⟩
 · rintro ⟨a, ha, he⟩
   obtain rfl := of_decide_eq_true he
   obtain ⟨j, hj, e⟩ := List.mem_iff_getElem.1 ha
   have := find_hit hj (name := n) (fun b hb => by
    obtain ⟨i, hi, rfl⟩ := List.mem_take_iff_getElem.1 hb
    have := attrs_one h (i := i) hj (by omega)
    rw [e] at this
    exact this) (by rw [e])
   rw [this, e]
theorem id_fits {F : List Mn} (h : mayB F = true) {i : Nat} (hi : i < F.length) (n v : ByteArray) : fitsB F[i] [(2, n, v)] = hasId F n i := by
 obtain ⟨-, h2, -⟩ := may_iff.1 h
 have ho := (h2 i hi).2
 unfold hasId
 rw [List.getElem?_eq_getElem hi, Option.map_some, Option.getD_some]
 have e : fitsB F[i] [(2, n, v)] = ((F[i].kind == 1) && F[i].attrs.any (fun a => decide (a = (idS, n)))) := by simp [fitsB, soB]
 rw [e]
 have no : F[i].kind ≠ 1 -> F[i].attrs.length = 0 -> ((F[i].kind == 1) && F[i].attrs.any (fun a => decide (a = (idS, n)))) = decide (valP F[i].attrs idS = some n) := fun _ h0 => by
  rw [List.eq_nil_of_length_eq_zero h0]
  simp [valP]
 unfold ownB at ho
 split at ho
 · rename_i hk
   simp only [Bool.and_eq_true, decide_eq_true_eq] at ho
   exact no (by omega) ho.2.2.2
 split at ho
 · rename_i hk
   simp only [Bool.and_eq_true, decide_eq_true_eq] at ho
   exact no (by omega) ho.2.2
 split at ho
 · rename_i hk
   simp only [Bool.and_eq_true] at ho
   rw [val_iff ho.2.2, hk]
   rfl
 · cases ho
theorem wayU_here {F : List Mn} {i : Nat} (hi : i < F.length) : ∃ up, wayU F i = F[i] :: up := by
 unfold wayU
 obtain ⟨n, hn⟩ : ∃ n, F.length = n + 1 := ⟨F.length - 1, by omega⟩
 rw [hn, wayL_at hi]
 exact ⟨_, rfl⟩
theorem isP_id {F : List Mn} (h : mayB F = true) {i : Nat} (hi : i < F.length) (p q : Option Addr × Nat) (n v : ByteArray) (ch : Bool) : isP F [(p, [(q, ([(2, n, v)], ch))])] i = hasId F n i := by
 obtain ⟨up, e⟩ := wayU_here hi
 rw [<- id_fits h hi n v]
 unfold isP
 rw [e]
 simp [rowB, eD]
end Go.Proofs.YtcndplnnighjkaaGreatDoor.Fi
