/-
  What the laws of layer 7 want of plain forests: what is made, and parts of a forest.
-/
import Derived.Test.YtfmciefodohdgaaGreatDoorG12
namespace Go.Proofs.YtfmciefodohdgaaGreatDoor
open Go.ChangeShapes Go.WideShapes Go.ChangeAt Go.RowKit
set_option linter.unusedVariables false
set_option linter.unusedSimpArgs false

def frO (k : Int) (n t : ByteArray) : Ops.Po := ⟨k, 0, 0, 0, n, t⟩
def FrO (k : Int) (n t : ByteArray) : Prop := (k = 1 ∧ n.size ≤ 100 ∧ t = ⟨#[]⟩) ∨ ((k = 2 ∨ k = 3) ∧ n = ⟨#[]⟩ ∧ t.size ≤ 100)
theorem fr_may {k : Int} {n t : ByteArray} (h : FrO k n t) : Ops.mayO (frO k n t) = true := by
  have hs : (⟨#[]⟩ : ByteArray).size = 0 := rfl
  rcases h with ⟨rfl, h1, rfl⟩ | ⟨h, rfl, h2⟩
  · have h3 : n.size ≤ 255 := by omega
    unfold Ops.mayO frO Ops.isK Ops.hasI Ops.hasT Ops.hasN Ops.hasX
    simp only [hs]
    rw [decide_eq_true h3]
    rfl
  · have h3 : t.size ≤ 255 := by omega
    unfold Ops.mayO frO Ops.isK Ops.hasI Ops.hasT Ops.hasN Ops.hasX
    simp only [hs]
    rw [decide_eq_true h3]
    rcases h with rfl | rfl <;> rfl
theorem fr_fit {k : Int} {n t : ByteArray} (h : FrO k n t) : Ops.Fit (frO k n t) := by
  have hk : 1 ≤ k ∧ k ≤ 3 := by rcases h with ⟨rfl, -⟩ | ⟨h, -⟩ <;> omega
  refine ⟨?_, ?_, ?_, ?_⟩ <;> unfold Ops.I64 frO <;> simp only [] <;> omega
theorem new_err {F : List Mn} (b : Bool) (hF : F.length ≤ 60) : newE F b = 0 ∨ newE F b = 74 ∨ (newE F b = 2 ∧ F.length = 60) := by
  unfold newE
  split
  · exact .inr (.inl rfl)
  split
  · exact .inr (.inr ⟨rfl, by omega⟩)
  · exact .inl rfl
theorem fr_err {F : List Mn} (hF : F.length ≤ 60) {k : Int} {n t : ByteArray} (h : FrO k n t) : errP F (frO k n t) = 0 ∨ errP F (frO k n t) = 74 ∨ (errP F (frO k n t) = 2 ∧ F.length = 60) := by
  have hm := fr_may h
  unfold errP
  rw [if_neg (by rw [hm]; simp)]
  split
  · exact new_err _ hF
  split
  · exact new_err _ hF
  · rename_i h1 h2
    rcases h with ⟨rfl, -⟩ | ⟨h, -⟩
    · exact absurd rfl h1
    · exact absurd h h2
theorem fr_do {F G : List Mn} {k : Int} {n t : ByteArray} (h : FrO k n t) (he : errP F (frO k n t) = 0) (hG : G.map core = (oneP F (frO k n t)).1.map core) :
    G.length = F.length + 1 ∧ (G.take F.length).map core = F.map core ∧ ∀ hn : F.length < G.length, core G[F.length] = ⟨k, n, t, [], -1, [], none, 0, none, 0⟩ := by
  have hk : k = 1 ∨ k = 2 ∨ k = 3 := by rcases h with ⟨rfl, -⟩ | ⟨h, -⟩ <;> omega
  have hk' : (frO k n t).kind = 1 ∨ (frO k n t).kind = 2 ∨ (frO k n t).kind = 3 := hk
  rw [oneP, if_pos he, doP, if_pos hk'] at hG
  unfold addP frO at hG
  simp only [List.map_append] at hG
  refine ⟨by have := congrArg List.length hG; simpa using this, ?_, fun hn => ?_⟩
  · rw [List.map_take, hG, ← List.length_map (f := core), List.take_left']
    rfl
  · have e : (G.map core)[F.length]? = some (core G[F.length]) := by rw [List.getElem?_map, List.getElem?_eq_getElem hn]; rfl
    rw [hG, List.getElem?_append_right (by simp)] at e
    simp at e
    exact e.symm
theorem fr_take {w : World} {A : Option Addr} {G : List Mn} (h : FR w A G) (n : Nat) : FR w A (G.take n) := fun i m hm => by
  refine h i m ?_
  rw [List.getElem?_take] at hm
  split at hm
  · exact hm
  · cases hm
theorem own_cap {w : World} {base : Nat} {A : Option Addr} {cap : Nat} {G : List Mn} (h : OF w base (.slice A G.length cap) G) : G.length ≤ cap ∧ cap ≤ maxLen := by
  rcases h.row.2 with ⟨h1, h2⟩ | ⟨g, c, cur, h1, h2, h3, h4, h5, -⟩
  · simp only [Value.slice.injEq] at h1
    have := h1.2.2
    have := h1.2.1
    exact ⟨by omega, by omega⟩
  · simp only [Value.slice.injEq] at h1
    have := h1.2.2
    exact ⟨by omega, by omega⟩
theorem fr_one {w : World} {g off : Nat} {G : List Mn} (h : FR w (some ⟨g, off, none⟩) G) {i : Nat} (hi : i < G.length) : FR w (some ⟨g, off + i * 6, none⟩) [G[i]] := fun j m hm => by
  match j, hm with
  | 0, hm =>
    cases hm
    obtain ⟨hf, g', o', hA, hg, hn⟩ := h i G[i] (List.getElem?_eq_getElem hi)
    cases hA
    exact ⟨hf, g, _, rfl, hg, by simpa using hn⟩
  | j + 1, hm => simp at hm
end Go.Proofs.YtfmciefodohdgaaGreatDoor
