/-
  A list raised, level by level: the plain mathematics, and the walk.
-/
import Derived.Test.YtbldjlkofaiikaaVecJ
namespace Go.Proofs.Ytbldjlkofaiikaa
open Go.ChangeShapes Go.WideShapes Go.ChangeAt Go.RowKit
set_option linter.unusedVariables false
set_option linter.unusedSimpArgs false

theorem getD_left {α : Type} {a b : List α} {j : Nat} (d : α) (h : j < a.length) : (a ++ b).getD j d = a.getD j d := by rw [List.getD, List.getD, List.getElem?_append_left h]
theorem getD_right {α : Type} {a b : List α} {j : Nat} (d : α) (h : a.length ≤ j) : (a ++ b).getD j d = b.getD (j - a.length) d := by rw [List.getD, List.getD, List.getElem?_append_right h]
theorem headD_drop {α : Type} (l : List α) (m : Nat) (d : α) : (l.drop m).headD d = l.getD m d := by
  rw [List.headD_eq_head?_getD, List.head?_drop, List.getD]
theorem tail_drop {α : Type} (l : List α) (m : Nat) : (l.drop m).tail = l.drop (m + 1) := by rw [List.tail_drop]
theorem atR_head (old : List (List Int)) (l m : Nat) : (((old.drop l).headD []).drop m).headD 0 = atR old l m := by
  rw [headD_drop, headD_drop]; rfl
theorem place_some {p : Pl} {n : Nat} {G : Int} (h : PK n G p) (hG : G ≤ 1099511627775) {x : Int} {c : List Int} (h4 : c.length ≤ 4) (hc : U64 c) (hx : x ≠ 0 → 0 ≤ x ∧ x ≤ 18446744073709551615) {q : Pl} {y : Int} (he : p.place x c = some (q, y)) : PK n G q ∧ 0 ≤ y ∧ y ≤ 18446744073709551615 := by
  unfold Pl.place at he
  split at he
  · rename_i hc'
    cases he
    exact ⟨h, hx hc'.1⟩
  · by_cases hf : p.st.free = []
    · rw [hf] at he; cases he
    · obtain ⟨fr, i, hfr, hi⟩ := h.ok.last hf
      rw [hfr, List.getLast?_concat] at he
      cases he
      have hg := h.ok.gen hi
      have hs := h.ok.small
      refine ⟨⟨h.ok.tk hfr, by simp [Pl.tk, h.len], fun d hd => ?_, fun d hd => ?_⟩, ?_⟩
      · rcases List.mem_or_eq_of_mem_set hd with hd | rfl
        · exact h.four d hd
        · exact h4
      · rcases List.mem_or_eq_of_mem_set hd with hd | rfl
        · exact h.u64 d hd
        · exact hc
      · rw [Int.toNat_natCast]
        unfold hd
        omega
theorem fours_step (s : Nat) (l : List Int) : fours (s + 1) l = l.take 4 :: fours s (l.drop 4) := rfl
theorem U64.take {l : List Int} (h : U64 l) (k : Nat) : U64 (l.take k) := fun x hx => h x (List.mem_of_mem_take hx)
theorem U64.drop {l : List Int} (h : U64 l) (k : Nat) : U64 (l.drop k) := fun x hx => h x (List.mem_of_mem_drop hx)
theorem set_zeros {hs : List Int} {s : Nat} (h : Int) : (hs ++ List.replicate (s + 1) 0).set hs.length h = hs ++ [h] ++ List.replicate s 0 := by
  rw [List.set_append_right _ _ (Nat.le_refl _), Nat.sub_self, List.replicate_succ, List.set_cons_zero]
  simp
/-- A row more is laid, behind the others. -/
theorem RP.push {w : World} {b g L : Nat} {done : List (List Int)} (h : RP w b g L 0 done) (hr : done.length < L) {v : Value} {l : List Int} (hv : w.ownsRow b 41 1 v l.length (gvs l)) : RP (w.setCell ⟨g, done.length, none⟩ v) b g L 0 (done ++ [l]) := by
  obtain ⟨vs, h1, h2⟩ := h
  obtain ⟨cur, hg, -⟩ := own_blk h1
  have hk : ∀ (x : Value) (n : Nat) (xs : List Value), w.ownsRow b 41 1 x n xs → (w.setCell ⟨g, done.length, none⟩ v).ownsRow b 41 1 x n xs := fun x n xs ho => ownsRow_setCell_other ho (own_apart5 ho hg (by decide)) _
  have hl : vs.length = L := by have := h1.1; omega
  refine ⟨vs.set done.length v, (h1.stored done.length v).1, fun j hj => ?_⟩
  rw [List.length_append, List.length_singleton] at hj
  rcases Nat.lt_or_ge j done.length with hlt | hge
  · obtain ⟨x, e, o⟩ := h2 j hlt
    refine ⟨x, ?_, ?_⟩
    · rw [List.getElem?_set_ne (by omega), ← e]
    · rw [getD_left _ hlt]; exact hk _ _ _ o
  · obtain rfl : j = done.length := by omega
    refine ⟨v, by rw [Nat.zero_add, List.getElem?_set_self (by omega)], ?_⟩
    rw [getD_right _ (Nat.le_refl _), Nat.sub_self]
    exact hk _ _ _ hv
theorem RP.keeps {w w' : World} {k gc B cc : Nat} {vg vu vf : Value} {p : Pl} (hP : PB w k gc B cc vg vu vf p) (hb : But k gc w w') {b g L r : Nat} {done : List (List Int)} (h : RP w b g L r done) : RP w' b g L r done := by
  obtain ⟨vs, h1, h2⟩ := h
  exact ⟨vs, hP.keeps hb h1 (by decide) (by decide), fun i hi => by obtain ⟨x, e, o⟩ := h2 i hi; exact ⟨x, e, hP.keeps hb o (by decide) (by decide)⟩⟩
theorem RR.keeps {w w' : World} {k gc B cc : Nat} {vg vu vf : Value} {p : Pl} (hP : PB w k gc B cc vg vu vf p) (hb : But k gc w w') {b : Nat} {v : Value} {ls : List (List Int)} (h : RR w b v ls) : RR w' b v ls := by
  obtain ⟨vs, h1, h2⟩ := h
  exact ⟨vs, hP.keeps hb h1 (by decide) (by decide), fun i hi => by obtain ⟨x, e, o⟩ := h2 i hi; exact ⟨x, e, hP.keeps hb o (by decide) (by decide)⟩⟩
theorem PB.apart {w : World} {k g B cc : Nat} {vg vu vf : Value} {p : Pl} (h : PB w k g B cc vg vu vf p) {j : Nat} {t : TypeId} {cs : Array Value} (hj : w.heap[j]? = some (.cells cs t (0, 0))) (h1 : t ≠ 31) (h2 : t ≠ 83) : j ≠ k ∧ j ≠ g := by
  obtain ⟨cur, hg, -⟩ := own_blk h.pa.cs
  exact ⟨fun e => by rw [e, h.blk] at hj; cases hj; exact h1 rfl, fun e => by rw [e, hg] at hj; cases hj; exact h2 rfl⟩
/-- A row's cells from a place on. -/
theorem own_from {w : World} {b g n cap : Nat} {l : List Int} (h : w.ownsRow b 41 1 (.slice (some ⟨g, 0, none⟩) n cap) n (gvs l)) (o : Nat) : ∀ j u, (gvs (l.drop o))[j]? = some u → w.cell? ⟨g, o + j, none⟩ = some u := by
  intro j u hj
  have : (gvs l)[o + j]? = some u := by
    simp only [gvs, List.map_drop] at hj ⊢
    rwa [List.getElem?_drop] at hj
  have := h.cells rfl (o + j) u this
  rwa [add_plain, Nat.zero_add] at this
/-- A list that can be read at A. -/
def RL (w : World) (A : Option Addr) (l : List Int) : Prop := 0 < l.length → ∃ g off, A = some ⟨g, off, none⟩ ∧ g < w.heap.size ∧ ∀ j u, (gvs l)[j]? = some u → w.cell? ⟨g, off + j, none⟩ = some u
theorem RL.of_own {w : World} {b cap : Nat} {A : Option Addr} {l : List Int} (h : w.ownsRow b 41 1 (.slice A l.length cap) l.length (gvs l)) : RL w A l := fun h0 => by
  obtain ⟨g, rfl, -, hg⟩ := own_some h h0
  refine ⟨g, 0, rfl, hg, fun j u hu => ?_⟩
  have := h.cells rfl j u hu
  rwa [add_plain] at this
theorem RL.below {w w' : World} {A : Option Addr} {l : List Int} (h : RL w A l) (hb : Below w.heap.size w w') : RL w' A l := fun h0 => by
  obtain ⟨g, off, e, hg, hc⟩ := h h0
  exact ⟨g, off, e, by have := hb.size; omega, fun j u hu => (hb.cell (p := ⟨g, off + j, none⟩) hg).trans (hc j u hu)⟩
theorem RL.drop {w : World} {g off : Nat} {l : List Int} (hc : ∀ j u, (gvs l)[j]? = some u → w.cell? ⟨g, off + j, none⟩ = some u) (o : Nat) : ∀ j u, (gvs (l.drop o))[j]? = some u → w.cell? ⟨g, off + o + j, none⟩ = some u := by
  intro j u hj
  have : (gvs l)[o + j]? = some u := by
    simp only [gvs, List.map_drop] at hj ⊢
    rwa [List.getElem?_drop] at hj
  rw [Nat.add_assoc]
  exact hc _ u this
theorem RL.at_ {w : World} {g off j : Nat} {l : List Int} (hc : ∀ j u, (gvs l)[j]? = some u → w.cell? ⟨g, off + j, none⟩ = some u) (hj : j < l.length) : w.cell? ⟨g, off + j, none⟩ = some (.int .u64 (l.getD j 0)) := by
  refine hc j _ ?_
  rw [gvs, List.getElem?_map, List.getElem?_eq_getElem hj, getD_at 0 hj]
  rfl
/-- What raise tells. -/
def GivesR (k g B cc : Nat) (o : Option (Pl × List (List Int))) (w : World) (en : Ending) (w' : World) : Prop :=
  ((o = none ∧ en = .returned (.tuple #[.slice none 0 0, .int .i64 2])) ∨ (∃ q rows v vg vu vf, o = some (q, rows) ∧ en = .returned (.tuple #[v, .int .i64 0]) ∧ RR w' w.heap.size v rows ∧ PB w' k g B cc vg vu vf q)) ∧ But k g w w'
def placeF (ko k : Nat) : Value := .func (.func 38) #[] #[.pointer (some ⟨ko, 0, none⟩), .pointer (some ⟨k, 0, none⟩)]
theorem But.set {k g : Nat} {w w' : World} (h : But k g w w') {a : Addr} (ha : w.heap.size ≤ a.block) (v : Value) : But k g w (w'.setCell a v) :=
  ⟨h.os, h.tape, h.output, by simpa using h.size, fun j h1 h2 h3 => (heap_set_other _ _ _ (by omega)).trans (h.block j h1 h2 h3)⟩
theorem But.alloc {k g : Nat} {w w' : World} (h : But k g w w') (o : Obj) : But k g w (w'.alloc o) :=
  h.trans (But.of_below ((Below.refl _ _).alloc (Nat.le_refl _) _))
/-- A cell of a block of another type turns no pool. -/
theorem PB.set {w : World} {k g B cc : Nat} {vg vu vf : Value} {p : Pl} (h : PB w k g B cc vg vu vf p) {j : Nat} {t : TypeId} {cs : Array Value} (hj : w.heap[j]? = some (.cells cs t (0, 0))) (h1 : t ≠ 31) (h2 : t ≠ 83) (h3 : 4 ≠ t) (h4 : 3 ≠ t) (hg : vg.ownBlock ≠ some j) (o : Nat) (x : Value) : PB (w.setCell ⟨j, o, none⟩ x) k g B cc vg vu vf p := by
  obtain ⟨a, b⟩ := h.apart hj h1 h2
  refine ⟨(heap_set_other _ _ _ a).trans h.blk, ⟨⟨?_, ?_, ?_⟩, ?_⟩⟩
  · exact ownsRow_setCell_other h.pa.ar.g hg _
  · exact ownsRow_setCell_other h.pa.ar.u (own_apart5 h.pa.ar.u hj h3) _
  · exact ownsRow_setCell_other h.pa.ar.f (own_apart5 h.pa.ar.f hj h4) _
  · exact ownsRow_setCell_other h.pa.cs (by simpa [Value.ownBlock] using Ne.symm b) _
end Go.Proofs.Ytbldjlkofaiikaa
