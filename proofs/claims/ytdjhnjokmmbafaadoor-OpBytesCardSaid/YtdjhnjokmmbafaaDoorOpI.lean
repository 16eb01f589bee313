/-
  The first operation of bytes.
-/
import Derived.Test.YtdjhnjokmmbafaaDoorOpH
import Derived.Test.YtdjhnjokmmbafaaDoorOpThFi
namespace Go.Proofs.YtdjhnjokmmbafaaDoor
open Go.ChangeShapes Go.WideShapes Go.ChangeAt Go.RowKit
set_option linter.unusedVariables false
set_option linter.unusedSimpArgs false

theorem num_some {s : List UInt8} {v : Int} {r : List UInt8} (h : rdN s = some (v, r)) (b : Bool) : numM (s, b) = (v, (r, b)) := by
  rw [rdN] at h
  cases hp : piece s with
  | none => rw [hp] at h; cases h
  | some x =>
    obtain ⟨p, t⟩ := x
    rw [hp, Option.bind_some] at h
    have e : nextM (s, b) = (p, (t, b)) := by unfold nextM; simp only [hp]
    split at h
    · rename_i hg
      simp only [Option.some.injEq, Prod.mk.injEq] at h
      obtain ⟨rfl, rfl⟩ := h
      unfold numM
      rw [e]
      simp only [] at hg ⊢
      rw [if_pos hg]
    · cases h
theorem num_none {s : List UInt8} (h : rdN s = none) (b : Bool) : (numM (s, b)).2.2 = false := by
  rw [rdN] at h
  cases hp : piece s with
  | none =>
    have e : nextM (s, b) = ([0], (s, false)) := by unfold nextM; simp only [hp]
    unfold numM
    rw [e]
    split <;> rfl
  | some x =>
    obtain ⟨p, t⟩ := x
    rw [hp, Option.bind_some] at h
    have e : nextM (s, b) = (p, (t, b)) := by unfold nextM; simp only [hp]
    split at h
    · cases h
    · rename_i hg
      unfold numM
      rw [e]
      simp only [] at hg ⊢
      rw [if_neg hg]
theorem next_false (s : List UInt8) : (nextM (s, false)).2.2 = false := by
  unfold nextM
  cases piece s <;> rfl
theorem num_false (s : List UInt8 × Bool) (h : s.2 = false) : (numM s).2.2 = false := by
  obtain ⟨s, b⟩ := s
  simp only [] at h
  subst h
  unfold numM
  split
  · exact next_false s
  · rfl
theorem txt_some {s : List UInt8} {v : ByteArray} {r : List UInt8} (h : rdT s = some (v, r)) (b : Bool) : txtM (s, b) = (v, (r, b)) := by
  rw [rdT] at h
  cases hp : piece s with
  | none => rw [hp] at h; cases h
  | some x =>
    obtain ⟨p, t⟩ := x
    rw [hp, Option.map_some] at h
    simp only [Option.some.injEq, Prod.mk.injEq] at h
    obtain ⟨rfl, rfl⟩ := h
    unfold txtM nextM
    simp only [hp]
theorem txt_none {s : List UInt8} (h : rdT s = none) (b : Bool) : (txtM (s, b)).2.2 = false := by
  rw [rdT] at h
  cases hp : piece s with
  | none =>
    unfold txtM nextM
    simp only [hp]
  | some x => rw [hp] at h; cases h
theorem txt_false (s : List UInt8 × Bool) (h : s.2 = false) : (txtM s).2.2 = false := by
  obtain ⟨s, b⟩ := s
  simp only [] at h
  subst h
  exact next_false s
def oN (h : Bool) (s : List UInt8 × Bool) : Int × (List UInt8 × Bool) := if h then numM s else (0, s)
def oT (h : Bool) (s : List UInt8 × Bool) : ByteArray × (List UInt8 × Bool) := if h then txtM s else (⟨#[]⟩, s)
theorem oN_some {h : Bool} {s : List UInt8} {v : Int} {r : List UInt8} (e : optN h s = some (v, r)) (b : Bool) : oN h (s, b) = (v, (r, b)) := by
  cases h with
  | true => exact num_some e b
  | false => simp only [optN, Bool.false_eq_true, if_false, Option.some.injEq, Prod.mk.injEq] at e; obtain ⟨rfl, rfl⟩ := e; rfl
theorem oN_none {h : Bool} {s : List UInt8} (e : optN h s = none) (b : Bool) : (oN h (s, b)).2.2 = false := by
  cases h with
  | true => exact num_none e b
  | false => simp [optN] at e
theorem oN_false (h : Bool) (s : List UInt8 × Bool) (e : s.2 = false) : (oN h s).2.2 = false := by
  cases h with
  | true => exact num_false s e
  | false => exact e
theorem oT_some {h : Bool} {s : List UInt8} {v : ByteArray} {r : List UInt8} (e : optT h s = some (v, r)) (b : Bool) : oT h (s, b) = (v, (r, b)) := by
  cases h with
  | true => exact txt_some e b
  | false => simp only [optT, Bool.false_eq_true, if_false, Option.some.injEq, Prod.mk.injEq] at e; obtain ⟨rfl, rfl⟩ := e; rfl
theorem oT_none {h : Bool} {s : List UInt8} (e : optT h s = none) (b : Bool) : (oT h (s, b)).2.2 = false := by
  cases h with
  | true => exact txt_none e b
  | false => simp [optT] at e
theorem oT_false (h : Bool) (s : List UInt8 × Bool) (e : s.2 = false) : (oT h s).2.2 = false := by
  cases h with
  | true => exact txt_false s e
  | false => exact e
/-- What first reads, behind the byte of the kind. -/
def fiM (k : Int) (s : List UInt8 × Bool) : Po × (List UInt8 × Bool) := thrM (fun s (_ : Int) => numM s) (fun s (_ : ByteArray) => txtM s) ⟨k, 0, 0, 0, ⟨#[]⟩, ⟨#[]⟩⟩ s
theorem fiM_eq (k : Int) (s : List UInt8 × Bool) : fiM k s = (⟨k, (oN (hasI k) s).1, (oN (hasT k) (oN (hasI k) s).2).1, (oN (hasT k) (oN (hasT k) (oN (hasI k) s).2).2).1, (oT (hasN k) (oN (hasT k) (oN (hasT k) (oN (hasI k) s).2).2).2).1, (oT (hasX k) (oT (hasN k) (oN (hasT k) (oN (hasT k) (oN (hasI k) s).2).2).2).2).1⟩, (oT (hasX k) (oT (hasN k) (oN (hasT k) (oN (hasT k) (oN (hasI k) s).2).2).2).2).2) := rfl
theorem fiM_dec (c : UInt8) (r : List UInt8) (hk : isK c.toNat = true) :
    match dec1 (c :: r) with
    | some (o, t) => fiM c.toNat (r, true) = (o, (t, true))
    | none => (fiM c.toNat (r, true)).2.2 = false := by
  rw [dec1, if_pos hk, fiM_eq]
  cases e1 : optN (hasI c.toNat) r with
  | none =>
    rw [Option.bind_none]
    exact oT_false _ _ (oT_false _ _ (oN_false _ _ (oN_false _ _ (oN_none e1 true))))
  | some x1 =>
    obtain ⟨i, s1⟩ := x1
    rw [Option.bind_some, oN_some e1 true]
    simp only []
    cases e2 : optN (hasT c.toNat) s1 with
    | none =>
      rw [Option.bind_none]
      exact oT_false _ _ (oT_false _ _ (oN_false _ _ (oN_none e2 true)))
    | some x2 =>
      obtain ⟨t, s2⟩ := x2
      rw [Option.bind_some, oN_some e2 true]
      simp only []
      cases e3 : optN (hasT c.toNat) s2 with
      | none =>
        rw [Option.bind_none]
        exact oT_false _ _ (oT_false _ _ (oN_none e3 true))
      | some x3 =>
        obtain ⟨a, s3⟩ := x3
        rw [Option.bind_some, oN_some e3 true]
        simp only []
        cases e4 : optT (hasN c.toNat) s3 with
        | none =>
          rw [Option.bind_none]
          exact oT_false _ _ (oT_none e4 true)
        | some x4 =>
          obtain ⟨n, s4⟩ := x4
          rw [Option.bind_some, oT_some e4 true]
          simp only []
          cases e5 : optT (hasX c.toNat) s4 with
          | none =>
            rw [Option.bind_none]
            exact oT_none e5 true
          | some x5 =>
            obtain ⟨x, s5⟩ := x5
            rw [Option.bind_some, oT_some e5 true]
/-- through, at the closures that take off. -/
theorem thr_fi (kn kb ko : Nat) (k : Int) (s : List UInt8 × Bool) (w : World) (n0 : Nat) (hk : isK k = true) (hK : KT w) (hx : Nx w kn kb ko) (hB : Bx w kb ko s.1 s.2) (hne : kb ≠ ko) (hl : s.1.length ≤ 100000) (h1 : n0 ≤ kb) (h2 : n0 ≤ ko) (h3 : n0 ≤ w.heap.size) :
    Calls Tryd.prog 22 #[opv ⟨k, 0, 0, 0, ⟨#[]⟩, ⟨#[]⟩⟩, .func (.func 50) #[] #[.pointer (some ⟨kn, 0, none⟩), .pointer (some ⟨ko, 0, none⟩)], .func (.func 53) #[] #[.pointer (some ⟨kn, 0, none⟩)]] w fun e w' => e = .returned (opv (fiM k s).1) ∧ Bx w' kb ko (fiM k s).2.1 (fiM k s).2.2 ∧ Below n0 w w' ∧ KeepO w w' := by
  have tn : ∀ (V : World) (s : List UInt8 × Bool) (V' : World), Bx V kb ko s.1 s.2 → (∀ k, k < V.heap.size → (∀ cs : Array Value, V.heap[k]? ≠ some (Obj.cells cs 23 (0, 0)) ∧ V.heap[k]? ≠ some (Obj.cells cs 60 (0, 0))) → V'.heap[k]? = V.heap[k]?) → Bx V' kb ko s.1 s.2 := fun V s V' hB hS =>
    ⟨(hS kb (lt_of_block hB.b) (fun cs => ⟨fun e => (by rw [hB.b] at e; cases e), fun e => (by rw [hB.b] at e; cases e)⟩)).trans hB.b, (hS ko (lt_of_block hB.o) (fun cs => ⟨fun e => (by rw [hB.o] at e; cases e), fun e => (by rw [hB.o] at e; cases e)⟩)).trans hB.o⟩
  refine (thrFi_any (σ := List UInt8 × Bool) kn ko (fun s V => Bx V kb ko s.1 s.2 ∧ Nx V kn kb ko ∧ s.1.length ≤ 100000 ∧ Below n0 w V ∧ KeepO w V ∧ n0 ≤ V.heap.size) (fun s (_ : Int) => numM s) (fun s (_ : ByteArray) => txtM s) (fun _ => 0) (fun _ => True) (fun _ => True) (fun _ _ => Nat.zero_le _) (fun _ _ => Nat.zero_le _)
    (fun s n V _ _ hI => ?_) (fun s n V _ _ hI => ?_) w (fun s V V' hI hS => ?_) s rfl ⟨hB, hx, hl, Below.refl _ _, ⟨Nat.le_refl _, fun k cs h => rfl⟩, h3⟩ hK ⟨k, 0, 0, 0, ⟨#[]⟩, ⟨#[]⟩⟩ hk trivial trivial trivial trivial trivial).mono ?_
  · obtain ⟨i1, i2, i3, i4, i5, i6⟩ := hI
    refine (fi2_any kn kb ko s n V i2 i1 hne i3).mono ?_
    rintro e V' ⟨rfl, g1, g2⟩
    have hk := g2.keepO i1
    refine ⟨rfl, ⟨g1, i2.but i1 g2, ?_, i4.trans (g2.below h1 h2 i6), ⟨Nat.le_trans i5.1 hk.1, fun i cs hi => ?_⟩, Nat.le_trans i6 hk.1⟩, hk⟩
    · have := (nextM_len s).2.2
      unfold numM
      split <;> simp only [] <;> omega
    · have e1 := i5.2 i cs hi
      exact (hk.2 i cs (by rw [e1]; exact hi)).trans e1
  · obtain ⟨i1, i2, i3, i4, i5, i6⟩ := hI
    refine (fi3_any kn kb ko s n V i2 i1 hne i3).mono ?_
    rintro e V' ⟨rfl, g1, g2⟩
    have hk := g2.keepO i1
    refine ⟨rfl, ⟨g1, i2.but i1 g2, ?_, i4.trans (g2.below h1 h2 i6), ⟨Nat.le_trans i5.1 hk.1, fun i cs hi => ?_⟩, Nat.le_trans i6 hk.1⟩, hk⟩
    · have := (nextM_len s).2.2
      unfold txtM
      simp only []
      omega
    · have e1 := i5.2 i cs hi
      exact (hk.2 i cs (by rw [e1]; exact hi)).trans e1
  · obtain ⟨i1, i2, i3, i4, i5, i6⟩ := hI
    refine ⟨tn V s V' i1 hS.2, ?_, i3, i4.trans (hS.1.mono h3), ⟨Nat.le_trans i5.1 hS.1.size, fun i cs hi => ?_⟩, Nat.le_trans i6 hS.1.size⟩
    · exact (hS.2 kn (lt_of_block i2) (fun cs => ⟨fun e => (by rw [i2] at e; cases e), fun e => (by rw [i2] at e; cases e)⟩)).trans i2
    · have e1 := i5.2 i cs hi
      have hw : i < w.heap.size := by rcases hi with hi | hi <;> exact lt_of_block hi
      exact (hS.1.block i hw).trans e1
  · rintro e w' ⟨rfl, hI⟩
    exact ⟨rfl, hI.1, hI.2.2.2.1, hI.2.2.2.2.1⟩
end Go.Proofs.YtdjhnjokmmbafaaDoor
