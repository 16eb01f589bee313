/-
  Bytes that are read without asking whether they are what the operation would be written as.
-/
import Derived.Test.YtdjhnjokmmbafaaDoorOpM
namespace Go.Proofs.YtdjhnjokmmbafaaDoor
open Go.RowKit
set_option linter.unusedVariables false
set_option linter.unusedSimpArgs false

/-- The number that a piece is read as. -/
def numP (p : List UInt8) : Int := zag (if goodB p then uOf (ba p) else 0)
theorem numP_fit (p : List UInt8) : I64 (numP p) := by
  obtain ⟨h0, h1⟩ := uOf_bounds (ba p)
  unfold numP
  split
  · exact zag_bounds _ h0 h1
  · exact zag_bounds _ (by decide) (by decide)
def lsN (b : Bool) (s : List UInt8) : Option (Int × List UInt8) := if b then (piece s).map fun x => (numP x.1, x.2) else some (0, s)
/-- An operation that is read, and what stands behind it; a kind that is none has no fields. -/
def loose1 : List UInt8 → Option (Po × List UInt8)
  | [] => none
  | b :: r =>
    (lsN (hasI b.toNat) r).bind fun i => (lsN (hasT b.toNat) i.2).bind fun t => (lsN (hasT b.toNat) t.2).bind fun a => (optT (hasN b.toNat) a.2).bind fun n => (optT (hasX b.toNat) n.2).bind fun x =>
      some (⟨b.toNat, i.1, t.1, a.1, n.1, x.1⟩, x.2)
theorem lsN_of {b : Bool} {s : List UInt8} {x : Int × List UInt8} (h : optN b s = some x) : lsN b s = some x := by
  cases b with
  | false => exact h
  | true =>
    simp only [optN, if_true, rdN] at h
    obtain ⟨⟨p, r⟩, h1, h2⟩ := Option.bind_eq_some_iff.1 h
    simp only [] at h2
    split at h2
    · rename_i hg
      simp only [lsN, if_true, h1, Option.map_some, numP, hg]
      exact h2
    · cases h2
theorem loose_of {s : List UInt8} {x : Po × List UInt8} (h : dec1 s = some x) : loose1 s = some x := by
  cases s with
  | nil => cases h
  | cons b r =>
    rw [dec1] at h
    split at h
    · obtain ⟨i, e1, h⟩ := Option.bind_eq_some_iff.1 h
      obtain ⟨t, e2, h⟩ := Option.bind_eq_some_iff.1 h
      obtain ⟨a, e3, h⟩ := Option.bind_eq_some_iff.1 h
      obtain ⟨n, e4, h⟩ := Option.bind_eq_some_iff.1 h
      obtain ⟨y, e5, h⟩ := Option.bind_eq_some_iff.1 h
      rw [loose1, lsN_of e1, Option.bind_some, lsN_of e2, Option.bind_some, lsN_of e3, Option.bind_some, e4, Option.bind_some, e5, Option.bind_some]
      exact h
    · cases h
theorem lsN_fit {b : Bool} {s : List UInt8} {x : Int × List UInt8} (h : lsN b s = some x) : I64 x.1 := by
  cases b with
  | false => simp only [lsN, Bool.false_eq_true, if_false, Option.some.injEq] at h; subst h; exact ⟨by show (_ : Int) ≤ 0; decide, by show (0 : Int) ≤ _; decide⟩
  | true =>
    simp only [lsN, if_true] at h
    obtain ⟨p, -, rfl⟩ := Option.map_eq_some_iff.1 h
    exact numP_fit _
theorem loose_fit {s : List UInt8} {o : Po} {r : List UInt8} (h : loose1 s = some (o, r)) : Fit o := by
  cases s with
  | nil => cases h
  | cons b s =>
    rw [loose1] at h
    obtain ⟨i, e1, h⟩ := Option.bind_eq_some_iff.1 h
    obtain ⟨t, e2, h⟩ := Option.bind_eq_some_iff.1 h
    obtain ⟨a, e3, h⟩ := Option.bind_eq_some_iff.1 h
    obtain ⟨n, e4, h⟩ := Option.bind_eq_some_iff.1 h
    obtain ⟨y, e5, h⟩ := Option.bind_eq_some_iff.1 h
    simp only [Option.some.injEq, Prod.mk.injEq] at h
    obtain ⟨rfl, rfl⟩ := h
    have hb := b.toNat_lt
    exact ⟨⟨by show _ ≤ (b.toNat : Int); omega, by show (b.toNat : Int) ≤ _; omega⟩, lsN_fit e1, lsN_fit e2, lsN_fit e3⟩
/-- What has been read of bytes, and what is left of them, goes with what they are decoded to. -/
def Goes (s : List UInt8) (l : List Po) (r : List UInt8) : Prop := ∀ l', decL 20 s = some l' → ∃ m, l' = l ++ m ∧ decL (20 - l.length) r = some m
theorem goes_start (s : List UInt8) : Goes s [] s := fun l' h => ⟨l', rfl, h⟩
theorem goes_next {s : List UInt8} {l : List Po} {r r' : List UInt8} {o : Po} (hg : Goes s l r) (h0 : r ≠ []) (h : loose1 r = some (o, r')) : Goes s (l ++ [o]) r' := by
  intro l' hl
  obtain ⟨m, rfl, hm⟩ := hg l' hl
  cases r with
  | nil => exact absurd rfl h0
  | cons b t =>
    cases hn : 20 - l.length with
    | zero => rw [hn] at hm; cases hm
    | succ n =>
      rw [hn, decL] at hm
      obtain ⟨x, e1, hm⟩ := Option.bind_eq_some_iff.1 hm
      obtain ⟨m', e2, rfl⟩ := Option.map_eq_some_iff.1 hm
      have := loose_of e1
      rw [h] at this
      obtain rfl := Option.some.inj this
      refine ⟨m', by simp, ?_⟩
      rw [List.length_append, List.length_singleton, show 20 - (l.length + 1) = n by omega]
      exact e2
theorem goes_short {s : List UInt8} {l : List Po} {r : List UInt8} (hg : Goes s l r) (h0 : r ≠ []) (h : loose1 r = none) : decL 20 s = none := by
  cases hd : decL 20 s with
  | none => rfl
  | some l' =>
    exfalso
    obtain ⟨m, rfl, hm⟩ := hg l' hd
    cases r with
    | nil => exact h0 rfl
    | cons b t =>
      cases hn : 20 - l.length with
      | zero => rw [hn] at hm; cases hm
      | succ n =>
        rw [hn, decL] at hm
        obtain ⟨x, e1, hm⟩ := Option.bind_eq_some_iff.1 hm
        rw [loose_of e1] at h
        cases h
/-- What has been read is what the bytes are decoded to just where it is written as these bytes. -/
theorem goes_end {s : List UInt8} {l : List Po} {r : List UInt8} (hg : Goes s l r) (hr : r = [] ∨ 20 < l.length) (hf : ∀ o ∈ l, Fit o) : decL 20 s = if (encR l).2 = 0 ∧ (encR l).1 = s then some l else none := by
  split
  · rename_i h
    obtain ⟨h1, h2⟩ := h
    rw [encR] at h1 h2
    split at h1
    · exact absurd h1 (by decide)
    · rename_i h20
      rw [if_neg h20] at h2
      split at h1
      · rename_i ha
        rw [if_pos ha] at h2
        rw [← h2]
        exact decL_enc 20 l (by omega) fun o ho => ⟨List.all_eq_true.1 ha o ho, hf o ho⟩
      · exact absurd h1 (by decide)
  · rename_i h
    cases hd : decL 20 s with
    | none => rfl
    | some l' =>
      exfalso
      apply h
      obtain ⟨a1, a2, a3⟩ := enc_decL 20 s l' hd
      obtain ⟨m, rfl, hm⟩ := hg l' hd
      rw [List.length_append] at a2
      rcases hr with rfl | hr
      · have : m = [] := by
          cases hn : 20 - l.length with
          | zero => rw [hn] at hm; exact (Option.some.inj hm).symm
          | succ n => rw [hn] at hm; exact (Option.some.inj hm).symm
        subst this
        rw [List.append_nil] at a1 a3
        have ha : l.all mayO = true := List.all_eq_true.2 fun o ho => (a3 o ho).1
        rw [encR, if_neg (by omega), if_pos ha]
        exact ⟨rfl, a1.symm⟩
      · omega
end Go.Proofs.YtdjhnjokmmbafaaDoor
