/-
  What words tell of the node whose Pack they are: plain mathematics of no program.
-/
import Derived.Test.YthfeonmaajiajaaDoorRecM
namespace Go.Proofs.YthfeonmaajiajaaDoor.Rm
set_option linter.unusedVariables false
set_option linter.unusedSimpArgs false

/-- What is left behind the head, the root and the lengths. -/
def R1 (l : List Int) (p : Nat) : List Int := if 0 < p then l.drop 4 else l.drop 2
/-- The lengths that are told. -/
def dgs (l : List Int) (k : Nat) : List Int := (List.range k).map (fun i => lenAt (l.getD 2 0) (l.getD 3 0) i)
theorem dgs_succ (l : List Int) (k : Nat) : dgs l (k + 1) = dgs l k ++ [lenAt (l.getD 2 0) (l.getD 3 0) k] := by simp [dgs, List.range_succ]
theorem dgs_length (l : List Int) (k : Nat) : (dgs l k).length = k := by simp [dgs]
theorem dg6_nonneg (w : Int) (i : Nat) : 0 ≤ dg6 w i := Int.emod_nonneg _ (by decide)
theorem dg6_lt (w : Int) (i : Nat) : dg6 w i < 64 := Int.emod_lt_of_pos _ (by decide)
theorem lenAt_bound (a b : Int) (i : Nat) : 0 ≤ lenAt a b i ∧ lenAt a b i < 64 := by
  unfold lenAt
  split
  · exact ⟨dg6_nonneg _ _, dg6_lt _ _⟩
  · exact ⟨dg6_nonneg _ _, dg6_lt _ _⟩
theorem dgs_at {l : List Int} {k i : Nat} (h : i < (dgs l k).length) : (dgs l k)[i] = lenAt (l.getD 2 0) (l.getD 3 0) i := by simp [dgs]
/-- What words tell of the node whose Pack they are. -/
structure QH (l : List Int) (q : Rc) : Prop where
  kind : l.getD 0 0 % 4 = q.kind
  par : l.getD 0 0 / 4 % 256 = q.par + 1
  size : l.getD 0 0 / 33554432 % 256 = q.size
  pairs : l.getD 0 0 / 2097152 % 16 = ((q.attrs.length / 2 : Nat) : Int)
  even : q.attrs.length % 2 = 0
  many : q.attrs.length ≤ 16
  name : l.getD 0 0 / 1024 % 32 = q.name.length
  text : l.getD 0 0 / 32768 % 64 = q.text.length
  root : l.getD 1 0 = q.root
  two : 2 ≤ l.length
  four : q.attrs ≠ [] → 4 ≤ l.length
  rest : R1 l (q.attrs.length / 2) = wds q.name ++ (wds q.text ++ q.attrs.flatMap wds)
  lens : ∀ i, i < q.attrs.length → lenAt (l.getD 2 0) (l.getD 3 0) i = ((q.attrs.getD i []).length : Int)
theorem qh_of {q : Rc} {l : List Int} (hm : MayR q) (h : pk q = l) : QH l q := by
  obtain ⟨a1, a2, a3, a4, a5, a6⟩ := headR_parts hm
  obtain ⟨h1, h2, h3, h4, h5, h6, h7, h8, h9, h10, h11⟩ := hm
  have e : l = headR q :: q.root :: (Rm.lens q.attrs ++ (wds q.name ++ (wds q.text ++ q.attrs.flatMap wds))) := by
    rw [← h]; unfold pk P; rw [List.take_length]
  have e0 : l.getD 0 0 = headR q := by rw [e]; rfl
  have e1 : l.getD 1 0 = q.root := by rw [e]; rfl
  have e2 : 2 ≤ l.length := by rw [e]; simp
  by_cases hn : q.attrs = []
  · refine ⟨by rw [e0]; exact a1, by rw [e0]; exact a2, by rw [e0]; exact a6, by rw [e0]; exact a5, h7, h8, by rw [e0]; exact a3, by rw [e0]; exact a4, e1, e2, fun hc => absurd hn hc, ?_, fun i hi => ?_⟩
    · have hz : ¬ 0 < q.attrs.length / 2 := by rw [hn]; decide
      unfold R1
      rw [if_neg hz, e, lens_none hn]
      rfl
    · rw [hn] at hi; cases hi
  · have hl := lens_some hn
    have hlen : 0 < q.attrs.length := List.length_pos_iff.2 hn
    have e3 : l.getD 2 0 = six (la (q.attrs.take 8)) := by rw [e, hl]; rfl
    have e4 : l.getD 3 0 = six (la (q.attrs.drop 8)) := by rw [e, hl]; rfl
    refine ⟨by rw [e0]; exact a1, by rw [e0]; exact a2, by rw [e0]; exact a6, by rw [e0]; exact a5, h7, h8, by rw [e0]; exact a3, by rw [e0]; exact a4, e1, e2, fun _ => by rw [e, hl]; simp, ?_, fun i hi => ?_⟩
    · have hz : 0 < q.attrs.length / 2 := by omega
      unfold R1
      rw [if_pos hz, e, hl]
      rfl
    · rw [e3, e4]; exact lens_at h9 hi
/-- A text, and what stands behind it. -/
theorem take_wds {s : Wd} {l more : List Int} (h : l = wds s ++ more) : nw s.length ≤ l.length ∧ txt (l.take (nw s.length)) s.length = some s ∧ l.drop (nw s.length) = more := by
  have hl : (wds s).length = nw s.length := wds_length _
  refine ⟨by rw [h, List.length_append, hl]; omega, ?_, ?_⟩
  · rw [h, ← hl, List.take_left]; exact txt_wds s
  · rw [h, ← hl, List.drop_left]
theorem flat_dropD {a : List Wd} {k : Nat} (h : k < a.length) : (a.drop k).flatMap wds = wds (a.getD k []) ++ (a.drop (k + 1)).flatMap wds := by
  rw [List.drop_eq_getElem_cons h, List.flatMap_cons]
  simp [List.getD, List.getElem?_eq_getElem h]
theorem take_next {a : List Wd} {k : Nat} (h : k < a.length) : a.take (k + 1) = a.take k ++ [a.getD k []] := by
  rw [List.take_succ_eq_append_getElem h]
  simp [List.getD, List.getElem?_eq_getElem h]
theorem txt_len {l : List Int} {n : Nat} : (((txt l n).getD []).length : Nat) ≤ n := by
  cases ht : txt l n with
  | none => simp
  | some s =>
    have := (txt_iff.1 ht).2
    simp only [Option.getD_some]
    omega
end Go.Proofs.YthfeonmaajiajaaDoor.Rm
