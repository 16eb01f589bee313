/-
  The document's own compound: what its loop keeps; its test, at any mark; an empty row.
-/
import Derived.Test.YtcfkcifbojckcaaSelRd
import Derived.Test.YtcfkcifbojckcaaSelAb
namespace Go.Proofs.Ytcfkcifbojckcaa
open Go.ChangeShapes Go.WideShapes Go.ChangeAt Go.RowKit
open Go.PlainAid (bt)
open Sl (St Te Stp Mo step tstep cstep baStep bzStep fin run isB isL isN)
set_option linter.unusedVariables false
set_option linter.unusedSimpArgs false

/-- The document's test, at any mark. -/
theorem rtest_any (s : ByteArray) (i : Nat) (w : World) (hs : s.size ≤ 4000000) (hm : mkB (lk s i) = true) : Calls Try.prog 46 #[.string s, .int .i64 i] w (fun e w' => Rn (rtP s i) tV e ∧ Below w.heap.size w w') := by
  simp only [mkB, decide_eq_true_eq] at hm
  have hi : i < s.size := lk_lt (by omega)
  have hb := lk_in hi
  unfold rtP
  by_cases h35 : lk s i = 35
  · rw [if_pos h35]
    exact rtest_hash s i w hi hs (by rw [← hb]; exact h35)
  · rw [if_neg h35]
    by_cases h46 : lk s i = 46
    · rw [if_pos h46]
      exact rtest_dot s i w hi hs (by rw [← hb]; exact h46)
    · rw [if_neg h46]
      exact rtest_attr s i w hi hs (by rw [← hb]; omega)
/-- From a place where a compound must begin: what the first test may be. -/
theorem cmp_first {s : ByteArray} {i : Nat} {R : List (List Stp)} {r : List Stp} {ch : Bool} (h : Cmp s i R r ch) (hb : bB (lk s i) = false) (hc : lk s i ≠ 42) :
    ∃ st, At s i st ∧ (i = s.size → fin st = none) ∧ ∀ c, (ls s)[i]? = some c → Sl.step st c = if c = 35 then some ⟨R, r, [], ch, .nm 2 []⟩ else if c = 46 then some ⟨R, r, [], ch, .nm 3 []⟩ else if c = 91 then some ⟨R, r, [], ch, .brk⟩ else if isL c = true ∧ true = true then some ⟨R, r, [], ch, .nm 1 [c]⟩ else none := by
  obtain ⟨st, h1, h2, h3⟩ := h
  refine ⟨st, h1, h3, fun c hc' => ?_⟩
  have e1 : isB c = false := by rw [isB_bB, ← (lk_some hc').1]; exact hb
  have e2 : c ≠ 42 := by rintro rfl; exact hc (lk_some hc').1
  rw [h2 c hc']
  have e3 : isL 35 = false := by decide
  have e4 : isL 46 = false := by decide
  have e5 : isL 91 = false := by decide
  by_cases c35 : c = 35
  · subst c35; simp [cstep, e1, e2, e3, St.to]
  by_cases c46 : c = 46
  · subst c46; simp [cstep, e1, e2, e4, St.to]
  by_cases c91 : c = 91
  · subst c91; simp [cstep, e1, e2, e5, St.to]
  simp [cstep, e1, e2, c35, c46, c91, St.to]
/-- A type first. -/
theorem cmp_name {s : ByteArray} {i : Nat} {R : List (List Stp)} {r : List Stp} {ch : Bool} (h : Cmp s i R r ch) (hL : bL (lk s i) = true) :
    match nT 1 (rnP s i) with
    | .ok (t, j) => Rdy s j R r [te t] ch
    | .error k => Sl.parse (ls s) = .error k := by
  have hL2 := hL
  simp only [bL, decide_eq_true_eq] at hL2
  obtain ⟨st, h1, -, h3⟩ := cmp_first h (by simp only [bB, decide_eq_false_iff_not]; omega) (by omega)
  exact rn_ok (T := []) hL h1 h3
/-- What the loop keeps: nothing yet, or tests. -/
def CR (s : ByteArray) (i j : Nat) (R : List (List Stp)) (r : List Stp) (T : List Tr) (ch : Bool) : Prop :=
  (j = i ∧ T = [] ∧ lk s i ≠ 42 ∧ bL (lk s i) = false ∧ bB (lk s i) = false ∧ Cmp s i R r ch) ∨ (i < j ∧ Rdy s j R r (T.map te) ch)
theorem cr_test {s : ByteArray} {i j : Nat} {R : List (List Stp)} {r : List Stp} {T : List Tr} {ch : Bool} (h : CR s i j R r T ch) (hm : mkB (lk s j) = true) :
    match rtP s j with
    | .ok (t, j') => Rdy s j' R r ((T ++ [t]).map te) ch
    | .error k => Sl.parse (ls s) = .error k := by
  have hm' := hm
  simp only [mkB, decide_eq_true_eq] at hm'
  have hi : j < s.size := lk_lt (by omega)
  rcases h with ⟨rfl, rfl, h42, -, hb, h⟩ | ⟨hij, h⟩
  · obtain ⟨st, h1, h2, h3⟩ := cmp_first h hb h42
    have := rt_ok (T := []) (fst := true) (by omega) h1 h2 (fun e => by cases e) h3
    cases hr : rtP s j with
    | error k => rw [hr] at this; exact this
    | ok q => rw [hr] at this; exact this
  · obtain ⟨st, h1, h2, h3⟩ := h
    have := rt_ok (T := T.map te) (R := R) (r := r) (ch := ch) (fst := false) (by omega) h1 (fun e => by omega) (fun _ => hm) (fun c hc => by
      rw [(lk_some hc).1] at hm'
      have : c = 35 ∨ c = 46 ∨ c = 91 := by
        rcases hm' with h | h | h
        · exact .inl (UInt8.toNat_inj.1 (by simp; omega))
        · exact .inr (.inl (UInt8.toNat_inj.1 (by simp; omega)))
        · exact .inr (.inr (UInt8.toNat_inj.1 (by simp; omega)))
      rw [h3 c hc]
      rcases this with rfl | rfl | rfl <;> simp [tstep, St.to])
    cases hr : rtP s j with
    | error k => rw [hr] at this; exact this
    | ok q =>
      rw [hr] at this
      simp only [List.map_append, List.map_cons, List.map_nil]
      exact this
/-- Nothing of a compound stands there. -/
theorem cr_none {s : ByteArray} {i : Nat} {R : List (List Stp)} {r : List Stp} {T : List Tr} {ch : Bool} (h : CR s i i R r T ch) (hm : mkB (lk s i) = false) : Sl.parse (ls s) = .error i := by
  rcases h with ⟨-, rfl, h42, hL, hb, h⟩ | ⟨hij, -⟩
  · obtain ⟨st, h1, h2, h3⟩ := cmp_first h hb h42
    simp only [mkB, decide_eq_false_iff_not] at hm
    refine h1.stop (fun c hc => ?_) h2
    have e := (lk_some hc).1
    rw [h3 c hc]
    have n1 : c ≠ 35 := by rintro rfl; exact hm (by rw [e]; decide)
    have n2 : c ≠ 46 := by rintro rfl; exact hm (by rw [e]; decide)
    have n3 : c ≠ 91 := by rintro rfl; exact hm (by rw [e]; decide)
    have n4 : isL c = false := by rw [isL_bL, ← e]; exact hL
    simp [n1, n2, n3, n4]
  · omega
/-- A row that is there, and empty. -/
theorem own_empty {w : World} {base size : Nat} {e : TypeId} (h : base ≤ w.heap.size) : (w.alloc (.cells #[] e)).ownsRow base e size (.slice (some ⟨w.heap.size, 0, none⟩) 0 0) 0 [] := by
  refine ⟨by simp, .inr ⟨w.heap.size, 0, #[], rfl, h, heap_alloc_new _ _, by simp, by simp [maxLen], by simp⟩⟩
end Go.Proofs.Ytcfkcifbojckcaa
