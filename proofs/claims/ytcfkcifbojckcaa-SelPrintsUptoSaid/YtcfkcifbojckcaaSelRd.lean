/-
  What the document's own reader reads, against ours: names that are too long apart, the same.
-/
import Derived.Test.YtcfkcifbojckcaaSelRc
namespace Go.Proofs.Ytcfkcifbojckcaa
open Go.PlainAid (bt)
open Sl (St Te Stp Mo step tstep cstep baStep bzStep fin run isB isL isN)
set_option linter.unusedVariables false
set_option linter.unusedSimpArgs false

theorem rnP_cases (s : ByteArray) (i : Nat) : rnP s i = nP s i ∨ ∃ n j, nP s i = .ok (n, j) ∧ rnP s i = .error j ∧ bN (lk s j) = true := by
  unfold rnP nP
  by_cases hL : bL (lk s i) = true
  · rw [if_pos hL, if_pos hL]
    by_cases h : me bN s 20 i = i + 20 ∧ bN (lk s (i + 20)) = true
    · rw [if_pos h]
      exact .inr ⟨_, _, rfl, by rw [h.1], by rw [h.1]; exact h.2⟩
    · rw [if_neg h]
      exact .inl rfl
  · rw [if_neg hL, if_neg hL]
    exact .inl rfl
theorem rvP_cases (s : ByteArray) (i : Nat) : rvP s i = vP s i ∨ ∃ n j, vP s i = .ok (n, j) ∧ rvP s i = .error j ∧ bN (lk s j) = true := by
  unfold rvP vP
  by_cases h : lk s i = 34
  · rw [if_pos h, if_pos h]
    exact .inl rfl
  · rw [if_neg h, if_neg h]
    exact rnP_cases s i
theorem bN_not {c : Int} (h : bN c = true) : bB c = false ∧ c ≠ 61 ∧ c ≠ 93 ∧ c ≠ 35 ∧ c ≠ 46 ∧ c ≠ 91 := by
  simp only [bN, decide_eq_true_eq] at h
  refine ⟨?_, ?_, ?_, ?_, ?_, ?_⟩
  · simp only [bB, decide_eq_false_iff_not]
    omega
  all_goals omega
theorem raQ_eq (s : ByteArray) (n : ByteArray) (j : Nat) : raQ s n j = aQ s n j := by
  unfold raQ aQ
  by_cases h61 : lk s j = 61
  · rw [if_pos h61, if_pos h61]
    rcases rvP_cases s (sp s (j + 1)) with e | ⟨v, k, e1, e2, hN⟩
    · rw [e]
      cases vP s (sp s (j + 1)) with
      | error k => rfl
      | ok q => rfl
    · rw [e1, e2]
      have h := bN_not hN
      simp only [sp_no h.1]
      rw [if_neg h.2.2.1]
  · rw [if_neg h61, if_neg h61]
theorem raP_eq (s : ByteArray) (i : Nat) : raP s i = aP s i := by
  unfold raP aP
  rcases rnP_cases s (sp s (i + 1)) with e | ⟨n, j, e1, e2, hN⟩
  · rw [e]
    cases nP s (sp s (i + 1)) with
    | error k => rfl
    | ok q => exact raQ_eq _ _ _
  · rw [e1, e2]
    have h := bN_not hN
    simp only [sp_no h.1]
    unfold aQ
    rw [if_neg h.2.1, if_neg h.2.2.1]
theorem nT_cases (k : Int) (s : ByteArray) (i : Nat) : nT k (rnP s i) = nT k (nP s i) ∨ ∃ t j, nT k (nP s i) = .ok (t, j) ∧ nT k (rnP s i) = .error j ∧ bN (lk s j) = true := by
  rcases rnP_cases s i with e | ⟨n, j, e1, e2, hN⟩
  · exact .inl (by rw [e])
  · exact .inr ⟨_, j, by rw [e1]; rfl, by rw [e2]; rfl, hN⟩
/-- A test that begins by a mark. -/
theorem rtP_cases {s : ByteArray} {i : Nat} (hm : lk s i = 35 ∨ lk s i = 46 ∨ lk s i = 91) : rtP s i = tP s i ∨ ∃ t j, tP s i = .ok (t, j) ∧ rtP s i = .error j ∧ bN (lk s j) = true := by
  unfold rtP tP
  rcases hm with h | h | h
  · rw [h]
    simp only [kd]
    exact nT_cases 2 s (i + 1)
  · rw [h]
    simp only [kd]
    exact nT_cases 3 s (i + 1)
  · rw [h]
    simp only [kd]
    exact .inl (raP_eq s i)
theorem Rdy.stop {s : ByteArray} {j : Nat} {R : List (List Stp)} {r : List Stp} {T : List Te} {ch : Bool} (h : Rdy s j R r T ch) (hN : bN (lk s j) = true) : Sl.parse (ls s) = .error j := by
  obtain ⟨st, h1, -, h3⟩ := h
  have hj : j < s.size := lk_lt (fun e => by rw [e] at hN; revert hN; decide)
  refine h1.stop (fun c hc => ?_) (fun e => by omega)
  rw [h3 c hc]
  refine tstep_name ?_
  rw [isN_bN, ← (lk_some hc).1]
  exact hN
/-- A test that begins by a mark, byte by byte. -/
theorem rt_ok {s : ByteArray} {i : Nat} {R : List (List Stp)} {r : List Stp} {T : List Te} {ch fst : Bool} {st : St} (hmk : lk s i = 35 ∨ lk s i = 46 ∨ lk s i = 91) (h : At s i st) (hend : i = s.size → fin st = none) (hm : fst = false → mkB (lk s i) = true)
    (hst : ∀ c, (ls s)[i]? = some c → Sl.step st c = if c = 35 then some ⟨R, r, T, ch, .nm 2 []⟩ else if c = 46 then some ⟨R, r, T, ch, .nm 3 []⟩ else if c = 91 then some ⟨R, r, T, ch, .brk⟩ else if isL c = true ∧ fst = true then some ⟨R, r, T, ch, .nm 1 [c]⟩ else none) :
    match rtP s i with
    | .ok (t, j) => Rdy s j R r (T ++ [te t]) ch
    | .error k => Sl.parse (ls s) = .error k := by
  have hk := t_ok h hend hm hst
  rcases rtP_cases hmk with e | ⟨t, j, e1, e2, hN⟩
  · rw [e]; exact hk
  · rw [e1] at hk
    rw [e2]
    exact Rdy.stop hk hN
/-- A type, byte by byte. -/
theorem rn_ok {s : ByteArray} {i : Nat} {R : List (List Stp)} {r : List Stp} {T : List Te} {ch : Bool} {st : St} (hL : bL (lk s i) = true) (h : At s i st)
    (hst : ∀ c, (ls s)[i]? = some c → Sl.step st c = if c = 35 then some ⟨R, r, T, ch, .nm 2 []⟩ else if c = 46 then some ⟨R, r, T, ch, .nm 3 []⟩ else if c = 91 then some ⟨R, r, T, ch, .brk⟩ else if isL c = true ∧ true = true then some ⟨R, r, T, ch, .nm 1 [c]⟩ else none) :
    match nT 1 (rnP s i) with
    | .ok (t, j) => Rdy s j R r (T ++ [te t]) ch
    | .error k => Sl.parse (ls s) = .error k := by
  have hi : i < s.size := lk_lt (fun e => by rw [e] at hL; revert hL; decide)
  have hk := t_ok (fst := true) h (fun e => by omega) (fun e => by cases e) hst
  have ekd : kd (lk s i) = 1 := by
    have hL2 := hL
    simp only [bL, decide_eq_true_eq] at hL2
    unfold kd
    rw [if_neg (by omega), if_neg (by omega), if_neg (by omega), if_pos hL]
  have et : tP s i = nT 1 (nP s i) := by
    unfold tP
    rw [ekd]
    simp
  rw [et] at hk
  rcases nT_cases 1 s i with e | ⟨t, j, e1, e2, hN⟩
  · rw [e]; exact hk
  · rw [e1] at hk
    rw [e2]
    exact Rdy.stop hk hN
end Go.Proofs.Ytcfkcifbojckcaa
