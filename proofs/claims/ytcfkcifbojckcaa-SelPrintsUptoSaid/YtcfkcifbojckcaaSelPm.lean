/-
  The document's Print, as plain mathematics: a selector's text, row by row, step by step, test by test.
-/
import Derived.Test.YtcfkcifbojckcaaSelR
namespace Go.Proofs.Ytcfkcifbojckcaa
open Go.ChangeShapes Go.WideShapes Go.ChangeAt Go.RowKit
open Go.PlainAid (bt)
set_option linter.unusedVariables false
set_option linter.unusedSimpArgs false

theorem psel_snoc (l : List (List Sl.Stp)) (r : List Sl.Stp) : Sl.printS (l ++ [r]) = Sl.printS l ++ ((if l = [] then [] else [44, 32]) ++ Sl.prow gG r) := by
  unfold Sl.printS
  cases l with
  | nil => simp [Sl.psel, gG]
  | cons a l => simp [Sl.psel, gG]
/-- What stands ahead of a row. -/
def headS (X : List (List Sl.Stp)) (i : Nat) : List UInt8 := Sl.printS (X.take i) ++ (if i = 0 then [] else [44, 32])
theorem head_row {X : List (List Sl.Stp)} {i : Nat} (hi : i < X.length) : Sl.printS (X.take (i + 1)) = headS X i ++ Sl.prow gG X[i] := by
  rw [List.take_succ_eq_append_getElem hi, psel_snoc, headS, List.append_assoc]
  congr 2
  by_cases h : i = 0
  · subst h; simp
  · rw [if_neg h, if_neg (by intro e; have := congrArg List.length e; rw [List.length_take, List.length_nil] at this; omega)]
/-- What stands ahead of a step in its row. -/
def sepS (ch : Bool) (k : Nat) : List UInt8 := if k = 0 then [] else if ch then gG else [32]
theorem row_step {r : List Sl.Stp} {k : Nat} (hk : k < r.length) : Sl.prow gG (r.take (k + 1)) = Sl.prow gG (r.take k) ++ (sepS r[k].child k ++ Sl.pc r[k].c) := by
  rw [List.take_succ_eq_append_getElem hk, prow_snoc]
  by_cases h : k = 0
  · subst h
    simp [sepS, Sl.prow]
  · rw [if_neg (by intro e; have := congrArg List.length e; rw [List.length_take, List.length_nil] at this; omega)]
    unfold sepS Sl.pm
    rw [if_neg h]
def starS (n : Nat) : List UInt8 := if n = 0 then [42] else []
theorem pc_star (ts : List Sl.Te) : Sl.pc ts = starS ts.length ++ ts.flatMap Sl.pt := by
  unfold Sl.pc starS
  cases ts with
  | nil => rfl
  | cons a l => simp
theorem flat_test {ts : List Sl.Te} {n : Nat} (hn : n < ts.length) : (ts.take (n + 1)).flatMap Sl.pt = (ts.take n).flatMap Sl.pt ++ Sl.pt ts[n] := by
  rw [List.take_succ_eq_append_getElem hn, List.flatMap_append]
  simp
/-! ### how long it may be -/
theorem head_le (X : List (List Sl.Stp)) (i : Nat) : (headS X i).length ≤ Sl.wx X + 2 := by
  have h1 := Sl.printS_le (X.take i)
  have h2 := Sl.wx_take X i
  have h3 : (if i = 0 then ([] : List UInt8) else [44, 32]).length ≤ 2 := by split <;> simp
  unfold headS
  rw [List.length_append]
  omega
theorem prow_len (r : List Sl.Stp) (k : Nat) : (Sl.prow gG (r.take k)).length ≤ Sl.wss r := Nat.le_trans (Sl.prow_le _ (by simp [gG]) _) (Sl.wss_take r k)
theorem flat_len (ts : List Sl.Te) (n : Nat) : ((ts.take n).flatMap Sl.pt).length ≤ Sl.wc ts := Nat.le_trans (Sl.pts_le _) (Sl.wc_take ts n)
theorem sep_len (ch : Bool) (k : Nat) : (sepS ch k).length ≤ 3 := by
  unfold sepS gG
  split
  · simp
  · split <;> simp
theorem star_len (n : Nat) : (starS n).length ≤ 1 := by unfold starS; split <;> simp
end Go.Proofs.Ytcfkcifbojckcaa
