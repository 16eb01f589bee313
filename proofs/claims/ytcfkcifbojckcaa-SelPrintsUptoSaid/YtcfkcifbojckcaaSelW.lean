/-
  How long a selector's text may be: plain mathematics of no program.
-/
import Derived.Test.YtcfkcifbojckcaaSelO
namespace Go.Proofs.Ytcfkcifbojckcaa.Sl
set_option linter.unusedVariables false
set_option linter.unusedSimpArgs false

def wt (t : Te) : Nat := t.n.length + t.v.length + 6
def wc (ts : List Te) : Nat := (ts.map wt).sum
def ws (x : Stp) : Nat := 4 + wc x.c
def wss (r : List Stp) : Nat := (r.map ws).sum
def wr (r : List Stp) : Nat := 2 + wss r
def wx (x : List (List Stp)) : Nat := (x.map wr).sum
theorem wc_snoc (ts : List Te) (t : Te) : wc (ts ++ [t]) = wc ts + wt t := by simp [wc]
theorem wss_snoc (r : List Stp) (x : Stp) : wss (r ++ [x]) = wss r + ws x := by simp [wss]
theorem wx_snoc (x : List (List Stp)) (r : List Stp) : wx (x ++ [r]) = wx x + wr r := by simp [wx]
theorem pt_le (t : Te) : (pt t).length ≤ wt t := by
  unfold pt wt
  repeat' split
  all_goals (try simp)
  all_goals omega
theorem pts_le (ts : List Te) : (ts.flatMap pt).length ≤ wc ts := by
  induction ts with
  | nil => simp [wc]
  | cons t l ih =>
    have := pt_le t
    rw [List.flatMap_cons, List.length_append]
    simp only [wc, List.map_cons, List.sum_cons] at ih ⊢
    omega
theorem pc_le (ts : List Te) : (pc ts).length ≤ wc ts + 1 := by
  unfold pc
  split
  · simp
  · have := pts_le ts; omega
theorem pm_le (g : List UInt8) (hg : g.length ≤ 3) (x : Stp) : (pm g x).length ≤ ws x := by
  unfold pm ws
  have := pc_le x.c
  rw [List.length_append]
  have : (if x.child = true then g else [32]).length ≤ 3 := by split <;> (try simp) <;> omega
  omega
theorem pms_le (g : List UInt8) (hg : g.length ≤ 3) (r : List Stp) : (r.flatMap (pm g)).length ≤ wss r := by
  induction r with
  | nil => simp [wss]
  | cons x l ih =>
    have := pm_le g hg x
    rw [List.flatMap_cons, List.length_append]
    simp only [wss, List.map_cons, List.sum_cons] at ih ⊢
    omega
theorem prow_le (g : List UInt8) (hg : g.length ≤ 3) (r : List Stp) : (prow g r).length ≤ wss r := by
  cases r with
  | nil => simp [prow, wss]
  | cons x l =>
    have h1 := pc_le x.c
    have h2 := pms_le g hg l
    rw [prow, List.length_append]
    simp only [wss, List.map_cons, List.sum_cons, ws] at h2 ⊢
    omega
theorem psel_le (h g : List UInt8) (hh : h.length ≤ 2) (hg : g.length ≤ 3) (x : List (List Stp)) : (psel h g x).length ≤ wx x := by
  cases x with
  | nil => simp [psel, wx]
  | cons r l =>
    have key : ∀ l : List (List Stp), (l.flatMap (fun r => h ++ prow g r)).length ≤ wx l := by
      intro l
      induction l with
      | nil => simp [wx]
      | cons r l ih =>
        have := prow_le g hg r
        rw [List.flatMap_cons, List.length_append, List.length_append]
        simp only [wx, List.map_cons, List.sum_cons, wr] at ih ⊢
        omega
    have h1 := prow_le g hg r
    have h2 := key l
    rw [psel, List.length_append]
    simp only [wx, List.map_cons, List.sum_cons, wr] at h2 ⊢
    omega
theorem printS_le (x : List (List Stp)) : (printS x).length ≤ wx x := psel_le _ _ (by simp) (by simp) x
/-- What is begun. -/
def pend : Mo → Nat
  | .nm _ b => b.length + 6
  | .brk => 6
  | .bn b => b.length + 6
  | .ba n => n.length + 6
  | .be n => n.length + 6
  | .bv n b => n.length + b.length + 6
  | .bs n b => n.length + b.length + 6
  | .bz n v => n.length + v.length + 6
  | _ => 0
def wst (s : St) : Nat := wx s.rows + wss s.row + wc s.ts + pend s.m
theorem wst_step {s s' : St} {c : UInt8} (h : step s c = some s') : wst s' ≤ wst s + 11 := by
  obtain ⟨rows, row, ts, ch, m⟩ := s
  have e1 : wc [] = 0 := rfl
  have e2 : wss [] = 0 := rfl
  cases m <;> simp only [step, cstep, tstep, baStep, bzStep] at h <;> (repeat' split at h) <;>
    first
    | (cases h; done)
    | (cases h
       simp only [wst, pend, St.to, St.add, St.push, St.pushRow, wc_snoc, wss_snoc, wx_snoc, wr, ws, wt, List.length_append, List.length_cons, List.length_nil, e1, e2]
       omega)
theorem wst_run {s s' : St} {i : Nat} {l : List UInt8} (h : run s i l = .ok s') : wst s' ≤ wst s + 11 * l.length := by
  induction l generalizing s i with
  | nil => cases h; simp
  | cons c l ih =>
    rw [run] at h
    cases hs : step s c with
    | none => rw [hs] at h; cases h
    | some s1 =>
      rw [hs] at h
      have h1 := ih h
      have h2 := wst_step hs
      simp only [List.length_cons]
      omega
theorem wx_fin {s : St} {x : List (List Stp)} (h : fin s = some x) : wx x ≤ wst s + 6 := by
  obtain ⟨rows, row, ts, ch, m⟩ := s
  cases m <;> simp only [fin] at h <;> (repeat' split at h) <;>
    first
    | (cases h; done)
    | (cases h
       simp only [wst, pend, wc_snoc, wss_snoc, wx_snoc, wr, ws, wt, List.length_nil]
       omega)
theorem parse_wx {l : List UInt8} {x : List (List Stp)} (h : parse l = .ok x) : wx x ≤ 11 * l.length + 6 := by
  unfold parse at h
  cases hr : run start 0 l with
  | error k => rw [hr] at h; cases h
  | ok s =>
    rw [hr] at h
    simp only [ends] at h
    cases hf : fin s with
    | none => rw [hf] at h; cases h
    | some y =>
      rw [hf] at h
      cases h
      have h1 := wst_run hr
      have h2 := wx_fin hf
      have e : wst start = 0 := rfl
      omega
theorem sum_part : ∀ {l : List Nat} {a : Nat}, a ∈ l → a ≤ l.sum
  | b :: l, a, h => by
    rw [List.mem_cons] at h
    rw [List.sum_cons]
    rcases h with rfl | h
    · omega
    · have := sum_part h
      omega
theorem wx_row {x : List (List Stp)} {r : List Stp} (h : r ∈ x) : wr r ≤ wx x := sum_part (List.mem_map_of_mem h)
theorem wr_step {r : List Stp} {x : Stp} (h : x ∈ r) : ws x ≤ wss r := sum_part (List.mem_map_of_mem h)
theorem wc_test {ts : List Te} {t : Te} (h : t ∈ ts) : wt t ≤ wc ts := sum_part (List.mem_map_of_mem h)
theorem wc_len (ts : List Te) : ts.length ≤ wc ts := by
  induction ts with
  | nil => simp
  | cons t l ih => simp only [wc, List.map_cons, List.sum_cons, List.length_cons, wt] at ih ⊢; omega
theorem wss_len (r : List Stp) : r.length ≤ wss r := by
  induction r with
  | nil => simp
  | cons t l ih => simp only [wss, List.map_cons, List.sum_cons, List.length_cons, ws] at ih ⊢; omega
theorem wx_len (x : List (List Stp)) : x.length ≤ wx x := by
  induction x with
  | nil => simp
  | cons t l ih => simp only [wx, List.map_cons, List.sum_cons, List.length_cons, wr] at ih ⊢; omega
theorem sum_take : ∀ (l : List Nat) (k : Nat), (l.take k).sum ≤ l.sum
  | [], k => by simp
  | a :: l, 0 => by simp
  | a :: l, k + 1 => by
    have := sum_take l k
    simp only [List.take_succ_cons, List.sum_cons]
    omega
theorem wc_take (ts : List Te) (k : Nat) : wc (ts.take k) ≤ wc ts := by
  unfold wc
  rw [List.map_take]
  exact sum_take _ _
theorem wss_take (r : List Stp) (k : Nat) : wss (r.take k) ≤ wss r := by
  unfold wss
  rw [List.map_take]
  exact sum_take _ _
theorem wx_take (x : List (List Stp)) (k : Nat) : wx (x.take k) ≤ wx x := by
  unfold wx
  rw [List.map_take]
  exact sum_take _ _
end Go.Proofs.Ytcfkcifbojckcaa.Sl
