/-
  A selector, read byte by byte: plain mathematics of no program.
  A selector, printed, and read again: plain mathematics of no program.
  What is parsed may be printed: plain mathematics of no program.
  How long a selector's text may be: plain mathematics of no program.
-/
import Derived.PlainAid
import Derived.Lib.Strings
import Derived.Lib.Hide
namespace Go.Proofs.YtaacikjoafobfaaGreatDoor.Sl
set_option linter.unusedVariables false
set_option linter.unusedSimpArgs false
/-- A test; a step; what the reader is in. -/
structure Te where
  k : Int
  n : List UInt8
  v : List UInt8
structure Stp where
  c : List Te
  child : Bool
inductive Mo where
  | comp | tests | apart | brk
  | nm (k : Int) (b : List UInt8)
  | bn (b : List UInt8)
  | ba (n : List UInt8)
  | be (n : List UInt8)
  | bv (n b : List UInt8)
  | bs (n b : List UInt8)
  | bz (n v : List UInt8)
structure St where
  rows : List (List Stp)
  row : List Stp
  ts : List Te
  child : Bool
  m : Mo
def isB (c : UInt8) : Bool := c == 9 || c == 10 || c == 12 || c == 13 || c == 32
def isL (c : UInt8) : Bool := (decide (65 ≤ c) && decide (c ≤ 90)) || (decide (97 ≤ c) && decide (c ≤ 122))
def isN (c : UInt8) : Bool := isL c || (decide (48 ≤ c) && decide (c ≤ 57)) || c == 45 || c == 95
def start : St := ⟨[], [], [], false, .comp⟩
def St.push (s : St) (ch : Bool) : St := ⟨s.rows, s.row ++ [⟨s.ts, s.child⟩], [], ch, .comp⟩
def St.pushRow (s : St) : St := ⟨s.rows ++ [s.row ++ [⟨s.ts, s.child⟩]], [], [], false, .comp⟩
def St.to (s : St) (m : Mo) : St := ⟨s.rows, s.row, s.ts, s.child, m⟩
def St.add (s : St) (t : Te) : St := ⟨s.rows, s.row, s.ts ++ [t], s.child, .tests⟩
/-- Behind a whole test. -/
def tstep (s : St) (c : UInt8) : Option St :=
  if c = 35 then some (s.to (.nm 2 [])) else if c = 46 then some (s.to (.nm 3 [])) else if c = 91 then some (s.to .brk)
  else if isB c then some (s.to .apart) else if c = 62 then some (s.push true) else if c = 44 then some s.pushRow else none
/-- Where a compound must begin. -/
def cstep (s : St) (c : UInt8) : Option St :=
  if isB c then some (s.to .comp) else if c = 42 then some (s.to .tests) else if isL c then some (s.to (.nm 1 [c]))
  else if c = 35 then some (s.to (.nm 2 [])) else if c = 46 then some (s.to (.nm 3 [])) else if c = 91 then some (s.to .brk) else none
def baStep (s : St) (n : List UInt8) (c : UInt8) : Option St :=
  if isB c then some (s.to (.ba n)) else if c = 93 then some (s.add ⟨4, n, []⟩) else if c = 61 then some (s.to (.be n)) else none
def bzStep (s : St) (n v : List UInt8) (c : UInt8) : Option St :=
  if isB c then some (s.to (.bz n v)) else if c = 93 then some (s.add ⟨5, n, v⟩) else none
def step (s : St) (c : UInt8) : Option St :=
  match s.m with
  | .comp => cstep s c
  | .tests => tstep s c
  | .nm k b => if b = [] then (if isL c then some (s.to (.nm k [c])) else none) else if isN c then (if b.length < 20 then some (s.to (.nm k (b ++ [c]))) else none) else tstep (s.add ⟨k, b, []⟩) c
  | .apart => if isB c then some s else if c = 62 then some (s.push true) else if c = 44 then some s.pushRow else cstep (s.push false) c
  | .brk => if isB c then some s else if isL c then some (s.to (.bn [c])) else none
  | .bn b => if isN c then (if b.length < 20 then some (s.to (.bn (b ++ [c]))) else none) else baStep s b c
  | .ba n => baStep s n c
  | .be n => if isB c then some s else if c = 34 then some (s.to (.bs n [])) else if isL c then some (s.to (.bv n [c])) else none
  | .bv n b => if isN c then (if b.length < 20 then some (s.to (.bv n (b ++ [c]))) else none) else bzStep s n b c
  | .bs n b => if c = 34 then some (s.to (.bz n b)) else if b.length < 60 then some (s.to (.bs n (b ++ [c]))) else none
  | .bz n v => bzStep s n v c
def fin (s : St) : Option (List (List Stp)) :=
  match s.m with
  | .tests => some (s.rows ++ [s.row ++ [⟨s.ts, s.child⟩]])
  | .apart => some (s.rows ++ [s.row ++ [⟨s.ts, s.child⟩]])
  | .nm k b => if b = [] then none else some (s.rows ++ [s.row ++ [⟨s.ts ++ [⟨k, b, []⟩], s.child⟩]])
  | _ => none
/-- Byte by byte; or the place of the first one that can not stand there. -/
def run (s : St) (i : Nat) : List UInt8 → Except Nat St
  | [] => .ok s
  | c :: l => match step s c with
    | none => .error i
    | some s' => run s' (i + 1) l
def ends (i : Nat) (s : St) : Except Nat (List (List Stp)) := match fin s with
  | none => .error i
  | some x => .ok x
/-- What Parse tells. -/
def parse (l : List UInt8) : Except Nat (List (List Stp)) := match run start 0 l with
  | .error i => .error i
  | .ok s => ends l.length s

theorem run_append (s : St) (i : Nat) (a b : List UInt8) : run s i (a ++ b) = match run s i a with | .error k => .error k | .ok s' => run s' (i + a.length) b := by
  induction a generalizing s i with
  | nil => simp [run]
  | cons c a ih =>
    rw [List.cons_append, run, run]
    cases step s c with
    | none => rfl
    | some s' => simp only []; rw [ih, List.length_cons, show i + (a.length + 1) = i + 1 + a.length by omega]
theorem run_le {s : St} {i k : Nat} {l : List UInt8} (h : run s i l = .error k) : i ≤ k ∧ k < i + l.length := by
  induction l generalizing s i with
  | nil => cases h
  | cons c l ih =>
    rw [run] at h
    cases hs : step s c with
    | none => rw [hs] at h; cases h; simp
    | some s' => rw [hs] at h; have := ih h; simp only [List.length_cons]; omega
theorem run_shift (s : St) (i j : Nat) (l : List UInt8) : run s (i + j) l = match run s i l with | .error k => .error (k + j) | .ok s' => .ok s' := by
  induction l generalizing s i with
  | nil => rfl
  | cons c l ih =>
    rw [run, run]
    cases step s c with
    | none => rfl
    | some s' => simp only []; rw [← ih, show i + j + 1 = i + 1 + j by omega]
/-! ### rows ahead -/
def St.pre (R : List (List Stp)) (s : St) : St := ⟨R ++ s.rows, s.row, s.ts, s.child, s.m⟩
theorem step_pre (R : List (List Stp)) (s : St) (c : UInt8) : step (s.pre R) c = (step s c).map (St.pre R) := by
  obtain ⟨rows, row, ts, ch, m⟩ := s
  cases m <;> simp only [step, St.pre, cstep, tstep, baStep, bzStep, St.to, St.add, St.push, St.pushRow] <;> (repeat' split) <;> simp [St.pre]
theorem run_pre (R : List (List Stp)) (s : St) (i : Nat) (l : List UInt8) : run (s.pre R) i l = match run s i l with | .error k => .error k | .ok s' => .ok (s'.pre R) := by
  induction l generalizing s i with
  | nil => rfl
  | cons c l ih =>
    rw [run, run, step_pre]
    cases step s c with
    | none => rfl
    | some s' => exact ih _ _
theorem fin_pre (R : List (List Stp)) (s : St) : fin (s.pre R) = (fin s).map (R ++ ·) := by
  obtain ⟨rows, row, ts, ch, m⟩ := s
  cases m <;> simp only [fin, St.pre] <;> (repeat' split) <;> simp
theorem comma {s : St} {x : List (List Stp)} (h : fin s = some x) : step s 44 = some (start.pre x) := by
  obtain ⟨rows, row, ts, ch, m⟩ := s
  cases m <;> simp only [fin] at h <;> first | (cases h; done) | skip
  · cases h; simp [step, tstep, isB, St.pushRow, St.pre, start]
  · cases h; simp [step, tstep, isB, St.pushRow, St.pre, start]
  · split at h
    · cases h
    rename_i hb
    cases h
    simp [step, hb, isN, isL, tstep, isB, St.pushRow, St.pre, start, St.add]
/-- Two texts with a comma between. -/
theorem parse_comma (s t : List UInt8) : (∀ i, parse s = .error i → ∀ k, parse (s ++ 44 :: t) = .error k → i ≤ k) ∧
    (∀ a, parse s = .ok a → parse (s ++ 44 :: t) = match parse t with | .error k => .error (s.length + 1 + k) | .ok b => .ok (a ++ b)) := by
  constructor
  · intro i hi k hk
    unfold parse at hi hk
    rw [run_append] at hk
    cases hr : run start 0 s with
    | error j => rw [hr] at hi hk; cases hi; cases hk; exact Nat.le_refl _
    | ok s' =>
      rw [hr] at hi hk
      simp only [] at hi hk
      have hi' : i = s.length := by
        unfold ends at hi
        cases hf : fin s' with
        | none => rw [hf] at hi; cases hi; rfl
        | some x => rw [hf] at hi; cases hi
      subst hi'
      cases h2 : run s' (0 + s.length) (44 :: t) with
      | error j => rw [h2] at hk; cases hk; have := (run_le h2).1; omega
      | ok s2 =>
        rw [h2] at hk
        simp only [] at hk
        unfold ends at hk
        cases hf : fin s2 with
        | none => rw [hf] at hk; cases hk; simp
        | some x => rw [hf] at hk; cases hk
  · intro a ha
    unfold parse at ha ⊢
    rw [run_append]
    cases hr : run start 0 s with
    | error j => rw [hr] at ha; cases ha
    | ok s' =>
      rw [hr] at ha
      simp only [] at ha ⊢
      unfold ends at ha
      cases hf : fin s' with
      | none => rw [hf] at ha; cases ha
      | some x =>
        rw [hf] at ha
        cases ha
        rw [run, comma hf]
        simp only []
        rw [run_pre, show 0 + s.length + 1 = 0 + (s.length + 1) by omega, run_shift]
        cases run start 0 t with
        | error k => simp; omega
        | ok s2 =>
          simp only [ends, fin_pre, List.length_append, List.length_cons]
          cases fin s2 with
          | none => simp; omega
          | some y => simp
/-! ### names -/
theorem run_nm (s : St) (k : Int) : ∀ (l b : List UInt8) (i : Nat), s.m = .nm k b → b ≠ [] → b.length + l.length ≤ 20 → (∀ c ∈ l, isN c = true) → run s i l = .ok (s.to (.nm k (b ++ l))) := by
  intro l
  induction l generalizing s with
  | nil => intro b i hm hb hl hc; obtain ⟨rows, row, ts, ch, m⟩ := s; cases hm; simp [run, St.to]
  | cons c l ih =>
    intro b i hm hb hl hc
    simp only [List.length_cons] at hl
    have : step s c = some (s.to (.nm k (b ++ [c]))) := by
      unfold step
      rw [hm]
      simp only []
      rw [if_neg hb, if_pos (hc c (by simp)), if_pos (by omega)]
    rw [run, this]
    simp only []
    rw [ih _ (b ++ [c]) (i + 1) rfl (by simp) (by simp; omega) (fun x hx => hc x (by simp [hx]))]
    simp [St.to]
def nameOk : List UInt8 → Bool
  | [] => false
  | c :: l => isL c && l.all isN && decide (l.length < 20)
theorem run_name {s : St} {k : Int} (hm : s.m = .nm k []) {n : List UInt8} (h : nameOk n = true) (i : Nat) : run s i n = .ok (s.to (.nm k n)) := by
  cases n with
  | nil => cases h
  | cons c l =>
    simp only [nameOk, Bool.and_eq_true, decide_eq_true_eq] at h
    have : step s c = some (s.to (.nm k [c])) := by
      unfold step
      rw [hm]
      simp [h.1.1]
    rw [run, this]
    simp only []
    rw [run_nm _ k l [c] _ rfl (by simp) (by simp; omega) (fun x hx => List.all_eq_true.1 h.1.2 x hx)]
    rfl
theorem parse_name {n : List UInt8} (h : nameOk n = true) : parse n = .ok [[⟨[⟨1, n, []⟩], false⟩]] ∧ parse (35 :: n) = .ok [[⟨[⟨2, n, []⟩], false⟩]] ∧ parse (46 :: n) = .ok [[⟨[⟨3, n, []⟩], false⟩]] := by
  have hne : n ≠ [] := by rintro rfl; cases h
  refine ⟨?_, ?_, ?_⟩
  · cases n with
    | nil => cases h
    | cons c l =>
      have h' := h
      simp only [nameOk, Bool.and_eq_true, decide_eq_true_eq] at h'
      have hc : step start c = some (start.to (.nm 1 [c])) := by
        have h1 : isB c = false := by
          have := h'.1.1
          revert this
          simp only [isL, isB, Bool.or_eq_true, Bool.and_eq_true, decide_eq_true_eq, Bool.or_eq_false_iff, beq_eq_false_iff_ne, UInt8.le_iff_toNat_le, ne_eq, ← UInt8.toNat_inj]
          intro h
          simp at h ⊢
          omega
        have h2 : c ≠ 42 := by
          rintro rfl
          exact absurd h'.1.1 (by decide)
        simp [step, start, cstep, h1, h2, h'.1.1]
      unfold parse
      rw [run, hc]
      simp only []
      rw [run_nm _ 1 l [c] _ rfl (by simp) (by simp; omega) (fun x hx => List.all_eq_true.1 h'.1.2 x hx)]
      simp [ends, fin, start, St.to]
  · unfold parse
    rw [run, show step start 35 = some (start.to (.nm 2 [])) by rfl]
    simp only []
    rw [run_name rfl h]
    simp [ends, fin, start, St.to, hne]
  · unfold parse
    rw [run, show step start 46 = some (start.to (.nm 3 [])) by rfl]
    simp only []
    rw [run_name rfl h]
    simp [ends, fin, start, St.to, hne]
/-! ### a row behind another -/
def setF (ch : Bool) : List Stp → List Stp
  | [] => []
  | x :: l => ⟨x.c, ch⟩ :: l
/-- As s, but behind the steps R, the first one's Child said. -/
def St.beh (R : List Stp) (ch : Bool) (s : St) : St := ⟨s.rows, R ++ setF ch s.row, s.ts, if s.row = [] then ch else s.child, s.m⟩
theorem setF_snoc (ch : Bool) (l : List Stp) (x : Stp) : setF ch (l ++ [x]) = if l = [] then [⟨x.c, ch⟩] else setF ch l ++ [x] := by
  cases l <;> simp [setF]
theorem beh_push (R : List Stp) (ch c2 : Bool) (s : St) : (s.push c2).beh R ch = (s.beh R ch).push c2 := by
  obtain ⟨rows, row, ts, c, m⟩ := s
  simp only [St.push, St.beh]
  cases row <;> simp [setF]
theorem step_rows {s s' : St} {c : UInt8} (h : step s c = some s') : s.rows.length ≤ s'.rows.length ∧ (s'.rows.length = s.rows.length → s'.rows = s.rows ∧ ∀ R ch, step (s.beh R ch) c = some (s'.beh R ch)) := by
  obtain ⟨rows, row, ts, cc, m⟩ := s
  cases m <;> simp only [step, cstep, tstep, baStep, bzStep] at h ⊢ <;> (repeat' split at h) <;>
    first
    | (cases h; done)
    | (cases h
       refine ⟨by simp [St.to, St.add, St.push, St.pushRow], fun hl => ⟨by first | rfl | (simp [St.to, St.add, St.push, St.pushRow] at hl), fun R ch => ?_⟩⟩
       first
       | (exfalso; simp [St.to, St.add, St.push, St.pushRow] at hl; done)
       | (simp_all [St.beh, St.to, St.add, ← beh_push]; done)
       | (simp_all [St.beh, St.to, St.add, St.push, setF_snoc]; done)
       | (cases row <;> simp_all [St.beh, St.to, St.add, St.push, setF]; done))
theorem run_rows {s s' : St} {i : Nat} {l : List UInt8} (h : run s i l = .ok s') : s.rows.length ≤ s'.rows.length ∧ (s'.rows.length = s.rows.length → s'.rows = s.rows ∧ ∀ R ch, run (s.beh R ch) i l = .ok (s'.beh R ch)) := by
  induction l generalizing s i with
  | nil => cases h; exact ⟨Nat.le_refl _, fun _ => ⟨rfl, fun _ _ => rfl⟩⟩
  | cons c l ih =>
    rw [run] at h
    cases hs : step s c with
    | none => rw [hs] at h; cases h
    | some s1 =>
      rw [hs] at h
      obtain ⟨h1, h2⟩ := step_rows hs
      obtain ⟨h3, h4⟩ := ih h
      refine ⟨by omega, fun he => ?_⟩
      obtain ⟨e1, f1⟩ := h2 (by omega)
      obtain ⟨e2, f2⟩ := h4 (by omega)
      exact ⟨by rw [e2, e1], fun R ch => by rw [run, f1 R ch]; exact f2 R ch⟩
theorem fin_beh {s : St} {x : List (List Stp)} (h : fin s = some x) (R : List Stp) (ch : Bool) : ∃ r, r ≠ [] ∧ x = s.rows ++ [r] ∧ fin (s.beh R ch) = some (s.rows ++ [R ++ setF ch r]) := by
  obtain ⟨rows, row, ts, cc, m⟩ := s
  cases m <;> simp only [fin, St.beh] at h ⊢ <;> (repeat' split at h) <;>
    first
    | (cases h; done)
    | (cases h
       refine ⟨_, by simp, rfl, ?_⟩
       simp_all [setF_snoc]
       first
       | done
       | (cases row <;> simp_all [setF]; done))
/-- What stands behind a text that is whole. -/
theorem behind {s : St} {x : List (List Stp)} (h : fin s = some x) : ∃ T, x = s.rows ++ [s.row ++ [⟨T, s.child⟩]] ∧ step s 32 = some ⟨s.rows, s.row, T, s.child, .apart⟩ ∧ step s 62 = some ⟨s.rows, s.row ++ [⟨T, s.child⟩], [], true, .comp⟩ := by
  obtain ⟨rows, row, ts, cc, m⟩ := s
  cases m <;> simp only [fin] at h <;> (repeat' split at h) <;>
    first
    | (cases h; done)
    | (cases h
       refine ⟨_, rfl, ?_, ?_⟩ <;> simp_all [step, tstep, isB, isN, isL, St.to, St.push, St.add])
theorem apart_run (R : List Stp) (P : St) (hm : P.m = .apart) (hr : P.rows = []) (hR : R = P.row ++ [⟨P.ts, P.child⟩]) : ∀ (t : List UInt8) (i : Nat) (s' : St) (b : List Stp), run start i t = .ok s' → fin s' = some [b] → run P i t = .ok (s'.beh R false) := by
  intro t
  induction t with
  | nil => intro i s' b h hf; cases h; cases hf
  | cons c t ih =>
    intro i s' b h hf
    rw [run] at h
    cases hs : step start c with
    | none => rw [hs] at h; cases h
    | some s1 =>
      rw [hs] at h
      simp only [] at h
      by_cases hb : isB c = true
      · have e1 : step start c = some start := by simp [step, start, cstep, hb, St.to]
        have e2 : step P c = some P := by simp [step, hm, hb]
        rw [e1] at hs
        cases hs
        rw [run, e2]
        exact ih _ _ _ h hf
      · have hb : isB c = false := by simpa using hb
        have hne : c ≠ 62 ∧ c ≠ 44 := by
          constructor <;> (rintro rfl; exact absurd hs (by simp [step, start, cstep, isB, isL]))
        have e0 : P.push false = start.beh R false := by
          rw [hR]
          simp [St.push, St.beh, start, hr, setF]
        have hl : s'.rows.length = s1.rows.length ∧ s1.rows = [] := by
          obtain ⟨r, -, hx, -⟩ := fin_beh hf [] false
          have h1 := (run_rows h).1
          have h2 := (step_rows hs).1
          have h3 : s'.rows = [] := by
            cases hr : s'.rows with
            | nil => rfl
            | cons a l => rw [hr] at hx; simp at hx
          rw [h3] at h1 ⊢
          have h4 : s1.rows = [] := List.eq_nil_of_length_eq_zero (by simpa using h1)
          exact ⟨by rw [h4], h4⟩
        have e1 : step P c = some (s1.beh R false) := by
          have : step P c = step (start.beh R false) c := by
            rw [show step P c = cstep (P.push false) c by simp [step, hm, hb, hne], e0]
            rfl
          rw [this]
          exact ((step_rows hs).2 (by rw [hl.2]; rfl)).2 R false
        rw [run, e1]
        exact ((run_rows h).2 hl.1).2 R false
/-- Two rows, one behind the other. -/
theorem parse_behind {s t : List UInt8} {a b : List Stp} (hs : parse s = .ok [a]) (ht : parse t = .ok [b]) (ch : Bool) : parse (s ++ (if ch then 62 else 32) :: t) = .ok [a ++ setF ch b] ∧ b ≠ [] := by
  unfold parse at hs ht ⊢
  cases h1 : run start 0 s with
  | error k => rw [h1] at hs; cases hs
  | ok s1 =>
    rw [h1] at hs
    simp only [ends] at hs
    cases h2 : fin s1 with
    | none => rw [h2] at hs; cases hs
    | some x =>
      rw [h2] at hs
      simp only [Except.ok.injEq] at hs
      subst hs
      cases h3 : run start 0 t with
      | error k => rw [h3] at ht; cases ht
      | ok s2 =>
        rw [h3] at ht
        simp only [ends] at ht
        cases h4 : fin s2 with
        | none => rw [h4] at ht; cases ht
        | some y =>
          rw [h4] at ht
          simp only [Except.ok.injEq] at ht
          subst ht
          obtain ⟨T, e1, e2, e3⟩ := behind h2
          have hr : s1.rows = [] ∧ a = s1.row ++ [⟨T, s1.child⟩] := by
            cases hr : s1.rows with
            | nil => rw [hr] at e1; simp at e1; exact ⟨rfl, e1⟩
            | cons u l => rw [hr] at e1; simp at e1
          obtain ⟨r, hrn, hx, hf⟩ := fin_beh h4 a ch
          have hr2 : s2.rows = [] ∧ b = r := by
            cases hr : s2.rows with
            | nil => rw [hr] at hx; simp at hx; exact ⟨rfl, hx⟩
            | cons u l => rw [hr] at hx; simp at hx
          obtain ⟨hr2, rfl⟩ := hr2
          rw [hr2] at hf
          have h5 : run start (0 + s.length + 1) t = .ok s2 := by
            have := run_shift start 0 (s.length + 1) t
            rw [h3] at this
            rw [show 0 + s.length + 1 = 0 + (s.length + 1) by omega]
            exact this
          rw [run_append, h1]
          simp only []
          rw [run]
          refine ⟨?_, hrn⟩
          cases ch with
          | false =>
            rw [if_neg (by simp), e2]
            simp only []
            rw [apart_run a ⟨s1.rows, s1.row, T, s1.child, .apart⟩ rfl hr.1 hr.2 t _ s2 _ h5 h4]
            simp only [ends]
            rw [hf]
            rfl
          | true =>
            rw [if_pos rfl, e3]
            have e0 : (⟨s1.rows, s1.row ++ [⟨T, s1.child⟩], [], true, .comp⟩ : St) = start.beh a true := by
              rw [hr.2]
              simp [St.beh, start, hr.1, setF]
            simp only []
            rw [e0, ((run_rows h5).2 (by rw [hr2]; rfl)).2 a true]
            simp only [ends]
            rw [hf]
            rfl
end Go.Proofs.YtaacikjoafobfaaGreatDoor.Sl
namespace Go.Proofs.YtaacikjoafobfaaGreatDoor.Sl
set_option linter.unusedVariables false
set_option linter.unusedSimpArgs false
/-! ### what is printed -/
def pt (t : Te) : List UInt8 := if t.k = 1 then t.n else if t.k = 2 then 35 :: t.n else if t.k = 3 then 46 :: t.n else if t.k = 4 then 91 :: (t.n ++ [93]) else if t.k = 5 then 91 :: (t.n ++ (61 :: 34 :: (t.v ++ [34, 93]))) else []
def pc (ts : List Te) : List UInt8 := if ts = [] then [42] else ts.flatMap pt
def pm (g : List UInt8) (x : Stp) : List UInt8 := (if x.child then g else [32]) ++ pc x.c
def prow (g : List UInt8) : List Stp → List UInt8
  | [] => []
  | x :: l => pc x.c ++ l.flatMap (pm g)
def psel (h g : List UInt8) : List (List Stp) → List UInt8
  | [] => []
  | r :: l => prow g r ++ l.flatMap (fun r => h ++ prow g r)
def valOk (v : List UInt8) : Prop := v.length ≤ 60 ∧ ∀ c ∈ v, c ≠ 34
def teOk (first : Bool) (t : Te) : Prop := ((t.k = 1 ∧ first = true ∨ t.k = 2 ∨ t.k = 3 ∨ t.k = 4) ∧ nameOk t.n = true ∧ t.v = []) ∨ (t.k = 5 ∧ nameOk t.n = true ∧ valOk t.v)
def tsOk : List Te → Prop
  | [] => True
  | t :: l => teOk true t ∧ ∀ x ∈ l, teOk false x
def rowOk : List Stp → Prop
  | [] => False
  | x :: l => x.child = false ∧ tsOk x.c ∧ ∀ y ∈ l, tsOk y.c
def selOk (x : List (List Stp)) : Prop := x ≠ [] ∧ ∀ r ∈ x, rowOk r
/-- Whole up to here: the rows, the row, the tests. -/
def Sd (s : St) (R : List (List Stp)) (r : List Stp) (T : List Te) (ch : Bool) : Prop :=
  s.rows = R ∧ s.row = r ∧ s.child = ch ∧ ((s.m = .tests ∧ s.ts = T) ∨ ∃ k b T0, s.m = .nm k b ∧ b ≠ [] ∧ s.ts = T0 ∧ T = T0 ++ [⟨k, b, []⟩])
theorem Sd.step {s : St} {R : List (List Stp)} {r : List Stp} {T : List Te} {ch : Bool} (h : Sd s R r T ch) {c : UInt8} (hc : isN c = false) : Sl.step s c = tstep ⟨R, r, T, ch, .tests⟩ c := by
  obtain ⟨rows, row, ts, cc, m⟩ := s
  obtain ⟨rfl, rfl, rfl, (⟨rfl, rfl⟩ | ⟨k, b, T0, rfl, hb, rfl, rfl⟩)⟩ := h
  · rfl
  · simp [Sl.step, hb, hc, St.add]
theorem Sd.fin {s : St} {R : List (List Stp)} {r : List Stp} {T : List Te} {ch : Bool} (h : Sd s R r T ch) : Sl.fin s = some (R ++ [r ++ [⟨T, ch⟩]]) := by
  obtain ⟨rows, row, ts, cc, m⟩ := s
  obtain ⟨rfl, rfl, rfl, (⟨rfl, rfl⟩ | ⟨k, b, T0, rfl, hb, rfl, rfl⟩)⟩ := h
  · rfl
  · simp [Sl.fin, hb]
theorem nameOk_ne {n : List UInt8} (h : nameOk n = true) : n ≠ [] := by rintro rfl; cases h
theorem isL_not {c : UInt8} (h : isL c = true) : isB c = false ∧ c ≠ 42 ∧ c ≠ 62 ∧ c ≠ 44 ∧ c ≠ 35 ∧ c ≠ 46 ∧ c ≠ 91 ∧ c ≠ 34 ∧ c ≠ 93 ∧ c ≠ 61 := by
  have hb : isB c = false := by
    revert h
    simp only [isL, isB, Bool.or_eq_true, Bool.and_eq_true, decide_eq_true_eq, Bool.or_eq_false_iff, beq_eq_false_iff_ne, UInt8.le_iff_toNat_le, ne_eq, ← UInt8.toNat_inj]
    intro h
    simp at h ⊢
    omega
  refine ⟨hb, ?_, ?_, ?_, ?_, ?_, ?_, ?_, ?_, ?_⟩ <;> (rintro rfl; exact absurd h (by decide))
theorem isN_not {c : UInt8} (h : isN c = true) : isB c = false ∧ c ≠ 42 ∧ c ≠ 62 ∧ c ≠ 44 ∧ c ≠ 35 ∧ c ≠ 46 ∧ c ≠ 91 ∧ c ≠ 34 ∧ c ≠ 93 ∧ c ≠ 61 := by
  have hb : isB c = false := by
    revert h
    simp only [isN, isL, isB, Bool.or_eq_true, Bool.and_eq_true, decide_eq_true_eq, beq_iff_eq, Bool.or_eq_false_iff, beq_eq_false_iff_ne, UInt8.le_iff_toNat_le, ne_eq, ← UInt8.toNat_inj]
    intro h
    simp at h ⊢
    omega
  refine ⟨hb, ?_, ?_, ?_, ?_, ?_, ?_, ?_, ?_, ?_⟩ <;> (rintro rfl; exact absurd h (by decide))
theorem run_bn (s : St) : ∀ (l b : List UInt8) (i : Nat), s.m = .bn b → b ≠ [] → b.length + l.length ≤ 20 → (∀ c ∈ l, isN c = true) → run s i l = .ok (s.to (.bn (b ++ l))) := by
  intro l
  induction l generalizing s with
  | nil => intro b i hm hb hl hc; obtain ⟨rows, row, ts, ch, m⟩ := s; cases hm; simp [run, St.to]
  | cons c l ih =>
    intro b i hm hb hl hc
    simp only [List.length_cons] at hl
    have : Sl.step s c = some (s.to (.bn (b ++ [c]))) := by
      unfold Sl.step
      rw [hm]
      simp only []
      rw [if_pos (hc c (by simp)), if_pos (by omega)]
    rw [run, this]
    simp only []
    rw [ih _ (b ++ [c]) (i + 1) rfl (by simp) (by simp; omega) (fun x hx => hc x (by simp [hx]))]
    simp [St.to]
theorem run_brk {s : St} (hm : s.m = .brk) {n : List UInt8} (h : nameOk n = true) (i : Nat) : run s i n = .ok (s.to (.bn n)) := by
  cases n with
  | nil => cases h
  | cons c l =>
    simp only [nameOk, Bool.and_eq_true, decide_eq_true_eq] at h
    have : Sl.step s c = some (s.to (.bn [c])) := by
      unfold Sl.step
      rw [hm]
      simp [h.1.1, (isL_not h.1.1).1]
    rw [run, this]
    simp only []
    rw [run_bn _ l [c] _ rfl (by simp) (by simp; omega) (fun x hx => List.all_eq_true.1 h.1.2 x hx)]
    rfl
theorem run_bs (s : St) (n : List UInt8) : ∀ (l b : List UInt8) (i : Nat), s.m = .bs n b → b.length + l.length ≤ 60 → (∀ c ∈ l, c ≠ 34) → run s i l = .ok (s.to (.bs n (b ++ l))) := by
  intro l
  induction l generalizing s with
  | nil => intro b i hm hl hc; obtain ⟨rows, row, ts, ch, m⟩ := s; cases hm; simp [run, St.to]
  | cons c l ih =>
    intro b i hm hl hc
    simp only [List.length_cons] at hl
    have : Sl.step s c = some (s.to (.bs n (b ++ [c]))) := by
      unfold Sl.step
      rw [hm]
      simp only []
      rw [if_neg (hc c (by simp)), if_pos (by omega)]
    rw [run, this]
    simp only []
    rw [ih _ (b ++ [c]) (i + 1) rfl (by simp; omega) (fun x hx => hc x (by simp [hx]))]
    simp [St.to]
/-- A bracket's test, behind the bracket. -/
theorem run_br {R : List (List Stp)} {r : List Stp} {T : List Te} {ch : Bool} {t : Te} (h : teOk false t) (hk : t.k = 4 ∨ t.k = 5) (i : Nat) : ∃ l, pt t = 91 :: l ∧ run ⟨R, r, T, ch, .brk⟩ i l = .ok ⟨R, r, T ++ [t], ch, .tests⟩ := by
  obtain ⟨k, n, v⟩ := t
  rcases hk with hk | hk
  · simp only at hk
    subst hk
    have h4 : nameOk n = true ∧ v = [] := by rcases h with h | h; exact h.2; exact absurd h.1 (by simp)
    obtain ⟨h4, rfl⟩ := h4
    refine ⟨n ++ [93], by simp [pt], ?_⟩
    rw [run_append, run_brk rfl h4]
    simp [run, Sl.step, St.to, isN, isL, baStep, isB, St.add]
  · simp only at hk
    subst hk
    have h5 : nameOk n = true ∧ valOk v := by rcases h with h | h; exact absurd h.1 (by simp); exact h.2
    refine ⟨n ++ (61 :: 34 :: (v ++ [34, 93])), by simp [pt], ?_⟩
    rw [run_append, run_brk rfl h5.1]
    simp only []
    rw [run, show Sl.step (St.to ⟨R, r, T, ch, .brk⟩ (.bn n)) 61 = some ⟨R, r, T, ch, .be n⟩ by simp [Sl.step, St.to, isN, isL, baStep, isB]]
    simp only []
    rw [run, show Sl.step ⟨R, r, T, ch, .be n⟩ 34 = some ⟨R, r, T, ch, .bs n []⟩ by simp [Sl.step, St.to, isB]]
    simp only []
    rw [run_append, run_bs ⟨R, r, T, ch, .bs n []⟩ n v [] _ rfl (by simpa using h5.2.1) h5.2.2]
    simp [run, Sl.step, St.to, bzStep, isB, St.add]
/-- A test behind others. -/
theorem run_more {s : St} {R : List (List Stp)} {r : List Stp} {T : List Te} {ch : Bool} (hs : Sd s R r T ch) {t : Te} (h : teOk false t) (i : Nat) : ∃ s', run s i (pt t) = .ok s' ∧ Sd s' R r (T ++ [t]) ch := by
  by_cases hk : t.k = 4 ∨ t.k = 5
  · obtain ⟨l, e, hr⟩ := run_br (R := R) (r := r) (T := T) (ch := ch) h hk (i + 1)
    refine ⟨⟨R, r, T ++ [t], ch, .tests⟩, ?_, rfl, rfl, rfl, .inl ⟨rfl, rfl⟩⟩
    rw [e, run, hs.step (by decide), show tstep ⟨R, r, T, ch, .tests⟩ 91 = some ⟨R, r, T, ch, .brk⟩ by simp [tstep, St.to]]
    exact hr
  · obtain ⟨k, n, v⟩ := t
    simp only [not_or] at hk
    have h4 : (k = 2 ∨ k = 3) ∧ nameOk n = true ∧ v = [] := by
      rcases h with h | h
      · simp at h; exact ⟨by rcases h.1 with h | h | h; exact .inl h; exact .inr h; exact absurd h hk.1, h.2⟩
      · exact absurd h.1 hk.2
    obtain ⟨hk2, hn, rfl⟩ := h4
    have hne := nameOk_ne hn
    rcases hk2 with rfl | rfl
    · refine ⟨⟨R, r, T, ch, .nm 2 n⟩, ?_, rfl, rfl, rfl, .inr ⟨2, n, T, rfl, hne, rfl, rfl⟩⟩
      rw [show pt ⟨2, n, []⟩ = 35 :: n by simp [pt], run, hs.step (by decide), show tstep ⟨R, r, T, ch, .tests⟩ 35 = some ⟨R, r, T, ch, .nm 2 []⟩ by simp [tstep, St.to]]
      exact run_name rfl hn _
    · refine ⟨⟨R, r, T, ch, .nm 3 n⟩, ?_, rfl, rfl, rfl, .inr ⟨3, n, T, rfl, hne, rfl, rfl⟩⟩
      rw [show pt ⟨3, n, []⟩ = 46 :: n by simp [pt], run, hs.step (by decide), show tstep ⟨R, r, T, ch, .tests⟩ 46 = some ⟨R, r, T, ch, .nm 3 []⟩ by simp [tstep, St.to]]
      exact run_name rfl hn _
theorem run_mores {R : List (List Stp)} {r : List Stp} {ch : Bool} : ∀ (l : List Te) (s : St) (T : List Te) (i : Nat), Sd s R r T ch → (∀ t ∈ l, teOk false t) → ∃ s', run s i (l.flatMap pt) = .ok s' ∧ Sd s' R r (T ++ l) ch := by
  intro l
  induction l with
  | nil => intro s T i hs h; exact ⟨s, rfl, by simpa using hs⟩
  | cons t l ih =>
    intro s T i hs h
    obtain ⟨s1, h1, hs1⟩ := run_more hs (h t (by simp)) i
    obtain ⟨s2, h2, hs2⟩ := ih s1 _ (i + (pt t).length) hs1 (fun x hx => h x (by simp [hx]))
    refine ⟨s2, ?_, by simpa using hs2⟩
    rw [List.flatMap_cons, run_append, h1]
    exact h2
/-- Where a compound may begin. -/
def Cs (s s0 : St) : Prop := s0.m = .comp ∧ s0.ts = [] ∧ ∀ c, isB c = false → c ≠ 62 → c ≠ 44 → Sl.step s c = cstep s0 c
theorem Cs.comp {s : St} (hm : s.m = .comp) (ht : s.ts = []) : Cs s s := ⟨hm, ht, fun c _ _ _ => by simp [Sl.step, hm]⟩
theorem Cs.apart {s : St} (hm : s.m = .apart) : Cs s (s.push false) := ⟨rfl, rfl, fun c h1 h2 h3 => by simp [Sl.step, hm, h1, h2, h3]⟩
theorem run_comp {s s0 : St} (h : Cs s s0) {ts : List Te} (ht : tsOk ts) (i : Nat) : ∃ s', run s i (pc ts) = .ok s' ∧ Sd s' s0.rows s0.row ts s0.child := by
  obtain ⟨hm, he, hstep⟩ := h
  cases ts with
  | nil =>
    refine ⟨s0.to .tests, ?_, rfl, rfl, rfl, .inl ⟨rfl, he⟩⟩
    rw [show pc [] = [42] by rfl, run, hstep 42 (by decide) (by decide) (by decide)]
    simp [cstep, isB, isL, run]
  | cons t l =>
    rw [show pc (t :: l) = pt t ++ l.flatMap pt by simp [pc]]
    obtain ⟨ht1, ht2⟩ := ht
    have first : ∃ s1, run s i (pt t) = .ok s1 ∧ Sd s1 s0.rows s0.row [t] s0.child := by
      by_cases hk : t.k = 4 ∨ t.k = 5
      · have ht1' : teOk false t := by
          rcases ht1 with h | h
          · refine .inl ⟨?_, h.2⟩
            rcases hk with hk | hk
            · exact .inr (.inr (.inr hk))
            · rw [hk] at h; exact absurd h.1 (by decide)
          · exact .inr h
        obtain ⟨l, e, hr⟩ := run_br (R := s0.rows) (r := s0.row) (T := []) (ch := s0.child) ht1' hk (i + 1)
        refine ⟨⟨s0.rows, s0.row, [] ++ [t], s0.child, .tests⟩, ?_, rfl, rfl, rfl, .inl ⟨rfl, rfl⟩⟩
        rw [e, run, hstep 91 (by decide) (by decide) (by decide), show cstep s0 91 = some ⟨s0.rows, s0.row, [], s0.child, .brk⟩ by simp [cstep, isB, isL, St.to, he]]
        exact hr
      · obtain ⟨k, n, v⟩ := t
        simp only [not_or] at hk
        have h4 : (k = 1 ∨ k = 2 ∨ k = 3) ∧ nameOk n = true ∧ v = [] := by
          rcases ht1 with h | h
          · simp at h; exact ⟨by rcases h.1 with h | h | h | h; exact .inl h; exact .inr (.inl h); exact .inr (.inr h); exact absurd h hk.1, h.2⟩
          · exact absurd h.1 hk.2
        obtain ⟨hk2, hn, rfl⟩ := h4
        have hne := nameOk_ne hn
        rcases hk2 with rfl | rfl | rfl
        · refine ⟨⟨s0.rows, s0.row, [], s0.child, .nm 1 n⟩, ?_, rfl, rfl, rfl, .inr ⟨1, n, [], rfl, hne, rfl, rfl⟩⟩
          rw [show pt ⟨1, n, []⟩ = n by simp [pt]]
          cases n with
          | nil => cases hn
          | cons c l =>
            simp only [nameOk, Bool.and_eq_true, decide_eq_true_eq] at hn
            obtain ⟨n1, n2, n3, n4, -⟩ := isL_not hn.1.1
            rw [run, hstep c n1 n3 n4, show cstep s0 c = some ⟨s0.rows, s0.row, [], s0.child, .nm 1 [c]⟩ by simp [cstep, n1, n2, hn.1.1, St.to, he]]
            simp only []
            rw [run_nm _ 1 l [c] _ rfl (by simp) (by simp; omega) (fun x hx => List.all_eq_true.1 hn.1.2 x hx)]
            rfl
        · refine ⟨⟨s0.rows, s0.row, [], s0.child, .nm 2 n⟩, ?_, rfl, rfl, rfl, .inr ⟨2, n, [], rfl, hne, rfl, rfl⟩⟩
          rw [show pt ⟨2, n, []⟩ = 35 :: n by simp [pt], run, hstep 35 (by decide) (by decide) (by decide), show cstep s0 35 = some ⟨s0.rows, s0.row, [], s0.child, .nm 2 []⟩ by simp [cstep, isB, isL, St.to, he]]
          exact run_name rfl hn _
        · refine ⟨⟨s0.rows, s0.row, [], s0.child, .nm 3 n⟩, ?_, rfl, rfl, rfl, .inr ⟨3, n, [], rfl, hne, rfl, rfl⟩⟩
          rw [show pt ⟨3, n, []⟩ = 46 :: n by simp [pt], run, hstep 46 (by decide) (by decide) (by decide), show cstep s0 46 = some ⟨s0.rows, s0.row, [], s0.child, .nm 3 []⟩ by simp [cstep, isB, isL, St.to, he]]
          exact run_name rfl hn _
    obtain ⟨s1, h1, hs1⟩ := first
    obtain ⟨s2, h2, hs2⟩ := run_mores l s1 [t] (i + (pt t).length) hs1 ht2
    refine ⟨s2, ?_, hs2⟩
    rw [run_append, h1]
    exact h2
/-! ### what stands between -/
def Bl (l : List UInt8) : Prop := ∀ c ∈ l, isB c = true
theorem isB_not {c : UInt8} (h : isB c = true) : isN c = false ∧ c ≠ 35 ∧ c ≠ 46 ∧ c ≠ 91 := by
  refine ⟨?_, ?_, ?_, ?_⟩
  · cases hn : isN c with
    | false => rfl
    | true => rw [(isN_not hn).1] at h; cases h
  all_goals (rintro rfl; exact absurd h (by decide))
theorem run_bl {s : St} (hm : s.m = .comp ∨ s.m = .apart) : ∀ (l : List UInt8) (i : Nat), Bl l → run s i l = .ok s := by
  intro l
  induction l with
  | nil => intro i h; rfl
  | cons c l ih =>
    intro i h
    have hb := h c (by simp)
    have : Sl.step s c = some s := by
      obtain ⟨rows, row, ts, ch, m⟩ := s
      rcases hm with rfl | rfl
      · simp [Sl.step, cstep, hb, St.to]
      · simp [Sl.step, hb]
    rw [run, this]
    exact ih _ (fun x hx => h x (by simp [hx]))
theorem Sd.bl {s : St} {R : List (List Stp)} {r : List Stp} {T : List Te} {ch : Bool} (h : Sd s R r T ch) {l : List UInt8} (hl : Bl l) (hn : l ≠ []) (i : Nat) : run s i l = .ok ⟨R, r, T, ch, .apart⟩ := by
  cases l with
  | nil => exact absurd rfl hn
  | cons c l =>
    have hb := hl c (by simp)
    obtain ⟨n1, n2, n3, n4⟩ := isB_not hb
    rw [run, h.step n1, show tstep ⟨R, r, T, ch, .tests⟩ c = some ⟨R, r, T, ch, .apart⟩ by simp [tstep, n2, n3, n4, hb, St.to]]
    exact run_bl (.inr rfl) l _ (fun x hx => hl x (by simp [hx]))
/-- A sign with blanks around. -/
theorem Sd.sign {s : St} {R : List (List Stp)} {r : List Stp} {T : List Te} {ch : Bool} (h : Sd s R r T ch) {a b : List UInt8} (ha : Bl a) (hb : Bl b) (c : UInt8) (s1 : St) (hc : c = 62 ∧ s1 = ⟨R, r ++ [⟨T, ch⟩], [], true, .comp⟩ ∨ c = 44 ∧ s1 = ⟨R ++ [r ++ [⟨T, ch⟩]], [], [], false, .comp⟩) (i : Nat) : run s i (a ++ c :: b) = .ok s1 := by
  have hm : s1.m = .comp := by rcases hc with ⟨-, rfl⟩ | ⟨-, rfl⟩ <;> rfl
  rw [run_append]
  by_cases hn : a = []
  · subst hn
    rw [run]
    simp only []
    have e : Sl.step s c = some s1 := by
      rcases hc with ⟨rfl, rfl⟩ | ⟨rfl, rfl⟩
      · rw [h.step (by decide)]; simp [tstep, isB, St.push]
      · rw [h.step (by decide)]; simp [tstep, isB, St.pushRow]
    rw [run, e]
    exact run_bl (.inl hm) _ _ hb
  · rw [h.bl ha hn]
    simp only []
    have e : Sl.step ⟨R, r, T, ch, .apart⟩ c = some s1 := by
      rcases hc with ⟨rfl, rfl⟩ | ⟨rfl, rfl⟩ <;> simp [Sl.step, isB, St.push, St.pushRow]
    rw [run, e]
    exact run_bl (.inl hm) _ _ hb
theorem run_steps {a b : List UInt8} (ha : Bl a) (hb : Bl b) {R : List (List Stp)} : ∀ (l : List Stp) (s : St) (r : List Stp) (T : List Te) (ch : Bool) (i : Nat), Sd s R r T ch → (∀ x ∈ l, tsOk x.c) →
    ∃ s' r' T' ch', run s i (l.flatMap (pm (a ++ 62 :: b))) = .ok s' ∧ Sd s' R r' T' ch' ∧ r' ++ [⟨T', ch'⟩] = r ++ [⟨T, ch⟩] ++ l := by
  intro l
  induction l with
  | nil => intro s r T ch i hs h; exact ⟨s, r, T, ch, rfl, hs, by simp⟩
  | cons x l ih =>
    intro s r T ch i hs h
    have one : ∃ s1, run s i (pm (a ++ 62 :: b) x) = .ok s1 ∧ Sd s1 R (r ++ [⟨T, ch⟩]) x.c x.child := by
      obtain ⟨c, xc⟩ := x
      cases xc with
      | true =>
        have h1 := hs.sign ha hb 62 _ (.inl ⟨rfl, rfl⟩) i
        obtain ⟨s2, h2, hs2⟩ := run_comp (Cs.comp (s := ⟨R, r ++ [⟨T, ch⟩], [], true, .comp⟩) rfl rfl) (h ⟨c, true⟩ (by simp)) (i + (a ++ 62 :: b).length)
        refine ⟨s2, ?_, hs2⟩
        rw [pm, if_pos rfl, run_append, h1]
        exact h2
      | false =>
        have h1 := hs.bl (l := [32]) (fun c hc => by simp at hc; subst hc; decide) (by simp) i
        obtain ⟨s2, h2, hs2⟩ := run_comp (Cs.apart (s := ⟨R, r, T, ch, .apart⟩) rfl) (h ⟨c, false⟩ (by simp)) (i + 1)
        refine ⟨s2, ?_, hs2⟩
        rw [pm, if_neg (by simp), run_append, h1]
        exact h2
    obtain ⟨s1, h1, hs1⟩ := one
    obtain ⟨s', r', T', ch', h2, hs2, e⟩ := ih s1 _ _ _ (i + (pm (a ++ 62 :: b) x).length) hs1 (fun y hy => h y (by simp [hy]))
    refine ⟨s', r', T', ch', ?_, hs2, by rw [e]; simp⟩
    rw [List.flatMap_cons, run_append, h1]
    exact h2
theorem run_row {a b : List UInt8} (ha : Bl a) (hb : Bl b) {R : List (List Stp)} {r : List Stp} (hr : rowOk r) (i : Nat) : ∃ s' r' T' ch', run ⟨R, [], [], false, .comp⟩ i (prow (a ++ 62 :: b) r) = .ok s' ∧ Sd s' R r' T' ch' ∧ r' ++ [⟨T', ch'⟩] = r := by
  cases r with
  | nil => exact hr.elim
  | cons x l =>
    obtain ⟨h1, h2, h3⟩ := hr
    obtain ⟨s1, e1, hs1⟩ := run_comp (Cs.comp (s := ⟨R, [], [], false, .comp⟩) rfl rfl) h2 i
    obtain ⟨s', r', T', ch', e2, hs2, e⟩ := run_steps ha hb l s1 [] x.c false (i + (pc x.c).length) hs1 h3
    refine ⟨s', r', T', ch', ?_, hs2, ?_⟩
    · rw [prow, run_append, e1]
      exact e2
    · rw [e]
      obtain ⟨c, ch⟩ := x
      simp only at h1
      subst h1
      rfl
theorem run_rows2 {a b a2 b2 : List UInt8} (ha : Bl a) (hb : Bl b) (ha2 : Bl a2) (hb2 : Bl b2) : ∀ (l : List (List Stp)) (s : St) (R : List (List Stp)) (r : List Stp) (T : List Te) (ch : Bool) (i : Nat), Sd s R r T ch → (∀ x ∈ l, rowOk x) →
    ∃ s' R' r' T' ch', run s i (l.flatMap (fun r => (a2 ++ 44 :: b2) ++ prow (a ++ 62 :: b) r)) = .ok s' ∧ Sd s' R' r' T' ch' ∧ R' ++ [r' ++ [⟨T', ch'⟩]] = R ++ [r ++ [⟨T, ch⟩]] ++ l := by
  intro l
  induction l with
  | nil => intro s R r T ch i hs h; exact ⟨s, R, r, T, ch, rfl, hs, by simp⟩
  | cons x l ih =>
    intro s R r T ch i hs h
    have h1 := hs.sign ha2 hb2 44 _ (.inr ⟨rfl, rfl⟩) i
    obtain ⟨s2, r2, T2, ch2, e2, hs2, q⟩ := run_row ha hb (R := R ++ [r ++ [⟨T, ch⟩]]) (h x (by simp)) (i + (a2 ++ 44 :: b2).length)
    obtain ⟨s', R', r', T', ch', e3, hs3, q2⟩ := ih s2 _ _ _ _ (i + ((a2 ++ 44 :: b2) ++ prow (a ++ 62 :: b) x).length) hs2 (fun y hy => h y (by simp [hy]))
    refine ⟨s', R', r', T', ch', ?_, hs3, by rw [q2, q]; simp⟩
    rw [List.flatMap_cons, run_append, run_append, h1]
    simp only []
    rw [e2]
    exact e3
/-- What is printed, with any blanks around a comma, and a >, and at both ends, is parsed to the same. -/
theorem parse_print {a b a2 b2 d d2 : List UInt8} (ha : Bl a) (hb : Bl b) (ha2 : Bl a2) (hb2 : Bl b2) (hd : Bl d) (hd2 : Bl d2) {x : List (List Stp)} (hx : selOk x) : parse (d ++ (psel (a2 ++ 44 :: b2) (a ++ 62 :: b) x ++ d2)) = .ok x := by
  obtain ⟨hne, hrow⟩ := hx
  cases x with
  | nil => exact absurd rfl hne
  | cons r l =>
    obtain ⟨s1, r1, T1, ch1, e1, hs1, q1⟩ := run_row ha hb (R := []) (hrow r (by simp)) d.length
    obtain ⟨s2, R2, r2, T2, ch2, e2, hs2, q2⟩ := run_rows2 ha hb ha2 hb2 l s1 [] r1 T1 ch1 (d.length + (prow (a ++ 62 :: b) r).length) hs1 (fun y hy => hrow y (by simp [hy]))
    have hq : R2 ++ [r2 ++ [⟨T2, ch2⟩]] = r :: l := by rw [q2, q1]; rfl
    unfold parse
    rw [run_append, run_bl (s := start) (.inl rfl) d 0 hd]
    simp only []
    rw [run_append, psel, run_append, show (0 : Nat) + d.length = d.length by omega, show start = ⟨[], [], [], false, .comp⟩ from rfl, e1]
    simp only []
    rw [e2]
    simp only []
    by_cases hn : d2 = []
    · subst hn
      rw [run]
      simp only [ends]
      rw [hs2.fin, hq]
    · rw [hs2.bl hd2 hn]
      simp only [ends, Sl.fin]
      rw [hq]
end Go.Proofs.YtaacikjoafobfaaGreatDoor.Sl
namespace Go.Proofs.YtaacikjoafobfaaGreatDoor.Sl
set_option linter.unusedVariables false
set_option linter.unusedSimpArgs false
/-! ### what is parsed may be printed -/
theorem tsOk_add {ts : List Te} {t : Te} (h : tsOk ts) (ht : teOk false t) : tsOk (ts ++ [t]) := by
  have h1 : teOk true t := by
    rcases ht with h | h
    · refine .inl ⟨?_, h.2⟩
      rcases h.1 with h | h
      · exact absurd h.2 (by simp)
      · exact .inr h
    · exact .inr h
  cases ts with
  | nil => exact ⟨h1, by simp⟩
  | cons a l =>
    refine ⟨h.1, fun x hx => ?_⟩
    have hx : x ∈ l ++ [t] := hx
    rw [List.mem_append, List.mem_singleton] at hx
    rcases hx with hx | rfl
    · exact h.2 x hx
    · exact ht
structure W3 (s : St) : Prop where
  rows : ∀ r ∈ s.rows, rowOk r
  first : s.row = [] → s.child = false
  head : ∀ x l, s.row = x :: l → x.child = false
  row : ∀ x ∈ s.row, tsOk x.c
  ts : tsOk s.ts
def md (s : St) : Prop :=
  match s.m with
  | .comp => s.ts = []
  | .nm k b => (b = [] → k = 2 ∨ k = 3) ∧ (b ≠ [] → nameOk b = true ∧ (k = 1 ∧ s.ts = [] ∨ k = 2 ∨ k = 3))
  | .bn b => nameOk b = true
  | .ba n => nameOk n = true
  | .be n => nameOk n = true
  | .bv n b => nameOk n = true ∧ nameOk b = true
  | .bs n b => nameOk n = true ∧ b.length ≤ 60 ∧ ∀ c ∈ b, c ≠ 34
  | .bz n v => nameOk n = true ∧ valOk v
  | _ => True
theorem nameOk_snoc {b : List UInt8} {c : UInt8} (h : nameOk b = true) (hc : isN c = true) (hl : b.length < 20) : nameOk (b ++ [c]) = true := by
  cases b with
  | nil => cases h
  | cons a l =>
    simp only [nameOk, List.cons_append, Bool.and_eq_true, decide_eq_true_eq, List.all_append, List.length_append, List.length_cons, List.length_nil] at h hl ⊢
    refine ⟨⟨h.1.1, h.1.2, ?_⟩, by omega⟩
    simp [hc]
theorem nameOk_one {c : UInt8} (h : isL c = true) : nameOk [c] = true := by simp [nameOk, h]
theorem isL_N {c : UInt8} (h : isL c = true) : isN c = true := by simp [isN, h]
theorem nameOk_all {b : List UInt8} (h : nameOk b = true) : b.length ≤ 20 ∧ ∀ c ∈ b, isN c = true := by
  cases b with
  | nil => cases h
  | cons a l =>
    simp only [nameOk, Bool.and_eq_true, decide_eq_true_eq] at h
    refine ⟨by simp; omega, fun c hc => ?_⟩
    rw [List.mem_cons] at hc
    rcases hc with rfl | hc
    · exact isL_N h.1.1
    · exact List.all_eq_true.1 h.1.2 c hc
theorem nameOk_val {b : List UInt8} (h : nameOk b = true) : valOk b := by
  obtain ⟨h1, h2⟩ := nameOk_all h
  exact ⟨by omega, fun c hc => (isN_not (h2 c hc)).2.2.2.2.2.2.2.1⟩
theorem W3.to {s : St} (h : W3 s) (m : Mo) : W3 (s.to m) := ⟨h.rows, h.first, h.head, h.row, h.ts⟩
theorem W3.add {s : St} (h : W3 s) {t : Te} (ht : teOk false t) : W3 (s.add t) := ⟨h.rows, h.first, h.head, h.row, tsOk_add h.ts ht⟩
theorem W3.add1 {s : St} (h : W3 s) (he : s.ts = []) {t : Te} (ht : teOk true t) : W3 (s.add t) := ⟨h.rows, h.first, h.head, h.row, by
  show tsOk (s.ts ++ [t])
  rw [he]
  exact ⟨ht, by simp⟩⟩
theorem W3.rowOk {s : St} (h : W3 s) : rowOk (s.row ++ [⟨s.ts, s.child⟩]) := by
  obtain ⟨rows, row, ts, ch, m⟩ := s
  obtain ⟨h1, h2, h3, h4, h5⟩ := h
  cases row with
  | nil => exact ⟨h2 rfl, h5, by simp⟩
  | cons x l =>
    refine ⟨h3 x l rfl, h4 x (by simp), fun y hy => ?_⟩
    have hy : y ∈ l ++ [⟨ts, ch⟩] := hy
    rw [List.mem_append, List.mem_singleton] at hy
    rcases hy with hy | rfl
    · exact h4 y (by simp [hy])
    · exact h5
theorem W3.push {s : St} (h : W3 s) (ch : Bool) : W3 (s.push ch) := by
  have hr := h.rowOk
  obtain ⟨rows, row, ts, cc, m⟩ := s
  refine ⟨h.rows, fun he => absurd he (by simp [St.push]), fun x l hx => ?_, fun x hx => ?_, trivial⟩
  · simp only [St.push] at hx
    rw [hx] at hr
    exact hr.1
  · simp only [St.push, List.mem_append, List.mem_singleton] at hx
    rcases hx with hx | rfl
    · exact h.row x hx
    · exact h.ts
theorem W3.pushRow {s : St} (h : W3 s) : W3 s.pushRow := by
  refine ⟨fun r hr => ?_, fun _ => rfl, fun x l hx => (by cases hx), fun x hx => (by cases hx), trivial⟩
  simp only [St.pushRow, List.mem_append, List.mem_singleton] at hr
  rcases hr with hr | rfl
  · exact h.rows r hr
  · exact h.rowOk
theorem w_tstep {s s' : St} {c : UInt8} (h : W3 s) (he : tstep s c = some s') : W3 s' ∧ md s' := by
  unfold tstep at he
  repeat' split at he
  · cases he; exact ⟨h.to _, by simp [md, St.to]⟩
  · cases he; exact ⟨h.to _, by simp [md, St.to]⟩
  · cases he; exact ⟨h.to _, by simp [md, St.to]⟩
  · cases he; exact ⟨h.to _, by simp [md, St.to]⟩
  · cases he; exact ⟨h.push _, rfl⟩
  · cases he; exact ⟨h.pushRow, rfl⟩
  · cases he
theorem w_cstep {s s' : St} {c : UInt8} (h : W3 s) (h0 : s.ts = []) (he : cstep s c = some s') : W3 s' ∧ md s' := by
  unfold cstep at he
  repeat' split at he
  · cases he; exact ⟨h.to _, h0⟩
  · cases he; exact ⟨h.to _, by simp [md, St.to]⟩
  · rename_i hl; cases he; exact ⟨h.to _, by simp [md, St.to, h0, nameOk_one hl]⟩
  · cases he; exact ⟨h.to _, by simp [md, St.to]⟩
  · cases he; exact ⟨h.to _, by simp [md, St.to]⟩
  · cases he; exact ⟨h.to _, by simp [md, St.to]⟩
  · cases he
theorem w_ba {s s' : St} {n : List UInt8} {c : UInt8} (h : W3 s) (hn : nameOk n = true) (he : baStep s n c = some s') : W3 s' ∧ md s' := by
  unfold baStep at he
  repeat' split at he
  · cases he; exact ⟨h.to _, hn⟩
  · cases he; exact ⟨h.add (.inl ⟨by simp, hn, rfl⟩), trivial⟩
  · cases he; exact ⟨h.to _, hn⟩
  · cases he
theorem w_bz {s s' : St} {n v : List UInt8} {c : UInt8} (h : W3 s) (hn : nameOk n = true) (hv : valOk v) (he : bzStep s n v c = some s') : W3 s' ∧ md s' := by
  unfold bzStep at he
  repeat' split at he
  · cases he; exact ⟨h.to _, hn, hv⟩
  · cases he; exact ⟨h.add (.inr ⟨rfl, hn, hv⟩), trivial⟩
  · cases he
theorem te_nm {k : Int} {b : List UInt8} (h : nameOk b = true) (hk : k = 2 ∨ k = 3) : teOk false ⟨k, b, []⟩ := .inl ⟨.inr (by rcases hk with h | h; exact .inl h; exact .inr (.inl h)), h, rfl⟩
theorem w_nm {s : St} {k : Int} {b : List UInt8} (h : W3 s) (hm : nameOk b = true ∧ (k = 1 ∧ s.ts = [] ∨ k = 2 ∨ k = 3)) : W3 (s.add ⟨k, b, []⟩) := by
  rcases hm.2 with hk | hk
  · exact h.add1 hk.2 (.inl ⟨.inl ⟨hk.1, rfl⟩, hm.1, rfl⟩)
  · exact h.add (te_nm hm.1 hk)
theorem w_step {s s' : St} {c : UInt8} (h : W3 s) (hm : md s) (he : step s c = some s') : W3 s' ∧ md s' := by
  obtain ⟨rows, row, ts, ch, m⟩ := s
  cases m with
  | comp => exact w_cstep h hm he
  | tests => exact w_tstep h he
  | apart =>
    simp only [step] at he
    repeat' split at he
    · cases he; exact ⟨h, trivial⟩
    · cases he; exact ⟨h.push _, rfl⟩
    · cases he; exact ⟨h.pushRow, rfl⟩
    · exact w_cstep (h.push _) rfl he
  | brk =>
    simp only [step] at he
    repeat' split at he
    · cases he; exact ⟨h, trivial⟩
    · rename_i hl; cases he; exact ⟨h.to _, nameOk_one hl⟩
    · cases he
  | nm k b =>
    simp only [step] at he
    obtain ⟨m1, m2⟩ := hm
    repeat' split at he
    · rename_i hb hl
      cases he
      exact ⟨h.to _, by simp [md, St.to, nameOk_one hl]; exact .inr (m1 hb)⟩
    · cases he
    · rename_i hb hn hl
      cases he
      refine ⟨h.to _, fun e => absurd e (by simp), fun _ => ⟨nameOk_snoc (m2 hb).1 hn hl, (m2 hb).2⟩⟩
    · cases he
    · rename_i hb hn
      exact w_tstep (w_nm h (m2 hb)) he
  | bn b =>
    simp only [step] at he
    repeat' split at he
    · rename_i hn hl; cases he; exact ⟨h.to _, nameOk_snoc hm hn hl⟩
    · cases he
    · exact w_ba h hm he
  | ba n => exact w_ba h hm he
  | be n =>
    simp only [step] at he
    repeat' split at he
    · cases he; exact ⟨h, hm⟩
    · cases he; exact ⟨h.to _, hm, by simp, by simp⟩
    · rename_i hl; cases he; exact ⟨h.to _, hm, nameOk_one hl⟩
    · cases he
  | bv n b =>
    simp only [step] at he
    repeat' split at he
    · rename_i hn hl; cases he; exact ⟨h.to _, hm.1, nameOk_snoc hm.2 hn hl⟩
    · cases he
    · exact w_bz h hm.1 (nameOk_val hm.2) he
  | bs n b =>
    simp only [step] at he
    repeat' split at he
    · cases he; exact ⟨h.to _, hm.1, hm.2⟩
    · rename_i hc hl
      cases he
      refine ⟨h.to _, hm.1, by simp; omega, fun x hx => ?_⟩
      rw [List.mem_append, List.mem_singleton] at hx
      rcases hx with hx | rfl
      · exact hm.2.2 x hx
      · exact hc
    · cases he
  | bz n v => exact w_bz h hm.1 hm.2 he
theorem w_run {s s' : St} {i : Nat} {l : List UInt8} (h : W3 s) (hm : md s) (he : run s i l = .ok s') : W3 s' ∧ md s' := by
  induction l generalizing s i with
  | nil => cases he; exact ⟨h, hm⟩
  | cons c l ih =>
    rw [run] at he
    cases hs : step s c with
    | none => rw [hs] at he; cases he
    | some s1 =>
      rw [hs] at he
      obtain ⟨h1, h2⟩ := w_step h hm hs
      exact ih h1 h2 he
theorem w_fin {s : St} {x : List (List Stp)} (h : W3 s) (hm : md s) (he : fin s = some x) : selOk x := by
  have key : ∀ (r : List Stp), rowOk r → selOk (s.rows ++ [r]) := fun r hr => ⟨by simp, fun y hy => by
    rw [List.mem_append, List.mem_singleton] at hy
    rcases hy with hy | rfl
    · exact h.rows y hy
    · exact hr⟩
  obtain ⟨rows, row, ts, ch, m⟩ := s
  cases m <;> simp only [fin] at he <;> first | (cases he; done) | skip
  · cases he; exact key _ h.rowOk
  · cases he; exact key _ h.rowOk
  · split at he
    · cases he
    · rename_i k b hb
      cases he
      exact key _ (w_nm h (hm.2 hb)).rowOk
theorem w_start : W3 start ∧ md start := ⟨⟨fun r hr => (by cases hr), fun _ => rfl, fun x l hx => (by cases hx), fun x hx => (by cases hx), trivial⟩, rfl⟩
/-- What is parsed is a selector that may be. -/
theorem parse_ok {l : List UInt8} {x : List (List Stp)} (h : parse l = .ok x) : selOk x := by
  unfold parse at h
  cases hr : run start 0 l with
  | error k => rw [hr] at h; cases h
  | ok s =>
    rw [hr] at h
    simp only [ends] at h
    cases hf : fin s with
    | none => rw [hf] at h; cases h
    | some y =>
      rw [hf] at h
      cases h
      obtain ⟨h1, h2⟩ := w_run w_start.1 w_start.2 hr
      exact w_fin h1 h2 hf
/-- The text of a selector. -/
def printS (x : List (List Stp)) : List UInt8 := psel [44, 32] [32, 62, 32] x
theorem parse_printS {x : List (List Stp)} (h : selOk x) : parse (printS x) = .ok x := by
  have b32 : Bl [32] := fun c hc => by simp at hc; subst hc; decide
  have b0 : Bl [] := fun c hc => by cases hc
  have := parse_print (a := [32]) (b := [32]) (a2 := []) (b2 := [32]) (d := []) (d2 := []) b32 b32 b0 b32 b0 b0 h
  simp at this
  exact this
end Go.Proofs.YtaacikjoafobfaaGreatDoor.Sl
namespace Go.Proofs.YtaacikjoafobfaaGreatDoor.Sl
set_option linter.unusedVariables false
set_option linter.unusedSimpArgs false

def wt (t : Te) : Nat := t.n.length + t.v.length + 6
def wc (ts : List Te) : Nat := (ts.map wt).sum
def ws (x : Stp) : Nat := 4 + wc x.c
def wss (r : List Stp) : Nat := (r.map ws).sum
def wr (r : List Stp) : Nat := 2 + wss r
def wx (x : List (List Stp)) : Nat := (x.map wr).sum
theorem wc_snoc (ts : List Te) (t : Te) : wc (ts ++ [t]) = wc ts + wt t := by simp [wc]
theorem wss_snoc (r : List Stp) (x : Stp) : wss (r ++ [x]) = wss r + ws x := by simp [wss]
theorem wx_snoc (x : List (List Stp)) (r : List Stp) : wx (x ++ [r]) = wx x + wr r := by simp [wx]
theorem pt_le (t : Te) : (pt t).length ≤ wt t := by
  unfold pt wt
  repeat' split
  all_goals (try simp)
  all_goals omega
theorem pts_le (ts : List Te) : (ts.flatMap pt).length ≤ wc ts := by
  induction ts with
  | nil => simp [wc]
  | cons t l ih =>
    have := pt_le t
    rw [List.flatMap_cons, List.length_append]
    simp only [wc, List.map_cons, List.sum_cons] at ih ⊢
    omega
theorem pc_le (ts : List Te) : (pc ts).length ≤ wc ts + 1 := by
  unfold pc
  split
  · simp
  · have := pts_le ts; omega
theorem pm_le (g : List UInt8) (hg : g.length ≤ 3) (x : Stp) : (pm g x).length ≤ ws x := by
  unfold pm ws
  have := pc_le x.c
  rw [List.length_append]
  have : (if x.child = true then g else [32]).length ≤ 3 := by split <;> (try simp) <;> omega
  omega
theorem pms_le (g : List UInt8) (hg : g.length ≤ 3) (r : List Stp) : (r.flatMap (pm g)).length ≤ wss r := by
  induction r with
  | nil => simp [wss]
  | cons x l ih =>
    have := pm_le g hg x
    rw [List.flatMap_cons, List.length_append]
    simp only [wss, List.map_cons, List.sum_cons] at ih ⊢
    omega
theorem prow_le (g : List UInt8) (hg : g.length ≤ 3) (r : List Stp) : (prow g r).length ≤ wss r := by
  cases r with
  | nil => simp [prow, wss]
  | cons x l =>
    have h1 := pc_le x.c
    have h2 := pms_le g hg l
    rw [prow, List.length_append]
    simp only [wss, List.map_cons, List.sum_cons, ws] at h2 ⊢
    omega
theorem psel_le (h g : List UInt8) (hh : h.length ≤ 2) (hg : g.length ≤ 3) (x : List (List Stp)) : (psel h g x).length ≤ wx x := by
  cases x with
  | nil => simp [psel, wx]
  | cons r l =>
    have key : ∀ l : List (List Stp), (l.flatMap (fun r => h ++ prow g r)).length ≤ wx l := by
      intro l
      induction l with
      | nil => simp [wx]
      | cons r l ih =>
        have := prow_le g hg r
        rw [List.flatMap_cons, List.length_append, List.length_append]
        simp only [wx, List.map_cons, List.sum_cons, wr] at ih ⊢
        omega
    have h1 := prow_le g hg r
    have h2 := key l
    rw [psel, List.length_append]
    simp only [wx, List.map_cons, List.sum_cons, wr] at h2 ⊢
    omega
theorem printS_le (x : List (List Stp)) : (printS x).length ≤ wx x := psel_le _ _ (by simp) (by simp) x
/-- What is begun. -/
def pend : Mo → Nat
  | .nm _ b => b.length + 6
  | .brk => 6
  | .bn b => b.length + 6
  | .ba n => n.length + 6
  | .be n => n.length + 6
  | .bv n b => n.length + b.length + 6
  | .bs n b => n.length + b.length + 6
  | .bz n v => n.length + v.length + 6
  | _ => 0
def wst (s : St) : Nat := wx s.rows + wss s.row + wc s.ts + pend s.m
theorem wst_step {s s' : St} {c : UInt8} (h : step s c = some s') : wst s' ≤ wst s + 11 := by
  obtain ⟨rows, row, ts, ch, m⟩ := s
  have e1 : wc [] = 0 := rfl
  have e2 : wss [] = 0 := rfl
  cases m <;> simp only [step, cstep, tstep, baStep, bzStep] at h <;> (repeat' split at h) <;>
    first
    | (cases h; done)
    | (cases h
       simp only [wst, pend, St.to, St.add, St.push, St.pushRow, wc_snoc, wss_snoc, wx_snoc, wr, ws, wt, List.length_append, List.length_cons, List.length_nil, e1, e2]
       omega)
theorem wst_run {s s' : St} {i : Nat} {l : List UInt8} (h : run s i l = .ok s') : wst s' ≤ wst s + 11 * l.length := by
  induction l generalizing s i with
  | nil => cases h; simp
  | cons c l ih =>
    rw [run] at h
    cases hs : step s c with
    | none => rw [hs] at h; cases h
    | some s1 =>
      rw [hs] at h
      have h1 := ih h
      have h2 := wst_step hs
      simp only [List.length_cons]
      omega
theorem wx_fin {s : St} {x : List (List Stp)} (h : fin s = some x) : wx x ≤ wst s + 6 := by
  obtain ⟨rows, row, ts, ch, m⟩ := s
  cases m <;> simp only [fin] at h <;> (repeat' split at h) <;>
    first
    | (cases h; done)
    | (cases h
       simp only [wst, pend, wc_snoc, wss_snoc, wx_snoc, wr, ws, wt, List.length_nil]
       omega)
theorem parse_wx {l : List UInt8} {x : List (List Stp)} (h : parse l = .ok x) : wx x ≤ 11 * l.length + 6 := by
  unfold parse at h
  cases hr : run start 0 l with
  | error k => rw [hr] at h; cases h
  | ok s =>
    rw [hr] at h
    simp only [ends] at h
    cases hf : fin s with
    | none => rw [hf] at h; cases h
    | some y =>
      rw [hf] at h
      cases h
      have h1 := wst_run hr
      have h2 := wx_fin hf
      have e : wst start = 0 := rfl
      omega
theorem sum_part : ∀ {l : List Nat} {a : Nat}, a ∈ l → a ≤ l.sum
  | b :: l, a, h => by
    rw [List.mem_cons] at h
    rw [List.sum_cons]
    rcases h with rfl | h
    · omega
    · have := sum_part h
      omega
theorem wx_row {x : List (List Stp)} {r : List Stp} (h : r ∈ x) : wr r ≤ wx x := sum_part (List.mem_map_of_mem h)
theorem wr_step {r : List Stp} {x : Stp} (h : x ∈ r) : ws x ≤ wss r := sum_part (List.mem_map_of_mem h)
theorem wc_test {ts : List Te} {t : Te} (h : t ∈ ts) : wt t ≤ wc ts := sum_part (List.mem_map_of_mem h)
theorem wc_len (ts : List Te) : ts.length ≤ wc ts := by
  induction ts with
  | nil => simp
  | cons t l ih => simp only [wc, List.map_cons, List.sum_cons, List.length_cons, wt] at ih ⊢; omega
theorem wss_len (r : List Stp) : r.length ≤ wss r := by
  induction r with
  | nil => simp
  | cons t l ih => simp only [wss, List.map_cons, List.sum_cons, List.length_cons, ws] at ih ⊢; omega
theorem wx_len (x : List (List Stp)) : x.length ≤ wx x := by
  induction x with
  | nil => simp
  | cons t l ih => simp only [wx, List.map_cons, List.sum_cons, List.length_cons, wr] at ih ⊢; omega
theorem sum_take : ∀ (l : List Nat) (k : Nat), (l.take k).sum ≤ l.sum
  | [], k => by simp
  | a :: l, 0 => by simp
  | a :: l, k + 1 => by
    have := sum_take l k
    simp only [List.take_succ_cons, List.sum_cons]
    omega
theorem wc_take (ts : List Te) (k : Nat) : wc (ts.take k) ≤ wc ts := by
  unfold wc
  rw [List.map_take]
  exact sum_take _ _
theorem wss_take (r : List Stp) (k : Nat) : wss (r.take k) ≤ wss r := by
  unfold wss
  rw [List.map_take]
  exact sum_take _ _
theorem wx_take (x : List (List Stp)) (k : Nat) : wx (x.take k) ≤ wx x := by
  unfold wx
  rw [List.map_take]
  exact sum_take _ _
end Go.Proofs.YtaacikjoafobfaaGreatDoor.Sl
