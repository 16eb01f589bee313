/-
  A selector, read byte by byte: plain mathematics of no program.
-/
import Derived.PlainAid
import Derived.Lib.Strings
import Derived.Lib.Hide
namespace Go.Proofs.Ytcfkcifbojckcaa.Sl
set_option linter.unusedVariables false
set_option linter.unusedSimpArgs false
/-- A test; a step; what the reader is in. -/
structure Te where
  k : Int
  n : List UInt8
  v : List UInt8
structure Stp where
  c : List Te
  child : Bool
inductive Mo where
  | comp | tests | apart | brk
  | nm (k : Int) (b : List UInt8)
  | bn (b : List UInt8)
  | ba (n : List UInt8)
  | be (n : List UInt8)
  | bv (n b : List UInt8)
  | bs (n b : List UInt8)
  | bz (n v : List UInt8)
structure St where
  rows : List (List Stp)
  row : List Stp
  ts : List Te
  child : Bool
  m : Mo
def isB (c : UInt8) : Bool := c == 9 || c == 10 || c == 12 || c == 13 || c == 32
def isL (c : UInt8) : Bool := (decide (65 ≤ c) && decide (c ≤ 90)) || (decide (97 ≤ c) && decide (c ≤ 122))
def isN (c : UInt8) : Bool := isL c || (decide (48 ≤ c) && decide (c ≤ 57)) || c == 45 || c == 95
def start : St := ⟨[], [], [], false, .comp⟩
def St.push (s : St) (ch : Bool) : St := ⟨s.rows, s.row ++ [⟨s.ts, s.child⟩], [], ch, .comp⟩
def St.pushRow (s : St) : St := ⟨s.rows ++ [s.row ++ [⟨s.ts, s.child⟩]], [], [], false, .comp⟩
def St.to (s : St) (m : Mo) : St := ⟨s.rows, s.row, s.ts, s.child, m⟩
def St.add (s : St) (t : Te) : St := ⟨s.rows, s.row, s.ts ++ [t], s.child, .tests⟩
/-- Behind a whole test. -/
def tstep (s : St) (c : UInt8) : Option St :=
  if c = 35 then some (s.to (.nm 2 [])) else if c = 46 then some (s.to (.nm 3 [])) else if c = 91 then some (s.to .brk)
  else if isB c then some (s.to .apart) else if c = 62 then some (s.push true) else if c = 44 then some s.pushRow else none
/-- Where a compound must begin. -/
def cstep (s : St) (c : UInt8) : Option St :=
  if isB c then some (s.to .comp) else if c = 42 then some (s.to .tests) else if isL c then some (s.to (.nm 1 [c]))
  else if c = 35 then some (s.to (.nm 2 [])) else if c = 46 then some (s.to (.nm 3 [])) else if c = 91 then some (s.to .brk) else none
def baStep (s : St) (n : List UInt8) (c : UInt8) : Option St :=
  if isB c then some (s.to (.ba n)) else if c = 93 then some (s.add ⟨4, n, []⟩) else if c = 61 then some (s.to (.be n)) else none
def bzStep (s : St) (n v : List UInt8) (c : UInt8) : Option St :=
  if isB c then some (s.to (.bz n v)) else if c = 93 then some (s.add ⟨5, n, v⟩) else none
def step (s : St) (c : UInt8) : Option St :=
  match s.m with
  | .comp => cstep s c
  | .tests => tstep s c
  | .nm k b => if b = [] then (if isL c then some (s.to (.nm k [c])) else none) else if isN c then (if b.length < 20 then some (s.to (.nm k (b ++ [c]))) else none) else tstep (s.add ⟨k, b, []⟩) c
  | .apart => if isB c then some s else if c = 62 then some (s.push true) else if c = 44 then some s.pushRow else cstep (s.push false) c
  | .brk => if isB c then some s else if isL c then some (s.to (.bn [c])) else none
  | .bn b => if isN c then (if b.length < 20 then some (s.to (.bn (b ++ [c]))) else none) else baStep s b c
  | .ba n => baStep s n c
  | .be n => if isB c then some s else if c = 34 then some (s.to (.bs n [])) else if isL c then some (s.to (.bv n [c])) else none
  | .bv n b => if isN c then (if b.length < 20 then some (s.to (.bv n (b ++ [c]))) else none) else bzStep s n b c
  | .bs n b => if c = 34 then some (s.to (.bz n b)) else if b.length < 60 then some (s.to (.bs n (b ++ [c]))) else none
  | .bz n v => bzStep s n v c
def fin (s : St) : Option (List (List Stp)) :=
  match s.m with
  | .tests => some (s.rows ++ [s.row ++ [⟨s.ts, s.child⟩]])
  | .apart => some (s.rows ++ [s.row ++ [⟨s.ts, s.child⟩]])
  | .nm k b => if b = [] then none else some (s.rows ++ [s.row ++ [⟨s.ts ++ [⟨k, b, []⟩], s.child⟩]])
  | _ => none
/-- Byte by byte; or the place of the first one that can not stand there. -/
def run (s : St) (i : Nat) : List UInt8 → Except Nat St
  | [] => .ok s
  | c :: l => match step s c with
    | none => .error i
    | some s' => run s' (i + 1) l
def ends (i : Nat) (s : St) : Except Nat (List (List Stp)) := match fin s with
  | none => .error i
  | some x => .ok x
/-- What Parse tells. -/
def parse (l : List UInt8) : Except Nat (List (List Stp)) := match run start 0 l with
  | .error i => .error i
  | .ok s => ends l.length s

theorem run_append (s : St) (i : Nat) (a b : List UInt8) : run s i (a ++ b) = match run s i a with | .error k => .error k | .ok s' => run s' (i + a.length) b := by
  induction a generalizing s i with
  | nil => simp [run]
  | cons c a ih =>
    rw [List.cons_append, run, run]
    cases step s c with
    | none => rfl
    | some s' => simp only []; rw [ih, List.length_cons, show i + (a.length + 1) = i + 1 + a.length by omega]
theorem run_le {s : St} {i k : Nat} {l : List UInt8} (h : run s i l = .error k) : i ≤ k ∧ k < i + l.length := by
  induction l generalizing s i with
  | nil => cases h
  | cons c l ih =>
    rw [run] at h
    cases hs : step s c with
    | none => rw [hs] at h; cases h; simp
    | some s' => rw [hs] at h; have := ih h; simp only [List.length_cons]; omega
theorem run_shift (s : St) (i j : Nat) (l : List UInt8) : run s (i + j) l = match run s i l with | .error k => .error (k + j) | .ok s' => .ok s' := by
  induction l generalizing s i with
  | nil => rfl
  | cons c l ih =>
    rw [run, run]
    cases step s c with
    | none => rfl
    | some s' => simp only []; rw [← ih, show i + j + 1 = i + 1 + j by omega]
/-! ### rows ahead -/
def St.pre (R : List (List Stp)) (s : St) : St := ⟨R ++ s.rows, s.row, s.ts, s.child, s.m⟩
theorem step_pre (R : List (List Stp)) (s : St) (c : UInt8) : step (s.pre R) c = (step s c).map (St.pre R) := by
  obtain ⟨rows, row, ts, ch, m⟩ := s
  cases m <;> simp only [step, St.pre, cstep, tstep, baStep, bzStep, St.to, St.add, St.push, St.pushRow] <;> (repeat' split) <;> simp [St.pre]
theorem run_pre (R : List (List Stp)) (s : St) (i : Nat) (l : List UInt8) : run (s.pre R) i l = match run s i l with | .error k => .error k | .ok s' => .ok (s'.pre R) := by
  induction l generalizing s i with
  | nil => rfl
  | cons c l ih =>
    rw [run, run, step_pre]
    cases step s c with
    | none => rfl
    | some s' => exact ih _ _
theorem fin_pre (R : List (List Stp)) (s : St) : fin (s.pre R) = (fin s).map (R ++ ·) := by
  obtain ⟨rows, row, ts, ch, m⟩ := s
  cases m <;> simp only [fin, St.pre] <;> (repeat' split) <;> simp
theorem comma {s : St} {x : List (List Stp)} (h : fin s = some x) : step s 44 = some (start.pre x) := by
  obtain ⟨rows, row, ts, ch, m⟩ := s
  cases m <;> simp only [fin] at h <;> first | (cases h; done) | skip
  · cases h; simp [step, tstep, isB, St.pushRow, St.pre, start]
  · cases h; simp [step, tstep, isB, St.pushRow, St.pre, start]
  · split at h
    · cases h
    rename_i hb
    cases h
    simp [step, hb, isN, isL, tstep, isB, St.pushRow, St.pre, start, St.add]
/-- Two texts with a comma between. -/
theorem parse_comma (s t : List UInt8) : (∀ i, parse s = .error i → ∀ k, parse (s ++ 44 :: t) = .error k → i ≤ k) ∧
    (∀ a, parse s = .ok a → parse (s ++ 44 :: t) = match parse t with | .error k => .error (s.length + 1 + k) | .ok b => .ok (a ++ b)) := by
  constructor
  · intro i hi k hk
    unfold parse at hi hk
    rw [run_append] at hk
    cases hr : run start 0 s with
    | error j => rw [hr] at hi hk; cases hi; cases hk; exact Nat.le_refl _
    | ok s' =>
      rw [hr] at hi hk
      simp only [] at hi hk
      have hi' : i = s.length := by
        unfold ends at hi
        cases hf : fin s' with
        | none => rw [hf] at hi; cases hi; rfl
        | some x => rw [hf] at hi; cases hi
      subst hi'
      cases h2 : run s' (0 + s.length) (44 :: t) with
      | error j => rw [h2] at hk; cases hk; have := (run_le h2).1; omega
      | ok s2 =>
        rw [h2] at hk
        simp only [] at hk
        unfold ends at hk
        cases hf : fin s2 with
        | none => rw [hf] at hk; cases hk; simp
        | some x => rw [hf] at hk; cases hk
  · intro a ha
    unfold parse at ha ⊢
    rw [run_append]
    cases hr : run start 0 s with
    | error j => rw [hr] at ha; cases ha
    | ok s' =>
      rw [hr] at ha
      simp only [] at ha ⊢
      unfold ends at ha
      cases hf : fin s' with
      | none => rw [hf] at ha; cases ha
      | some x =>
        rw [hf] at ha
        cases ha
        rw [run, comma hf]
        simp only []
        rw [run_pre, show 0 + s.length + 1 = 0 + (s.length + 1) by omega, run_shift]
        cases run start 0 t with
        | error k => simp; omega
        | ok s2 =>
          simp only [ends, fin_pre, List.length_append, List.length_cons]
          cases fin s2 with
          | none => simp; omega
          | some y => simp
/-! ### names -/
theorem run_nm (s : St) (k : Int) : ∀ (l b : List UInt8) (i : Nat), s.m = .nm k b → b ≠ [] → b.length + l.length ≤ 20 → (∀ c ∈ l, isN c = true) → run s i l = .ok (s.to (.nm k (b ++ l))) := by
  intro l
  induction l generalizing s with
  | nil => intro b i hm hb hl hc; obtain ⟨rows, row, ts, ch, m⟩ := s; cases hm; simp [run, St.to]
  | cons c l ih =>
    intro b i hm hb hl hc
    simp only [List.length_cons] at hl
    have : step s c = some (s.to (.nm k (b ++ [c]))) := by
      unfold step
      rw [hm]
      simp only []
      rw [if_neg hb, if_pos (hc c (by simp)), if_pos (by omega)]
    rw [run, this]
    simp only []
    rw [ih _ (b ++ [c]) (i + 1) rfl (by simp) (by simp; omega) (fun x hx => hc x (by simp [hx]))]
    simp [St.to]
def nameOk : List UInt8 → Bool
  | [] => false
  | c :: l => isL c && l.all isN && decide (l.length < 20)
theorem run_name {s : St} {k : Int} (hm : s.m = .nm k []) {n : List UInt8} (h : nameOk n = true) (i : Nat) : run s i n = .ok (s.to (.nm k n)) := by
  cases n with
  | nil => cases h
  | cons c l =>
    simp only [nameOk, Bool.and_eq_true, decide_eq_true_eq] at h
    have : step s c = some (s.to (.nm k [c])) := by
      unfold step
      rw [hm]
      simp [h.1.1]
    rw [run, this]
    simp only []
    rw [run_nm _ k l [c] _ rfl (by simp) (by simp; omega) (fun x hx => List.all_eq_true.1 h.1.2 x hx)]
    rfl
theorem parse_name {n : List UInt8} (h : nameOk n = true) : parse n = .ok [[⟨[⟨1, n, []⟩], false⟩]] ∧ parse (35 :: n) = .ok [[⟨[⟨2, n, []⟩], false⟩]] ∧ parse (46 :: n) = .ok [[⟨[⟨3, n, []⟩], false⟩]] := by
  have hne : n ≠ [] := by rintro rfl; cases h
  refine ⟨?_, ?_, ?_⟩
  · cases n with
    | nil => cases h
    | cons c l =>
      have h' := h
      simp only [nameOk, Bool.and_eq_true, decide_eq_true_eq] at h'
      have hc : step start c = some (start.to (.nm 1 [c])) := by
        have h1 : isB c = false := by
          have := h'.1.1
          revert this
          simp only [isL, isB, Bool.or_eq_true, Bool.and_eq_true, decide_eq_true_eq, Bool.or_eq_false_iff, beq_eq_false_iff_ne, UInt8.le_iff_toNat_le, ne_eq, ← UInt8.toNat_inj]
          intro h
          simp at h ⊢
          omega
        have h2 : c ≠ 42 := by
          rintro rfl
          exact absurd h'.1.1 (by decide)
        simp [step, start, cstep, h1, h2, h'.1.1]
      unfold parse
      rw [run, hc]
      simp only []
      rw [run_nm _ 1 l [c] _ rfl (by simp) (by simp; omega) (fun x hx => List.all_eq_true.1 h'.1.2 x hx)]
      simp [ends, fin, start, St.to]
  · unfold parse
    rw [run, show step start 35 = some (start.to (.nm 2 [])) by rfl]
    simp only []
    rw [run_name rfl h]
    simp [ends, fin, start, St.to, hne]
  · unfold parse
    rw [run, show step start 46 = some (start.to (.nm 3 [])) by rfl]
    simp only []
    rw [run_name rfl h]
    simp [ends, fin, start, St.to, hne]
/-! ### a row behind another -/
def setF (ch : Bool) : List Stp → List Stp
  | [] => []
  | x :: l => ⟨x.c, ch⟩ :: l
/-- As s, but behind the steps R, the first one's Child said. -/
def St.beh (R : List Stp) (ch : Bool) (s : St) : St := ⟨s.rows, R ++ setF ch s.row, s.ts, if s.row = [] then ch else s.child, s.m⟩
theorem setF_snoc (ch : Bool) (l : List Stp) (x : Stp) : setF ch (l ++ [x]) = if l = [] then [⟨x.c, ch⟩] else setF ch l ++ [x] := by
  cases l <;> simp [setF]
theorem beh_push (R : List Stp) (ch c2 : Bool) (s : St) : (s.push c2).beh R ch = (s.beh R ch).push c2 := by
  obtain ⟨rows, row, ts, c, m⟩ := s
  simp only [St.push, St.beh]
  cases row <;> simp [setF]
theorem step_rows {s s' : St} {c : UInt8} (h : step s c = some s') : s.rows.length ≤ s'.rows.length ∧ (s'.rows.length = s.rows.length → s'.rows = s.rows ∧ ∀ R ch, step (s.beh R ch) c = some (s'.beh R ch)) := by
  obtain ⟨rows, row, ts, cc, m⟩ := s
  cases m <;> simp only [step, cstep, tstep, baStep, bzStep] at h ⊢ <;> (repeat' split at h) <;>
    first
    | (cases h; done)
    | (cases h
       refine ⟨by simp [St.to, St.add, St.push, St.pushRow], fun hl => ⟨by first | rfl | (simp [St.to, St.add, St.push, St.pushRow] at hl), fun R ch => ?_⟩⟩
       first
       | (exfalso; simp [St.to, St.add, St.push, St.pushRow] at hl; done)
       | (simp_all [St.beh, St.to, St.add, ← beh_push]; done)
       | (simp_all [St.beh, St.to, St.add, St.push, setF_snoc]; done)
       | (cases row <;> simp_all [St.beh, St.to, St.add, St.push, setF]; done))
theorem run_rows {s s' : St} {i : Nat} {l : List UInt8} (h : run s i l = .ok s') : s.rows.length ≤ s'.rows.length ∧ (s'.rows.length = s.rows.length → s'.rows = s.rows ∧ ∀ R ch, run (s.beh R ch) i l = .ok (s'.beh R ch)) := by
  induction l generalizing s i with
  | nil => cases h; exact ⟨Nat.le_refl _, fun _ => ⟨rfl, fun _ _ => rfl⟩⟩
  | cons c l ih =>
    rw [run] at h
    cases hs : step s c with
    | none => rw [hs] at h; cases h
    | some s1 =>
      rw [hs] at h
      obtain ⟨h1, h2⟩ := step_rows hs
      obtain ⟨h3, h4⟩ := ih h
      refine ⟨by omega, fun he => ?_⟩
      obtain ⟨e1, f1⟩ := h2 (by omega)
      obtain ⟨e2, f2⟩ := h4 (by omega)
      exact ⟨by rw [e2, e1], fun R ch => by rw [run, f1 R ch]; exact f2 R ch⟩
theorem fin_beh {s : St} {x : List (List Stp)} (h : fin s = some x) (R : List Stp) (ch : Bool) : ∃ r, r ≠ [] ∧ x = s.rows ++ [r] ∧ fin (s.beh R ch) = some (s.rows ++ [R ++ setF ch r]) := by
  obtain ⟨rows, row, ts, cc, m⟩ := s
  cases m <;> simp only [fin, St.beh] at h ⊢ <;> (repeat' split at h) <;>
    first
    | (cases h; done)
    | (cases h
       refine ⟨_, by simp, rfl, ?_⟩
       simp_all [setF_snoc]
       first
       | done
       | (cases row <;> simp_all [setF]; done))
/-- What stands behind a text that is whole. -/
theorem behind {s : St} {x : List (List Stp)} (h : fin s = some x) : ∃ T, x = s.rows ++ [s.row ++ [⟨T, s.child⟩]] ∧ step s 32 = some ⟨s.rows, s.row, T, s.child, .apart⟩ ∧ step s 62 = some ⟨s.rows, s.row ++ [⟨T, s.child⟩], [], true, .comp⟩ := by
  obtain ⟨rows, row, ts, cc, m⟩ := s
  cases m <;> simp only [fin] at h <;> (repeat' split at h) <;>
    first
    | (cases h; done)
    | (cases h
       refine ⟨_, rfl, ?_, ?_⟩ <;> simp_all [step, tstep, isB, isN, isL, St.to, St.push, St.add])
theorem apart_run (R : List Stp) (P : St) (hm : P.m = .apart) (hr : P.rows = []) (hR : R = P.row ++ [⟨P.ts, P.child⟩]) : ∀ (t : List UInt8) (i : Nat) (s' : St) (b : List Stp), run start i t = .ok s' → fin s' = some [b] → run P i t = .ok (s'.beh R false) := by
  intro t
  induction t with
  | nil => intro i s' b h hf; cases h; cases hf
  | cons c t ih =>
    intro i s' b h hf
    rw [run] at h
    cases hs : step start c with
    | none => rw [hs] at h; cases h
    | some s1 =>
      rw [hs] at h
      simp only [] at h
      by_cases hb : isB c = true
      · have e1 : step start c = some start := by simp [step, start, cstep, hb, St.to]
        have e2 : step P c = some P := by simp [step, hm, hb]
        rw [e1] at hs
        cases hs
        rw [run, e2]
        exact ih _ _ _ h hf
      · have hb : isB c = false := by simpa using hb
        have hne : c ≠ 62 ∧ c ≠ 44 := by
          constructor <;> (rintro rfl; exact absurd hs (by simp [step, start, cstep, isB, isL]))
        have e0 : P.push false = start.beh R false := by
          rw [hR]
          simp [St.push, St.beh, start, hr, setF]
        have hl : s'.rows.length = s1.rows.length ∧ s1.rows = [] := by
          obtain ⟨r, -, hx, -⟩ := fin_beh hf [] false
          have h1 := (run_rows h).1
          have h2 := (step_rows hs).1
          have h3 : s'.rows = [] := by
            cases hr : s'.rows with
            | nil => rfl
            | cons a l => rw [hr] at hx; simp at hx
          rw [h3] at h1 ⊢
          have h4 : s1.rows = [] := List.eq_nil_of_length_eq_zero (by simpa using h1)
          exact ⟨by rw [h4], h4⟩
        have e1 : step P c = some (s1.beh R false) := by
          have : step P c = step (start.beh R false) c := by
            rw [show step P c = cstep (P.push false) c by simp [step, hm, hb, hne], e0]
            rfl
          rw [this]
          exact ((step_rows hs).2 (by rw [hl.2]; rfl)).2 R false
        rw [run, e1]
        exact ((run_rows h).2 hl.1).2 R false
/-- Two rows, one behind the other. -/
theorem parse_behind {s t : List UInt8} {a b : List Stp} (hs : parse s = .ok [a]) (ht : parse t = .ok [b]) (ch : Bool) : parse (s ++ (if ch then 62 else 32) :: t) = .ok [a ++ setF ch b] ∧ b ≠ [] := by
  unfold parse at hs ht ⊢
  cases h1 : run start 0 s with
  | error k => rw [h1] at hs; cases hs
  | ok s1 =>
    rw [h1] at hs
    simp only [ends] at hs
    cases h2 : fin s1 with
    | none => rw [h2] at hs; cases hs
    | some x =>
      rw [h2] at hs
      simp only [Except.ok.injEq] at hs
      subst hs
      cases h3 : run start 0 t with
      | error k => rw [h3] at ht; cases ht
      | ok s2 =>
        rw [h3] at ht
        simp only [ends] at ht
        cases h4 : fin s2 with
        | none => rw [h4] at ht; cases ht
        | some y =>
          rw [h4] at ht
          simp only [Except.ok.injEq] at ht
          subst ht
          obtain ⟨T, e1, e2, e3⟩ := behind h2
          have hr : s1.rows = [] ∧ a = s1.row ++ [⟨T, s1.child⟩] := by
            cases hr : s1.rows with
            | nil => rw [hr] at e1; simp at e1; exact ⟨rfl, e1⟩
            | cons u l => rw [hr] at e1; simp at e1
          obtain ⟨r, hrn, hx, hf⟩ := fin_beh h4 a ch
          have hr2 : s2.rows = [] ∧ b = r := by
            cases hr : s2.rows with
            | nil => rw [hr] at hx; simp at hx; exact ⟨rfl, hx⟩
            | cons u l => rw [hr] at hx; simp at hx
          obtain ⟨hr2, rfl⟩ := hr2
          rw [hr2] at hf
          have h5 : run start (0 + s.length + 1) t = .ok s2 := by
            have := run_shift start 0 (s.length + 1) t
            rw [h3] at this
            rw [show 0 + s.length + 1 = 0 + (s.length + 1) by omega]
            exact this
          rw [run_append, h1]
          simp only []
          rw [run]
          refine ⟨?_, hrn⟩
          cases ch with
          | false =>
            rw [if_neg (by simp), e2]
            simp only []
            rw [apart_run a ⟨s1.rows, s1.row, T, s1.child, .apart⟩ rfl hr.1 hr.2 t _ s2 _ h5 h4]
            simp only [ends]
            rw [hf]
            rfl
          | true =>
            rw [if_pos rfl, e3]
            have e0 : (⟨s1.rows, s1.row ++ [⟨T, s1.child⟩], [], true, .comp⟩ : St) = start.beh a true := by
              rw [hr.2]
              simp [St.beh, start, hr.1, setF]
            simp only []
            rw [e0, ((run_rows h5).2 (by rw [hr2]; rfl)).2 a true]
            simp only [ends]
            rw [hf]
            rfl
end Go.Proofs.Ytcfkcifbojckcaa.Sl
