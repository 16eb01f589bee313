/-
  A selector, read byte by byte: plain mathematics of no program.
  A selector, printed, and read again: plain mathematics of no program.
  What is parsed may be printed: plain mathematics of no program.
  How long a selector's text may be: plain mathematics of no program.
-/
import Derived.PlainAid
import Derived.Lib.Strings
import Derived.Lib.Hide
namespace Go.Proofs.YtaacikjoafobfaaGreatDoor.Sl
set_option linter.unusedVariables false
set_option linter.unusedSimpArgs false
/-- A test; a step; what the reader is in. -/
structure Te where
  k : Int
  n : List UInt8
  v : List UInt8
structure Stp where
  c : List Te
  child : Bool
inductive Mo where
  | comp | tests | apart | brk
  | nm (k : Int) (b : List UInt8)
  | bn (b : List UInt8)
  | ba (n : List UInt8)
  | be (n : List UInt8)
  | bv (n b : List UInt8)
  | bs (n b : List UInt8)
  | bz (n v : List UInt8)
structure St where
  rows : List (List Stp)
  row : List Stp
  ts : List Te
  child : Bool
  m : Mo
def isB (c : UInt8) : Bool := c == 9 || c == 10 || c == 12 || c == 13 || c == 32
def isL (c : UInt8) : Bool := (decide (65 ≤ c) && decide (c ≤ 90)) || (decide (97 ≤ c) && decide (c ≤ 122))
def isN (c : UInt8) : Bool := isL c || (decide (48 ≤ c) && decide (c ≤ 57)) || c == 45 || c == 95
def start : St := ⟨[], [], [], false, .comp⟩
def St.push (s : St) (ch : Bool) : St := ⟨s.rows, s.row ++ [⟨s.ts, s.child⟩], [], ch, .comp⟩
def St.pushRow (s : St) : St := ⟨s.rows ++ [s.row ++ [⟨s.ts, s.child⟩]], [], [], false, .comp⟩
def St.to (s : St) (m : Mo) : St := ⟨s.rows, s.row, s.ts, s.child, m⟩
def St.add (s : St) (t : Te) : St := ⟨s.rows, s.row, s.ts ++ [t], s.child, .tests⟩
/-- Behind a whole test. -/
def tstep (s : St) (c : UInt8) : Option St :=
  if c = 35 then some (s.to (.nm 2 [])) else if c = 46 then some (s.to (.nm 3 [])) else if c = 91 then some (s.to .brk)
  else if isB c then some (s.to .apart) else if c = 62 then some (s.push true) else if c = 44 then some s.pushRow else none
/-- Where a compound must begin. -/
def cstep (s : St) (c : UInt8) : Option St :=
  if isB c then some (s.to .comp) else if c = 42 then some (s.to .tests) else if isL c then some (s.to (.nm 1 [c]))
  else if c = 35 then some (s.to (.nm 2 [])) else if c = 46 then some (s.to (.nm 3 [])) else if c = 91 then some (s.to .brk) else none
def baStep (s : St) (n : List UInt8) (c : UInt8) : Option St :=
  if isB c then some (s.to (.ba n)) else if c = 93 then some (s.add ⟨4, n, []⟩) else if c = 61 then some (s.to (.be n)) else none
def bzStep (s : St) (n v : List UInt8) (c : UInt8) : Option St :=
  if isB c then some (s.to (.bz n v)) else if c = 93 then some (s.add ⟨5, n, v⟩) else none
def step (s : St) (c : UInt8) : Option St :=
  match s.m with
  | .comp => cstep s c
  | .tests => tstep s c
  | .nm k b => if b = [] then (if isL c then some (s.to (.nm k [c])) else none) else if isN c then (if b.length < 20 then some (s.to (.nm k (b ++ [c]))) else none) else tstep (s.add ⟨k, b, []⟩) c
  | .apart => if isB c then some s else if c = 62 then some (s.push true) else if c = 44 then some s.pushRow else cstep (s.push false) c
  | .brk => if isB c then some s else if isL c then some (s.to (.bn [c])) else none
  | .bn b => if isN c then (if b.length < 20 then some (s.to (.bn (b ++ [c]))) else none) else baStep s b c
  | .ba n => baStep s n c
  | .be n => if isB c then some s else if c = 34 then some (s.to (.bs n [])) else if isL c then some (s.to (.bv n [c])) else none
  | .bv n b => if isN c then (if b.length < 20 then some (s.to (.bv n (b ++ [c]))) else none) else bzStep s n b c
  | .bs n b => if c = 34 then some (s.to (.bz n b)) else if b.length < 60 then some (s.to (.bs n (b ++ [c]))) else none
  | .bz n v => bzStep s n v c
def fin (s : St) : Option (List (List Stp)) :=
  match s.m with
  | .tests => some (s.rows ++ [s.row ++ [⟨s.ts, s.child⟩]])
  | .apart => some (s.rows ++ [s.row ++ [⟨s.ts, s.child⟩]])
  | .nm k b => if b = [] then none else some (s.rows ++ [s.row ++ [⟨s.ts ++ [⟨k, b, []⟩], s.child⟩]])
  | _ => none
/-- Byte by byte; or the place of the first one that can not stand there. -/
def run (s : St) (i : Nat) : List UInt8 → Except Nat St
  | [] => .ok s
  | c :: l => match step s c with
    | none => .error i
    | some s' => run s' (i + 1) l
def ends (i : Nat) (s : St) : Except Nat (List (List Stp)) := match fin s with
  | none => .error i
  | some x => .ok x
/-- What Parse tells. -/
def parse (l : List UInt8) : Except Nat (List (List Stp)) := match run start 0 l with
  | .error i => .error i
  | .ok s => ends l.length s

theorem run_append (s : St) (i : Nat) (a b : List UInt8) : run s i (a ++ b) = match run s i a with | .error k => .error k | .ok s' => run s' (i + a.length) b := by
  induction a generalizing s i with
  | nil => simp [run]
  | cons c a ih =>
    rw [List.cons_append, run, run]
    cases step s c with
    | none => rfl
    | some s' => simp only []; rw [ih, List.length_cons, show i + (a.length + 1) = i + 1 + a.length by omega]
/-! ### rows ahead -/
def St.pre (R : List (List Stp)) (s : St) : St := ⟨R ++ s.rows, s.row, s.ts, s.child, s.m⟩
/-! ### names -/
def nameOk : List UInt8 → Bool
  | [] => false
  | c :: l => isL c && l.all isN && decide (l.length < 20)
/-! ### a row behind another -/
/-- What stands behind a text that is whole. -/
theorem behind {s : St} {x : List (List Stp)} (h : fin s = some x) : ∃ T, x = s.rows ++ [s.row ++ [⟨T, s.child⟩]] ∧ step s 32 = some ⟨s.rows, s.row, T, s.child, .apart⟩ ∧ step s 62 = some ⟨s.rows, s.row ++ [⟨T, s.child⟩], [], true, .comp⟩ := by
  obtain ⟨rows, row, ts, cc, m⟩ := s
  cases m <;> simp only [fin] at h <;> (repeat' split at h) <;>
    first
    | (cases h; done)
    | (cases h
       refine ⟨_, rfl, ?_, ?_⟩ <;> simp_all [step, tstep, isB, isN, isL, St.to, St.push, St.add])
end Go.Proofs.YtaacikjoafobfaaGreatDoor.Sl
namespace Go.Proofs.YtaacikjoafobfaaGreatDoor.Sl
set_option linter.unusedVariables false
set_option linter.unusedSimpArgs false
/-! ### what is printed -/
def pt (t : Te) : List UInt8 := if t.k = 1 then t.n else if t.k = 2 then 35 :: t.n else if t.k = 3 then 46 :: t.n else if t.k = 4 then 91 :: (t.n ++ [93]) else if t.k = 5 then 91 :: (t.n ++ (61 :: 34 :: (t.v ++ [34, 93]))) else []
def pc (ts : List Te) : List UInt8 := if ts = [] then [42] else ts.flatMap pt
def pm (g : List UInt8) (x : Stp) : List UInt8 := (if x.child then g else [32]) ++ pc x.c
def prow (g : List UInt8) : List Stp → List UInt8
  | [] => []
  | x :: l => pc x.c ++ l.flatMap (pm g)
def valOk (v : List UInt8) : Prop := v.length ≤ 60 ∧ ∀ c ∈ v, c ≠ 34
def teOk (first : Bool) (t : Te) : Prop := ((t.k = 1 ∧ first = true ∨ t.k = 2 ∨ t.k = 3 ∨ t.k = 4) ∧ nameOk t.n = true ∧ t.v = []) ∨ (t.k = 5 ∧ nameOk t.n = true ∧ valOk t.v)
def tsOk : List Te → Prop
  | [] => True
  | t :: l => teOk true t ∧ ∀ x ∈ l, teOk false x
def rowOk : List Stp → Prop
  | [] => False
  | x :: l => x.child = false ∧ tsOk x.c ∧ ∀ y ∈ l, tsOk y.c
/-- Whole up to here: the rows, the row, the tests. -/
def Sd (s : St) (R : List (List Stp)) (r : List Stp) (T : List Te) (ch : Bool) : Prop :=
  s.rows = R ∧ s.row = r ∧ s.child = ch ∧ ((s.m = .tests ∧ s.ts = T) ∨ ∃ k b T0, s.m = .nm k b ∧ b ≠ [] ∧ s.ts = T0 ∧ T = T0 ++ [⟨k, b, []⟩])
theorem Sd.step {s : St} {R : List (List Stp)} {r : List Stp} {T : List Te} {ch : Bool} (h : Sd s R r T ch) {c : UInt8} (hc : isN c = false) : Sl.step s c = tstep ⟨R, r, T, ch, .tests⟩ c := by
  obtain ⟨rows, row, ts, cc, m⟩ := s
  obtain ⟨rfl, rfl, rfl, (⟨rfl, rfl⟩ | ⟨k, b, T0, rfl, hb, rfl, rfl⟩)⟩ := h
  · rfl
  · simp [Sl.step, hb, hc, St.add]
theorem Sd.fin {s : St} {R : List (List Stp)} {r : List Stp} {T : List Te} {ch : Bool} (h : Sd s R r T ch) : Sl.fin s = some (R ++ [r ++ [⟨T, ch⟩]]) := by
  obtain ⟨rows, row, ts, cc, m⟩ := s
  obtain ⟨rfl, rfl, rfl, (⟨rfl, rfl⟩ | ⟨k, b, T0, rfl, hb, rfl, rfl⟩)⟩ := h
  · rfl
  · simp [Sl.fin, hb]
theorem isL_not {c : UInt8} (h : isL c = true) : isB c = false ∧ c ≠ 42 ∧ c ≠ 62 ∧ c ≠ 44 ∧ c ≠ 35 ∧ c ≠ 46 ∧ c ≠ 91 ∧ c ≠ 34 ∧ c ≠ 93 ∧ c ≠ 61 := by
  have hb : isB c = false := by
    revert h
    simp only [isL, isB, Bool.or_eq_true, Bool.and_eq_true, decide_eq_true_eq, Bool.or_eq_false_iff, beq_eq_false_iff_ne, UInt8.le_iff_toNat_le, ne_eq, ← UInt8.toNat_inj]
    intro h
    simp at h ⊢
    omega
  refine ⟨hb, ?_, ?_, ?_, ?_, ?_, ?_, ?_, ?_, ?_⟩ <;> (rintro rfl; exact absurd h (by decide))
theorem isN_not {c : UInt8} (h : isN c = true) : isB c = false ∧ c ≠ 42 ∧ c ≠ 62 ∧ c ≠ 44 ∧ c ≠ 35 ∧ c ≠ 46 ∧ c ≠ 91 ∧ c ≠ 34 ∧ c ≠ 93 ∧ c ≠ 61 := by
  have hb : isB c = false := by
    revert h
    simp only [isN, isL, isB, Bool.or_eq_true, Bool.and_eq_true, decide_eq_true_eq, beq_iff_eq, Bool.or_eq_false_iff, beq_eq_false_iff_ne, UInt8.le_iff_toNat_le, ne_eq, ← UInt8.toNat_inj]
    intro h
    simp at h ⊢
    omega
  refine ⟨hb, ?_, ?_, ?_, ?_, ?_, ?_, ?_, ?_, ?_⟩ <;> (rintro rfl; exact absurd h (by decide))
/-- Where a compound may begin. -/
def Cs (s s0 : St) : Prop := s0.m = .comp ∧ s0.ts = [] ∧ ∀ c, isB c = false → c ≠ 62 → c ≠ 44 → Sl.step s c = cstep s0 c
theorem Cs.comp {s : St} (hm : s.m = .comp) (ht : s.ts = []) : Cs s s := ⟨hm, ht, fun c _ _ _ => by simp [Sl.step, hm]⟩
theorem Cs.apart {s : St} (hm : s.m = .apart) : Cs s (s.push false) := ⟨rfl, rfl, fun c h1 h2 h3 => by simp [Sl.step, hm, h1, h2, h3]⟩
/-! ### what stands between -/
def Bl (l : List UInt8) : Prop := ∀ c ∈ l, isB c = true
theorem isB_not {c : UInt8} (h : isB c = true) : isN c = false ∧ c ≠ 35 ∧ c ≠ 46 ∧ c ≠ 91 := by
  refine ⟨?_, ?_, ?_, ?_⟩
  · cases hn : isN c with
    | false => rfl
    | true => rw [(isN_not hn).1] at h; cases h
  all_goals (rintro rfl; exact absurd h (by decide))
theorem run_bl {s : St} (hm : s.m = .comp ∨ s.m = .apart) : ∀ (l : List UInt8) (i : Nat), Bl l → run s i l = .ok s := by
  intro l
  induction l with
  | nil => intro i h; rfl
  | cons c l ih =>
    intro i h
    have hb := h c (by simp)
    have : Sl.step s c = some s := by
      obtain ⟨rows, row, ts, ch, m⟩ := s
      rcases hm with rfl | rfl
      · simp [Sl.step, cstep, hb, St.to]
      · simp [Sl.step, hb]
    rw [run, this]
    exact ih _ (fun x hx => h x (by simp [hx]))
theorem Sd.bl {s : St} {R : List (List Stp)} {r : List Stp} {T : List Te} {ch : Bool} (h : Sd s R r T ch) {l : List UInt8} (hl : Bl l) (hn : l ≠ []) (i : Nat) : run s i l = .ok ⟨R, r, T, ch, .apart⟩ := by
  cases l with
  | nil => exact absurd rfl hn
  | cons c l =>
    have hb := hl c (by simp)
    obtain ⟨n1, n2, n3, n4⟩ := isB_not hb
    rw [run, h.step n1, show tstep ⟨R, r, T, ch, .tests⟩ c = some ⟨R, r, T, ch, .apart⟩ by simp [tstep, n2, n3, n4, hb, St.to]]
    exact run_bl (.inr rfl) l _ (fun x hx => hl x (by simp [hx]))
end Go.Proofs.YtaacikjoafobfaaGreatDoor.Sl
namespace Go.Proofs.YtaacikjoafobfaaGreatDoor.Sl
set_option linter.unusedVariables false
set_option linter.unusedSimpArgs false
/-! ### what is parsed may be printed -/
theorem tsOk_add {ts : List Te} {t : Te} (h : tsOk ts) (ht : teOk false t) : tsOk (ts ++ [t]) := by
  have h1 : teOk true t := by
    rcases ht with h | h
    · refine .inl ⟨?_, h.2⟩
      rcases h.1 with h | h
      · exact absurd h.2 (by simp)
      · exact .inr h
    · exact .inr h
  cases ts with
  | nil => exact ⟨h1, by simp⟩
  | cons a l =>
    refine ⟨h.1, fun x hx => ?_⟩
    have hx : x ∈ l ++ [t] := hx
    rw [List.mem_append, List.mem_singleton] at hx
    rcases hx with hx | rfl
    · exact h.2 x hx
    · exact ht
structure W3 (s : St) : Prop where
  rows : ∀ r ∈ s.rows, rowOk r
  first : s.row = [] → s.child = false
  head : ∀ x l, s.row = x :: l → x.child = false
  row : ∀ x ∈ s.row, tsOk x.c
  ts : tsOk s.ts
def md (s : St) : Prop :=
  match s.m with
  | .comp => s.ts = []
  | .nm k b => (b = [] → k = 2 ∨ k = 3) ∧ (b ≠ [] → nameOk b = true ∧ (k = 1 ∧ s.ts = [] ∨ k = 2 ∨ k = 3))
  | .bn b => nameOk b = true
  | .ba n => nameOk n = true
  | .be n => nameOk n = true
  | .bv n b => nameOk n = true ∧ nameOk b = true
  | .bs n b => nameOk n = true ∧ b.length ≤ 60 ∧ ∀ c ∈ b, c ≠ 34
  | .bz n v => nameOk n = true ∧ valOk v
  | _ => True
theorem isL_N {c : UInt8} (h : isL c = true) : isN c = true := by simp [isN, h]
theorem W3.to {s : St} (h : W3 s) (m : Mo) : W3 (s.to m) := ⟨h.rows, h.first, h.head, h.row, h.ts⟩
theorem W3.add {s : St} (h : W3 s) {t : Te} (ht : teOk false t) : W3 (s.add t) := ⟨h.rows, h.first, h.head, h.row, tsOk_add h.ts ht⟩
theorem W3.rowOk {s : St} (h : W3 s) : rowOk (s.row ++ [⟨s.ts, s.child⟩]) := by
  obtain ⟨rows, row, ts, ch, m⟩ := s
  obtain ⟨h1, h2, h3, h4, h5⟩ := h
  cases row with
  | nil => exact ⟨h2 rfl, h5, by simp⟩
  | cons x l =>
    refine ⟨h3 x l rfl, h4 x (by simp), fun y hy => ?_⟩
    have hy : y ∈ l ++ [⟨ts, ch⟩] := hy
    rw [List.mem_append, List.mem_singleton] at hy
    rcases hy with hy | rfl
    · exact h4 y (by simp [hy])
    · exact h5
theorem W3.push {s : St} (h : W3 s) (ch : Bool) : W3 (s.push ch) := by
  have hr := h.rowOk
  obtain ⟨rows, row, ts, cc, m⟩ := s
  refine ⟨h.rows, fun he => absurd he (by simp [St.push]), fun x l hx => ?_, fun x hx => ?_, trivial⟩
  · simp only [St.push] at hx
    rw [hx] at hr
    exact hr.1
  · simp only [St.push, List.mem_append, List.mem_singleton] at hx
    rcases hx with hx | rfl
    · exact h.row x hx
    · exact h.ts
theorem W3.pushRow {s : St} (h : W3 s) : W3 s.pushRow := by
  refine ⟨fun r hr => ?_, fun _ => rfl, fun x l hx => (by cases hx), fun x hx => (by cases hx), trivial⟩
  simp only [St.pushRow, List.mem_append, List.mem_singleton] at hr
  rcases hr with hr | rfl
  · exact h.rows r hr
  · exact h.rowOk
end Go.Proofs.YtaacikjoafobfaaGreatDoor.Sl
namespace Go.Proofs.YtaacikjoafobfaaGreatDoor.Sl
set_option linter.unusedVariables false
set_option linter.unusedSimpArgs false

def wt (t : Te) : Nat := t.n.length + t.v.length + 6
def wc (ts : List Te) : Nat := (ts.map wt).sum
def ws (x : Stp) : Nat := 4 + wc x.c
def wss (r : List Stp) : Nat := (r.map ws).sum
def wr (r : List Stp) : Nat := 2 + wss r
def wx (x : List (List Stp)) : Nat := (x.map wr).sum
theorem wc_snoc (ts : List Te) (t : Te) : wc (ts ++ [t]) = wc ts + wt t := by simp [wc]
theorem wss_snoc (r : List Stp) (x : Stp) : wss (r ++ [x]) = wss r + ws x := by simp [wss]
theorem wx_snoc (x : List (List Stp)) (r : List Stp) : wx (x ++ [r]) = wx x + wr r := by simp [wx]
/-- What is begun. -/
def pend : Mo → Nat
  | .nm _ b => b.length + 6
  | .brk => 6
  | .bn b => b.length + 6
  | .ba n => n.length + 6
  | .be n => n.length + 6
  | .bv n b => n.length + b.length + 6
  | .bs n b => n.length + b.length + 6
  | .bz n v => n.length + v.length + 6
  | _ => 0
def wst (s : St) : Nat := wx s.rows + wss s.row + wc s.ts + pend s.m
theorem wst_step {s s' : St} {c : UInt8} (h : step s c = some s') : wst s' ≤ wst s + 11 := by
  obtain ⟨rows, row, ts, ch, m⟩ := s
  have e1 : wc [] = 0 := rfl
  have e2 : wss [] = 0 := rfl
  cases m <;> simp only [step, cstep, tstep, baStep, bzStep] at h <;> (repeat' split at h) <;>
    first
    | (cases h; done)
    | (cases h
       simp only [wst, pend, St.to, St.add, St.push, St.pushRow, wc_snoc, wss_snoc, wx_snoc, wr, ws, wt, List.length_append, List.length_cons, List.length_nil, e1, e2]
       omega)
theorem wst_run {s s' : St} {i : Nat} {l : List UInt8} (h : run s i l = .ok s') : wst s' ≤ wst s + 11 * l.length := by
  induction l generalizing s i with
  | nil => cases h; simp
  | cons c l ih =>
    rw [run] at h
    cases hs : step s c with
    | none => rw [hs] at h; cases h
    | some s1 =>
      rw [hs] at h
      have h1 := ih h
      have h2 := wst_step hs
      simp only [List.length_cons]
      omega
theorem wx_fin {s : St} {x : List (List Stp)} (h : fin s = some x) : wx x ≤ wst s + 6 := by
  obtain ⟨rows, row, ts, ch, m⟩ := s
  cases m <;> simp only [fin] at h <;> (repeat' split at h) <;>
    first
    | (cases h; done)
    | (cases h
       simp only [wst, pend, wc_snoc, wss_snoc, wx_snoc, wr, ws, wt, List.length_nil]
       omega)
theorem parse_wx {l : List UInt8} {x : List (List Stp)} (h : parse l = .ok x) : wx x ≤ 11 * l.length + 6 := by
  unfold parse at h
  cases hr : run start 0 l with
  | error k => rw [hr] at h; cases h
  | ok s =>
    rw [hr] at h
    simp only [ends] at h
    cases hf : fin s with
    | none => rw [hf] at h; cases h
    | some y =>
      rw [hf] at h
      cases h
      have h1 := wst_run hr
      have h2 := wx_fin hf
      have e : wst start = 0 := rfl
      omega
theorem sum_part : ∀ {l : List Nat} {a : Nat}, a ∈ l → a ≤ l.sum
  | b :: l, a, h => by
    rw [List.mem_cons] at h
    rw [List.sum_cons]
    rcases h with rfl | h
    · omega
    · have := sum_part h
      omega
theorem wx_row {x : List (List Stp)} {r : List Stp} (h : r ∈ x) : wr r ≤ wx x := sum_part (List.mem_map_of_mem h)
theorem wr_step {r : List Stp} {x : Stp} (h : x ∈ r) : ws x ≤ wss r := sum_part (List.mem_map_of_mem h)
theorem wc_test {ts : List Te} {t : Te} (h : t ∈ ts) : wt t ≤ wc ts := sum_part (List.mem_map_of_mem h)
theorem wc_len (ts : List Te) : ts.length ≤ wc ts := by
  induction ts with
  | nil => simp
  | cons t l ih => simp only [wc, List.map_cons, List.sum_cons, List.length_cons, wt] at ih ⊢; omega
theorem wss_len (r : List Stp) : r.length ≤ wss r := by
  induction r with
  | nil => simp
  | cons t l ih => simp only [wss, List.map_cons, List.sum_cons, List.length_cons, ws] at ih ⊢; omega
theorem wx_len (x : List (List Stp)) : x.length ≤ wx x := by
  induction x with
  | nil => simp
  | cons t l ih => simp only [wx, List.map_cons, List.sum_cons, List.length_cons, wr] at ih ⊢; omega
theorem sum_take : ∀ (l : List Nat) (k : Nat), (l.take k).sum ≤ l.sum
  | [], k => by simp
  | a :: l, 0 => by simp
  | a :: l, k + 1 => by
    have := sum_take l k
    simp only [List.take_succ_cons, List.sum_cons]
    omega
end Go.Proofs.YtaacikjoafobfaaGreatDoor.Sl
