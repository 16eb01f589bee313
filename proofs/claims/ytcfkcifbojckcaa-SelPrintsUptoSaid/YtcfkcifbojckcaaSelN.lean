/-
  A selector, printed, and read again: plain mathematics of no program.
-/
import Derived.Test.YtcfkcifbojckcaaSelM
namespace Go.Proofs.Ytcfkcifbojckcaa.Sl
set_option linter.unusedVariables false
set_option linter.unusedSimpArgs false
/-! ### what is printed -/
def pt (t : Te) : List UInt8 := if t.k = 1 then t.n else if t.k = 2 then 35 :: t.n else if t.k = 3 then 46 :: t.n else if t.k = 4 then 91 :: (t.n ++ [93]) else if t.k = 5 then 91 :: (t.n ++ (61 :: 34 :: (t.v ++ [34, 93]))) else []
def pc (ts : List Te) : List UInt8 := if ts = [] then [42] else ts.flatMap pt
def pm (g : List UInt8) (x : Stp) : List UInt8 := (if x.child then g else [32]) ++ pc x.c
def prow (g : List UInt8) : List Stp → List UInt8
  | [] => []
  | x :: l => pc x.c ++ l.flatMap (pm g)
def psel (h g : List UInt8) : List (List Stp) → List UInt8
  | [] => []
  | r :: l => prow g r ++ l.flatMap (fun r => h ++ prow g r)
def valOk (v : List UInt8) : Prop := v.length ≤ 60 ∧ ∀ c ∈ v, c ≠ 34
def teOk (first : Bool) (t : Te) : Prop := ((t.k = 1 ∧ first = true ∨ t.k = 2 ∨ t.k = 3 ∨ t.k = 4) ∧ nameOk t.n = true ∧ t.v = []) ∨ (t.k = 5 ∧ nameOk t.n = true ∧ valOk t.v)
def tsOk : List Te → Prop
  | [] => True
  | t :: l => teOk true t ∧ ∀ x ∈ l, teOk false x
def rowOk : List Stp → Prop
  | [] => False
  | x :: l => x.child = false ∧ tsOk x.c ∧ ∀ y ∈ l, tsOk y.c
def selOk (x : List (List Stp)) : Prop := x ≠ [] ∧ ∀ r ∈ x, rowOk r
/-- Whole up to here: the rows, the row, the tests. -/
def Sd (s : St) (R : List (List Stp)) (r : List Stp) (T : List Te) (ch : Bool) : Prop :=
  s.rows = R ∧ s.row = r ∧ s.child = ch ∧ ((s.m = .tests ∧ s.ts = T) ∨ ∃ k b T0, s.m = .nm k b ∧ b ≠ [] ∧ s.ts = T0 ∧ T = T0 ++ [⟨k, b, []⟩])
theorem Sd.step {s : St} {R : List (List Stp)} {r : List Stp} {T : List Te} {ch : Bool} (h : Sd s R r T ch) {c : UInt8} (hc : isN c = false) : Sl.step s c = tstep ⟨R, r, T, ch, .tests⟩ c := by
  obtain ⟨rows, row, ts, cc, m⟩ := s
  obtain ⟨rfl, rfl, rfl, (⟨rfl, rfl⟩ | ⟨k, b, T0, rfl, hb, rfl, rfl⟩)⟩ := h
  · rfl
  · simp [Sl.step, hb, hc, St.add]
theorem Sd.fin {s : St} {R : List (List Stp)} {r : List Stp} {T : List Te} {ch : Bool} (h : Sd s R r T ch) : Sl.fin s = some (R ++ [r ++ [⟨T, ch⟩]]) := by
  obtain ⟨rows, row, ts, cc, m⟩ := s
  obtain ⟨rfl, rfl, rfl, (⟨rfl, rfl⟩ | ⟨k, b, T0, rfl, hb, rfl, rfl⟩)⟩ := h
  · rfl
  · simp [Sl.fin, hb]
theorem nameOk_ne {n : List UInt8} (h : nameOk n = true) : n ≠ [] := by rintro rfl; cases h
theorem isL_not {c : UInt8} (h : isL c = true) : isB c = false ∧ c ≠ 42 ∧ c ≠ 62 ∧ c ≠ 44 ∧ c ≠ 35 ∧ c ≠ 46 ∧ c ≠ 91 ∧ c ≠ 34 ∧ c ≠ 93 ∧ c ≠ 61 := by
  have hb : isB c = false := by
    revert h
    simp only [isL, isB, Bool.or_eq_true, Bool.and_eq_true, decide_eq_true_eq, Bool.or_eq_false_iff, beq_eq_false_iff_ne, UInt8.le_iff_toNat_le, ne_eq, ← UInt8.toNat_inj]
    intro h
    simp at h ⊢
    omega
  refine ⟨hb, ?_, ?_, ?_, ?_, ?_, ?_, ?_, ?_, ?_⟩ <;> (rintro rfl; exact absurd h (by decide))
theorem isN_not {c : UInt8} (h : isN c = true) : isB c = false ∧ c ≠ 42 ∧ c ≠ 62 ∧ c ≠ 44 ∧ c ≠ 35 ∧ c ≠ 46 ∧ c ≠ 91 ∧ c ≠ 34 ∧ c ≠ 93 ∧ c ≠ 61 := by
  have hb : isB c = false := by
    revert h
    simp only [isN, isL, isB, Bool.or_eq_true, Bool.and_eq_true, decide_eq_true_eq, beq_iff_eq, Bool.or_eq_false_iff, beq_eq_false_iff_ne, UInt8.le_iff_toNat_le, ne_eq, ← UInt8.toNat_inj]
    intro h
    simp at h ⊢
    omega
  refine ⟨hb, ?_, ?_, ?_, ?_, ?_, ?_, ?_, ?_, ?_⟩ <;> (rintro rfl; exact absurd h (by decide))
theorem run_bn (s : St) : ∀ (l b : List UInt8) (i : Nat), s.m = .bn b → b ≠ [] → b.length + l.length ≤ 20 → (∀ c ∈ l, isN c = true) → run s i l = .ok (s.to (.bn (b ++ l))) := by
  intro l
  induction l generalizing s with
  | nil => intro b i hm hb hl hc; obtain ⟨rows, row, ts, ch, m⟩ := s; cases hm; simp [run, St.to]
  | cons c l ih =>
    intro b i hm hb hl hc
    simp only [List.length_cons] at hl
    have : Sl.step s c = some (s.to (.bn (b ++ [c]))) := by
      unfold Sl.step
      rw [hm]
      simp only []
      rw [if_pos (hc c (by simp)), if_pos (by omega)]
    rw [run, this]
    simp only []
    rw [ih _ (b ++ [c]) (i + 1) rfl (by simp) (by simp; omega) (fun x hx => hc x (by simp [hx]))]
    simp [St.to]
theorem run_brk {s : St} (hm : s.m = .brk) {n : List UInt8} (h : nameOk n = true) (i : Nat) : run s i n = .ok (s.to (.bn n)) := by
  cases n with
  | nil => cases h
  | cons c l =>
    simp only [nameOk, Bool.and_eq_true, decide_eq_true_eq] at h
    have : Sl.step s c = some (s.to (.bn [c])) := by
      unfold Sl.step
      rw [hm]
      simp [h.1.1, (isL_not h.1.1).1]
    rw [run, this]
    simp only []
    rw [run_bn _ l [c] _ rfl (by simp) (by simp; omega) (fun x hx => List.all_eq_true.1 h.1.2 x hx)]
    rfl
theorem run_bs (s : St) (n : List UInt8) : ∀ (l b : List UInt8) (i : Nat), s.m = .bs n b → b.length + l.length ≤ 60 → (∀ c ∈ l, c ≠ 34) → run s i l = .ok (s.to (.bs n (b ++ l))) := by
  intro l
  induction l generalizing s with
  | nil => intro b i hm hl hc; obtain ⟨rows, row, ts, ch, m⟩ := s; cases hm; simp [run, St.to]
  | cons c l ih =>
    intro b i hm hl hc
    simp only [List.length_cons] at hl
    have : Sl.step s c = some (s.to (.bs n (b ++ [c]))) := by
      unfold Sl.step
      rw [hm]
      simp only []
      rw [if_neg (hc c (by simp)), if_pos (by omega)]
    rw [run, this]
    simp only []
    rw [ih _ (b ++ [c]) (i + 1) rfl (by simp; omega) (fun x hx => hc x (by simp [hx]))]
    simp [St.to]
/-- A bracket's test, behind the bracket. -/
theorem run_br {R : List (List Stp)} {r : List Stp} {T : List Te} {ch : Bool} {t : Te} (h : teOk false t) (hk : t.k = 4 ∨ t.k = 5) (i : Nat) : ∃ l, pt t = 91 :: l ∧ run ⟨R, r, T, ch, .brk⟩ i l = .ok ⟨R, r, T ++ [t], ch, .tests⟩ := by
  obtain ⟨k, n, v⟩ := t
  rcases hk with hk | hk
  · simp only at hk
    subst hk
    have h4 : nameOk n = true ∧ v = [] := by rcases h with h | h; exact h.2; exact absurd h.1 (by simp)
    obtain ⟨h4, rfl⟩ := h4
    refine ⟨n ++ [93], by simp [pt], ?_⟩
    rw [run_append, run_brk rfl h4]
    simp [run, Sl.step, St.to, isN, isL, baStep, isB, St.add]
  · simp only at hk
    subst hk
    have h5 : nameOk n = true ∧ valOk v := by rcases h with h | h; exact absurd h.1 (by simp); exact h.2
    refine ⟨n ++ (61 :: 34 :: (v ++ [34, 93])), by simp [pt], ?_⟩
    rw [run_append, run_brk rfl h5.1]
    simp only []
    rw [run, show Sl.step (St.to ⟨R, r, T, ch, .brk⟩ (.bn n)) 61 = some ⟨R, r, T, ch, .be n⟩ by simp [Sl.step, St.to, isN, isL, baStep, isB]]
    simp only []
    rw [run, show Sl.step ⟨R, r, T, ch, .be n⟩ 34 = some ⟨R, r, T, ch, .bs n []⟩ by simp [Sl.step, St.to, isB]]
    simp only []
    rw [run_append, run_bs ⟨R, r, T, ch, .bs n []⟩ n v [] _ rfl (by simpa using h5.2.1) h5.2.2]
    simp [run, Sl.step, St.to, bzStep, isB, St.add]
/-- A test behind others. -/
theorem run_more {s : St} {R : List (List Stp)} {r : List Stp} {T : List Te} {ch : Bool} (hs : Sd s R r T ch) {t : Te} (h : teOk false t) (i : Nat) : ∃ s', run s i (pt t) = .ok s' ∧ Sd s' R r (T ++ [t]) ch := by
  by_cases hk : t.k = 4 ∨ t.k = 5
  · obtain ⟨l, e, hr⟩ := run_br (R := R) (r := r) (T := T) (ch := ch) h hk (i + 1)
    refine ⟨⟨R, r, T ++ [t], ch, .tests⟩, ?_, rfl, rfl, rfl, .inl ⟨rfl, rfl⟩⟩
    rw [e, run, hs.step (by decide), show tstep ⟨R, r, T, ch, .tests⟩ 91 = some ⟨R, r, T, ch, .brk⟩ by simp [tstep, St.to]]
    exact hr
  · obtain ⟨k, n, v⟩ := t
    simp only [not_or] at hk
    have h4 : (k = 2 ∨ k = 3) ∧ nameOk n = true ∧ v = [] := by
      rcases h with h | h
      · simp at h; exact ⟨by rcases h.1 with h | h | h; exact .inl h; exact .inr h; exact absurd h hk.1, h.2⟩
      · exact absurd h.1 hk.2
    obtain ⟨hk2, hn, rfl⟩ := h4
    have hne := nameOk_ne hn
    rcases hk2 with rfl | rfl
    · refine ⟨⟨R, r, T, ch, .nm 2 n⟩, ?_, rfl, rfl, rfl, .inr ⟨2, n, T, rfl, hne, rfl, rfl⟩⟩
      rw [show pt ⟨2, n, []⟩ = 35 :: n by simp [pt], run, hs.step (by decide), show tstep ⟨R, r, T, ch, .tests⟩ 35 = some ⟨R, r, T, ch, .nm 2 []⟩ by simp [tstep, St.to]]
      exact run_name rfl hn _
    · refine ⟨⟨R, r, T, ch, .nm 3 n⟩, ?_, rfl, rfl, rfl, .inr ⟨3, n, T, rfl, hne, rfl, rfl⟩⟩
      rw [show pt ⟨3, n, []⟩ = 46 :: n by simp [pt], run, hs.step (by decide), show tstep ⟨R, r, T, ch, .tests⟩ 46 = some ⟨R, r, T, ch, .nm 3 []⟩ by simp [tstep, St.to]]
      exact run_name rfl hn _
theorem run_mores {R : List (List Stp)} {r : List Stp} {ch : Bool} : ∀ (l : List Te) (s : St) (T : List Te) (i : Nat), Sd s R r T ch → (∀ t ∈ l, teOk false t) → ∃ s', run s i (l.flatMap pt) = .ok s' ∧ Sd s' R r (T ++ l) ch := by
  intro l
  induction l with
  | nil => intro s T i hs h; exact ⟨s, rfl, by simpa using hs⟩
  | cons t l ih =>
    intro s T i hs h
    obtain ⟨s1, h1, hs1⟩ := run_more hs (h t (by simp)) i
    obtain ⟨s2, h2, hs2⟩ := ih s1 _ (i + (pt t).length) hs1 (fun x hx => h x (by simp [hx]))
    refine ⟨s2, ?_, by simpa using hs2⟩
    rw [List.flatMap_cons, run_append, h1]
    exact h2
/-- Where a compound may begin. -/
def Cs (s s0 : St) : Prop := s0.m = .comp ∧ s0.ts = [] ∧ ∀ c, isB c = false → c ≠ 62 → c ≠ 44 → Sl.step s c = cstep s0 c
theorem Cs.comp {s : St} (hm : s.m = .comp) (ht : s.ts = []) : Cs s s := ⟨hm, ht, fun c _ _ _ => by simp [Sl.step, hm]⟩
theorem Cs.apart {s : St} (hm : s.m = .apart) : Cs s (s.push false) := ⟨rfl, rfl, fun c h1 h2 h3 => by simp [Sl.step, hm, h1, h2, h3]⟩
theorem run_comp {s s0 : St} (h : Cs s s0) {ts : List Te} (ht : tsOk ts) (i : Nat) : ∃ s', run s i (pc ts) = .ok s' ∧ Sd s' s0.rows s0.row ts s0.child := by
  obtain ⟨hm, he, hstep⟩ := h
  cases ts with
  | nil =>
    refine ⟨s0.to .tests, ?_, rfl, rfl, rfl, .inl ⟨rfl, he⟩⟩
    rw [show pc [] = [42] by rfl, run, hstep 42 (by decide) (by decide) (by decide)]
    simp [cstep, isB, isL, run]
  | cons t l =>
    rw [show pc (t :: l) = pt t ++ l.flatMap pt by simp [pc]]
    obtain ⟨ht1, ht2⟩ := ht
    have first : ∃ s1, run s i (pt t) = .ok s1 ∧ Sd s1 s0.rows s0.row [t] s0.child := by
      by_cases hk : t.k = 4 ∨ t.k = 5
      · have ht1' : teOk false t := by
          rcases ht1 with h | h
          · refine .inl ⟨?_, h.2⟩
            rcases hk with hk | hk
            · exact .inr (.inr (.inr hk))
            · rw [hk] at h; exact absurd h.1 (by decide)
          · exact .inr h
        obtain ⟨l, e, hr⟩ := run_br (R := s0.rows) (r := s0.row) (T := []) (ch := s0.child) ht1' hk (i + 1)
        refine ⟨⟨s0.rows, s0.row, [] ++ [t], s0.child, .tests⟩, ?_, rfl, rfl, rfl, .inl ⟨rfl, rfl⟩⟩
        rw [e, run, hstep 91 (by decide) (by decide) (by decide), show cstep s0 91 = some ⟨s0.rows, s0.row, [], s0.child, .brk⟩ by simp [cstep, isB, isL, St.to, he]]
        exact hr
      · obtain ⟨k, n, v⟩ := t
        simp only [not_or] at hk
        have h4 : (k = 1 ∨ k = 2 ∨ k = 3) ∧ nameOk n = true ∧ v = [] := by
          rcases ht1 with h | h
          · simp at h; exact ⟨by rcases h.1 with h | h | h | h; exact .inl h; exact .inr (.inl h); exact .inr (.inr h); exact absurd h hk.1, h.2⟩
          · exact absurd h.1 hk.2
        obtain ⟨hk2, hn, rfl⟩ := h4
        have hne := nameOk_ne hn
        rcases hk2 with rfl | rfl | rfl
        · refine ⟨⟨s0.rows, s0.row, [], s0.child, .nm 1 n⟩, ?_, rfl, rfl, rfl, .inr ⟨1, n, [], rfl, hne, rfl, rfl⟩⟩
          rw [show pt ⟨1, n, []⟩ = n by simp [pt]]
          cases n with
          | nil => cases hn
          | cons c l =>
            simp only [nameOk, Bool.and_eq_true, decide_eq_true_eq] at hn
            obtain ⟨n1, n2, n3, n4, -⟩ := isL_not hn.1.1
            rw [run, hstep c n1 n3 n4, show cstep s0 c = some ⟨s0.rows, s0.row, [], s0.child, .nm 1 [c]⟩ by simp [cstep, n1, n2, hn.1.1, St.to, he]]
            simp only []
            rw [run_nm _ 1 l [c] _ rfl (by simp) (by simp; omega) (fun x hx => List.all_eq_true.1 hn.1.2 x hx)]
            rfl
        · refine ⟨⟨s0.rows, s0.row, [], s0.child, .nm 2 n⟩, ?_, rfl, rfl, rfl, .inr ⟨2, n, [], rfl, hne, rfl, rfl⟩⟩
          rw [show pt ⟨2, n, []⟩ = 35 :: n by simp [pt], run, hstep 35 (by decide) (by decide) (by decide), show cstep s0 35 = some ⟨s0.rows, s0.row, [], s0.child, .nm 2 []⟩ by simp [cstep, isB, isL, St.to, he]]
          exact run_name rfl hn _
        · refine ⟨⟨s0.rows, s0.row, [], s0.child, .nm 3 n⟩, ?_, rfl, rfl, rfl, .inr ⟨3, n, [], rfl, hne, rfl, rfl⟩⟩
          rw [show pt ⟨3, n, []⟩ = 46 :: n by simp [pt], run, hstep 46 (by decide) (by decide) (by decide), show cstep s0 46 = some ⟨s0.rows, s0.row, [], s0.child, .nm 3 []⟩ by simp [cstep, isB, isL, St.to, he]]
          exact run_name rfl hn _
    obtain ⟨s1, h1, hs1⟩ := first
    obtain ⟨s2, h2, hs2⟩ := run_mores l s1 [t] (i + (pt t).length) hs1 ht2
    refine ⟨s2, ?_, hs2⟩
    rw [run_append, h1]
    exact h2
/-! ### what stands between -/
def Bl (l : List UInt8) : Prop := ∀ c ∈ l, isB c = true
theorem isB_not {c : UInt8} (h : isB c = true) : isN c = false ∧ c ≠ 35 ∧ c ≠ 46 ∧ c ≠ 91 := by
  refine ⟨?_, ?_, ?_, ?_⟩
  · cases hn : isN c with
    | false => rfl
    | true => rw [(isN_not hn).1] at h; cases h
  all_goals (rintro rfl; exact absurd h (by decide))
theorem run_bl {s : St} (hm : s.m = .comp ∨ s.m = .apart) : ∀ (l : List UInt8) (i : Nat), Bl l → run s i l = .ok s := by
  intro l
  induction l with
  | nil => intro i h; rfl
  | cons c l ih =>
    intro i h
    have hb := h c (by simp)
    have : Sl.step s c = some s := by
      obtain ⟨rows, row, ts, ch, m⟩ := s
      rcases hm with rfl | rfl
      · simp [Sl.step, cstep, hb, St.to]
      · simp [Sl.step, hb]
    rw [run, this]
    exact ih _ (fun x hx => h x (by simp [hx]))
theorem Sd.bl {s : St} {R : List (List Stp)} {r : List Stp} {T : List Te} {ch : Bool} (h : Sd s R r T ch) {l : List UInt8} (hl : Bl l) (hn : l ≠ []) (i : Nat) : run s i l = .ok ⟨R, r, T, ch, .apart⟩ := by
  cases l with
  | nil => exact absurd rfl hn
  | cons c l =>
    have hb := hl c (by simp)
    obtain ⟨n1, n2, n3, n4⟩ := isB_not hb
    rw [run, h.step n1, show tstep ⟨R, r, T, ch, .tests⟩ c = some ⟨R, r, T, ch, .apart⟩ by simp [tstep, n2, n3, n4, hb, St.to]]
    exact run_bl (.inr rfl) l _ (fun x hx => hl x (by simp [hx]))
/-- A sign with blanks around. -/
theorem Sd.sign {s : St} {R : List (List Stp)} {r : List Stp} {T : List Te} {ch : Bool} (h : Sd s R r T ch) {a b : List UInt8} (ha : Bl a) (hb : Bl b) (c : UInt8) (s1 : St) (hc : c = 62 ∧ s1 = ⟨R, r ++ [⟨T, ch⟩], [], true, .comp⟩ ∨ c = 44 ∧ s1 = ⟨R ++ [r ++ [⟨T, ch⟩]], [], [], false, .comp⟩) (i : Nat) : run s i (a ++ c :: b) = .ok s1 := by
  have hm : s1.m = .comp := by rcases hc with ⟨-, rfl⟩ | ⟨-, rfl⟩ <;> rfl
  rw [run_append]
  by_cases hn : a = []
  · subst hn
    rw [run]
    simp only []
    have e : Sl.step s c = some s1 := by
      rcases hc with ⟨rfl, rfl⟩ | ⟨rfl, rfl⟩
      · rw [h.step (by decide)]; simp [tstep, isB, St.push]
      · rw [h.step (by decide)]; simp [tstep, isB, St.pushRow]
    rw [run, e]
    exact run_bl (.inl hm) _ _ hb
  · rw [h.bl ha hn]
    simp only []
    have e : Sl.step ⟨R, r, T, ch, .apart⟩ c = some s1 := by
      rcases hc with ⟨rfl, rfl⟩ | ⟨rfl, rfl⟩ <;> simp [Sl.step, isB, St.push, St.pushRow]
    rw [run, e]
    exact run_bl (.inl hm) _ _ hb
theorem run_steps {a b : List UInt8} (ha : Bl a) (hb : Bl b) {R : List (List Stp)} : ∀ (l : List Stp) (s : St) (r : List Stp) (T : List Te) (ch : Bool) (i : Nat), Sd s R r T ch → (∀ x ∈ l, tsOk x.c) →
    ∃ s' r' T' ch', run s i (l.flatMap (pm (a ++ 62 :: b))) = .ok s' ∧ Sd s' R r' T' ch' ∧ r' ++ [⟨T', ch'⟩] = r ++ [⟨T, ch⟩] ++ l := by
  intro l
  induction l with
  | nil => intro s r T ch i hs h; exact ⟨s, r, T, ch, rfl, hs, by simp⟩
  | cons x l ih =>
    intro s r T ch i hs h
    have one : ∃ s1, run s i (pm (a ++ 62 :: b) x) = .ok s1 ∧ Sd s1 R (r ++ [⟨T, ch⟩]) x.c x.child := by
      obtain ⟨c, xc⟩ := x
      cases xc with
      | true =>
        have h1 := hs.sign ha hb 62 _ (.inl ⟨rfl, rfl⟩) i
        obtain ⟨s2, h2, hs2⟩ := run_comp (Cs.comp (s := ⟨R, r ++ [⟨T, ch⟩], [], true, .comp⟩) rfl rfl) (h ⟨c, true⟩ (by simp)) (i + (a ++ 62 :: b).length)
        refine ⟨s2, ?_, hs2⟩
        rw [pm, if_pos rfl, run_append, h1]
        exact h2
      | false =>
        have h1 := hs.bl (l := [32]) (fun c hc => by simp at hc; subst hc; decide) (by simp) i
        obtain ⟨s2, h2, hs2⟩ := run_comp (Cs.apart (s := ⟨R, r, T, ch, .apart⟩) rfl) (h ⟨c, false⟩ (by simp)) (i + 1)
        refine ⟨s2, ?_, hs2⟩
        rw [pm, if_neg (by simp), run_append, h1]
        exact h2
    obtain ⟨s1, h1, hs1⟩ := one
    obtain ⟨s', r', T', ch', h2, hs2, e⟩ := ih s1 _ _ _ (i + (pm (a ++ 62 :: b) x).length) hs1 (fun y hy => h y (by simp [hy]))
    refine ⟨s', r', T', ch', ?_, hs2, by rw [e]; simp⟩
    rw [List.flatMap_cons, run_append, h1]
    exact h2
theorem run_row {a b : List UInt8} (ha : Bl a) (hb : Bl b) {R : List (List Stp)} {r : List Stp} (hr : rowOk r) (i : Nat) : ∃ s' r' T' ch', run ⟨R, [], [], false, .comp⟩ i (prow (a ++ 62 :: b) r) = .ok s' ∧ Sd s' R r' T' ch' ∧ r' ++ [⟨T', ch'⟩] = r := by
  cases r with
  | nil => exact hr.elim
  | cons x l =>
    obtain ⟨h1, h2, h3⟩ := hr
    obtain ⟨s1, e1, hs1⟩ := run_comp (Cs.comp (s := ⟨R, [], [], false, .comp⟩) rfl rfl) h2 i
    obtain ⟨s', r', T', ch', e2, hs2, e⟩ := run_steps ha hb l s1 [] x.c false (i + (pc x.c).length) hs1 h3
    refine ⟨s', r', T', ch', ?_, hs2, ?_⟩
    · rw [prow, run_append, e1]
      exact e2
    · rw [e]
      obtain ⟨c, ch⟩ := x
      simp only at h1
      subst h1
      rfl
theorem run_rows2 {a b a2 b2 : List UInt8} (ha : Bl a) (hb : Bl b) (ha2 : Bl a2) (hb2 : Bl b2) : ∀ (l : List (List Stp)) (s : St) (R : List (List Stp)) (r : List Stp) (T : List Te) (ch : Bool) (i : Nat), Sd s R r T ch → (∀ x ∈ l, rowOk x) →
    ∃ s' R' r' T' ch', run s i (l.flatMap (fun r => (a2 ++ 44 :: b2) ++ prow (a ++ 62 :: b) r)) = .ok s' ∧ Sd s' R' r' T' ch' ∧ R' ++ [r' ++ [⟨T', ch'⟩]] = R ++ [r ++ [⟨T, ch⟩]] ++ l := by
  intro l
  induction l with
  | nil => intro s R r T ch i hs h; exact ⟨s, R, r, T, ch, rfl, hs, by simp⟩
  | cons x l ih =>
    intro s R r T ch i hs h
    have h1 := hs.sign ha2 hb2 44 _ (.inr ⟨rfl, rfl⟩) i
    obtain ⟨s2, r2, T2, ch2, e2, hs2, q⟩ := run_row ha hb (R := R ++ [r ++ [⟨T, ch⟩]]) (h x (by simp)) (i + (a2 ++ 44 :: b2).length)
    obtain ⟨s', R', r', T', ch', e3, hs3, q2⟩ := ih s2 _ _ _ _ (i + ((a2 ++ 44 :: b2) ++ prow (a ++ 62 :: b) x).length) hs2 (fun y hy => h y (by simp [hy]))
    refine ⟨s', R', r', T', ch', ?_, hs3, by rw [q2, q]; simp⟩
    rw [List.flatMap_cons, run_append, run_append, h1]
    simp only []
    rw [e2]
    exact e3
/-- What is printed, with any blanks around a comma, and a >, and at both ends, is parsed to the same. -/
theorem parse_print {a b a2 b2 d d2 : List UInt8} (ha : Bl a) (hb : Bl b) (ha2 : Bl a2) (hb2 : Bl b2) (hd : Bl d) (hd2 : Bl d2) {x : List (List Stp)} (hx : selOk x) : parse (d ++ (psel (a2 ++ 44 :: b2) (a ++ 62 :: b) x ++ d2)) = .ok x := by
  obtain ⟨hne, hrow⟩ := hx
  cases x with
  | nil => exact absurd rfl hne
  | cons r l =>
    obtain ⟨s1, r1, T1, ch1, e1, hs1, q1⟩ := run_row ha hb (R := []) (hrow r (by simp)) d.length
    obtain ⟨s2, R2, r2, T2, ch2, e2, hs2, q2⟩ := run_rows2 ha hb ha2 hb2 l s1 [] r1 T1 ch1 (d.length + (prow (a ++ 62 :: b) r).length) hs1 (fun y hy => hrow y (by simp [hy]))
    have hq : R2 ++ [r2 ++ [⟨T2, ch2⟩]] = r :: l := by rw [q2, q1]; rfl
    unfold parse
    rw [run_append, run_bl (s := start) (.inl rfl) d 0 hd]
    simp only []
    rw [run_append, psel, run_append, show (0 : Nat) + d.length = d.length by omega, show start = ⟨[], [], [], false, .comp⟩ from rfl, e1]
    simp only []
    rw [e2]
    simp only []
    by_cases hn : d2 = []
    · subst hn
      rw [run]
      simp only [ends]
      rw [hs2.fin, hq]
    · rw [hs2.bl hd2 hn]
      simp only [ends, Sl.fin]
      rw [hq]
end Go.Proofs.Ytcfkcifbojckcaa.Sl
