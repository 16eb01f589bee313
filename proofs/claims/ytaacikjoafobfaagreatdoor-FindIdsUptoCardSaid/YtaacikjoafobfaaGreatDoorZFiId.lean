/-
  FindIds' mathematics: what begins with # has a test of an id first; an id is found by walk.ById where the selector finds it.
-/
import Derived.Test.YtaacikjoafobfaaGreatDoorZFiS
import Derived.Test.YtaacikjoafobfaaGreatDoorZFiO
import Derived.Test.YtaacikjoafobfaaGreatDoorG25
import Derived.Test.YtaacikjoafobfaaGreatDoorG27
namespace Go.Proofs.YtaacikjoafobfaaGreatDoor.Sl
set_option linter.unusedVariables false
set_option linter.unusedSimpArgs false
def fr : List Stp → Option Int
  | S :: _ => (S.c.head?).map (·.k)
  | [] => none
/-- The kind of the first test, of those that are whole. -/
def fk0 (s : St) : Option Int := match s.rows with
  | R :: _ => fr R
  | [] => fr (s.row ++ [⟨s.ts, s.child⟩])
/-- .. or, if there is none, of the one that is being read. -/
def fk (s : St) : Option Int := match s.m with
  | .nm k b => if s.rows = [] ∧ s.row = [] ∧ s.ts = [] then some k else fk0 s
  | _ => fk0 s
theorem fk0_add {s : St} {t : Te} {k : Int} (h : fk0 s = some k) : fk0 (s.add t) = some k := by
  obtain ⟨rows, row, ts, ch, m⟩ := s
  cases rows with
  | cons R rs => exact h
  | nil => cases row with
    | cons S r => exact h
    | nil => cases ts with
      | nil => cases h
      | cons T l => exact h
theorem fk0_push {s : St} {ch : Bool} {k : Int} (h : fk0 s = some k) : fk0 (s.push ch) = some k := by
  obtain ⟨rows, row, ts, c', m⟩ := s
  cases rows with
  | cons R rs => exact h
  | nil => cases row with
    | cons S r => exact h
    | nil => exact h
theorem fk0_pushRow {s : St} {k : Int} (h : fk0 s = some k) : fk0 s.pushRow = some k := by
  obtain ⟨rows, row, ts, c', m⟩ := s
  cases rows with
  | cons R rs => exact h
  | nil => exact h
theorem fk_to {s : St} {m : Mo} {k : Int} (h : fk0 s = some k) : fk (s.to m) = some k := by
  obtain ⟨rows, row, ts, c', m'⟩ := s
  unfold fk
  split
  · split
    · rename_i _ _ _ _ hc
      obtain ⟨h1, h2, h3⟩ := hc
      simp only [St.to] at h1 h2 h3
      subst h1; subst h2; subst h3
      cases h
    · exact h
  · exact h
theorem fk_of {s : St} {k : Int} (h : fk0 s = some k) : fk s = some k := by
  have := fk_to (m := s.m) h
  exact this
theorem t_fk {s s' : St} {c : UInt8} {k : Int} (h : fk0 s = some k) (e : tstep s c = some s') : fk s' = some k := by
  unfold tstep at e
  repeat' split at e
  all_goals first
    | (cases e; exact fk_to h)
    | (cases e; exact fk_of (fk0_push h))
    | (cases e; exact fk_of (fk0_pushRow h))
    | cases e
theorem c_fk {s s' : St} {c : UInt8} {k : Int} (h : fk0 s = some k) (e : cstep s c = some s') : fk s' = some k := by
  unfold cstep at e
  repeat' split at e
  all_goals first
    | (cases e; exact fk_to h)
    | cases e
theorem step_fk {s s' : St} {c : UInt8} {k : Int} (h : fk s = some k) (e : step s c = some s') : fk s' = some k := by
  obtain ⟨rows, row, ts, ch, m⟩ := s
  cases m with
  | comp => exact c_fk (s := ⟨rows, row, ts, ch, .comp⟩) h e
  | tests => exact t_fk (s := ⟨rows, row, ts, ch, .tests⟩) h e
  | apart =>
    have h0 : fk0 ⟨rows, row, ts, ch, .apart⟩ = some k := h
    simp only [step] at e
    repeat' split at e
    all_goals first
      | (cases e; exact h)
      | (cases e; exact fk_of (fk0_push h0))
      | (cases e; exact fk_of (fk0_pushRow h0))
      | exact c_fk (fk0_push h0) e
      | cases e
  | nm k0 b =>
    simp only [step] at e
    have hadd : b ≠ [] → fk0 (St.add ⟨rows, row, ts, ch, .nm k0 b⟩ ⟨k0, b, []⟩) = some k := fun _ => by
      unfold fk at h
      simp only [] at h
      split at h
      · rename_i hc
        obtain ⟨rfl, rfl, rfl⟩ := hc
        exact h
      · exact fk0_add h
    have hto : ∀ b', fk (St.to ⟨rows, row, ts, ch, .nm k0 b⟩ (.nm k0 b')) = some k := fun b' => h
    by_cases hb : b = []
    · rw [if_pos hb] at e
      split at e
      · cases e; exact hto _
      · cases e
    · rw [if_neg hb] at e
      split at e
      · split at e
        · cases e; exact hto _
        · cases e
      · exact t_fk (hadd hb) e
  | brk =>
    have h0 : fk0 ⟨rows, row, ts, ch, .brk⟩ = some k := h
    simp only [step] at e
    repeat' split at e
    all_goals first
      | (cases e; exact h)
      | (cases e; exact fk_to h0)
      | cases e
  | bn b =>
    have h0 : fk0 ⟨rows, row, ts, ch, .bn b⟩ = some k := h
    simp only [step, baStep] at e
    repeat' split at e
    all_goals first
      | (cases e; exact fk_to h0)
      | (cases e; exact fk_of (fk0_add h0))
      | cases e
  | ba n =>
    have h0 : fk0 ⟨rows, row, ts, ch, .ba n⟩ = some k := h
    simp only [step, baStep] at e
    repeat' split at e
    all_goals first
      | (cases e; exact fk_to h0)
      | (cases e; exact fk_of (fk0_add h0))
      | cases e
  | be n =>
    have h0 : fk0 ⟨rows, row, ts, ch, .be n⟩ = some k := h
    simp only [step] at e
    repeat' split at e
    all_goals first
      | (cases e; exact h)
      | (cases e; exact fk_to h0)
      | cases e
  | bv n b =>
    have h0 : fk0 ⟨rows, row, ts, ch, .bv n b⟩ = some k := h
    simp only [step, bzStep] at e
    repeat' split at e
    all_goals first
      | (cases e; exact fk_to h0)
      | (cases e; exact fk_of (fk0_add h0))
      | cases e
  | bs n b =>
    have h0 : fk0 ⟨rows, row, ts, ch, .bs n b⟩ = some k := h
    simp only [step] at e
    repeat' split at e
    all_goals first
      | (cases e; exact fk_to h0)
      | cases e
  | bz n v =>
    have h0 : fk0 ⟨rows, row, ts, ch, .bz n v⟩ = some k := h
    simp only [step, bzStep] at e
    repeat' split at e
    all_goals first
      | (cases e; exact fk_to h0)
      | (cases e; exact fk_of (fk0_add h0))
      | cases e
theorem run_fk {l : List UInt8} : ∀ {s s' : St} {i : Nat} {k : Int}, fk s = some k → run s i l = .ok s' → fk s' = some k := by
  induction l with
  | nil => intro s s' i k h e; cases e; exact h
  | cons c l ih =>
    intro s s' i k h e
    rw [run] at e
    cases hs : step s c with
    | none => rw [hs] at e; cases e
    | some s2 =>
      rw [hs] at e
      exact ih (step_fk h hs) e
theorem fin_fk {s : St} {t : Te} {ch : Bool} {k : Int} (h : fk s = some k) (e : fin s = some [[⟨[t], ch⟩]]) : t.k = k := by
  obtain ⟨rows, row, ts, c', m⟩ := s
  have key : ∀ {x : List Te}, rows ++ [row ++ [(⟨x, c'⟩ : Stp)]] = [[⟨[t], ch⟩]] → rows = [] ∧ row = [] ∧ x = [t] := fun hx => by
    cases rows with
    | cons R rs => simp at hx
    | nil => cases row with
      | cons S r => simp at hx
      | nil => simp at hx; exact ⟨rfl, rfl, hx.1⟩
  cases m with
  | tests =>
    obtain ⟨rfl, rfl, rfl⟩ := key (Option.some.inj e)
    exact Option.some.inj h
  | apart =>
    obtain ⟨rfl, rfl, rfl⟩ := key (Option.some.inj e)
    exact Option.some.inj h
  | nm k0 b =>
    simp only [fin] at e
    split at e
    · cases e
    · obtain ⟨rfl, rfl, hx⟩ := key (Option.some.inj e)
      cases ts with
      | cons T l => simp at hx
      | nil =>
        simp only [List.nil_append, List.cons.injEq, and_true] at hx
        subst hx
        have h2 : fk ⟨[], [], [], c', .nm k0 b⟩ = some k0 := rfl
        rw [h2] at h
        exact Option.some.inj h
  | comp => cases e
  | brk => cases e
  | bn b => cases e
  | ba b => cases e
  | be b => cases e
  | bv n b => cases e
  | bs n b => cases e
  | bz n b => cases e
/-- What begins with # and is one test alone asks for an id, and for one that is no empty text. -/
theorem parse_hash {l : List UInt8} {t : Te} {ch : Bool} (h : parse (35 :: l) = .ok [[⟨[t], ch⟩]]) : t.k = 2 ∧ t.n ≠ [] := by
  have hk : t.k = 2 := by
    unfold parse at h
    cases hr : run start 0 (35 :: l) with
    | error i => rw [hr] at h; cases h
    | ok s =>
      rw [hr] at h
      simp only [Sl.ends] at h
      have h1 : fk s = some 2 := by
        rw [run] at hr
        exact run_fk (s := ⟨[], [], [], false, .nm 2 []⟩) (i := 0 + 1) rfl hr
      cases hf : fin s with
      | none => rw [hf] at h; cases h
      | some x =>
        rw [hf] at h
        cases h
        exact fin_fk h1 hf
  refine ⟨hk, ?_⟩
  obtain ⟨-, h2⟩ := parse_ok h
  have h3 := (h2 _ (List.mem_cons_self ..)).2.1.1
  rcases h3 with ⟨-, hn, -⟩ | ⟨h5, -, -⟩
  · exact nameOk_ne hn
  · omega
end Go.Proofs.YtaacikjoafobfaaGreatDoor.Sl
