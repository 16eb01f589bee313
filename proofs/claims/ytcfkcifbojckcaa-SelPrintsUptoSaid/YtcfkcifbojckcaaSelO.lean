/-
  What is parsed may be printed: plain mathematics of no program.
-/
import Derived.Test.YtcfkcifbojckcaaSelN
namespace Go.Proofs.Ytcfkcifbojckcaa.Sl
set_option linter.unusedVariables false
set_option linter.unusedSimpArgs false
/-! ### what is parsed may be printed -/
theorem tsOk_add {ts : List Te} {t : Te} (h : tsOk ts) (ht : teOk false t) : tsOk (ts ++ [t]) := by
  have h1 : teOk true t := by
    rcases ht with h | h
    · refine .inl ⟨?_, h.2⟩
      rcases h.1 with h | h
      · exact absurd h.2 (by simp)
      · exact .inr h
    · exact .inr h
  cases ts with
  | nil => exact ⟨h1, by simp⟩
  | cons a l =>
    refine ⟨h.1, fun x hx => ?_⟩
    have hx : x ∈ l ++ [t] := hx
    rw [List.mem_append, List.mem_singleton] at hx
    rcases hx with hx | rfl
    · exact h.2 x hx
    · exact ht
structure W3 (s : St) : Prop where
  rows : ∀ r ∈ s.rows, rowOk r
  first : s.row = [] → s.child = false
  head : ∀ x l, s.row = x :: l → x.child = false
  row : ∀ x ∈ s.row, tsOk x.c
  ts : tsOk s.ts
def md (s : St) : Prop :=
  match s.m with
  | .comp => s.ts = []
  | .nm k b => (b = [] → k = 2 ∨ k = 3) ∧ (b ≠ [] → nameOk b = true ∧ (k = 1 ∧ s.ts = [] ∨ k = 2 ∨ k = 3))
  | .bn b => nameOk b = true
  | .ba n => nameOk n = true
  | .be n => nameOk n = true
  | .bv n b => nameOk n = true ∧ nameOk b = true
  | .bs n b => nameOk n = true ∧ b.length ≤ 60 ∧ ∀ c ∈ b, c ≠ 34
  | .bz n v => nameOk n = true ∧ valOk v
  | _ => True
theorem nameOk_snoc {b : List UInt8} {c : UInt8} (h : nameOk b = true) (hc : isN c = true) (hl : b.length < 20) : nameOk (b ++ [c]) = true := by
  cases b with
  | nil => cases h
  | cons a l =>
    simp only [nameOk, List.cons_append, Bool.and_eq_true, decide_eq_true_eq, List.all_append, List.length_append, List.length_cons, List.length_nil] at h hl ⊢
    refine ⟨⟨h.1.1, h.1.2, ?_⟩, by omega⟩
    simp [hc]
theorem nameOk_one {c : UInt8} (h : isL c = true) : nameOk [c] = true := by simp [nameOk, h]
theorem isL_N {c : UInt8} (h : isL c = true) : isN c = true := by simp [isN, h]
theorem nameOk_all {b : List UInt8} (h : nameOk b = true) : b.length ≤ 20 ∧ ∀ c ∈ b, isN c = true := by
  cases b with
  | nil => cases h
  | cons a l =>
    simp only [nameOk, Bool.and_eq_true, decide_eq_true_eq] at h
    refine ⟨by simp; omega, fun c hc => ?_⟩
    rw [List.mem_cons] at hc
    rcases hc with rfl | hc
    · exact isL_N h.1.1
    · exact List.all_eq_true.1 h.1.2 c hc
theorem nameOk_val {b : List UInt8} (h : nameOk b = true) : valOk b := by
  obtain ⟨h1, h2⟩ := nameOk_all h
  exact ⟨by omega, fun c hc => (isN_not (h2 c hc)).2.2.2.2.2.2.2.1⟩
theorem W3.to {s : St} (h : W3 s) (m : Mo) : W3 (s.to m) := ⟨h.rows, h.first, h.head, h.row, h.ts⟩
theorem W3.add {s : St} (h : W3 s) {t : Te} (ht : teOk false t) : W3 (s.add t) := ⟨h.rows, h.first, h.head, h.row, tsOk_add h.ts ht⟩
theorem W3.add1 {s : St} (h : W3 s) (he : s.ts = []) {t : Te} (ht : teOk true t) : W3 (s.add t) := ⟨h.rows, h.first, h.head, h.row, by
  show tsOk (s.ts ++ [t])
  rw [he]
  exact ⟨ht, by simp⟩⟩
theorem W3.rowOk {s : St} (h : W3 s) : rowOk (s.row ++ [⟨s.ts, s.child⟩]) := by
  obtain ⟨rows, row, ts, ch, m⟩ := s
  obtain ⟨h1, h2, h3, h4, h5⟩ := h
  cases row with
  | nil => exact ⟨h2 rfl, h5, by simp⟩
  | cons x l =>
    refine ⟨h3 x l rfl, h4 x (by simp), fun y hy => ?_⟩
    have hy : y ∈ l ++ [⟨ts, ch⟩] := hy
    rw [List.mem_append, List.mem_singleton] at hy
    rcases hy with hy | rfl
    · exact h4 y (by simp [hy])
    · exact h5
theorem W3.push {s : St} (h : W3 s) (ch : Bool) : W3 (s.push ch) := by
  have hr := h.rowOk
  obtain ⟨rows, row, ts, cc, m⟩ := s
  refine ⟨h.rows, fun he => absurd he (by simp [St.push]), fun x l hx => ?_, fun x hx => ?_, trivial⟩
  · simp only [St.push] at hx
    rw [hx] at hr
    exact hr.1
  · simp only [St.push, List.mem_append, List.mem_singleton] at hx
    rcases hx with hx | rfl
    · exact h.row x hx
    · exact h.ts
theorem W3.pushRow {s : St} (h : W3 s) : W3 s.pushRow := by
  refine ⟨fun r hr => ?_, fun _ => rfl, fun x l hx => (by cases hx), fun x hx => (by cases hx), trivial⟩
  simp only [St.pushRow, List.mem_append, List.mem_singleton] at hr
  rcases hr with hr | rfl
  · exact h.rows r hr
  · exact h.rowOk
theorem w_tstep {s s' : St} {c : UInt8} (h : W3 s) (he : tstep s c = some s') : W3 s' ∧ md s' := by
  unfold tstep at he
  repeat' split at he
  · cases he; exact ⟨h.to _, by simp [md, St.to]⟩
  · cases he; exact ⟨h.to _, by simp [md, St.to]⟩
  · cases he; exact ⟨h.to _, by simp [md, St.to]⟩
  · cases he; exact ⟨h.to _, by simp [md, St.to]⟩
  · cases he; exact ⟨h.push _, rfl⟩
  · cases he; exact ⟨h.pushRow, rfl⟩
  · cases he
theorem w_cstep {s s' : St} {c : UInt8} (h : W3 s) (h0 : s.ts = []) (he : cstep s c = some s') : W3 s' ∧ md s' := by
  unfold cstep at he
  repeat' split at he
  · cases he; exact ⟨h.to _, h0⟩
  · cases he; exact ⟨h.to _, by simp [md, St.to]⟩
  · rename_i hl; cases he; exact ⟨h.to _, by simp [md, St.to, h0, nameOk_one hl]⟩
  · cases he; exact ⟨h.to _, by simp [md, St.to]⟩
  · cases he; exact ⟨h.to _, by simp [md, St.to]⟩
  · cases he; exact ⟨h.to _, by simp [md, St.to]⟩
  · cases he
theorem w_ba {s s' : St} {n : List UInt8} {c : UInt8} (h : W3 s) (hn : nameOk n = true) (he : baStep s n c = some s') : W3 s' ∧ md s' := by
  unfold baStep at he
  repeat' split at he
  · cases he; exact ⟨h.to _, hn⟩
  · cases he; exact ⟨h.add (.inl ⟨by simp, hn, rfl⟩), trivial⟩
  · cases he; exact ⟨h.to _, hn⟩
  · cases he
theorem w_bz {s s' : St} {n v : List UInt8} {c : UInt8} (h : W3 s) (hn : nameOk n = true) (hv : valOk v) (he : bzStep s n v c = some s') : W3 s' ∧ md s' := by
  unfold bzStep at he
  repeat' split at he
  · cases he; exact ⟨h.to _, hn, hv⟩
  · cases he; exact ⟨h.add (.inr ⟨rfl, hn, hv⟩), trivial⟩
  · cases he
theorem te_nm {k : Int} {b : List UInt8} (h : nameOk b = true) (hk : k = 2 ∨ k = 3) : teOk false ⟨k, b, []⟩ := .inl ⟨.inr (by rcases hk with h | h; exact .inl h; exact .inr (.inl h)), h, rfl⟩
theorem w_nm {s : St} {k : Int} {b : List UInt8} (h : W3 s) (hm : nameOk b = true ∧ (k = 1 ∧ s.ts = [] ∨ k = 2 ∨ k = 3)) : W3 (s.add ⟨k, b, []⟩) := by
  rcases hm.2 with hk | hk
  · exact h.add1 hk.2 (.inl ⟨.inl ⟨hk.1, rfl⟩, hm.1, rfl⟩)
  · exact h.add (te_nm hm.1 hk)
theorem w_step {s s' : St} {c : UInt8} (h : W3 s) (hm : md s) (he : step s c = some s') : W3 s' ∧ md s' := by
  obtain ⟨rows, row, ts, ch, m⟩ := s
  cases m with
  | comp => exact w_cstep h hm he
  | tests => exact w_tstep h he
  | apart =>
    simp only [step] at he
    repeat' split at he
    · cases he; exact ⟨h, trivial⟩
    · cases he; exact ⟨h.push _, rfl⟩
    · cases he; exact ⟨h.pushRow, rfl⟩
    · exact w_cstep (h.push _) rfl he
  | brk =>
    simp only [step] at he
    repeat' split at he
    · cases he; exact ⟨h, trivial⟩
    · rename_i hl; cases he; exact ⟨h.to _, nameOk_one hl⟩
    · cases he
  | nm k b =>
    simp only [step] at he
    obtain ⟨m1, m2⟩ := hm
    repeat' split at he
    · rename_i hb hl
      cases he
      exact ⟨h.to _, by simp [md, St.to, nameOk_one hl]; exact .inr (m1 hb)⟩
    · cases he
    · rename_i hb hn hl
      cases he
      refine ⟨h.to _, fun e => absurd e (by simp), fun _ => ⟨nameOk_snoc (m2 hb).1 hn hl, (m2 hb).2⟩⟩
    · cases he
    · rename_i hb hn
      exact w_tstep (w_nm h (m2 hb)) he
  | bn b =>
    simp only [step] at he
    repeat' split at he
    · rename_i hn hl; cases he; exact ⟨h.to _, nameOk_snoc hm hn hl⟩
    · cases he
    · exact w_ba h hm he
  | ba n => exact w_ba h hm he
  | be n =>
    simp only [step] at he
    repeat' split at he
    · cases he; exact ⟨h, hm⟩
    · cases he; exact ⟨h.to _, hm, by simp, by simp⟩
    · rename_i hl; cases he; exact ⟨h.to _, hm, nameOk_one hl⟩
    · cases he
  | bv n b =>
    simp only [step] at he
    repeat' split at he
    · rename_i hn hl; cases he; exact ⟨h.to _, hm.1, nameOk_snoc hm.2 hn hl⟩
    · cases he
    · exact w_bz h hm.1 (nameOk_val hm.2) he
  | bs n b =>
    simp only [step] at he
    repeat' split at he
    · cases he; exact ⟨h.to _, hm.1, hm.2⟩
    · rename_i hc hl
      cases he
      refine ⟨h.to _, hm.1, by simp; omega, fun x hx => ?_⟩
      rw [List.mem_append, List.mem_singleton] at hx
      rcases hx with hx | rfl
      · exact hm.2.2 x hx
      · exact hc
    · cases he
  | bz n v => exact w_bz h hm.1 hm.2 he
theorem w_run {s s' : St} {i : Nat} {l : List UInt8} (h : W3 s) (hm : md s) (he : run s i l = .ok s') : W3 s' ∧ md s' := by
  induction l generalizing s i with
  | nil => cases he; exact ⟨h, hm⟩
  | cons c l ih =>
    rw [run] at he
    cases hs : step s c with
    | none => rw [hs] at he; cases he
    | some s1 =>
      rw [hs] at he
      obtain ⟨h1, h2⟩ := w_step h hm hs
      exact ih h1 h2 he
theorem w_fin {s : St} {x : List (List Stp)} (h : W3 s) (hm : md s) (he : fin s = some x) : selOk x := by
  have key : ∀ (r : List Stp), rowOk r → selOk (s.rows ++ [r]) := fun r hr => ⟨by simp, fun y hy => by
    rw [List.mem_append, List.mem_singleton] at hy
    rcases hy with hy | rfl
    · exact h.rows y hy
    · exact hr⟩
  obtain ⟨rows, row, ts, ch, m⟩ := s
  cases m <;> simp only [fin] at he <;> first | (cases he; done) | skip
  · cases he; exact key _ h.rowOk
  · cases he; exact key _ h.rowOk
  · split at he
    · cases he
    · rename_i k b hb
      cases he
      exact key _ (w_nm h (hm.2 hb)).rowOk
theorem w_start : W3 start ∧ md start := ⟨⟨fun r hr => (by cases hr), fun _ => rfl, fun x l hx => (by cases hx), fun x hx => (by cases hx), trivial⟩, rfl⟩
/-- What is parsed is a selector that may be. -/
theorem parse_ok {l : List UInt8} {x : List (List Stp)} (h : parse l = .ok x) : selOk x := by
  unfold parse at h
  cases hr : run start 0 l with
  | error k => rw [hr] at h; cases h
  | ok s =>
    rw [hr] at h
    simp only [ends] at h
    cases hf : fin s with
    | none => rw [hf] at h; cases h
    | some y =>
      rw [hf] at h
      cases h
      obtain ⟨h1, h2⟩ := w_run w_start.1 w_start.2 hr
      exact w_fin h1 h2 hf
/-- The text of a selector. -/
def printS (x : List (List Stp)) : List UInt8 := psel [44, 32] [32, 62, 32] x
theorem parse_printS {x : List (List Stp)} (h : selOk x) : parse (printS x) = .ok x := by
  have b32 : Bl [32] := fun c hc => by simp at hc; subst hc; decide
  have b0 : Bl [] := fun c hc => by cases hc
  have := parse_print (a := [32]) (b := [32]) (a2 := []) (b2 := [32]) (d := []) (d2 := []) b32 b32 b0 b32 b0 b0 h
  simp at this
  exact this
end Go.Proofs.Ytcfkcifbojckcaa.Sl
