/-
  What the reader's test reads, byte by byte.
-/
import Derived.Test.YtcfkcifbojckcaaSelG
namespace Go.Proofs.Ytcfkcifbojckcaa
open Go.PlainAid (bt)
open Sl (St Te Stp Mo step tstep cstep baStep bzStep fin run isB isL isN)
set_option linter.unusedVariables false
set_option linter.unusedSimpArgs false

/-- Whole up to here. -/
def Rdy (s : ByteArray) (j : Nat) (R : List (List Stp)) (r : List Stp) (T : List Te) (ch : Bool) : Prop :=
  ∃ st, At s j st ∧ fin st = some (R ++ [r ++ [⟨T, ch⟩]]) ∧ ∀ c, (ls s)[j]? = some c → Sl.step st c = tstep ⟨R, r, T, ch, .tests⟩ c
/-- A compound must begin here. -/
def Cmp (s : ByteArray) (j : Nat) (R : List (List Stp)) (r : List Stp) (ch : Bool) : Prop :=
  ∃ st, At s j st ∧ (∀ c, (ls s)[j]? = some c → Sl.step st c = cstep ⟨R, r, [], ch, .comp⟩ c) ∧ (j = s.size → fin st = none)
def te (t : Int × ByteArray × ByteArray) : Te := ⟨t.1, ls t.2.1, ls t.2.2⟩
theorem ls_empty : ls ⟨#[]⟩ = [] := rfl
theorem tstep_name {R : List (List Stp)} {r : List Stp} {T : List Te} {ch : Bool} {c : UInt8} (h : isN c = true) : tstep ⟨R, r, T, ch, .tests⟩ c = none := by
  obtain ⟨h1, h2, h3, h4, h5, h6, h7, -⟩ := Sl.isN_not h
  simp [tstep, h1, h3, h4, h5, h6, h7]
theorem rdy_nm {s : ByteArray} {j : Nat} {R : List (List Stp)} {r : List Stp} {T : List Te} {ch : Bool} {k : Int} {b : List UInt8} (h : At s j ⟨R, r, T, ch, .nm k b⟩) (hb : b ≠ []) (hm : ∀ c, (ls s)[j]? = some c → isN c = true → 20 ≤ b.length) : Rdy s j R r (T ++ [⟨k, b, []⟩]) ch := by
  refine ⟨_, h, by simp [fin, hb], fun c hc => ?_⟩
  rcases Bool.eq_false_or_eq_true (isN c) with hn | hn
  · have h1 := hm c hc hn
    rw [tstep_name hn]
    simp [Sl.step, hb, hn]
    omega
  · simp [Sl.step, hb, hn, St.add]
theorem v_ok {s : ByteArray} {i : Nat} {R : List (List Stp)} {r : List Stp} {T : List Te} {ch : Bool} {n : List UInt8} (h : At s i ⟨R, r, T, ch, .be n⟩) (hb : bB (lk s i) = false) :
    match vP s i with
    | .ok (v, j) => ∃ st, At s j st ∧ fin st = none ∧ (∀ c, isB c = true → Sl.step st c = some ⟨R, r, T, ch, .bz n (ls v)⟩) ∧ ∀ c, (ls s)[j]? = some c → isB c = false → Sl.step st c = bzStep ⟨R, r, T, ch, .tests⟩ n (ls v) c
    | .error k => Sl.parse (ls s) = .error k := by
  unfold vP
  by_cases h34 : lk s i = 34
  · have hi : i < s.size := lk_lt (by rw [h34]; decide)
    have h1 := h.step (lk_byte (c := 34) h34) (show Sl.step _ 34 = some ⟨R, r, T, ch, .bs n []⟩ by simp [Sl.step, isB, St.to])
    have h2 := me_run (s := s) bS (by decide) (fun b => ⟨R, r, T, ch, .bs n b⟩) 60 (fun b c hl hc => by
      rw [isS_bS, decide_eq_true_eq] at hc
      simp [Sl.step, hc, hl, St.to]) 60 (i + 1) [] (by simp) h1
    have hm := me_le bS (by decide) s 60 (i + 1) hi
    have hst := me_stop (s := s) bS (by decide) 60 (i + 1) hi
    rw [if_pos h34]
    generalize me bS s 60 (i + 1) = j at *
    rw [List.nil_append, ← ext_ls] at h2
    by_cases hj : lk s j = 34
    · have h3 := h2.step (lk_byte (c := 34) hj) (show Sl.step _ 34 = some ⟨R, r, T, ch, .bz n (ls (s.extract (i + 1) j))⟩ by simp [Sl.step, St.to])
      rw [if_pos hj]
      exact ⟨_, h3, rfl, fun c hc => by simp [Sl.step, bzStep, hc, St.to], fun c _ hc => by simp [Sl.step, bzStep, hc, St.to, St.add]⟩
    · rw [if_neg hj]
      refine h2.stop (fun c hc => ?_) (fun _ => rfl)
      have hc34 : c ≠ 34 := by rintro rfl; exact hj (lk_some hc).1
      have hl : ¬ (ls (s.extract (i + 1) j)).length < 60 := by
        rcases hst with e | e
        · rw [ext_ls, List.length_take, List.length_drop, ls_len]
          omega
        · rw [(lk_some hc).1, isS_bS, decide_eq_false_iff_not] at e
          exact absurd hc34 e
      simp [Sl.step, hc34, hl]
  · rw [if_neg h34]
    cases hn : nP s i with
    | error k =>
      obtain ⟨rfl, hk⟩ := nP_err hn
      refine h.stop (fun c hc => ?_) (fun _ => rfl)
      have h1 := hk c hc
      have h2 : isB c = false := by rw [isB_bB, ← (lk_some hc).1]; exact hb
      have h3 : c ≠ 34 := by rintro rfl; exact h34 (lk_some hc).1
      simp [Sl.step, h1, h2, h3]
    | ok p =>
      obtain ⟨v, j⟩ := p
      obtain ⟨h1, h2, h3⟩ := h.name (fun b => ⟨R, r, T, ch, .bv n b⟩) (fun c hc hl => by
        obtain ⟨g1, -, -, -, -, -, -, g8, -⟩ := Sl.isL_not hl
        simp [Sl.step, g1, g8, hl, St.to]) (fun b c hb hc hl => by simp [Sl.step, hc, hl, St.to]) hn
      refine ⟨_, h1, rfl, fun c hc => ?_, fun c hc hb' => ?_⟩
      · have := (Sl.isB_not hc).1
        simp [Sl.step, this, bzStep, hc, St.to]
      · rcases Bool.eq_false_or_eq_true (isN c) with hn' | hn'
        · have g := h3 c hc hn'
          obtain ⟨-, -, -, -, -, -, -, -, g9, -⟩ := Sl.isN_not hn'
          have g' : ¬ (ls v).length < 20 := by omega
          simp [Sl.step, hn', g', bzStep, hb', g9]
        · simp [Sl.step, hn', bzStep, hb', St.add]
theorem a_ok {s : ByteArray} {i : Nat} {R : List (List Stp)} {r : List Stp} {T : List Te} {ch : Bool} (h : At s (i + 1) ⟨R, r, T, ch, .brk⟩) :
    match aP s i with
    | .ok (t, j) => At s j ⟨R, r, T ++ [te t], ch, .tests⟩
    | .error k => Sl.parse (ls s) = .error k := by
  have h0 := h.blanks (st1 := ⟨R, r, T, ch, .brk⟩) (fun c hc => by simp [Sl.step, hc]) (fun c hc => by simp [Sl.step, hc])
  rw [ite_self] at h0
  have hb0 := sp_end s (i + 1) h.1
  unfold aP
  generalize sp s (i + 1) = i1 at *
  cases hn : nP s i1 with
  | error k =>
    obtain ⟨rfl, hk⟩ := nP_err hn
    refine h0.stop (fun c hc => ?_) (fun _ => rfl)
    have h1 := hk c hc
    have h2 : isB c = false := by rw [isB_bB, ← (lk_some hc).1]; exact hb0
    simp [Sl.step, h1, h2]
  | ok p =>
    obtain ⟨n, j⟩ := p
    simp only []
    obtain ⟨h1, h2, h3⟩ := h0.name (fun b => ⟨R, r, T, ch, .bn b⟩) (fun c hc hl => by
      obtain ⟨g1, -⟩ := Sl.isL_not hl
      simp [Sl.step, g1, hl, St.to]) (fun b c hb hc hl => by simp [Sl.step, hc, hl, St.to]) hn
    have h4 := h1.blanks (st1 := ⟨R, r, T, ch, .ba (ls n)⟩) (fun c hc => by have := (Sl.isB_not hc).1; simp [Sl.step, this, baStep, hc, St.to]) (fun c hc => by simp [Sl.step, baStep, hc, St.to])
    have hb1 := sp_end s j h1.1
    have key : ∃ st, At s (sp s j) st ∧ fin st = none ∧ ∀ c, (ls s)[sp s j]? = some c → Sl.step st c = baStep ⟨R, r, T, ch, .tests⟩ (ls n) c := by
      refine ⟨_, h4, by split <;> rfl, fun c hc => ?_⟩
      have hbc : isB c = false := by rw [isB_bB, ← (lk_some hc).1]; exact hb1
      split
      · simp [Sl.step, baStep, hbc, St.to, St.add]
      · rename_i hlt
        have hjj : sp s j = j := by have := (sp_le s j h1.1).1; omega
        rw [hjj] at hc
        rcases Bool.eq_false_or_eq_true (isN c) with hn' | hn'
        · have g := h3 c hc hn'
          obtain ⟨-, -, -, -, -, -, -, -, g9, g10⟩ := Sl.isN_not hn'
          have g' : ¬ (ls n).length < 20 := by omega
          simp [Sl.step, hn', g', baStep, hbc, g9, g10]
        · simp [Sl.step, hn', baStep, hbc, St.add, St.to]
    obtain ⟨st, k1, k2, k3⟩ := key
    unfold aQ
    generalize sp s j = j1 at *
    have hbc : ∀ c, (ls s)[j1]? = some c → isB c = false := fun c hc => by rw [isB_bB, ← (lk_some hc).1]; exact hb1
    by_cases h61 : lk s j1 = 61
    · rw [if_pos h61]
      have g1 := k1.step (lk_byte (c := 61) h61) (show Sl.step st 61 = some ⟨R, r, T, ch, .be (ls n)⟩ by rw [k3 61 (lk_byte (c := 61) h61)]; simp [baStep, isB, St.to])
      have g2 := g1.blanks (st1 := ⟨R, r, T, ch, .be (ls n)⟩) (fun c hc => by simp [Sl.step, hc]) (fun c hc => by simp [Sl.step, hc])
      rw [ite_self] at g2
      have hb2 := sp_end s (j1 + 1) g1.1
      generalize sp s (j1 + 1) = j2 at *
      have g3 := v_ok g2 hb2
      cases hv : vP s j2 with
      | error k => rw [hv] at g3; exact g3
      | ok p =>
        obtain ⟨v, k⟩ := p
        rw [hv] at g3
        simp only [] at g3 ⊢
        obtain ⟨st2, e1, e2, e3, e4⟩ := g3
        have g4 := e1.blanks e3 (fun c hc => by simp [Sl.step, bzStep, hc, St.to])
        have hb3 := sp_end s k e1.1
        have key2 : ∃ st, At s (sp s k) st ∧ fin st = none ∧ ∀ c, (ls s)[sp s k]? = some c → Sl.step st c = bzStep ⟨R, r, T, ch, .tests⟩ (ls n) (ls v) c := by
          refine ⟨_, g4, by split; rfl; exact e2, fun c hc => ?_⟩
          have hbc : isB c = false := by rw [isB_bB, ← (lk_some hc).1]; exact hb3
          split
          · simp [Sl.step, bzStep, hbc, St.to, St.add]
          · rename_i hlt
            have hjj : sp s k = k := by have := (sp_le s k e1.1).1; omega
            rw [hjj] at hc
            exact e4 c hc hbc
        obtain ⟨st3, m1, m2, m3⟩ := key2
        generalize sp s k = k1 at *
        by_cases h93 : lk s k1 = 93
        · rw [if_pos h93]
          have := m1.step (lk_byte (c := 93) h93) (show Sl.step st3 93 = some ⟨R, r, T ++ [⟨5, ls n, ls v⟩], ch, .tests⟩ by rw [m3 93 (lk_byte (c := 93) h93)]; simp [bzStep, isB, St.add])
          exact this
        · rw [if_neg h93]
          refine m1.stop (fun c hc => ?_) (fun _ => m2)
          have h1 : c ≠ 93 := by rintro rfl; exact h93 (lk_some hc).1
          have h2 : isB c = false := by rw [isB_bB, ← (lk_some hc).1]; exact hb3
          rw [m3 c hc]
          simp [bzStep, h1, h2]
    · rw [if_neg h61]
      by_cases h93 : lk s j1 = 93
      · rw [if_pos h93]
        have := k1.step (lk_byte (c := 93) h93) (show Sl.step st 93 = some ⟨R, r, T ++ [⟨4, ls n, []⟩], ch, .tests⟩ by rw [k3 93 (lk_byte (c := 93) h93)]; simp [baStep, isB, St.add])
        exact this
      · rw [if_neg h93]
        refine k1.stop (fun c hc => ?_) (fun _ => k2)
        have h1 : c ≠ 93 := by rintro rfl; exact h93 (lk_some hc).1
        have h3 : c ≠ 61 := by rintro rfl; exact h61 (lk_some hc).1
        rw [k3 c hc]
        simp [baStep, h1, h3, hbc c hc]
theorem t_ok {s : ByteArray} {i : Nat} {R : List (List Stp)} {r : List Stp} {T : List Te} {ch fst : Bool} {st : St} (h : At s i st) (hend : i = s.size → fin st = none) (hm : fst = false → mkB (lk s i) = true)
    (hst : ∀ c, (ls s)[i]? = some c → Sl.step st c = if c = 35 then some ⟨R, r, T, ch, .nm 2 []⟩ else if c = 46 then some ⟨R, r, T, ch, .nm 3 []⟩ else if c = 91 then some ⟨R, r, T, ch, .brk⟩ else if isL c = true ∧ fst = true then some ⟨R, r, T, ch, .nm 1 [c]⟩ else none) :
    match tP s i with
    | .ok (t, j) => Rdy s j R r (T ++ [te t]) ch
    | .error k => Sl.parse (ls s) = .error k := by
  have hnm : ∀ (k : Int) (i : Nat), At s i ⟨R, r, T, ch, .nm k []⟩ → match nT k (nP s i) with
      | .ok (t, j) => Rdy s j R r (T ++ [te t]) ch
      | .error k => Sl.parse (ls s) = .error k := by
    intro k i h
    cases hn : nP s i with
    | error k =>
      obtain ⟨rfl, hk⟩ := nP_err hn
      refine h.stop (fun c hc => ?_) (fun _ => rfl)
      simp [Sl.step, hk c hc]
    | ok p =>
      obtain ⟨n, j⟩ := p
      obtain ⟨h1, h2, h3⟩ := h.name (fun b => ⟨R, r, T, ch, .nm k b⟩) (fun c hc hl => by simp [Sl.step, hl, St.to]) (fun b c hb hc hl => by simp [Sl.step, hb, hc, hl, St.to]) hn
      exact rdy_nm h1 h2 h3
  unfold tP
  by_cases h91 : lk s i = 91
  · have hk : kd (lk s i) = 4 := by rw [h91]; decide
    rw [if_pos hk]
    have h1 := h.step (lk_byte (c := 91) h91) (show Sl.step st 91 = some ⟨R, r, T, ch, .brk⟩ by rw [hst 91 (lk_byte (c := 91) h91)]; simp)
    have h2 := a_ok h1
    cases ha : aP s i with
    | error k => rw [ha] at h2; exact h2
    | ok p =>
      obtain ⟨t, j⟩ := p
      rw [ha] at h2
      exact ⟨_, h2, rfl, fun c _ => rfl⟩
  · have hk : ¬ kd (lk s i) = 4 := fun e => h91 (kd_4 e)
    rw [if_neg hk]
    by_cases h35 : lk s i = 35
    · have e : kd (lk s i) = 2 := by rw [h35]; decide
      rw [e, if_pos (by decide)]
      exact hnm 2 (i + 1) (h.step (lk_byte (c := 35) h35) (by rw [hst 35 (lk_byte (c := 35) h35)]; simp))
    · by_cases h46 : lk s i = 46
      · have e : kd (lk s i) = 3 := by rw [h46]; decide
        rw [e, if_pos (by decide)]
        exact hnm 3 (i + 1) (h.step (lk_byte (c := 46) h46) (by rw [hst 46 (lk_byte (c := 46) h46)]; simp))
      · have e : kd (lk s i) = if bL (lk s i) = true then 1 else 0 := by unfold kd; rw [if_neg h35, if_neg h46, if_neg h91]
        have e2 : ¬ (kd (lk s i) = 2 ∨ kd (lk s i) = 3) := by rw [e]; split <;> decide
        have hf : fst = true := by
          cases fst with
          | true => rfl
          | false =>
            have := hm rfl
            simp only [mkB, decide_eq_true_eq] at this
            omega
        have hc3 : ∀ c, (ls s)[i]? = some c → c ≠ 35 ∧ c ≠ 46 ∧ c ≠ 91 := fun c hc => by
          refine ⟨?_, ?_, ?_⟩
          · rintro rfl; exact h35 (lk_some hc).1
          · rintro rfl; exact h46 (lk_some hc).1
          · rintro rfl; exact h91 (lk_some hc).1
        rw [if_neg e2]
        cases hn : nP s i with
        | error k =>
          obtain ⟨rfl, hk⟩ := nP_err hn
          refine h.stop (fun c hc => ?_) hend
          obtain ⟨g1, g2, g3⟩ := hc3 c hc
          rw [hst c hc]
          simp [g1, g2, g3, hk c hc]
        | ok p =>
          obtain ⟨n, j⟩ := p
          have hbl : bL (lk s i) = true := by
            unfold nP at hn
            split at hn
            · assumption
            · cases hn
          rw [hbl, if_pos rfl] at e
          obtain ⟨h1, h2, h3⟩ := h.name (fun b => ⟨R, r, T, ch, .nm 1 b⟩) (fun c hc hl => by
            obtain ⟨g1, g2, g3⟩ := hc3 c hc
            rw [hst c hc]
            simp [g1, g2, g3, hl, hf]) (fun b c hb hc hl => by simp [Sl.step, hb, hc, hl, St.to]) hn
          rw [e]
          exact rdy_nm h1 h2 h3
end Go.Proofs.Ytcfkcifbojckcaa
