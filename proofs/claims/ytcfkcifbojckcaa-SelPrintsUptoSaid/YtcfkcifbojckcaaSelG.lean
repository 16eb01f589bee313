/-
  What the reader's calls read, byte by byte: names, strings, blanks, tests.
-/
import Derived.Test.YtcfkcifbojckcaaSelF
import Derived.Test.YtcfkcifbojckcaaSelO
namespace Go.Proofs.Ytcfkcifbojckcaa
open Go.PlainAid (bt)
open Sl (St Te Stp Mo step tstep cstep baStep bzStep fin run isB isL isN)
set_option linter.unusedVariables false
set_option linter.unusedSimpArgs false

/-! ### the next byte -/
def ls (s : ByteArray) : List UInt8 := s.data.toList
theorem ls_len (s : ByteArray) : (ls s).length = s.size := by simp [ls]
theorem lk_some {s : ByteArray} {i : Nat} {c : UInt8} (h : (ls s)[i]? = some c) : lk s i = (c.toNat : Int) ∧ i < s.size := by
  have hi : i < s.size := by rw [← ls_len]; exact (List.getElem?_eq_some_iff.1 h).1
  obtain ⟨c', h1, h2, -⟩ := bt_list s i hi
  have : c = c' := Option.some.inj (h.symm.trans h1)
  subst this
  exact ⟨by rw [lk_in hi, h2], hi⟩
theorem lk_get {s : ByteArray} {i : Nat} (h : i < s.size) : ∃ c, (ls s)[i]? = some c ∧ lk s i = (c.toNat : Int) := by
  obtain ⟨c, h1, h2, -⟩ := bt_list s i h
  exact ⟨c, h1, by rw [lk_in h, h2]⟩
theorem lk_byte {s : ByteArray} {i : Nat} {c : UInt8} (h : lk s i = (c.toNat : Int)) : (ls s)[i]? = some c := by
  have hi : i < s.size := lk_lt (by rw [h]; omega)
  obtain ⟨c', h1, h2⟩ := lk_get hi
  rw [h1]
  congr 1
  rw [h] at h2
  exact UInt8.toNat_inj.1 (by omega)
theorem isL_bL (c : UInt8) : isL c = bL (c.toNat : Int) := by
  rw [Bool.eq_iff_iff]
  simp only [isL, bL, Bool.or_eq_true, Bool.and_eq_true, decide_eq_true_eq, UInt8.le_iff_toNat_le]
  simp
  omega
theorem isN_bN (c : UInt8) : isN c = bN (c.toNat : Int) := by
  rw [Bool.eq_iff_iff]
  simp only [isN, isL, bN, Bool.or_eq_true, Bool.and_eq_true, decide_eq_true_eq, UInt8.le_iff_toNat_le, beq_iff_eq, ← UInt8.toNat_inj]
  simp
  omega
theorem isS_bS (c : UInt8) : bS (c.toNat : Int) = decide (c ≠ 34) := by
  rw [Bool.eq_iff_iff]
  simp only [bS, decide_eq_true_eq, ne_eq, ← UInt8.toNat_inj]
  simp
  omega
/-! ### how far it was read -/
def At (s : ByteArray) (k : Nat) (st : St) : Prop := k ≤ s.size ∧ run Sl.start 0 ((ls s).take k) = .ok st
theorem At.zero (s : ByteArray) : At s 0 Sl.start := ⟨Nat.zero_le _, rfl⟩
theorem At.step {s : ByteArray} {k : Nat} {st st' : St} {c : UInt8} (h : At s k st) (hc : (ls s)[k]? = some c) (hs : Sl.step st c = some st') : At s (k + 1) st' := by
  have hk : k < (ls s).length := (List.getElem?_eq_some_iff.1 hc).1
  refine ⟨by rw [← ls_len]; omega, ?_⟩
  have e : (ls s).take (k + 1) = (ls s).take k ++ [c] := by rw [List.take_add_one, hc]; rfl
  rw [e, Sl.run_append, h.2]
  simp [run, hs]
theorem At.stop {s : ByteArray} {k : Nat} {st : St} (h : At s k st) (h1 : ∀ c, (ls s)[k]? = some c → Sl.step st c = none) (h2 : k = s.size → fin st = none) : Sl.parse (ls s) = .error k := by
  unfold Sl.parse
  rcases Nat.lt_or_ge k s.size with hk | hk
  · obtain ⟨c, hc, -⟩ := lk_get hk
    have e : ls s = (ls s).take k ++ c :: (ls s).drop (k + 1) := by
      have hk' : k < (ls s).length := by rw [ls_len]; exact hk
      have := List.getElem?_eq_getElem hk'
      rw [this] at hc
      have hc := Option.some.inj hc
      rw [← hc, ← List.drop_eq_getElem_cons hk', List.take_append_drop]
    have hl : ((ls s).take k).length = k := by rw [List.length_take, ls_len]; omega
    rw [e, Sl.run_append, h.2]
    simp only [run, h1 c hc, hl, Nat.zero_add]
  · have hk : k = s.size := Nat.le_antisymm h.1 hk
    have e : (ls s).take k = ls s := List.take_of_length_le (by rw [ls_len]; omega)
    have := h.2
    rw [e] at this
    rw [this]
    simp only [Sl.ends, h2 hk, ls_len, hk]
theorem At.done {s : ByteArray} {st : St} {x : List (List Stp)} (h : At s s.size st) (hf : fin st = some x) : Sl.parse (ls s) = .ok x := by
  unfold Sl.parse
  have e : (ls s).take s.size = ls s := List.take_of_length_le (by rw [ls_len]; omega)
  have := h.2
  rw [e] at this
  rw [this]
  simp only [Sl.ends, hf]
/-! ### blanks -/
theorem sp_end (s : ByteArray) (i : Nat) (hi : i ≤ s.size) : bB (lk s (sp s i)) = false := by
  have : ∀ (m i : Nat), s.size - i ≤ m → i ≤ s.size → bB (lk s (sp s i)) = false := by
    intro m
    induction m with
    | zero =>
      intro i hm hi
      have : lk s i = -1 := lk_end (by omega)
      rw [sp_no (by rw [this]; decide), this]
      decide
    | succ m ih =>
      intro i hm hi
      rcases Bool.eq_false_or_eq_true (bB (lk s i)) with hb | hb
      · obtain ⟨h1, h2⟩ := sp_yes hb
        rw [h2]
        exact ih (i + 1) (by omega) h1
      · rw [sp_no hb, hb]
  exact this _ i (Nat.le_refl _) hi
theorem At.blanks {s : ByteArray} {i : Nat} {st st1 : St} (h : At s i st) (h1 : ∀ c, isB c = true → Sl.step st c = some st1) (h2 : ∀ c, isB c = true → Sl.step st1 c = some st1) : At s (sp s i) (if i < sp s i then st1 else st) := by
  have key : ∀ (m i : Nat), s.size - i ≤ m → At s i st1 → At s (sp s i) st1 := by
    intro m
    induction m with
    | zero =>
      intro i hm h
      have : lk s i = -1 := lk_end (by have := h.1; omega)
      rw [sp_no (by rw [this]; decide)]
      exact h
    | succ m ih =>
      intro i hm h
      rcases Bool.eq_false_or_eq_true (bB (lk s i)) with hb | hb
      · obtain ⟨g1, g2⟩ := sp_yes hb
        obtain ⟨c, hc, hl⟩ := lk_get g1
        rw [hl, ← isB_bB] at hb
        rw [g2]
        exact ih (i + 1) (by omega) (h.step hc (h2 c hb))
      · rw [sp_no hb]
        exact h
  rcases Bool.eq_false_or_eq_true (bB (lk s i)) with hb | hb
  · obtain ⟨g1, g2⟩ := sp_yes hb
    obtain ⟨c, hc, hl⟩ := lk_get g1
    rw [hl, ← isB_bB] at hb
    have := key _ (i + 1) (Nat.le_refl _) (h.step hc (h1 c hb))
    rw [g2, if_pos (by have := (sp_le s (i + 1) g1).1; omega)]
    exact this
  · rw [sp_no hb, if_neg (by omega)]
    exact h
/-! ### bytes that are so -/
theorem ext_ls {s : ByteArray} {i j : Nat} : ls (s.extract i j) = ((ls s).drop i).take (j - i) := by
  simp [ls, ByteArray.data_extract, List.take_drop]
  try omega
theorem me_run {s : ByteArray} (p : Int → Bool) (hp : p (-1) = false) (mk : List UInt8 → St) (N : Nat) (hs : ∀ (b : List UInt8) (c : UInt8), b.length < N → p (c.toNat : Int) = true → Sl.step (mk b) c = some (mk (b ++ [c]))) :
    ∀ (m i : Nat) (b : List UInt8), b.length + m ≤ N → At s i (mk b) → At s (me p s m i) (mk (b ++ ((ls s).drop i).take (me p s m i - i))) := by
  intro m
  induction m with
  | zero => intro i b hb h; simp only [me, Nat.sub_self, List.take_zero, List.append_nil]; exact h
  | succ m ih =>
    intro i b hb h
    rw [me]
    split
    · rename_i hl
      have hi : i < s.size := lk_lt (fun e => by rw [e, hp] at hl; cases hl)
      obtain ⟨c, hc, hcl⟩ := lk_get hi
      rw [hcl] at hl
      have h1 := h.step hc (hs b c (by omega) hl)
      have h2 := ih (i + 1) (b ++ [c]) (by simp; omega) h1
      have h3 := (me_le p hp s m (i + 1) hi).1
      have e : ((ls s).drop i).take (me p s m (i + 1) - i) = c :: ((ls s).drop (i + 1)).take (me p s m (i + 1) - (i + 1)) := by
        have hk' : i < (ls s).length := by rw [ls_len]; exact hi
        have hcc := Option.some.inj ((List.getElem?_eq_getElem hk').symm.trans hc)
        rw [List.drop_eq_getElem_cons hk', hcc, show me p s m (i + 1) - i = (me p s m (i + 1) - (i + 1)) + 1 by omega, List.take_succ_cons]
      rw [e]
      simpa using h2
    · simp only [Nat.sub_self, List.take_zero, List.append_nil]
      exact h
theorem me_stop {s : ByteArray} (p : Int → Bool) (hp : p (-1) = false) : ∀ (m i : Nat), i ≤ s.size → me p s m i = i + m ∨ p (lk s (me p s m i)) = false := by
  intro m
  induction m with
  | zero => intro i _; exact .inl rfl
  | succ m ih =>
    intro i hi
    rw [me]
    split
    · rename_i hl
      have hlt : i < s.size := lk_lt (fun e => by rw [e, hp] at hl; cases hl)
      rcases ih (i + 1) hlt with h | h
      · exact .inl (by omega)
      · exact .inr h
    · rename_i hl
      exact .inr (by simpa using hl)
/-- A name. -/
theorem At.name {s : ByteArray} {i : Nat} {st : St} (h : At s i st) (mk : List UInt8 → St) (hf : ∀ c, (ls s)[i]? = some c → isL c = true → Sl.step st c = some (mk [c]))
    (hs : ∀ (b : List UInt8) (c : UInt8), b ≠ [] → isN c = true → b.length < 20 → Sl.step (mk b) c = some (mk (b ++ [c]))) {n : ByteArray} {j : Nat} (hn : nP s i = .ok (n, j)) :
    At s j (mk (ls n)) ∧ ls n ≠ [] ∧ (∀ c, (ls s)[j]? = some c → isN c = true → 20 ≤ (ls n).length) := by
  unfold nP at hn
  split at hn
  · rename_i hl
    cases hn
    have hi : i < s.size := lk_lt (fun e => by rw [e] at hl; revert hl; decide)
    obtain ⟨c, hc, hcl⟩ := lk_get hi
    rw [hcl, ← isL_bL] at hl
    have hN : bN (lk s i) = true := by rw [hcl, ← isN_bN]; exact Sl.isL_N hl
    have h1 := h.step hc (hf c hc hl)
    have e0 : me bN s 20 i = me bN s 19 (i + 1) := by rw [me, if_pos hN]
    have hm := me_le bN (by decide) s 19 (i + 1) hi
    have h2 := me_run (s := s) bN (by decide) (fun b => mk (c :: b)) 19 (fun b c' hb hc' => by
      have := hs (c :: b) c' (by simp) (by rw [isN_bN]; exact hc') (by simp; omega)
      simpa using this) 19 (i + 1) [] (by simp) h1
    have e1 : ls (s.extract i (me bN s 20 i)) = c :: ((ls s).drop (i + 1)).take (me bN s 19 (i + 1) - (i + 1)) := by
      have hk' : i < (ls s).length := by rw [ls_len]; exact hi
      have hcc := Option.some.inj ((List.getElem?_eq_getElem hk').symm.trans hc)
      rw [ext_ls, e0, List.drop_eq_getElem_cons hk', hcc, show me bN s 19 (i + 1) - i = (me bN s 19 (i + 1) - (i + 1)) + 1 by omega, List.take_succ_cons]
    rw [e1, e0]
    refine ⟨by simpa using h2, by simp, fun c' hc' hn' => ?_⟩
    rcases me_stop (s := s) bN (by decide) 19 (i + 1) hi with h3 | h3
    · rw [List.length_cons, List.length_take, List.length_drop, ls_len, h3]
      have := hm.2.1
      omega
    · have := (lk_some hc').1
      rw [this, ← isN_bN, hn'] at h3
      cases h3
  · cases hn
theorem nP_err {s : ByteArray} {i k : Nat} (h : nP s i = .error k) : k = i ∧ ∀ c, (ls s)[i]? = some c → isL c = false := by
  unfold nP at h
  split at h
  · cases h
  · rename_i hl
    cases h
    refine ⟨rfl, fun c hc => ?_⟩
    rw [(lk_some hc).1, ← isL_bL] at hl
    simpa using hl
end Go.Proofs.Ytcfkcifbojckcaa
