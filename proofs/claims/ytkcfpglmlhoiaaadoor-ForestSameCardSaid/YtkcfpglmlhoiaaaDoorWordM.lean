/-
  Words between blanks, each once; names; letters folded: plain mathematics over lists of bytes, of no program.
-/
import Derived.PlainAid
import Derived.Lib.Strings
namespace Go.Proofs.YtkcfpglmlhoiaaaDoor
open Go.PlainAid (bt)
set_option linter.unusedVariables false

/-- c is a blank. -/
def bl (c : Int) : Bool := decide (c = 9 ∨ c = 10 ∨ c = 12 ∨ c = 13 ∨ c = 32)
/-- c is a capital. -/
def cap (c : Int) : Bool := decide (65 ≤ c ∧ c ≤ 90)
/-- c is a letter. -/
def let_ (c : Int) : Bool := decide ((65 ≤ c ∧ c ≤ 90) ∨ (97 ≤ c ∧ c ≤ 122))
/-- c may stand in a name. -/
def nb (c : Int) : Bool := decide ((65 ≤ c ∧ c ≤ 90) ∨ (97 ≤ c ∧ c ≤ 122) ∨ (48 ≤ c ∧ c ≤ 57) ∨ c = 45 ∨ c = 95)
theorem nb_bl {c : Int} (h : nb c = true) : bl c = false := by
  simp [nb] at h
  simp [bl]
  omega

/-! ### words -/
abbrev Wd := List UInt8
/-- The words of l, the one that is begun being cur. -/
def split : Wd → Wd → List Wd
  | cur, [] => if cur = [] then [] else [cur]
  | cur, c :: l => if bl (c.toNat : Int) = true then (if cur = [] then split [] l else cur :: split [] l) else split (cur ++ [c]) l
/-- A text's bytes. -/
def str (l : Wd) : ByteArray := ⟨l.toArray⟩
theorem str_data (l : Wd) : (str l).data.toList = l := rfl
theorem str_toList (l : Wd) : (str l).toList = l := by rw [Lib.toList_data]; rfl
theorem str_size (l : Wd) : (str l).size = l.length := by rw [Lib.size_eq]; rfl
theorem str_inj {a b : Wd} (h : str a = str b) : a = b := by
  have := congrArg (fun x : ByteArray => x.data.toList) h
  exact this
theorem str_eq (s : ByteArray) : str s.data.toList = s := Lib.mk_data s
/-- The words of a text, as they come. -/
def ws (s : ByteArray) : List Wd := split [] s.data.toList

theorem split_stop {cur : Wd} : split cur [] = if cur = [] then [] else [cur] := by rw [split]
theorem split_bl {cur : Wd} {c : UInt8} {l : Wd} (h : bl (c.toNat : Int) = true) : split cur (c :: l) = (if cur = [] then [] else [cur]) ++ split [] l := by
  rw [split, if_pos h]
  split <;> simp
theorem split_nb {cur : Wd} {c : UInt8} {l : Wd} (h : bl (c.toNat : Int) = false) : split cur (c :: l) = split (cur ++ [c]) l := by
  rw [split, if_neg (by simp [h])]
theorem split_length (l : Wd) : ∀ cur, (split cur l).length ≤ (l.filter fun c => bl (c.toNat : Int)).length + 1 := by
  induction l with
  | nil => intro cur; rw [split_stop]; split <;> simp
  | cons c l ih =>
    intro cur
    rcases Bool.eq_false_or_eq_true (bl (c.toNat : Int)) with h | h
    · rw [split_bl h, List.filter_cons, if_pos h]
      have := ih []
      split <;> simp <;> omega
    · rw [split_nb h, List.filter_cons, if_neg (by simp [h])]
      exact ih _
theorem ws_length (s : ByteArray) : (ws s).length ≤ s.size + 1 := by
  have h1 := split_length s.data.toList []
  have h2 := List.length_filter_le (fun c : UInt8 => bl (c.toNat : Int)) s.data.toList
  rw [← Lib.size_eq] at h2
  unfold ws
  omega
theorem split_word {cur l : Wd} (h : ∀ c ∈ l, bl (c.toNat : Int) = false) : split cur l = if cur ++ l = [] then [] else [cur ++ l] := by
  induction l generalizing cur with
  | nil => rw [split_stop]; simp
  | cons c l ih =>
    rw [split_nb (h c (by simp)), ih (fun d hd => h d (by simp [hd]))]
    simp
theorem split_at {a rest : Wd} {b : UInt8} (hb : bl (b.toNat : Int) = true) : ∀ cur, split cur (a ++ b :: rest) = split cur a ++ split [] rest := by
  induction a with
  | nil => intro cur; rw [List.nil_append, split_bl hb, split_stop]
  | cons c a ih =>
    intro cur
    rw [List.cons_append]
    rcases Bool.eq_false_or_eq_true (bl (c.toNat : Int)) with h | h
    · rw [split_bl h, split_bl h, ih, List.append_assoc]
    · rw [split_nb h, split_nb h, ih]
theorem split_blanks {l : Wd} (h : ∀ c ∈ l, bl (c.toNat : Int) = true) : split [] l = [] := by
  induction l with
  | nil => rw [split_stop]; simp
  | cons c l ih => rw [split_bl (h c (by simp)), ih (fun d hd => h d (by simp [hd]))]; simp
/-- No word is empty, none has a blank. -/
theorem split_mem {l : Wd} : ∀ {cur x : Wd}, (∀ c ∈ cur, bl (c.toNat : Int) = false) → x ∈ split cur l → x ≠ [] ∧ ∀ c ∈ x, bl (c.toNat : Int) = false := by
  induction l with
  | nil =>
    intro cur x hc hx
    rw [split_stop] at hx
    split at hx
    · simp at hx
    · simp at hx; subst hx; exact ⟨by assumption, hc⟩
  | cons c l ih =>
    intro cur x hc hx
    rcases Bool.eq_false_or_eq_true (bl (c.toNat : Int)) with h | h
    · rw [split_bl h, List.mem_append] at hx
      rcases hx with hx | hx
      · split at hx
        · simp at hx
        · simp at hx; subst hx; exact ⟨by assumption, hc⟩
      · exact ih (by simp) hx
    · rw [split_nb h] at hx
      refine ih ?_ hx
      intro d hd
      rcases List.mem_append.1 hd with hd | hd
      · exact hc d hd
      · simp at hd; subst hd; exact h
theorem split_some {l : Wd} : ∀ {cur : Wd}, (cur ≠ [] ∨ ∃ c ∈ l, bl (c.toNat : Int) = false) → split cur l ≠ [] := by
  induction l with
  | nil =>
    intro cur h
    rw [split_stop]
    rcases h with h | ⟨c, hc, _⟩
    · rw [if_neg h]; simp
    · simp at hc
  | cons c l ih =>
    intro cur h
    rcases Bool.eq_false_or_eq_true (bl (c.toNat : Int)) with hb | hb
    · rw [split_bl hb]
      rcases h with h | ⟨d, hd, hdb⟩
      · rw [if_neg h]; simp
      · have : split [] l ≠ [] := ih (Or.inr ⟨d, by
          rcases List.mem_cons.1 hd with e | e
          · subst e; rw [hb] at hdb; cases hdb
          · exact e, hdb⟩)
        simp [this]
    · rw [split_nb hb]
      exact ih (Or.inl (by simp))

/-! ### going through a text -/
/-- What stands from x on, ahead of y. -/
def cu (s : ByteArray) (x y : Nat) : Wd := (s.extract x y).data.toList
theorem cu_eq (s : ByteArray) (x y : Nat) : cu s x y = (s.data.toList.drop x).take (y - x) := by rw [cu, Lib.extract_data]
theorem cu_str (s : ByteArray) (x y : Nat) : str (cu s x y) = s.extract x y := str_eq _
theorem cu_same (s : ByteArray) (x : Nat) : cu s x x = [] := by rw [cu_eq]; simp
theorem cu_length (s : ByteArray) {x y : Nat} (hxy : x ≤ y) (hy : y ≤ s.size) : (cu s x y).length = y - x := by
  rw [Lib.size_eq] at hy
  rw [cu_eq, List.length_take, List.length_drop]; omega
theorem cu_some (s : ByteArray) {x y : Nat} (hxy : x < y) (hy : y ≤ s.size) : cu s x y ≠ [] := by
  intro e
  have := cu_length s (Nat.le_of_lt hxy) hy
  rw [e] at this
  simp at this
  omega
/-- What stands from y on. -/
def rs (s : ByteArray) (y : Nat) : Wd := s.data.toList.drop y
theorem rs_cons (s : ByteArray) {y : Nat} (hy : y < s.size) : ∃ c : UInt8, (c.toNat : Int) = bt s y ∧ rs s y = c :: rs s (y + 1) ∧ ∀ x, x ≤ y → cu s x (y + 1) = cu s x y ++ [c] := by
  have hl : y < s.data.toList.length := by rw [← Lib.size_eq]; exact hy
  refine ⟨s.data.toList[y]'hl, ?_, List.drop_eq_getElem_cons hl, ?_⟩
  · rw [← PlainAid.get_bt s y hy]; rfl
  · intro x hx
    rw [cu_eq, cu_eq, show y + 1 - x = (y - x) + 1 by omega, List.take_succ_eq_append_getElem (by rw [List.length_drop]; omega)]
    congr 2
    rw [List.getElem_drop]
    congr 1
    omega
theorem rs_end (s : ByteArray) : rs s s.size = [] := by rw [rs, Lib.size_eq]; simp
theorem rs_zero (s : ByteArray) : ws s = split (cu s 0 0) (rs s 0) := by rw [cu_same]; rfl
theorem step_nb (s : ByteArray) {x y : Nat} (hxy : x ≤ y) (hy : y < s.size) (h : bl (bt s y) = false) : split (cu s x y) (rs s y) = split (cu s x (y + 1)) (rs s (y + 1)) := by
  obtain ⟨c, hc, hr, hu⟩ := rs_cons s hy
  rw [hr, hu x hxy, split_nb (by rw [hc]; exact h)]
theorem step_b0 (s : ByteArray) {y : Nat} (hy : y < s.size) (h : bl (bt s y) = true) : split (cu s y y) (rs s y) = split (cu s (y + 1) (y + 1)) (rs s (y + 1)) := by
  obtain ⟨c, hc, hr, hu⟩ := rs_cons s hy
  rw [hr, split_bl (by rw [hc]; exact h), cu_same, cu_same]
  simp
theorem step_b1 (s : ByteArray) {x y : Nat} (hxy : x < y) (hy : y < s.size) (h : bl (bt s y) = true) : split (cu s x y) (rs s y) = cu s x y :: split (cu s (y + 1) (y + 1)) (rs s (y + 1)) := by
  obtain ⟨c, hc, hr, hu⟩ := rs_cons s hy
  rw [hr, split_bl (by rw [hc]; exact h), cu_same, if_neg (cu_some s hxy (by omega))]
  simp
theorem step_end (s : ByteArray) {x : Nat} (hx : x < s.size) : split (cu s x s.size) (rs s s.size) = [cu s x s.size] := by
  rw [rs_end, split_stop, if_neg (cu_some s hx (Nat.le_refl _))]
theorem step_none (s : ByteArray) : split (cu s s.size s.size) (rs s s.size) = [] := by
  rw [rs_end, split_stop, cu_same]; simp

/-! ### each once -/
/-- Each word once, in the order in which they come first. -/
def dd (l : List Wd) : List Wd := l.foldl (fun acc x => if x ∈ acc then acc else acc ++ [x]) []
theorem dd_nil : dd [] = [] := rfl
theorem dd_snoc (l : List Wd) (x : Wd) : dd (l ++ [x]) = if x ∈ dd l then dd l else dd l ++ [x] := by
  unfold dd
  rw [List.foldl_append]
  rfl
theorem snoc_ind {α : Type} {P : List α → Prop} (h0 : P []) (h1 : ∀ l x, P l → P (l ++ [x])) (l : List α) : P l := by
  have h : ∀ l : List α, P l.reverse := by
    intro l
    induction l with
    | nil => exact h0
    | cons x l ih => rw [List.reverse_cons]; exact h1 _ _ ih
  have := h l.reverse
  rwa [List.reverse_reverse] at this
theorem mem_dd (x : Wd) (l : List Wd) : x ∈ dd l ↔ x ∈ l := by
  refine snoc_ind (P := fun l => x ∈ dd l ↔ x ∈ l) (by simp [dd]) ?_ l
  intro l y ih
  rw [dd_snoc]
  by_cases h : y ∈ dd l
  · rw [if_pos h, ih, List.mem_append]
    constructor
    · exact Or.inl
    · rintro (h' | h')
      · exact h'
      · simp at h'; subst h'; exact ih.1 h
  · rw [if_neg h]; simp [ih]
theorem dd_hit {l : List Wd} {x : Wd} (h : x ∈ l) : dd (l ++ [x]) = dd l := by rw [dd_snoc, if_pos ((mem_dd x l).2 h)]
theorem dd_miss {l : List Wd} {x : Wd} (h : x ∉ l) : dd (l ++ [x]) = dd l ++ [x] := by rw [dd_snoc, if_neg (fun h' => h ((mem_dd x l).1 h'))]
theorem dd_length (l : List Wd) : (dd l).length ≤ l.length := by
  refine snoc_ind (P := fun l => (dd l).length ≤ l.length) (by simp [dd]) ?_ l
  intro l x ih
  rw [dd_snoc]
  split <;> simp <;> omega
theorem dd_one (x : Wd) : dd [x] = [x] := rfl
theorem dd_some {l : List Wd} (h : l ≠ []) : dd l ≠ [] := by
  cases l with
  | nil => exact absurd rfl h
  | cons x l =>
    intro e
    have := (mem_dd x (x :: l)).2 (by simp)
    rw [e] at this
    simp at this
/-- What stands behind is told of what was not there ahead. -/
theorem dd_append (a b : List Wd) : dd (a ++ b) = dd a ++ (dd b).filter (fun x => decide (x ∉ a)) := by
  refine snoc_ind (P := fun b => dd (a ++ b) = dd a ++ (dd b).filter (fun x => decide (x ∉ a))) (by simp [dd]) ?_ b
  intro b x ih
  rw [← List.append_assoc]
  by_cases hb : x ∈ b
  · rw [dd_hit (by simp [hb]), dd_hit hb, ih]
  · by_cases ha : x ∈ a
    · rw [dd_hit (by simp [ha]), dd_miss hb, ih, List.filter_append]
      simp [ha]
    · rw [dd_miss (by simp [ha, hb]), dd_miss hb, ih, List.filter_append]
      simp [ha]

/-! ### names -/
/-- s may name an element, or an attribute. -/
def Nm (s : ByteArray) : Prop := 1 ≤ s.size ∧ s.size ≤ 20 ∧ let_ (bt s 0) = true ∧ ∀ k, k < s.size → nb (bt s k) = true
instance (s : ByteArray) : Decidable (Nm s) := by unfold Nm; infer_instance
def nm (s : ByteArray) : Bool := decide (Nm s)
theorem bt_mem {s : ByteArray} {c : UInt8} (h : c ∈ s.data.toList) : ∃ k, k < s.size ∧ bt s k = (c.toNat : Int) := by
  obtain ⟨k, hk, e⟩ := List.getElem_of_mem h
  have hk' : k < s.size := by rw [Lib.size_eq]; exact hk
  exact ⟨k, hk', by rw [← PlainAid.get_bt s k hk', ← e]; rfl⟩
theorem bt_str (l : Wd) (k : Nat) (h : k < l.length) : bt (str l) k = ((l[k]'h).toNat : Int) := by
  rw [← PlainAid.get_bt (str l) k (by rw [str_size]; exact h)]; rfl
theorem bt_get (s : ByteArray) (k : Nat) (h : k < s.data.toList.length) : ((s.data.toList[k]'h).toNat : Int) = bt s k := by
  rw [← PlainAid.get_bt s k (by rw [Lib.size_eq]; exact h)]; rfl
theorem nm_words {s : ByteArray} (h : Nm s) : ws s = [s.data.toList] := by
  have hb : ∀ c ∈ s.data.toList, bl (c.toNat : Int) = false := by
    intro c hc
    obtain ⟨k, hk, e⟩ := bt_mem hc
    rw [← e]
    exact nb_bl (h.2.2.2 k hk)
  unfold ws
  rw [split_word hb, List.nil_append, if_neg]
  intro e
  have := h.1
  rw [Lib.size_eq, e] at this
  simp at this
end Go.Proofs.YtkcfpglmlhoiaaaDoor
