/-
  Numbers and their bytes, the lowest first: plain mathematics, of no program.
-/
import Derived.Laws.BytesArg
namespace Go.Proofs.YtdjhnjokmmbafaaDoor
set_option linter.unusedVariables false

def p8 (k : Nat) : Int := ((256 ^ k : Nat) : Int)
theorem p8_pos (k : Nat) : 1 ≤ p8 k := by
  have : 0 < 256 ^ k := Nat.pow_pos (by decide)
  unfold p8; omega
theorem p8_zero : p8 0 = 1 := rfl
theorem p8_succ (k : Nat) : p8 (k + 1) = p8 k * 256 := by unfold p8; rw [Nat.pow_succ]; omega
theorem p8_mono {k m : Nat} (h : k ≤ m) : p8 k ≤ p8 m := by
  have : 256 ^ k ≤ 256 ^ m := Nat.pow_le_pow_right (by decide) h
  unfold p8; omega
theorem p8_eight : p8 8 = 18446744073709551616 := by decide

/-- The k lowest bytes of u. -/
def low (u : Int) : Nat → List Int
  | 0 => []
  | k + 1 => low u k ++ [u / p8 k % 256]
theorem low_length (u : Int) (k : Nat) : (low u k).length = k := by
  induction k with
  | zero => rfl
  | succ k ih => simp [low, ih]
/-- Just k bytes are needed of u. -/
def Need (u : Int) (k : Nat) : Prop := 0 ≤ u ∧ u < p8 k ∧ (k = 0 ∨ p8 (k - 1) ≤ u)
theorem need_more {u : Int} {K k : Nat} (h : Need u K) (hk : k < K) : 1 ≤ u / p8 k := by
  obtain ⟨h0, h1, h2⟩ := h
  have h3 : p8 k ≤ p8 (K - 1) := p8_mono (by omega)
  have h4 : p8 k ≤ u := by rcases h2 with h2 | h2 <;> omega
  exact Int.le_ediv_of_mul_le (by have := p8_pos k; omega) (by omega)
theorem need_end {u : Int} {K : Nat} (h : Need u K) : u / p8 K = 0 := Int.ediv_eq_zero_of_lt h.1 h.2.1
theorem div_p8_succ (u : Int) (k : Nat) : u / p8 (k + 1) = u / p8 k / 256 := by
  rw [p8_succ, Int.ediv_ediv_of_nonneg (by have := p8_pos k; omega)]
theorem need_le {u : Int} {K : Nat} (h : Need u K) (hu : u ≤ 18446744073709551615) : K ≤ 8 := by
  rcases Nat.lt_or_ge 8 K with h8 | h8
  · have h1 : p8 8 ≤ p8 (K - 1) := p8_mono (by omega)
    have h2 := h.2.2
    rw [p8_eight] at h1
    omega
  · exact h8
theorem need_ex (u : Int) (h0 : 0 ≤ u) (h1 : u ≤ 18446744073709551615) : ∃ K, K ≤ 8 ∧ Need u K := by
  have aux : ∀ K, u < p8 K → ∃ k, k ≤ K ∧ Need u k := by
    intro K
    induction K with
    | zero => intro h; exact ⟨0, Nat.le_refl _, h0, h, Or.inl rfl⟩
    | succ K ih =>
      intro h
      by_cases hk : u < p8 K
      · obtain ⟨k, a, b⟩ := ih hk
        exact ⟨k, by omega, b⟩
      · exact ⟨K + 1, Nat.le_refl _, h0, h, Or.inr (by simpa using (by omega : p8 K ≤ u))⟩
  exact aux 8 (by rw [p8_eight]; omega)

/-- The number of some bytes. -/
def numOf : List Int → Int
  | [] => 0
  | d :: l => d + 256 * numOf l
def Byt (l : List Int) : Prop := ∀ d ∈ l, 0 ≤ d ∧ d ≤ 255
theorem Byt.tail {d : Int} {l : List Int} (h : Byt (d :: l)) : Byt l := fun x hx => h x (List.mem_cons_of_mem _ hx)
theorem numOf_bounds (l : List Int) (h : Byt l) : 0 ≤ numOf l ∧ numOf l < p8 l.length := by
  induction l with
  | nil => exact ⟨Int.le_refl _, by decide⟩
  | cons d l ih =>
    obtain ⟨a, b⟩ := ih h.tail
    have hd := h d (List.mem_cons_self ..)
    simp only [numOf, List.length_cons, p8_succ]
    omega
theorem numOf_append (l m : List Int) : numOf (l ++ m) = numOf l + p8 l.length * numOf m := by
  induction l with
  | nil => simp [numOf, p8_zero]
  | cons d l ih =>
    simp only [List.cons_append, numOf, ih, List.length_cons, p8_succ, Int.mul_add]
    rw [Int.mul_right_comm]
    omega
theorem low_byt (u : Int) (k : Nat) : Byt (low u k) := by
  induction k with
  | zero => intro d hd; cases hd
  | succ k ih =>
    intro d hd
    rcases List.mem_append.1 hd with h | h
    · exact ih d h
    · simp at h; omega
theorem numOf_low (u : Int) (k : Nat) : numOf (low u k) + p8 k * (u / p8 k) = u := by
  induction k with
  | zero => simp [low, numOf, p8_zero]
  | succ k ih =>
    rw [low, numOf_append, low_length, div_p8_succ, p8_succ]
    simp only [numOf]
    have e : p8 k * (u / p8 k) = p8 k * (u / p8 k % 256 + 256 * 0) + p8 k * 256 * (u / p8 k / 256) := by
      rw [Int.mul_assoc, ← Int.mul_add]
      congr 1
      omega
    omega
theorem numOf_need {u : Int} {K : Nat} (h : Need u K) : numOf (low u K) = u := by
  have := numOf_low u K
  rw [need_end h] at this
  simpa using this
/-- Bytes that are those of their number, if there are just as many as it needs. -/
theorem low_numOf (l : List Int) (h : Byt l) : low (numOf l) l.length = l := by
  have aux : ∀ (m l : List Int), Byt l → ∀ k, k ≤ l.length → low (numOf l) k = l.take k := by
    intro m l hl k
    induction k with
    | zero => intro _; simp [low]
    | succ k ih =>
      intro hk
      have hlt : k < l.length := by omega
      rw [low, ih (by omega), List.take_succ_eq_append_getElem hlt]
      congr 2
      have e : l = l.take k ++ l[k] :: l.drop (k + 1) := by rw [← List.drop_eq_getElem_cons hlt, List.take_append_drop]
      have ht : (l.take k).length = k := by simp; omega
      have hb := numOf_bounds (l.take k) (fun d hd => hl d (List.mem_of_mem_take hd))
      rw [ht] at hb
      have hd := hl l[k] (List.getElem_mem hlt)
      have en : numOf l = numOf (l.take k) + p8 k * (l[k] + 256 * numOf (l.drop (k + 1))) := by
        conv => lhs; rw [e]
        rw [numOf_append, ht]; rfl
      rw [en, Int.add_mul_ediv_left _ _ (by have := p8_pos k; omega), Int.ediv_eq_zero_of_lt hb.1 hb.2]
      omega
  have := aux [] l h l.length (Nat.le_refl _)
  simpa using this
theorem need_numOf (l : List Int) (h : Byt l) (hl : l = [] ∨ l.getLast? ≠ some 0) : Need (numOf l) l.length := by
  obtain ⟨a, b⟩ := numOf_bounds l h
  refine ⟨a, b, ?_⟩
  rcases List.eq_nil_or_concat l with rfl | ⟨m, d, rfl⟩
  · exact Or.inl rfl
  · right
    have hd := h d (by simp)
    have hd0 : d ≠ 0 := by
      rcases hl with hl | hl
      · simp at hl
      · intro e; apply hl; simp [e]
    have hm := numOf_bounds m (fun x hx => h x (by simp [hx]))
    simp only [List.concat_eq_append, List.length_append, List.length_cons, List.length_nil, Nat.zero_add, Nat.add_sub_cancel, numOf_append, numOf]
    have : p8 m.length * 1 ≤ p8 m.length * (d + 256 * 0) := Int.mul_le_mul_of_nonneg_left (by omega) (by have := p8_pos m.length; omega)
    omega
theorem need_unique {u : Int} {K L : Nat} (h : Need u K) (h' : Need u L) : K = L := by
  rcases Nat.lt_trichotomy K L with hlt | rfl | hlt
  · have := need_more h' hlt; rw [need_end h] at this; omega
  · rfl
  · have := need_more h hlt; rw [need_end h'] at this; omega
/-- How the bytes of a number read, with how many they are ahead. -/
def told (u : Int) (K : Nat) : ByteArray := strOfNums ((K : Int) :: low u K)
end Go.Proofs.YtdjhnjokmmbafaaDoor
