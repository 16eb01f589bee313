/-
  Nodes as words of 64 bits: plain mathematics of no program.
-/
import Derived.PlainAid
import Derived.Lib.Strings
import Derived.Lib.Hide
namespace Go.Proofs.YthfeonmaajiajaaDoor.Rm
set_option linter.unusedVariables false
set_option linter.unusedSimpArgs false

abbrev Wd := List UInt8
/-- Bytes as a number, the first one lowest. -/
def num : Wd → Int
  | [] => 0
  | b :: r => (b.toNat : Int) + 256 * num r
theorem num_nonneg (l : Wd) : 0 ≤ num l := by
  induction l with
  | nil => exact Int.le_refl _
  | cons b r ih => show 0 ≤ (b.toNat : Int) + 256 * num r; omega
theorem num_lt (l : Wd) : num l < ((256 ^ l.length : Nat) : Int) := by
  induction l with
  | nil => decide
  | cons b r ih =>
    have hb : b.toNat < 256 := b.toNat_lt
    show (b.toNat : Int) + 256 * num r < ((256 ^ (r.length + 1) : Nat) : Int)
    rw [Nat.pow_succ]
    generalize 256 ^ r.length = q at *
    omega
theorem num_lt8 (l : Wd) (h : l.length ≤ 8) : num l < 18446744073709551616 := by
  have h1 := num_lt l
  have h2 : (256 : Nat) ^ l.length ≤ 256 ^ 8 := Nat.pow_le_pow_right (by decide) h
  have h3 : (256 : Nat) ^ 8 = 18446744073709551616 := by decide
  rw [h3] at h2
  generalize 256 ^ l.length = q at *
  omega
theorem num_zeros (l : Wd) (k : Nat) : num (l ++ List.replicate k 0) = num l := by
  induction l with
  | nil =>
    rw [List.nil_append]
    induction k with
    | zero => rfl
    | succ k ih => rw [List.replicate_succ]; show ((0 : UInt8).toNat : Int) + 256 * num (List.replicate k 0) = 0; rw [ih]; rfl
  | cons b r ih => show (b.toNat : Int) + 256 * num (r ++ List.replicate k 0) = _; rw [ih]; rfl
/-- Byte k of a number. -/
def byt (w : Int) (k : Nat) : Int := w / 256 ^ k % 256
theorem byt_nonneg (w : Int) (k : Nat) : 0 ≤ byt w k := Int.emod_nonneg _ (by decide)
theorem byt_lt (w : Int) (k : Nat) : byt w k < 256 := Int.emod_lt_of_pos _ (by decide)
theorem num_byt (l : Wd) : ∀ k, byt (num l) k = ((l.getD k 0).toNat : Int) := by
  induction l with
  | nil => intro k; simp [byt, num]
  | cons b r ih =>
    intro k
    have hb : b.toNat < 256 := b.toNat_lt
    cases k with
    | zero => show ((b.toNat : Int) + 256 * num r) / 256 ^ 0 % 256 = (b.toNat : Int); simp; omega
    | succ k =>
      have := ih k
      unfold byt at this ⊢
      show ((b.toNat : Int) + 256 * num r) / 256 ^ (k + 1) % 256 = ((r.getD k 0).toNat : Int)
      have e : ((b.toNat : Int) + 256 * num r) / 256 = num r := by omega
      rw [← this, show (256 : Int) ^ (k + 1) = 256 * 256 ^ k by rw [Int.pow_succ, Int.mul_comm], ← Int.ediv_ediv_of_nonneg (by decide), e]

/-- The bytes of word i of a text. -/
def piece (l : Wd) (i : Nat) : Wd := (l.drop (8 * i)).take 8
theorem piece_length (l : Wd) (i : Nat) : (piece l i).length = min 8 (l.length - 8 * i) := by simp [piece]
theorem piece_le (l : Wd) (i : Nat) : (piece l i).length ≤ 8 := by rw [piece_length]; omega
theorem piece_get (l : Wd) (i k : Nat) (hk : k < 8) : (piece l i).getD k 0 = l.getD (8 * i + k) 0 := by
  simp [piece, List.getD, List.getElem?_take, hk, List.getElem?_drop]
/-- The first k words of a text. -/
def W (l : Wd) (k : Nat) : List Int := (List.range k).map fun i => num (piece l i)
/-- How many words n bytes are. -/
def nw (n : Nat) : Nat := (n + 7) / 8
def wds (l : Wd) : List Int := W l (nw l.length)
theorem W_zero (l : Wd) : W l 0 = [] := rfl
theorem W_succ (l : Wd) (k : Nat) : W l (k + 1) = W l k ++ [num (piece l k)] := by simp [W, List.range_succ]
theorem W_length (l : Wd) (k : Nat) : (W l k).length = k := by simp [W]
theorem wds_length (l : Wd) : (wds l).length = nw l.length := W_length _ _
theorem wds_at (l : Wd) (i : Nat) (h : i < nw l.length) : (wds l).getD i 0 = num (piece l i) := by
  simp [wds, W, List.getD, h]
theorem W_bound (l : Wd) (k : Nat) : ∀ x ∈ W l k, 0 ≤ x ∧ x ≤ 18446744073709551615 := by
  intro x hx
  simp [W] at hx
  obtain ⟨i, _, rfl⟩ := hx
  have h1 := num_nonneg (piece l i)
  have h2 := num_lt8 (piece l i) (piece_le l i)
  omega
theorem wds_bound (l : Wd) : ∀ x ∈ wds l, 0 ≤ x ∧ x ≤ 18446744073709551615 := W_bound _ _
/-- Byte j of words, and the first n bytes. -/
def bt8 (l : List Int) (j : Nat) : UInt8 := UInt8.ofNat (byt (l.getD (j / 8) 0) (j % 8)).toNat
theorem bt8_toNat (l : List Int) (j : Nat) : ((bt8 l j).toNat : Int) = byt (l.getD (j / 8) 0) (j % 8) := by
  have h1 := byt_nonneg (l.getD (j / 8) 0) (j % 8)
  have h2 := byt_lt (l.getD (j / 8) 0) (j % 8)
  unfold bt8
  rw [UInt8.toNat_ofNat']
  omega
def B (l : List Int) (n : Nat) : Wd := (List.range n).map (bt8 l)
theorem B_zero (l : List Int) : B l 0 = [] := rfl
theorem B_succ (l : List Int) (n : Nat) : B l (n + 1) = B l n ++ [bt8 l n] := by simp [B, List.range_succ]
theorem B_length (l : List Int) (n : Nat) : (B l n).length = n := by simp [B]
theorem B_take (l : List Int) {n m : Nat} (h : n ≤ m) : (B l m).take n = B l n := by
  unfold B; rw [← List.map_take, List.take_range, Nat.min_eq_left h]
theorem B_get (l : List Int) {n j : Nat} (h : j < n) : (B l n)[j]? = some (bt8 l j) := by simp [B, h]
theorem B_pad (s : Wd) (n : Nat) (h : s.length ≤ n) (h2 : n ≤ 8 * nw s.length) : B (wds s) n = s ++ List.replicate (n - s.length) 0 := by
  apply List.ext_getElem?
  intro j
  by_cases hj : j < n
  · rw [B_get _ hj]
    have hi : j / 8 < nw s.length := by omega
    have e : bt8 (wds s) j = s.getD j 0 := by
      apply UInt8.toNat_inj.1
      have := bt8_toNat (wds s) j
      rw [wds_at s _ hi, num_byt, piece_get _ _ _ (by omega), show 8 * (j / 8) + j % 8 = j by omega] at this
      omega
    rw [e]
    by_cases hs : j < s.length
    · rw [List.getElem?_append_left hs]; simp [List.getD, hs]
    · rw [List.getElem?_append_right (by omega), List.getElem?_replicate, if_pos (by omega)]
      simp [List.getD, List.getElem?_eq_none (show s.length ≤ j by omega)]
  · rw [List.getElem?_eq_none (by rw [B_length]; omega), List.getElem?_eq_none (by simp; omega)]
theorem B_wds (s : Wd) : B (wds s) s.length = s := by
  rw [B_pad s s.length (Nat.le_refl _) (by unfold nw; omega)]; simp
theorem wds_pad (s : Wd) (k : Nat) (h : nw (s.length + k) = nw s.length) : wds (s ++ List.replicate k 0) = wds s := by
  unfold wds W
  rw [List.length_append, List.length_replicate, h]
  apply List.map_congr_left
  intro i hi
  have hi' : i < nw s.length := by simpa using hi
  unfold nw at hi'
  unfold piece
  rw [List.drop_append, List.take_append, List.drop_replicate, List.take_replicate, num_zeros]
theorem wds_inj {a b : Wd} (hl : a.length = b.length) (h : wds a = wds b) : a = b := by
  rw [← B_wds a, ← B_wds b, h, hl]

/-- The text of n bytes whose words l is. -/
def txt (l : List Int) (n : Int) : Option Wd := if 0 ≤ n ∧ n ≤ 8 * l.length ∧ wds (B l n.toNat) = l then some (B l n.toNat) else none
theorem txt_iff {l : List Int} {n : Int} {s : Wd} : txt l n = some s ↔ wds s = l ∧ (s.length : Int) = n := by
  unfold txt
  constructor
  · intro h
    split at h
    · rename_i hc
      cases h
      exact ⟨hc.2.2, by rw [B_length]; omega⟩
    · cases h
  · rintro ⟨rfl, rfl⟩
    have e : B (wds s) ((s.length : Int)).toNat = s := by rw [Int.toNat_natCast]; exact B_wds s
    rw [e, if_pos ⟨by omega, by rw [wds_length]; unfold nw; omega, rfl⟩]
theorem txt_wds (s : Wd) : txt (wds s) s.length = some s := txt_iff.2 ⟨rfl, rfl⟩
theorem txt_neg {l : List Int} {n : Int} (h : n < 0) : txt l n = none := by unfold txt; rw [if_neg (by omega)]
theorem txt_big {l : List Int} {n : Int} (h : 8 * (l.length : Int) < n) : txt l n = none := by unfold txt; rw [if_neg (by omega)]
theorem txt_yes {l : List Int} {n : Nat} (h1 : n ≤ 8 * l.length) (h : wds (B l n) = l) : txt l n = some (B l n) := by
  unfold txt; rw [Int.toNat_natCast, if_pos ⟨by omega, by omega, h⟩]
theorem txt_no {l : List Int} {n : Nat} (h : ¬ wds (B l n) = l) : txt l n = none := by
  unfold txt; rw [Int.toNat_natCast, if_neg (fun hc => h hc.2.2)]
theorem txt_other {s : Wd} {n : Int} (h : n < 0 ∨ (nw s.length : Int) ≠ (n + 7) / 8) : txt (wds s) n = none := by
  cases ht : txt (wds s) n with
  | none => rfl
  | some t =>
    obtain ⟨h1, h2⟩ := txt_iff.1 ht
    have := congrArg List.length h1
    rw [wds_length, wds_length] at this
    unfold nw at this h
    omega
theorem txt_long {s : Wd} {n : Nat} (h : s.length ≤ n) (h2 : nw n = nw s.length) : txt (wds s) n = some (B (wds s) n) := by
  have h3 : n ≤ 8 * nw s.length := by rw [← h2]; unfold nw; omega
  refine txt_yes (by rw [wds_length]; exact h3) ?_
  rw [B_pad s n h h3]
  exact wds_pad s _ (by rw [show s.length + (n - s.length) = n by omega]; exact h2)

/-! ### nodes -/
structure Rc where
  kind : Int
  par : Int
  name : Wd
  text : Wd
  attrs : List Wd
  root : Int
  size : Int
def MayR (r : Rc) : Prop := 0 ≤ r.kind ∧ r.kind ≤ 3 ∧ -1 ≤ r.par ∧ r.par ≤ 59 ∧ r.name.length ≤ 20 ∧ r.text.length ≤ 60 ∧ r.attrs.length % 2 = 0 ∧ r.attrs.length ≤ 16 ∧ (∀ a ∈ r.attrs, a.length ≤ 60) ∧ 0 ≤ r.size ∧ r.size ≤ 200
instance (r : Rc) : Decidable (MayR r) := by unfold MayR; infer_instance
def mayB (r : Rc) : Bool := decide (MayR r)
def headR (r : Rc) : Int := r.kind + 4 * (r.par + 1) + 1024 * r.name.length + 32768 * r.text.length + 2097152 * (r.attrs.length / 2 : Nat) + 33554432 * r.size
theorem headR_parts {r : Rc} (h : MayR r) : headR r % 4 = r.kind ∧ headR r / 4 % 256 = r.par + 1 ∧ headR r / 1024 % 32 = r.name.length ∧ headR r / 32768 % 64 = r.text.length ∧ headR r / 2097152 % 16 = (r.attrs.length / 2 : Nat) ∧ headR r / 33554432 % 256 = r.size := by
  obtain ⟨h1, h2, h3, h4, h5, h6, h7, h8, h9, h10, h11⟩ := h
  unfold headR
  generalize r.name.length = a at *
  generalize r.text.length = b at *
  generalize r.attrs.length = c at *
  generalize r.kind = k at *
  generalize r.par = p at *
  generalize r.size = z at *
  omega
theorem headR_bound {r : Rc} (h : MayR r) : 0 ≤ headR r ∧ headR r < 8589934592 := by
  obtain ⟨h1, h2, h3, h4, h5, h6, h7, h8, h9, h10, h11⟩ := h
  unfold headR
  omega
/-- Numbers below 64 as one, the first one lowest. -/
def six : List Nat → Int
  | [] => 0
  | n :: r => (n : Int) + 64 * six r
/-- Digit i of that. -/
def dg6 (w : Int) (i : Nat) : Int := w / 64 ^ i % 64
theorem six_nonneg (l : List Nat) : 0 ≤ six l := by
  induction l with
  | nil => exact Int.le_refl _
  | cons b r ih => show 0 ≤ (b : Int) + 64 * six r; omega
theorem six_lt {l : List Nat} (h : ∀ x ∈ l, x < 64) : six l < ((64 ^ l.length : Nat) : Int) := by
  induction l with
  | nil => decide
  | cons b r ih =>
    have hb : b < 64 := h b (by simp)
    have := ih (fun x hx => h x (by simp [hx]))
    show (b : Int) + 64 * six r < ((64 ^ (r.length + 1) : Nat) : Int)
    rw [Nat.pow_succ]
    generalize 64 ^ r.length = q at *
    omega
theorem six_lt8 {l : List Nat} (h : ∀ x ∈ l, x < 64) (h8 : l.length ≤ 8) : six l < 281474976710656 := by
  have h1 := six_lt h
  have h2 : (64 : Nat) ^ l.length ≤ 64 ^ 8 := Nat.pow_le_pow_right (by decide) h8
  have h3 : (64 : Nat) ^ 8 = 281474976710656 := by decide
  rw [h3] at h2
  generalize 64 ^ l.length = q at *
  omega
theorem six_dg {l : List Nat} (h : ∀ x ∈ l, x < 64) : ∀ i, dg6 (six l) i = (l.getD i 0 : Nat) := by
  induction l with
  | nil => intro k; simp [dg6, six]
  | cons b r ih =>
    intro k
    have hb : b < 64 := h b (by simp)
    cases k with
    | zero => show ((b : Int) + 64 * six r) / 64 ^ 0 % 64 = (b : Int); simp; omega
    | succ k =>
      have := ih (fun x hx => h x (by simp [hx])) k
      unfold dg6 at this ⊢
      show ((b : Int) + 64 * six r) / 64 ^ (k + 1) % 64 = ((r.getD k 0 : Nat) : Int)
      have e : ((b : Int) + 64 * six r) / 64 = six r := by omega
      rw [← this, show (64 : Int) ^ (k + 1) = 64 * 64 ^ k by rw [Int.pow_succ, Int.mul_comm], ← Int.ediv_ediv_of_nonneg (by decide), e]
def la (a : List Wd) : List Nat := a.map List.length
def lens (a : List Wd) : List Int := if a = [] then [] else [six (la (a.take 8)), six (la (a.drop 8))]
theorem la_lt {a : List Wd} (h : ∀ x ∈ a, x.length ≤ 60) : ∀ x ∈ la a, x < 64 := by
  intro x hx
  simp [la] at hx
  obtain ⟨y, hy, rfl⟩ := hx
  have := h y hy
  omega
/-- The words of a node, of its attributes the first k. -/
def P (r : Rc) (k : Nat) : List Int := headR r :: r.root :: (lens r.attrs ++ (wds r.name ++ (wds r.text ++ (r.attrs.take k).flatMap wds)))
def pk (r : Rc) : List Int := P r r.attrs.length
/-- What the length of attribute i is told to be. -/
def lenAt (w0 w1 : Int) (i : Nat) : Int := if i < 8 then dg6 w0 i else dg6 w1 (i - 8)
theorem lens_at {a : List Wd} (h : ∀ x ∈ a, x.length ≤ 60) {i : Nat} (hi : i < a.length) : lenAt (six (la (a.take 8))) (six (la (a.drop 8))) i = ((a.getD i []).length : Int) := by
  have h1 : ∀ x ∈ la (a.take 8), x < 64 := la_lt (fun x hx => h x (List.mem_of_mem_take hx))
  have h2 : ∀ x ∈ la (a.drop 8), x < 64 := la_lt (fun x hx => h x (List.mem_of_mem_drop hx))
  unfold lenAt
  by_cases h8 : i < 8
  · rw [if_pos h8, six_dg h1]
    simp [la, List.getD, List.getElem?_take, h8, hi]
  · rw [if_neg h8, six_dg h2]
    simp [la, List.getD, show 8 + (i - 8) = i by omega, hi]
theorem lens_none {a : List Wd} (h : a = []) : lens a = [] := by unfold lens; rw [if_pos h]
theorem lens_some {a : List Wd} (h : a ≠ []) : lens a = [six (la (a.take 8)), six (la (a.drop 8))] := by unfold lens; rw [if_neg h]
theorem flat_inj : ∀ {a b : List Wd}, a.map List.length = b.map List.length → a.flatMap wds = b.flatMap wds → a = b := by
  intro a
  induction a with
  | nil => intro b h1 _; cases b with
    | nil => rfl
    | cons y b => simp at h1
  | cons x a ih =>
    intro b h1 h2
    cases b with
    | nil => simp at h1
    | cons y b =>
      simp only [List.map_cons, List.cons.injEq] at h1
      simp only [List.flatMap_cons] at h2
      have hl : (wds x).length = (wds y).length := by rw [wds_length, wds_length, h1.1]
      obtain ⟨h3, h4⟩ := List.append_inj h2 hl
      rw [wds_inj h1.1 h3, ih h1.2 h4]
theorem pk_inj {a b : Rc} (ha : MayR a) (hb : MayR b) (h : pk a = pk b) : a = b := by
  unfold pk P at h
  rw [List.take_length, List.take_length] at h
  simp only [List.cons.injEq] at h
  obtain ⟨hh, hr, hrest⟩ := h
  obtain ⟨a1, a2, a3, a4, a5, a6⟩ := headR_parts ha
  obtain ⟨b1, b2, b3, b4, b5, b6⟩ := headR_parts hb
  rw [hh] at a1 a2 a3 a4 a5 a6
  have ek : a.kind = b.kind := a1.symm.trans b1
  have ep : a.par = b.par := by omega
  have en : a.name.length = b.name.length := by omega
  have et : a.text.length = b.text.length := by omega
  have ez : a.size = b.size := a6.symm.trans b6
  have hda := ha.2.2.2.2.2.2
  have hdb := hb.2.2.2.2.2.2
  have ec : a.attrs.length = b.attrs.length := by
    have := a5.symm.trans b5
    omega
  have hl : (lens a.attrs).length = (lens b.attrs).length := by
    by_cases h0 : a.attrs = []
    · have h1 : b.attrs = [] := List.eq_nil_of_length_eq_zero (by rw [← ec, h0]; rfl)
      rw [lens_none h0, lens_none h1]
    · have h1 : b.attrs ≠ [] := fun e => h0 (List.eq_nil_of_length_eq_zero (by rw [ec, e]; rfl))
      rw [lens_some h0, lens_some h1]; rfl
  obtain ⟨hlens, hrest⟩ := List.append_inj hrest hl
  obtain ⟨hname, hrest⟩ := List.append_inj hrest (by rw [wds_length, wds_length, en])
  obtain ⟨htext, hattr⟩ := List.append_inj hrest (by rw [wds_length, wds_length, et])
  have em : a.attrs.map List.length = b.attrs.map List.length := by
    by_cases h0 : a.attrs = []
    · have h1 : b.attrs = [] := List.eq_nil_of_length_eq_zero (by rw [← ec, h0]; rfl)
      rw [h0, h1]
    · have h1 : b.attrs ≠ [] := fun e => h0 (List.eq_nil_of_length_eq_zero (by rw [ec, e]; rfl))
      rw [lens_some h0, lens_some h1] at hlens
      simp only [List.cons.injEq, and_true] at hlens
      apply List.ext_getElem (by simpa using ec)
      intro i h2 h3
      have h2' : i < a.attrs.length := by simpa using h2
      have h3' : i < b.attrs.length := by simpa using h3
      have e1 := lens_at hda.2.2.1 h2'
      have e2 := lens_at hdb.2.2.1 h3'
      rw [hlens.1, hlens.2, e2] at e1
      simp only [List.getD, List.getElem?_eq_getElem h2', List.getElem?_eq_getElem h3', Option.getD_some] at e1
      simp only [List.getElem_map]
      omega
  have eattr := flat_inj em hattr
  have ename := wds_inj en hname
  have etext := wds_inj et htext
  cases a; cases b
  simp_all
end Go.Proofs.YthfeonmaajiajaaDoor.Rm
