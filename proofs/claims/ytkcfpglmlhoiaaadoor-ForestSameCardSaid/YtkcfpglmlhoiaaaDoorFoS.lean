/-
  Ways up and down in a plain forest.
-/
import Derived.Test.YtkcfpglmlhoiaaaDoorFoR
namespace Go.Proofs.YtkcfpglmlhoiaaaDoor
open Go.ChangeShapes Go.WideShapes Go.ChangeAt Go.RowKit
set_option linter.unusedVariables false
set_option linter.unusedSimpArgs false

/-- How long the way up is. -/
def dep (F : List Mn) : Nat → Int → Nat
  | 0, _ => 0
  | n + 1, x => if x = -1 then 0 else dep F n (par F x.toNat) + 1
theorem dep_le (F : List Mn) : ∀ (n : Nat) (x : Int), dep F n x ≤ n := by
  intro n
  induction n with
  | zero => intro x; simp [dep]
  | succ n ih =>
    intro x
    rw [dep]
    split
    · omega
    · have := ih (par F x.toNat)
      omega
theorem dep_more (F : List Mn) : ∀ (n : Nat) (x : Int), endsB F n x = true → dep F (n + 1) x = dep F n x := by
  intro n
  induction n with
  | zero =>
    intro x h
    simp [endsB] at h
    simp [dep, h]
  | succ n ih =>
    intro x h
    rw [dep]
    by_cases hx : x = -1
    · simp [dep, hx]
    · rw [if_neg hx]
      have h' : endsB F n (par F x.toNat) = true := by
        rw [endsB, Bool.or_eq_true, decide_eq_true_eq] at h
        exact h.resolve_left hx
      rw [ih _ h']
      conv => rhs; rw [dep, if_neg hx]
/-- One step down is one step more. -/
theorem dep_kid {F : List Mn} (h : mayB F = true) {i : Nat} (hi : i < F.length) {k : Int} (hk : k ∈ kidsOf F i) :
    ∃ j : Nat, k = j ∧ j < F.length ∧ par F j = i ∧ dep F F.length j = dep F F.length i + 1 := by
  obtain ⟨p1, p2, p3, p4, p5⟩ := mayB_parts h
  obtain ⟨h1, h2⟩ := kids_of p3 hi hk
  rw [isB, decide_eq_true_eq] at h1
  obtain ⟨j, rfl⟩ := Int.eq_ofNat_of_zero_le h1.1
  rw [Int.toNat_natCast] at h2
  have hj : j < F.length := by omega
  refine ⟨j, rfl, hj, h2, ?_⟩
  rw [← dep_more F _ _ (p5 j hj), dep, if_neg (by omega), Int.toNat_natCast, h2]
theorem dep_pos {F : List Mn} {i : Nat} (h0 : 0 < F.length) : 1 ≤ dep F F.length i := by
  obtain ⟨n, hn⟩ : ∃ n, F.length = n + 1 := ⟨F.length - 1, by omega⟩
  rw [hn, dep, if_neg (by omega)]
  omega
theorem dp_of {F : List Mn} (h : mayB F = true) : ∀ (f i : Nat), i < F.length → F.length + 1 ≤ f + dep F F.length i → Dp F f i := by
  intro f
  induction f with
  | zero =>
    intro i hi hd
    have := dep_le F F.length i
    omega
  | succ f ih =>
    intro i hi hd
    refine ⟨hi, fun k hk => ?_⟩
    obtain ⟨j, rfl, hj, -, hdj⟩ := dep_kid h hi hk
    refine ⟨by omega, ?_⟩
    rw [Int.toNat_natCast]
    exact ih j hj (by omega)
theorem dp_all {F : List Mn} (h : mayB F = true) {i : Nat} (hi : i < F.length) : Dp F F.length i := by
  have := dep_pos (F := F) (i := i) (by omega)
  exact dp_of h _ i hi (by omega)
theorem flatMap_congr' {α β : Type} {l : List α} {f g : α → List β} (h : ∀ x ∈ l, f x = g x) : l.flatMap f = l.flatMap g := by
  induction l with
  | nil => rfl
  | cons a l ih => rw [List.flatMap_cons, List.flatMap_cons, h a (by simp), ih (fun x hx => h x (by simp [hx]))]
theorem pr_more {F : List Mn} : ∀ (f i : Nat), Dp F f i → pr F (f + 1) i = pr F f i := by
  intro f
  induction f with
  | zero => intro i h; exact absurd h (by simp [Dp])
  | succ f ih =>
    rintro i ⟨hi, hk⟩
    rw [kidsOf_at hi] at hk
    have e : F[i].kids.flatMap (fun k => pr F (f + 1) k.toNat) = F[i].kids.flatMap (fun k => pr F f k.toNat) := flatMap_congr' (fun k hk' => ih _ (hk k hk').2)
    rw [pr, List.getElem?_eq_getElem hi]
    conv => rhs; rw [pr, List.getElem?_eq_getElem hi]
    simp only [e]
/-- The nodes below one, as they are printed. -/
def vis (F : List Mn) : Nat → Nat → List Nat
  | 0, _ => []
  | f + 1, i => i :: (kidsOf F i).flatMap (fun k => vis F f k.toNat)
def anc (F : List Mn) : Nat → Int → Int
  | 0, x => x
  | n + 1, x => par F (anc F n x).toNat
theorem vis_up {F : List Mn} (h : mayB F = true) : ∀ (f i : Nat), i < F.length → ∀ j ∈ vis F f i, j < F.length ∧ ∃ n, anc F n j = i ∧ dep F F.length j = dep F F.length i + n := by
  intro f
  induction f with
  | zero => intro i hi j hj; simp [vis] at hj
  | succ f ih =>
    intro i hi j hj
    rw [vis, List.mem_cons, List.mem_flatMap] at hj
    rcases hj with rfl | ⟨k, hk, hj⟩
    · exact ⟨hi, 0, rfl, rfl⟩
    · obtain ⟨k', rfl, hk', hp, hd⟩ := dep_kid h hi hk
      rw [Int.toNat_natCast] at hj
      obtain ⟨h1, n, h2, h3⟩ := ih k' hk' j hj
      exact ⟨h1, n + 1, by rw [anc, h2, Int.toNat_natCast, hp], by omega⟩
theorem nodup_flat {α β : Type} {f : α → List β} : ∀ (l : List α), l.Nodup → (∀ x ∈ l, (f x).Nodup) → (∀ x ∈ l, ∀ y ∈ l, ∀ z, z ∈ f x → z ∈ f y → x = y) → (l.flatMap f).Nodup := by
  intro l
  induction l with
  | nil => intro _ _ _; simp
  | cons a l ih =>
    intro h1 h2 h3
    rw [List.nodup_cons] at h1
    rw [List.flatMap_cons, List.nodup_append]
    refine ⟨h2 a (by simp), ih h1.2 (fun x hx => h2 x (by simp [hx])) (fun x hx y hy => h3 x (by simp [hx]) y (by simp [hy])), ?_⟩
    intro x hx y hy e
    subst e
    rw [List.mem_flatMap] at hy
    obtain ⟨b, hb, hy⟩ := hy
    have := h3 a (by simp) b (by simp [hb]) x hx hy
    subst this
    exact h1.1 hb
theorem nodup_count {l : List Int} (h : ∀ x ∈ l, l.count x = 1) : l.Nodup := List.nodup_iff_count.2 (fun a => by
  by_cases ha : a ∈ l
  · rw [h a ha]; exact Nat.le_refl _
  · rw [List.count_eq_zero_of_not_mem ha]; omega)
theorem kids_nodup {F : List Mn} (h : mayB F = true) {i : Nat} (hi : i < F.length) : (kidsOf F i).Nodup := nodup_count (fun x hx => by
  obtain ⟨p1, p2, p3, p4, p5⟩ := mayB_parts h
  obtain ⟨j, rfl, hj, hp, -⟩ := dep_kid h hi hx
  have := link_of p3 hj
  rw [linkB, Bool.and_eq_true, Bool.or_eq_true, decide_eq_true_eq, hp] at this
  rcases this.1 with h' | h'
  · omega
  · simp only [Bool.and_eq_true, decide_eq_true_eq, Int.toNat_natCast] at h'
    exact h'.2.2)
theorem vis_nodup {F : List Mn} (h : mayB F = true) : ∀ (f i : Nat), i < F.length → (vis F f i).Nodup := by
  intro f
  induction f with
  | zero => intro i hi; simp [vis]
  | succ f ih =>
    intro i hi
    rw [vis, List.nodup_cons]
    refine ⟨fun hm => ?_, nodup_flat _ (kids_nodup h hi) (fun k hk => ?_) (fun k hk k' hk' z hz hz' => ?_)⟩
    · rw [List.mem_flatMap] at hm
      obtain ⟨k, hk, hm⟩ := hm
      obtain ⟨k', rfl, hk', hp, hd⟩ := dep_kid h hi hk
      rw [Int.toNat_natCast] at hm
      obtain ⟨-, n, -, h3⟩ := vis_up h f k' hk' i hm
      omega
    · obtain ⟨k', rfl, hk', hp, hd⟩ := dep_kid h hi hk
      rw [Int.toNat_natCast]
      exact ih k' hk'
    · obtain ⟨a, rfl, ha, -, hda⟩ := dep_kid h hi hk
      obtain ⟨b, rfl, hb, -, hdb⟩ := dep_kid h hi hk'
      rw [Int.toNat_natCast] at hz hz'
      obtain ⟨-, n, h1, h2⟩ := vis_up h f a ha z hz
      obtain ⟨-, m, h3, h4⟩ := vis_up h f b hb z hz'
      obtain rfl : n = m := by omega
      rw [← h1, h3]
theorem nodup_lt : ∀ (n : Nat) (l : List Nat), l.Nodup → (∀ x ∈ l, x < n) → l.length ≤ n := by
  intro n
  induction n with
  | zero =>
    intro l _ h
    cases l with
    | nil => simp
    | cons a l => exact absurd (h a (by simp)) (by omega)
  | succ n ih =>
    intro l h1 h2
    have := ih (l.erase n) (h1.erase n) (fun x hx => by
      rw [h1.mem_erase_iff] at hx
      have := h2 x hx.2
      have := hx.1
      omega)
    by_cases hn : n ∈ l
    · rw [List.length_erase_of_mem hn] at this
      omega
    · rw [List.erase_of_not_mem hn] at this
      omega
theorem vis_len {F : List Mn} (h : mayB F = true) (f : Nat) {i : Nat} (hi : i < F.length) : (vis F f i).length ≤ F.length :=
  nodup_lt _ _ (vis_nodup h f i hi) (fun x hx => (vis_up h f i hi x hx).1)
theorem flat_len {α β γ : Type} {C : Nat} {f : α → List β} {g : α → List γ} : ∀ (l : List α), (∀ x ∈ l, (f x).length ≤ C * (g x).length) → (l.flatMap f).length ≤ C * (l.flatMap g).length := by
  intro l
  induction l with
  | nil => intro _; simp
  | cons a l ih =>
    intro h
    rw [List.flatMap_cons, List.flatMap_cons, List.length_append, List.length_append, Nat.mul_add]
    exact Nat.add_le_add (h a (by simp)) (ih (fun x hx => h x (by simp [hx])))
/-- What one node alone prints is so long at most. -/
def One (C : Nat) (m : Mn) : Prop := (openL m).length + m.name.size + 3 ≤ C ∧ (esc m.text.data.toList).length + 4 ≤ C
theorem pr_len {F : List Mn} {C : Nat} (hC : ∀ m ∈ F, One C m) : ∀ (f i : Nat), (pr F f i).length ≤ C * (vis F f i).length := by
  intro f
  induction f with
  | zero => intro i; simp [pr]
  | succ f ih =>
    intro i
    rw [pr, vis, List.length_cons, Nat.mul_add, Nat.mul_one]
    by_cases hi : i < F.length
    · rw [List.getElem?_eq_getElem hi, kidsOf_at hi]
      have hk := flat_len (C := C) (f := fun k : Int => pr F f k.toNat) (g := fun k : Int => vis F f k.toNat) F[i].kids (fun k _ => ih k.toNat)
      obtain ⟨c1, c2⟩ := hC F[i] (List.getElem_mem _)
      have hs : F[i].name.data.toList.length = F[i].name.size := (size_list _).symm
      dsimp only
      generalize hvl : (F[i].kids.flatMap fun k => vis F f k.toNat).length = V at *
      generalize C * V = CV at *
      split
      · simp only [List.length_append, List.length_cons, List.length_nil]; omega
      · split
        · omega
        · split
          · simp only [List.length_append, List.length_cons, List.length_nil] at *; omega
          · split
            · omega
            · simp
    · rw [List.getElem?_eq_none (by omega)]
      simp
end Go.Proofs.YtkcfpglmlhoiaaaDoor
