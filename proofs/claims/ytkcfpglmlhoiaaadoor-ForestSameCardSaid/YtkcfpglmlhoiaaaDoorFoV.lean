/-
  Bounded forests: Print's contract; tops, and who is below them.
-/
import Derived.Test.YtkcfpglmlhoiaaaDoorFoS
import Derived.Test.YtkcfpglmlhoiaaaDoorFoO
namespace Go.Proofs.YtkcfpglmlhoiaaaDoor
open Go.ChangeShapes Go.WideShapes Go.ChangeAt Go.RowKit
set_option linter.unusedVariables false
set_option linter.unusedSimpArgs false

theorem bd_node {F : List Mn} (h : bdB F = true) {m : Mn} (hm : m ∈ F) : m.name.size ≤ 100 ∧ m.text.size ≤ 100 ∧ m.attrs.length ≤ 12 ∧ m.kids.length ≤ 80 ∧ ∀ a ∈ m.attrs, a.1.size ≤ 100 ∧ a.2.size ≤ 100 := by
  rw [bdB, Bool.and_eq_true] at h
  have := List.all_eq_true.1 h.1 m hm
  simp only [nodeBd, Bool.and_eq_true, decide_eq_true_eq] at this
  refine ⟨this.1.1, this.1.2.1, this.1.2.2.1, this.1.2.2.2, fun a ha => ?_⟩
  have := List.all_eq_true.1 this.2 a ha
  simpa [attBd] using this
theorem bd_len {F : List Mn} (h : bdB F = true) : F.length ≤ 70 := by
  rw [bdB, Bool.and_eq_true, decide_eq_true_eq] at h
  exact h.2
theorem bd_sz {F : List Mn} (h : bdB F = true) : Sz F := ⟨by have := bd_len h; omega, fun m hm => by have := bd_node h hm; omega, fun m hm => by
  obtain ⟨h1, h2, h3, h4, h5⟩ := bd_node h hm
  exact ⟨by omega, by omega, fun a ha => by have := h5 a ha; omega⟩⟩
theorem bd_sz2 {F : List Mn} (h : bdB F = true) : Sz2 F := ⟨by have := bd_len h; omega, fun m hm => by have := bd_node h hm; omega, fun m hm => by have := bd_node h hm; omega, fun m hm => by
  obtain ⟨h1, h2, h3, h4, h5⟩ := bd_node h hm
  exact ⟨by omega, by omega, fun a ha => by have := h5 a ha; omega⟩⟩
theorem flat_le {α β : Type} {C : Nat} {f : α → List β} : ∀ (l : List α), (∀ x ∈ l, (f x).length ≤ C) → (l.flatMap f).length ≤ C * l.length := by
  intro l
  induction l with
  | nil => intro _; simp
  | cons a l ih =>
    intro h
    rw [List.flatMap_cons, List.length_append, List.length_cons, Nat.mul_add, Nat.mul_one]
    have h1 := h a (by simp)
    have h2 := ih (fun x hx => h x (by simp [hx]))
    omega
theorem bd_one {F : List Mn} (h : bdB F = true) : ∀ m ∈ F, One 300000 m := by
  intro m hm
  obtain ⟨h1, h2, h3, h4, h5⟩ := bd_node h hm
  refine ⟨?_, ?_⟩
  · have := flat_le (C := 21104) (f := attrL) m.attrs (fun a ha => by
      have h6 := h5 a ha
      have := escq_length a.2
      have h7 := size_list a.1
      simp only [attrL, List.length_append, List.length_cons, List.length_nil]
      omega)
    have h8 := size_list m.name
    simp only [openL, List.length_append, List.length_cons, List.length_nil]
    have : 21104 * m.attrs.length ≤ 21104 * 12 := Nat.mul_le_mul_left _ h3
    omega
  · have := esc_length m.text
    omega
theorem bd_pr {F : List Mn} (h : bdB F = true) (hm : mayB F = true) (f : Nat) {i : Nat} (hi : i < F.length) : (pr F f i).length ≤ 21000000 := by
  have h1 := pr_len (bd_one h) f i
  have h2 := vis_len hm f hi
  have h3 := bd_len h
  have : 300000 * (vis F f i).length ≤ 300000 * 70 := Nat.mul_le_mul_left _ (by omega)
  omega
/-- Print, of any bounded forest. -/
theorem print_bd (A : Option Addr) (F : List Mn) (c : Nat) (x mx : Int) (w : World) (hF : FR w A F) (h : bdB F = true) (hm : w.cell? ⟨0, 0, none⟩ = some (.int .i64 mx)) :
    Calls Tryd.prog 10 #[.slice A F.length c, .int .i64 x] w (GivesV (.string ⟨(printB F F.length x).toArray⟩) w) := by
  refine print_any A F c F.length x mx w hF (bd_sz h) (bd_sz2 h) hm (fun e1 e2 => ?_)
  rw [isB, decide_eq_true_eq] at e2
  obtain ⟨i, rfl⟩ := Int.eq_ofNat_of_zero_le e2.1
  rw [Int.toNat_natCast]
  have hi : i < F.length := by omega
  have := bd_pr h e1 F.length hi
  exact ⟨dp_all e1 hi, by omega⟩
theorem printB_node {F : List Mn} (hm : mayB F = true) {i : Nat} (hi : i < F.length) : printB F F.length i = pr F F.length i := by
  have : isB F i = true := by rw [isB, decide_eq_true_eq]; omega
  rw [printB, hm, this]
  rfl
/-- A node's print, by those of its kids. -/
theorem print_open {F : List Mn} (hm : mayB F = true) {i : Nat} (hi : i < F.length) : printB F F.length i = if F[i].kind = 3 then [60, 33] ++ esc F[i].text.data.toList ++ [33, 62]
      else if F[i].kind = 2 then esc F[i].text.data.toList
      else if F[i].kind = 1 then openL F[i] ++ F[i].kids.flatMap (printB F F.length) ++ ([60, 47] ++ F[i].name.data.toList ++ [62])
      else if F[i].kind = 0 then F[i].kids.flatMap (printB F F.length)
      else [] := by
  rw [printB_node hm hi, ← pr_more _ _ (dp_all hm hi), pr, List.getElem?_eq_getElem hi]
  have e : F[i].kids.flatMap (fun k => pr F F.length k.toNat) = F[i].kids.flatMap (printB F F.length) := flatMap_congr' (fun k hk => by
    obtain ⟨j, rfl, hj, -, -⟩ := dep_kid hm hi (by rw [kidsOf_at hi]; exact hk)
    rw [Int.toNat_natCast, printB_node hm hj])
  simp only [e]

/-! ### tops -/
theorem par_node {F : List Mn} (h : mayB F = true) {i : Nat} (hi : i < F.length) (hp : par F i ≠ -1) : ∃ j : Nat, par F i = j ∧ j < F.length ∧ dep F F.length i = dep F F.length j + 1 := by
  obtain ⟨p1, p2, p3, p4, p5⟩ := mayB_parts h
  have := (up_of p3 i hi).resolve_left hp
  rw [isB, decide_eq_true_eq] at this
  obtain ⟨j, hj⟩ := Int.eq_ofNat_of_zero_le this.1
  refine ⟨j, hj, by omega, ?_⟩
  rw [← dep_more F _ _ (p5 i hi), dep, if_neg (by omega), Int.toNat_natCast, hj]
theorem onWay_none (F : List Mn) (t : Int) (n : Nat) : onWay F t n (-1) = false := by cases n <;> simp [onWay]
/-- The top above a node. -/
def root (F : List Mn) : Nat → Int → Int
  | 0, x => x
  | n + 1, x => if par F x.toNat = -1 then x else root F n (par F x.toNat)
theorem root_spec {F : List Mn} (h : mayB F = true) : ∀ (n i : Nat), i < F.length → endsB F n i = true → (∃ r : Nat, root F n i = r ∧ r < F.length ∧ par F r = -1) ∧ ∀ t : Nat, par F t = -1 → onWay F t n i = decide ((t : Int) = root F n i) := by
  intro n
  induction n with
  | zero => intro i hi he; simp [endsB] at he
  | succ n ih =>
    intro i hi he
    rw [endsB, Bool.or_eq_true, decide_eq_true_eq, Int.toNat_natCast] at he
    have he := he.resolve_left (by omega)
    rw [root, Int.toNat_natCast]
    by_cases hp : par F i = -1
    · rw [if_pos hp]
      refine ⟨⟨i, rfl, hi, hp⟩, fun t ht => ?_⟩
      rw [onWay, if_neg (by omega), Int.toNat_natCast, hp, onWay_none, Bool.or_false]
      exact decide_eq_decide.2 ⟨Eq.symm, Eq.symm⟩
    · rw [if_neg hp]
      obtain ⟨j, hj, hjl, -⟩ := par_node h hi hp
      rw [hj] at he ⊢
      obtain ⟨h1, h2⟩ := ih j hjl he
      refine ⟨h1, fun t ht => ?_⟩
      rw [onWay, if_neg (by omega), Int.toNat_natCast, hj, h2 t ht]
      have : ¬ (i : Int) = t := fun e => by
        have : i = t := by omega
        subst this
        exact hp ht
      simp [this]
theorem topsOf_mem {F : List Mn} {n : Nat} {x : Int} : x ∈ topsOf F n ↔ ∃ t : Nat, x = t ∧ t < n ∧ par F t = -1 := by
  simp only [topsOf, List.mem_map, List.mem_filter, List.mem_range, decide_eq_true_eq]
  constructor
  · rintro ⟨t, ⟨h1, h2⟩, rfl⟩; exact ⟨t, rfl, h1, h2⟩
  · rintro ⟨t, rfl, h1, h2⟩; exact ⟨t, ⟨h1, h2⟩, rfl⟩
theorem topsOf_nodup (F : List Mn) (n : Nat) : (topsOf F n).Nodup := by
  induction n with
  | zero => simp [topsOf]
  | succ n ih =>
    rw [topsOf_succ]
    split
    · rw [List.nodup_append]
      refine ⟨ih, by simp, fun x hx y hy e => ?_⟩
      subst e
      rw [List.mem_singleton] at hy
      obtain ⟨t, ht, hl, -⟩ := topsOf_mem.1 hx
      omega
    · exact ih
/-- Just one top has a node below it. -/
theorem tops_one {F : List Mn} (h : mayB F = true) {i : Nat} (hi : i < F.length) : ((topsOf F F.length).filter fun t => belowB F t i).length = 1 := by
  obtain ⟨p1, p2, p3, p4, p5⟩ := mayB_parts h
  obtain ⟨⟨r, hr, hrl, hrp⟩, h2⟩ := root_spec h F.length i hi (p5 i hi)
  have hib : isB F i = true := by rw [isB, decide_eq_true_eq]; omega
  have e : (topsOf F F.length).filter (fun t => belowB F t i) = (topsOf F F.length).filter (fun t => t == (r : Int)) := by
    refine List.filter_congr (fun t ht => ?_)
    obtain ⟨t', rfl, ht1, ht2⟩ := topsOf_mem.1 ht
    rw [belowB, h, hib, Bool.true_and, Bool.true_and, h2 t' ht2, hr]
    rfl
  rw [e, ← List.countP_eq_length_filter]
  have hc : (topsOf F F.length).count (r : Int) = 1 := by
    have h1 := List.nodup_iff_count.1 (topsOf_nodup F F.length) (r : Int)
    have h2 := List.count_pos_iff.2 (topsOf_mem.2 ⟨r, rfl, hrl, hrp⟩)
    omega
  exact hc
theorem below_self {F : List Mn} (h : mayB F = true) {i : Nat} (hi : i < F.length) : belowB F i i = true := by
  have hib : isB F i = true := by rw [isB, decide_eq_true_eq]; omega
  rw [belowB, h, hib]
  obtain ⟨n, hn⟩ : ∃ n, F.length = n + 1 := ⟨F.length - 1, by omega⟩
  rw [hn, onWay, if_neg (by omega)]
  simp
theorem onWay_dep {F : List Mn} (h : mayB F = true) {t : Nat} : ∀ (n i : Nat), i < F.length → onWay F t n i = true → dep F F.length t ≤ dep F F.length i := by
  intro n
  induction n with
  | zero => intro i hi hw; simp [onWay] at hw
  | succ n ih =>
    intro i hi hw
    rw [onWay, if_neg (by omega), Int.toNat_natCast, Bool.or_eq_true, decide_eq_true_eq] at hw
    rcases hw with hw | hw
    · rw [hw]; exact Nat.le_refl _
    · by_cases hp : par F i = -1
      · rw [hp, onWay_none] at hw; cases hw
      · obtain ⟨j, hj, hjl, hd⟩ := par_node h hi hp
        rw [hj] at hw
        have := ih j hjl hw
        omega
/-- A parent is not below its kid, and the kid is below it. -/
theorem below_par {F : List Mn} (h : mayB F = true) {i : Nat} (hi : i < F.length) (hp : 0 ≤ par F i) : belowB F i (par F i) = false ∧ belowB F (par F i) i = true := by
  obtain ⟨j, hj, hjl, hd⟩ := par_node h hi (by omega)
  have hib : isB F i = true := by rw [isB, decide_eq_true_eq]; omega
  have hjb : isB F j = true := by rw [isB, decide_eq_true_eq]; omega
  rw [hj]
  constructor
  · rw [belowB, h, hjb, Bool.true_and, Bool.true_and]
    cases e : onWay F i F.length j with
    | false => rfl
    | true => have := onWay_dep h F.length j hjl e; omega
  · rw [belowB, h, hib, Bool.true_and, Bool.true_and]
    have hne : i ≠ j := fun e => by subst e; omega
    obtain ⟨n, hn⟩ : ∃ n, F.length = n + 2 := ⟨F.length - 2, by omega⟩
    rw [hn, onWay, if_neg (by omega), Int.toNat_natCast, hj, onWay, if_neg (by omega)]
    simp
theorem tops_head {F : List Mn} (h : mayB F = true) : ∃ l, topsOf F F.length = 0 :: l := by
  obtain ⟨p1, p2, p3, p4, p5⟩ := mayB_parts h
  have h0 : par F 0 = -1 := by
    have := link_of p3 p1
    simp only [linkB, Bool.and_eq_true, Bool.or_eq_true, decide_eq_true_eq] at this
    rcases this.1 with h1 | h1
    · exact h1
    · exact absurd rfl h1.1
  obtain ⟨n, hn⟩ : ∃ n, F.length = n + 1 := ⟨F.length - 1, by omega⟩
  rw [hn]
  clear hn
  induction n with
  | zero => exact ⟨[], by rw [topsOf_succ, if_pos h0]; simp [topsOf]⟩
  | succ n ih =>
    obtain ⟨l, hl⟩ := ih
    rw [topsOf_succ]
    split
    · exact ⟨l ++ [((n + 1 : Nat) : Int)], by rw [hl]; rfl⟩
    · exact ⟨l, hl⟩
end Go.Proofs.YtkcfpglmlhoiaaaDoor
