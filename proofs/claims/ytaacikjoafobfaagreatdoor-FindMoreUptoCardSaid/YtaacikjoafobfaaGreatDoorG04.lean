/-
  Ways up and down in a plain forest.
  The bound of the laws on forests.
  Bounded forests: Print's contract; tops, and who is below them.
  A forest that came in.
  slices.Equal, of numbers and of attributes.
  slices.Equal of attributes.
  Same.
  Same: two forests, node by node.
  New: the document alone.
  A forest with one Kind, or one Parent, made other: plain lists.
  A forest's row of nodes, copied, and one cell of it made other.
  The reference's forest out of ours: words.
-/
import Derived.Test.YtaacikjoafobfaaGreatDoorG03
import Derived.Test.YtaacikjoafobfaaGreatDoorG02
import Derived.Test.YtaacikjoafobfaaGreatDoorG01
import Derived.Deep.Slices
import Derived.ChangeSame
import Derived.WalkSmall
import Derived.Laws.Rows
import Derived.Deep.RegionHeld3
import Derived.BigRegion
import Derived.Deep.RegionLaw
namespace Go.Proofs.YtaacikjoafobfaaGreatDoor
open Go.ChangeShapes Go.WideShapes Go.ChangeAt Go.RowKit
set_option linter.unusedVariables false
set_option linter.unusedSimpArgs false

/-- How long the way up is. -/
def dep (F : List Mn) : Nat → Int → Nat
  | 0, _ => 0
  | n + 1, x => if x = -1 then 0 else dep F n (par F x.toNat) + 1
theorem dep_le (F : List Mn) : ∀ (n : Nat) (x : Int), dep F n x ≤ n := by
  intro n
  induction n with
  | zero => intro x; simp [dep]
  | succ n ih =>
    intro x
    rw [dep]
    split
    · omega
    · have := ih (par F x.toNat)
      omega
theorem dep_more (F : List Mn) : ∀ (n : Nat) (x : Int), endsB F n x = true → dep F (n + 1) x = dep F n x := by
  intro n
  induction n with
  | zero =>
    intro x h
    simp [endsB] at h
    simp [dep, h]
  | succ n ih =>
    intro x h
    rw [dep]
    by_cases hx : x = -1
    · simp [dep, hx]
    · rw [if_neg hx]
      have h' : endsB F n (par F x.toNat) = true := by
        rw [endsB, Bool.or_eq_true, decide_eq_true_eq] at h
        exact h.resolve_left hx
      rw [ih _ h']
      conv => rhs; rw [dep, if_neg hx]
/-- One step down is one step more. -/
theorem dep_kid {F : List Mn} (h : mayB F = true) {i : Nat} (hi : i < F.length) {k : Int} (hk : k ∈ kidsOf F i) :
    ∃ j : Nat, k = j ∧ j < F.length ∧ par F j = i ∧ dep F F.length j = dep F F.length i + 1 := by
  obtain ⟨p1, p2, p3, p4, p5⟩ := mayB_parts h
  obtain ⟨h1, h2⟩ := kids_of p3 hi hk
  rw [isB, decide_eq_true_eq] at h1
  obtain ⟨j, rfl⟩ := Int.eq_ofNat_of_zero_le h1.1
  rw [Int.toNat_natCast] at h2
  have hj : j < F.length := by omega
  refine ⟨j, rfl, hj, h2, ?_⟩
  rw [← dep_more F _ _ (p5 j hj), dep, if_neg (by omega), Int.toNat_natCast, h2]
theorem dep_pos {F : List Mn} {i : Nat} (h0 : 0 < F.length) : 1 ≤ dep F F.length i := by
  obtain ⟨n, hn⟩ : ∃ n, F.length = n + 1 := ⟨F.length - 1, by omega⟩
  rw [hn, dep, if_neg (by omega)]
  omega
theorem dp_of {F : List Mn} (h : mayB F = true) : ∀ (f i : Nat), i < F.length → F.length + 1 ≤ f + dep F F.length i → Dp F f i := by
  intro f
  induction f with
  | zero =>
    intro i hi hd
    have := dep_le F F.length i
    omega
  | succ f ih =>
    intro i hi hd
    refine ⟨hi, fun k hk => ?_⟩
    obtain ⟨j, rfl, hj, -, hdj⟩ := dep_kid h hi hk
    refine ⟨by omega, ?_⟩
    rw [Int.toNat_natCast]
    exact ih j hj (by omega)
theorem dp_all {F : List Mn} (h : mayB F = true) {i : Nat} (hi : i < F.length) : Dp F F.length i := by
  have := dep_pos (F := F) (i := i) (by omega)
  exact dp_of h _ i hi (by omega)
theorem flatMap_congr' {α β : Type} {l : List α} {f g : α → List β} (h : ∀ x ∈ l, f x = g x) : l.flatMap f = l.flatMap g := by
  induction l with
  | nil => rfl
  | cons a l ih => rw [List.flatMap_cons, List.flatMap_cons, h a (by simp), ih (fun x hx => h x (by simp [hx]))]
/-- The nodes below one, as they are printed. -/
def vis (F : List Mn) : Nat → Nat → List Nat
  | 0, _ => []
  | f + 1, i => i :: (kidsOf F i).flatMap (fun k => vis F f k.toNat)
def anc (F : List Mn) : Nat → Int → Int
  | 0, x => x
  | n + 1, x => par F (anc F n x).toNat
theorem vis_up {F : List Mn} (h : mayB F = true) : ∀ (f i : Nat), i < F.length → ∀ j ∈ vis F f i, j < F.length ∧ ∃ n, anc F n j = i ∧ dep F F.length j = dep F F.length i + n := by
  intro f
  induction f with
  | zero => intro i hi j hj; simp [vis] at hj
  | succ f ih =>
    intro i hi j hj
    rw [vis, List.mem_cons, List.mem_flatMap] at hj
    rcases hj with rfl | ⟨k, hk, hj⟩
    · exact ⟨hi, 0, rfl, rfl⟩
    · obtain ⟨k', rfl, hk', hp, hd⟩ := dep_kid h hi hk
      rw [Int.toNat_natCast] at hj
      obtain ⟨h1, n, h2, h3⟩ := ih k' hk' j hj
      exact ⟨h1, n + 1, by rw [anc, h2, Int.toNat_natCast, hp], by omega⟩
theorem nodup_flat {α β : Type} {f : α → List β} : ∀ (l : List α), l.Nodup → (∀ x ∈ l, (f x).Nodup) → (∀ x ∈ l, ∀ y ∈ l, ∀ z, z ∈ f x → z ∈ f y → x = y) → (l.flatMap f).Nodup := by
  intro l
  induction l with
  | nil => intro _ _ _; simp
  | cons a l ih =>
    intro h1 h2 h3
    rw [List.nodup_cons] at h1
    rw [List.flatMap_cons, List.nodup_append]
    refine ⟨h2 a (by simp), ih h1.2 (fun x hx => h2 x (by simp [hx])) (fun x hx y hy => h3 x (by simp [hx]) y (by simp [hy])), ?_⟩
    intro x hx y hy e
    subst e
    rw [List.mem_flatMap] at hy
    obtain ⟨b, hb, hy⟩ := hy
    have := h3 a (by simp) b (by simp [hb]) x hx hy
    subst this
    exact h1.1 hb
theorem nodup_count {l : List Int} (h : ∀ x ∈ l, l.count x = 1) : l.Nodup := List.nodup_iff_count.2 (fun a => by
  by_cases ha : a ∈ l
  · rw [h a ha]; exact Nat.le_refl _
  · rw [List.count_eq_zero_of_not_mem ha]; omega)
theorem kids_nodup {F : List Mn} (h : mayB F = true) {i : Nat} (hi : i < F.length) : (kidsOf F i).Nodup := nodup_count (fun x hx => by
  obtain ⟨p1, p2, p3, p4, p5⟩ := mayB_parts h
  obtain ⟨j, rfl, hj, hp, -⟩ := dep_kid h hi hx
  have := link_of p3 hj
  rw [linkB, Bool.and_eq_true, Bool.or_eq_true, decide_eq_true_eq, hp] at this
  rcases this.1 with h' | h'
  · omega
  · simp only [Bool.and_eq_true, decide_eq_true_eq, Int.toNat_natCast] at h'
    exact h'.2.2)
theorem vis_nodup {F : List Mn} (h : mayB F = true) : ∀ (f i : Nat), i < F.length → (vis F f i).Nodup := by
  intro f
  induction f with
  | zero => intro i hi; simp [vis]
  | succ f ih =>
    intro i hi
    rw [vis, List.nodup_cons]
    refine ⟨fun hm => ?_, nodup_flat _ (kids_nodup h hi) (fun k hk => ?_) (fun k hk k' hk' z hz hz' => ?_)⟩
    · rw [List.mem_flatMap] at hm
      obtain ⟨k, hk, hm⟩ := hm
      obtain ⟨k', rfl, hk', hp, hd⟩ := dep_kid h hi hk
      rw [Int.toNat_natCast] at hm
      obtain ⟨-, n, -, h3⟩ := vis_up h f k' hk' i hm
      omega
    · obtain ⟨k', rfl, hk', hp, hd⟩ := dep_kid h hi hk
      rw [Int.toNat_natCast]
      exact ih k' hk'
    · obtain ⟨a, rfl, ha, -, hda⟩ := dep_kid h hi hk
      obtain ⟨b, rfl, hb, -, hdb⟩ := dep_kid h hi hk'
      rw [Int.toNat_natCast] at hz hz'
      obtain ⟨-, n, h1, h2⟩ := vis_up h f a ha z hz
      obtain ⟨-, m, h3, h4⟩ := vis_up h f b hb z hz'
      obtain rfl : n = m := by omega
      rw [← h1, h3]
theorem nodup_lt : ∀ (n : Nat) (l : List Nat), l.Nodup → (∀ x ∈ l, x < n) → l.length ≤ n := by
  intro n
  induction n with
  | zero =>
    intro l _ h
    cases l with
    | nil => simp
    | cons a l => exact absurd (h a (by simp)) (by omega)
  | succ n ih =>
    intro l h1 h2
    have := ih (l.erase n) (h1.erase n) (fun x hx => by
      rw [h1.mem_erase_iff] at hx
      have := h2 x hx.2
      have := hx.1
      omega)
    by_cases hn : n ∈ l
    · rw [List.length_erase_of_mem hn] at this
      omega
    · rw [List.erase_of_not_mem hn] at this
      omega
theorem vis_len {F : List Mn} (h : mayB F = true) (f : Nat) {i : Nat} (hi : i < F.length) : (vis F f i).length ≤ F.length :=
  nodup_lt _ _ (vis_nodup h f i hi) (fun x hx => (vis_up h f i hi x hx).1)
theorem flat_len {α β γ : Type} {C : Nat} {f : α → List β} {g : α → List γ} : ∀ (l : List α), (∀ x ∈ l, (f x).length ≤ C * (g x).length) → (l.flatMap f).length ≤ C * (l.flatMap g).length := by
  intro l
  induction l with
  | nil => intro _; simp
  | cons a l ih =>
    intro h
    rw [List.flatMap_cons, List.flatMap_cons, List.length_append, List.length_append, Nat.mul_add]
    exact Nat.add_le_add (h a (by simp)) (ih (fun x hx => h x (by simp [hx])))
end Go.Proofs.YtaacikjoafobfaaGreatDoor
namespace Go.Proofs.YtaacikjoafobfaaGreatDoor
open Go.ChangeShapes Go.WideShapes Go.ChangeAt Go.RowKit
set_option linter.unusedVariables false
set_option linter.unusedSimpArgs false

def attBd (a : ByteArray × ByteArray) : Bool := decide (a.1.size ≤ 100) && decide (a.2.size ≤ 100)
def nodeBd (m : Mn) : Bool := (decide (m.name.size ≤ 100) && (decide (m.text.size ≤ 100) && (decide (m.attrs.length ≤ 12) && decide (m.kids.length ≤ 80)))) && m.attrs.all attBd
def bdB (F : List Mn) : Bool := F.all nodeBd && decide (F.length ≤ 70)
theorem all_take_succ {α : Type} {f : α → Bool} {l : List α} {k : Nat} (hk : k < l.length) (h : (l.take k).all f = true) : (l.take (k + 1)).all f = f l[k] := by
  rw [take_more hk, List.all_append, h]
  simp
theorem all_mem_no {α : Type} {f : α → Bool} {l : List α} {x : α} (hx : x ∈ l) (h : f x = false) : l.all f = false := List.all_eq_false.2 ⟨x, hx, by rw [h]; simp⟩
end Go.Proofs.YtaacikjoafobfaaGreatDoor
namespace Go.Proofs.YtaacikjoafobfaaGreatDoor
open Go.ChangeShapes Go.WideShapes Go.ChangeAt Go.RowKit
set_option linter.unusedVariables false
set_option linter.unusedSimpArgs false

theorem bd_node {F : List Mn} (h : bdB F = true) {m : Mn} (hm : m ∈ F) : m.name.size ≤ 100 ∧ m.text.size ≤ 100 ∧ m.attrs.length ≤ 12 ∧ m.kids.length ≤ 80 ∧ ∀ a ∈ m.attrs, a.1.size ≤ 100 ∧ a.2.size ≤ 100 := by
  rw [bdB, Bool.and_eq_true] at h
  have := List.all_eq_true.1 h.1 m hm
  simp only [nodeBd, Bool.and_eq_true, decide_eq_true_eq] at this
  refine ⟨this.1.1, this.1.2.1, this.1.2.2.1, this.1.2.2.2, fun a ha => ?_⟩
  have := List.all_eq_true.1 this.2 a ha
  simpa [attBd] using this
theorem bd_len {F : List Mn} (h : bdB F = true) : F.length ≤ 70 := by
  rw [bdB, Bool.and_eq_true, decide_eq_true_eq] at h
  exact h.2
theorem bd_sz {F : List Mn} (h : bdB F = true) : Sz F := ⟨by have := bd_len h; omega, fun m hm => by have := bd_node h hm; omega, fun m hm => by
  obtain ⟨h1, h2, h3, h4, h5⟩ := bd_node h hm
  exact ⟨by omega, by omega, fun a ha => by have := h5 a ha; omega⟩⟩
theorem bd_sz2 {F : List Mn} (h : bdB F = true) : Sz2 F := ⟨by have := bd_len h; omega, fun m hm => by have := bd_node h hm; omega, fun m hm => by have := bd_node h hm; omega, fun m hm => by
  obtain ⟨h1, h2, h3, h4, h5⟩ := bd_node h hm
  exact ⟨by omega, by omega, fun a ha => by have := h5 a ha; omega⟩⟩
theorem flat_le {α β : Type} {C : Nat} {f : α → List β} : ∀ (l : List α), (∀ x ∈ l, (f x).length ≤ C) → (l.flatMap f).length ≤ C * l.length := by
  intro l
  induction l with
  | nil => intro _; simp
  | cons a l ih =>
    intro h
    rw [List.flatMap_cons, List.length_append, List.length_cons, Nat.mul_add, Nat.mul_one]
    have h1 := h a (by simp)
    have h2 := ih (fun x hx => h x (by simp [hx]))
    omega
/-! ### tops -/
theorem par_node {F : List Mn} (h : mayB F = true) {i : Nat} (hi : i < F.length) (hp : par F i ≠ -1) : ∃ j : Nat, par F i = j ∧ j < F.length ∧ dep F F.length i = dep F F.length j + 1 := by
  obtain ⟨p1, p2, p3, p4, p5⟩ := mayB_parts h
  have := (up_of p3 i hi).resolve_left hp
  rw [isB, decide_eq_true_eq] at this
  obtain ⟨j, hj⟩ := Int.eq_ofNat_of_zero_le this.1
  refine ⟨j, hj, by omega, ?_⟩
  rw [← dep_more F _ _ (p5 i hi), dep, if_neg (by omega), Int.toNat_natCast, hj]
theorem onWay_none (F : List Mn) (t : Int) (n : Nat) : onWay F t n (-1) = false := by cases n <;> simp [onWay]
/-- The top above a node. -/
def root (F : List Mn) : Nat → Int → Int
  | 0, x => x
  | n + 1, x => if par F x.toNat = -1 then x else root F n (par F x.toNat)
theorem root_spec {F : List Mn} (h : mayB F = true) : ∀ (n i : Nat), i < F.length → endsB F n i = true → (∃ r : Nat, root F n i = r ∧ r < F.length ∧ par F r = -1) ∧ ∀ t : Nat, par F t = -1 → onWay F t n i = decide ((t : Int) = root F n i) := by
  intro n
  induction n with
  | zero => intro i hi he; simp [endsB] at he
  | succ n ih =>
    intro i hi he
    rw [endsB, Bool.or_eq_true, decide_eq_true_eq, Int.toNat_natCast] at he
    have he := he.resolve_left (by omega)
    rw [root, Int.toNat_natCast]
    by_cases hp : par F i = -1
    · rw [if_pos hp]
      refine ⟨⟨i, rfl, hi, hp⟩, fun t ht => ?_⟩
      rw [onWay, if_neg (by omega), Int.toNat_natCast, hp, onWay_none, Bool.or_false]
      exact decide_eq_decide.2 ⟨Eq.symm, Eq.symm⟩
    · rw [if_neg hp]
      obtain ⟨j, hj, hjl, -⟩ := par_node h hi hp
      rw [hj] at he ⊢
      obtain ⟨h1, h2⟩ := ih j hjl he
      refine ⟨h1, fun t ht => ?_⟩
      rw [onWay, if_neg (by omega), Int.toNat_natCast, hj, h2 t ht]
      have : ¬ (i : Int) = t := fun e => by
        have : i = t := by omega
        subst this
        exact hp ht
      simp [this]
theorem topsOf_mem {F : List Mn} {n : Nat} {x : Int} : x ∈ topsOf F n ↔ ∃ t : Nat, x = t ∧ t < n ∧ par F t = -1 := by
  simp only [topsOf, List.mem_map, List.mem_filter, List.mem_range, decide_eq_true_eq]
  constructor
  · rintro ⟨t, ⟨h1, h2⟩, rfl⟩; exact ⟨t, rfl, h1, h2⟩
  · rintro ⟨t, rfl, h1, h2⟩; exact ⟨t, ⟨h1, h2⟩, rfl⟩
theorem topsOf_nodup (F : List Mn) (n : Nat) : (topsOf F n).Nodup := by
  induction n with
  | zero => simp [topsOf]
  | succ n ih =>
    rw [topsOf_succ]
    split
    · rw [List.nodup_append]
      refine ⟨ih, by simp, fun x hx y hy e => ?_⟩
      subst e
      rw [List.mem_singleton] at hy
      obtain ⟨t, ht, hl, -⟩ := topsOf_mem.1 hx
      omega
    · exact ih
/-- Just one top has a node below it. -/
theorem tops_one {F : List Mn} (h : mayB F = true) {i : Nat} (hi : i < F.length) : ((topsOf F F.length).filter fun t => belowB F t i).length = 1 := by
  obtain ⟨p1, p2, p3, p4, p5⟩ := mayB_parts h
  obtain ⟨⟨r, hr, hrl, hrp⟩, h2⟩ := root_spec h F.length i hi (p5 i hi)
  have hib : isB F i = true := by rw [isB, decide_eq_true_eq]; omega
  have e : (topsOf F F.length).filter (fun t => belowB F t i) = (topsOf F F.length).filter (fun t => t == (r : Int)) := by
    refine List.filter_congr (fun t ht => ?_)
    obtain ⟨t', rfl, ht1, ht2⟩ := topsOf_mem.1 ht
    rw [belowB, h, hib, Bool.true_and, Bool.true_and, h2 t' ht2, hr]
    rfl
  rw [e, ← List.countP_eq_length_filter]
  have hc : (topsOf F F.length).count (r : Int) = 1 := by
    have h1 := List.nodup_iff_count.1 (topsOf_nodup F F.length) (r : Int)
    have h2 := List.count_pos_iff.2 (topsOf_mem.2 ⟨r, rfl, hrl, hrp⟩)
    omega
  exact hc
theorem below_self {F : List Mn} (h : mayB F = true) {i : Nat} (hi : i < F.length) : belowB F i i = true := by
  have hib : isB F i = true := by rw [isB, decide_eq_true_eq]; omega
  rw [belowB, h, hib]
  obtain ⟨n, hn⟩ : ∃ n, F.length = n + 1 := ⟨F.length - 1, by omega⟩
  rw [hn, onWay, if_neg (by omega)]
  simp
theorem onWay_dep {F : List Mn} (h : mayB F = true) {t : Nat} : ∀ (n i : Nat), i < F.length → onWay F t n i = true → dep F F.length t ≤ dep F F.length i := by
  intro n
  induction n with
  | zero => intro i hi hw; simp [onWay] at hw
  | succ n ih =>
    intro i hi hw
    rw [onWay, if_neg (by omega), Int.toNat_natCast, Bool.or_eq_true, decide_eq_true_eq] at hw
    rcases hw with hw | hw
    · rw [hw]; exact Nat.le_refl _
    · by_cases hp : par F i = -1
      · rw [hp, onWay_none] at hw; cases hw
      · obtain ⟨j, hj, hjl, hd⟩ := par_node h hi hp
        rw [hj] at hw
        have := ih j hjl hw
        omega
/-- A parent is not below its kid, and the kid is below it. -/
theorem below_par {F : List Mn} (h : mayB F = true) {i : Nat} (hi : i < F.length) (hp : 0 ≤ par F i) : belowB F i (par F i) = false ∧ belowB F (par F i) i = true := by
  obtain ⟨j, hj, hjl, hd⟩ := par_node h hi (by omega)
  have hib : isB F i = true := by rw [isB, decide_eq_true_eq]; omega
  have hjb : isB F j = true := by rw [isB, decide_eq_true_eq]; omega
  rw [hj]
  constructor
  · rw [belowB, h, hjb, Bool.true_and, Bool.true_and]
    cases e : onWay F i F.length j with
    | false => rfl
    | true => have := onWay_dep h F.length j hjl e; omega
  · rw [belowB, h, hib, Bool.true_and, Bool.true_and]
    have hne : i ≠ j := fun e => by subst e; omega
    obtain ⟨n, hn⟩ : ∃ n, F.length = n + 2 := ⟨F.length - 2, by omega⟩
    rw [hn, onWay, if_neg (by omega), Int.toNat_natCast, hj, onWay, if_neg (by omega)]
    simp
theorem tops_head {F : List Mn} (h : mayB F = true) : ∃ l, topsOf F F.length = 0 :: l := by
  obtain ⟨p1, p2, p3, p4, p5⟩ := mayB_parts h
  have h0 : par F 0 = -1 := by
    have := link_of p3 p1
    simp only [linkB, Bool.and_eq_true, Bool.or_eq_true, decide_eq_true_eq] at this
    rcases this.1 with h1 | h1
    · exact h1
    · exact absurd rfl h1.1
  obtain ⟨n, hn⟩ : ∃ n, F.length = n + 1 := ⟨F.length - 1, by omega⟩
  rw [hn]
  clear hn
  induction n with
  | zero => exact ⟨[], by rw [topsOf_succ, if_pos h0]; simp [topsOf]⟩
  | succ n ih =>
    obtain ⟨l, hl⟩ := ih
    rw [topsOf_succ]
    split
    · exact ⟨l ++ [((n + 1 : Nat) : Int)], by rw [hl]; rfl⟩
    · exact ⟨l, hl⟩
end Go.Proofs.YtaacikjoafobfaaGreatDoor
namespace Go.Proofs.YtaacikjoafobfaaGreatDoor
open Go.ChangeShapes Go.WideShapes Go.ChangeAt Go.RowKit
set_option linter.unusedVariables false
set_option linter.unusedSimpArgs false

instance : Inhabited Mn := ⟨⟨0, ⟨#[]⟩, ⟨#[]⟩, [], 0, [], none, 0, none, 0⟩⟩
theorem add_plain (g i j : Nat) : (⟨g, i, none⟩ : Addr).add j = ⟨g, i + j, none⟩ := by unfold Addr.add; split <;> simp_all
theorem i64_wf {n : Int} (h : (Lit.int .i64 n).wf = true) : I64 n := by
  have h : IntKind.i64.min ≤ n ∧ n ≤ IntKind.i64.max := by simpa [Lit.wf] using h
  exact h
/-- A field of a struct that can be read: its one cell, and how it reads. -/
theorem struct_field {H : Type} {enc : TypeId × Value → H} {P : Program} {w : World} {base : Nat} {sp : Nat → Bool} {held : Bool} {fuel : Nat} {t : TypeId} {cs : List Value} {x : DataW H × List MemPlace} {fs : Array Field}
    (ht : P.underlying t = some (.struct fs)) (h : DataW.trod enc P w base sp held fuel t cs = some x) (i : Nat) {ft : TypeId} {off : Nat} (hi : (fs[i]?).map (fun f => (f.type, f.offset)) = some (ft, off)) (hc : P.cellsOf ft = 1) {v : Value} (hv : cs[off]? = some v) :
    ∃ n d ps, DataW.trod enc P w base sp held n ft [v] = some (d, ps) ∧ ∀ y ∈ ps, y ∈ x.2 := by
  obtain ⟨xs, n, _, hx, _, hxl, hf⟩ := DataW.trod_struct ht h
  obtain ⟨f, hfi, he⟩ := Option.map_eq_some_iff.1 hi
  have e1 : f.type = ft := congrArg Prod.fst he
  have e2 : f.offset = off := congrArg Prod.snd he
  have hlt : i < xs.length := by
    rw [hxl]
    exact (Array.getElem?_eq_some_iff.1 hfi).1
  have := hf i f hfi
  rw [e1, e2, hc, List.getElem?_eq_getElem hlt] at this
  obtain ⟨hl, hg⟩ := List.getElem?_eq_some_iff.1 hv
  have h1 : (cs.drop off).take 1 = [v] := by
    rw [List.drop_eq_getElem_cons hl, hg]
    rfl
  rw [h1] at this
  refine ⟨n, (xs[i]).1, (xs[i]).2, this, fun y hy => ?_⟩
  rw [hx]
  exact List.mem_flatMap.2 ⟨xs[i], List.getElem_mem _, hy⟩
theorem cells_int : Tryz.prog.cellsOf 3 = 1 := by kernel_rfl
theorem cells_str : Tryz.prog.cellsOf 9 = 1 := by kernel_rfl
theorem cells_as : Tryz.prog.cellsOf 48 = 1 := by kernel_rfl
theorem cells_is : Tryz.prog.cellsOf 34 = 1 := by kernel_rfl
theorem cells_At : Tryz.prog.cellsOf 99 = 2 := by kernel_rfl
theorem cells_Nd : Tryz.prog.cellsOf 50 = 6 := by kernel_rfl
theorem under_At : Tryz.prog.underlying 99 = some (.struct (Tryz.prog.fieldsOf 99)) := by kernel_rfl
theorem under_Nd : Tryz.prog.underlying 50 = some (.struct (Tryz.prog.fieldsOf 50)) := by kernel_rfl
theorem fAt0 : ((Tryz.prog.fieldsOf 99)[0]?).map (fun f => (f.type, f.offset)) = some (9, 0) := by kernel_rfl
theorem fAt1 : ((Tryz.prog.fieldsOf 99)[1]?).map (fun f => (f.type, f.offset)) = some (9, 1) := by kernel_rfl
theorem fNd0 : ((Tryz.prog.fieldsOf 50)[0]?).map (fun f => (f.type, f.offset)) = some (3, 0) := by kernel_rfl
theorem fNd1 : ((Tryz.prog.fieldsOf 50)[1]?).map (fun f => (f.type, f.offset)) = some (9, 1) := by kernel_rfl
theorem fNd2 : ((Tryz.prog.fieldsOf 50)[2]?).map (fun f => (f.type, f.offset)) = some (9, 2) := by kernel_rfl
theorem fNd3 : ((Tryz.prog.fieldsOf 50)[3]?).map (fun f => (f.type, f.offset)) = some (48, 3) := by kernel_rfl
theorem fNd4 : ((Tryz.prog.fieldsOf 50)[4]?).map (fun f => (f.type, f.offset)) = some (3, 4) := by kernel_rfl
theorem fNd5 : ((Tryz.prog.fieldsOf 50)[5]?).map (fun f => (f.type, f.offset)) = some (34, 5) := by kernel_rfl
theorem spot_of {W : World} {base : Nat} {a : Addr} {n : Nat} {cs : List Value} (h : W.cells? base a n = some cs) (hn : 0 < n) : a.spot = none := by
  obtain ⟨_, hl, hc⟩ := World.cells?_some h
  have z := hc 0 hn
  rw [List.getElem?_eq_getElem (by omega)] at z
  simpa [Addr.add] using World.cell?_spot z
theorem getD_range_map {α : Type} (f : Nat → α) (d : α) {n j : Nat} (h : j < n) : ((List.range n).map f).getD j d = f j := by simp [List.getD, h]
set_option maxRecDepth 100000 in
theorem ints_cell {H : Type} {enc : TypeId × Value → H} {W : World} {n : Nat} {v : Value} {d : DataW H} {ps : List MemPlace} (hf : DataW.trod enc Tryz.prog W 0 (fun _ => true) true n 34 [v] = some (d, ps)) (hlt : ∀ x ∈ ps, x.block < W.heap.size) :
    ∃ (A : Option Addr) (cap : Nat) (l : List Int), v = .slice A l.length cap ∧ l.length ≤ cap ∧ cap ≤ 9223372036854775807 ∧ IR W A l ∧ ∀ x ∈ l, I64 x := by
  rcases Deep.open_slice1 Tryz.underlying34 cells_int hf with ⟨hcs, hx⟩ | ⟨a, len, cap, m, fu, V, D, Pl, hcs, hb, hl, hm, hmm, hx, hel⟩
  · cases hcs
    exact ⟨none, 0, [], rfl, by simp, by simp, fun j hj => by simp at hj, fun x hx => by simp at hx⟩
  · cases hcs
    simp only [Prod.mk.injEq] at hx
    obtain ⟨rfl, rfl⟩ := hx
    simp only [if_true] at hmm
    subst hmm
    have each : ∀ i, i < len → ∃ z : Int, W.cell? (a.add i) = some (.int .i64 z) ∧ I64 z := fun i hi => by
      obtain ⟨h1, h2⟩ := hel i (by omega)
      obtain ⟨z, e, -, wz⟩ := DataW.trod_int Tryz.underlying3 h2
      have ev : V i = .int .i64 z := by simpa using e
      exact ⟨z, by rw [h1, ev], i64_wf wz⟩
    obtain ⟨f, hf⟩ := Deep.choose_lt each
    refine ⟨some a, m, (List.range len).map f, by simp, by simpa using hl, hm, fun j hj => ?_, fun x hx => ?_⟩
    · have hj' : j < len := by simpa using hj
      have h0 := (hf 0 (by omega)).1
      obtain ⟨b, off, spot⟩ := a
      have hspot : spot = none := by simpa [Addr.add] using World.cell?_spot h0
      subst hspot
      refine ⟨b, off, rfl, hlt (.cell b off) (List.mem_append.2 (.inl (MemPlace.mem_row.2 ⟨0, by omega, by simp⟩))), ?_⟩
      rw [getD_range_map f 0 hj', ← (hf j hj').1, add_plain]
    · obtain ⟨i, hi, rfl⟩ := List.mem_map.1 hx
      exact (hf i (by simpa using hi)).2
set_option maxRecDepth 100000 in
theorem attrs_cell {H : Type} {enc : TypeId × Value → H} {W : World} {n : Nat} {v : Value} {d : DataW H} {ps : List MemPlace} (hf : DataW.trod enc Tryz.prog W 0 (fun _ => true) true n 48 [v] = some (d, ps)) (hlt : ∀ x ∈ ps, x.block < W.heap.size) :
    ∃ (A : Option Addr) (cap : Nat) (l : List (ByteArray × ByteArray)), v = .slice A l.length cap ∧ l.length ≤ cap ∧ cap ≤ 9223372036854775807 ∧ AR W A l := by
  rcases Deep.open_slice Tryz.underlying48 hf with ⟨hcs, hx⟩ | ⟨a, len, cap, m, fu, D, Pl, hcs, hb, hl, hm, hmm, hx, hel⟩
  · cases hcs
    exact ⟨none, 0, [], rfl, by simp, by simp, fun j hj => by simp at hj⟩
  · cases hcs
    simp only [Prod.mk.injEq] at hx
    obtain ⟨rfl, rfl⟩ := hx
    simp only [if_true] at hmm
    subst hmm
    rw [cells_At] at hel hlt
    have each : ∀ i, i < len → ∃ z : ByteArray × ByteArray, W.cell? (a.add (i * 2)) = some (.string z.1) ∧ W.cell? (a.add (i * 2 + 1)) = some (.string z.2) := fun i hi => by
      obtain ⟨cs', h1, h2⟩ := hel i (by omega)
      obtain ⟨_, hlen, hcell⟩ := World.cells?_some h1
      match cs', hlen with
      | [y0, y1], _ =>
        obtain ⟨n0, d0, p0, t0, s0⟩ := struct_field under_At h2 0 fAt0 cells_str (v := y0) rfl
        obtain ⟨n1, d1, p1, t1, s1⟩ := struct_field under_At h2 1 fAt1 cells_str (v := y1) rfl
        obtain ⟨z0, e0, -, -⟩ := DataW.trod_string Tryz.underlying9 t0
        obtain ⟨z1, e1, -, -⟩ := DataW.trod_string Tryz.underlying9 t1
        cases e0
        cases e1
        have g0 := hcell 0 (by omega)
        have g1 := hcell 1 (by omega)
        rw [Deep.add_add] at g0 g1
        exact ⟨(z0, z1), by simpa using g0, by simpa using g1⟩
    obtain ⟨f, hf⟩ := Deep.choose_lt each
    refine ⟨some a, m, (List.range len).map f, by simp, by simpa using hl, hm, fun j hj => ?_⟩
    have hj' : j < len := by simpa using hj
    obtain ⟨cs0, z1, -⟩ := hel 0 (by omega)
    have hspot := spot_of z1 (by omega)
    obtain ⟨b, off, spot⟩ := a
    have hs : spot = none := by simpa [Addr.add] using hspot
    subst hs
    refine ⟨b, off, rfl, hlt (.cell b off) (List.mem_append.2 (.inl (MemPlace.mem_row.2 ⟨0, by omega, by simp⟩))), ?_, ?_⟩
    · rw [getD_range_map f default hj', ← (hf j hj').1, add_plain]
    · rw [getD_range_map f default hj', ← (hf j hj').2, add_plain]
      rfl
set_option maxRecDepth 100000 in
theorem forest_open {H : Type} {enc : TypeId × Value → H} {W : World} {base : Nat} {v : Value} {d : DataW H} {ps : List MemPlace} (hv : Value.okWide Tryz.prog W .any base 29 v)
    (h : DataW.Trod enc Tryz.prog W 0 (fun _ => true) true 29 v d ps) (hlt : ∀ x ∈ ps, x.block < W.heap.size) :
    ∃ (A : Option Addr) (cap : Nat) (F : List Mn), v = .slice A F.length cap ∧ F.length ≤ cap ∧ cap ≤ 9223372036854775807 ∧ FR W A F := by
  obtain ⟨a0, len0, cap0, rfl⟩ := okWide_slice Tryz.underlying29 hv
  obtain ⟨fuel, hf⟩ := h
  rcases Deep.open_slice Tryz.underlying29 hf with ⟨hcs, hx⟩ | ⟨a, len, cap, m, fu, D, Pl, hcs, hb, hl, hm, hmm, hx, hel⟩
  · simp [Value.cells] at hcs
    obtain ⟨rfl, rfl, rfl⟩ := hcs
    exact ⟨none, 0, [], rfl, by simp, by simp, fun i m hm => by simp at hm⟩
  · simp [Value.cells] at hcs
    obtain ⟨rfl, rfl, rfl⟩ := hcs
    simp only [Prod.mk.injEq] at hx
    obtain ⟨rfl, rfl⟩ := hx
    simp only [if_true] at hmm
    subst hmm
    rw [cells_Nd] at hel hlt
    by_cases h0 : len0 = 0
    · subst h0
      exact ⟨some a, m, [], rfl, by simp, hm, fun i m hm => by simp at hm⟩
    obtain ⟨cs0, z1, -⟩ := hel 0 (by omega)
    have hspot := spot_of z1 (by omega)
    obtain ⟨b, off, spot⟩ := a
    have hs : spot = none := by simpa [Addr.add] using hspot
    subst hs
    have hbl : b < W.heap.size := hlt (.cell b off) (List.mem_append.2 (.inl (MemPlace.mem_row.2 ⟨0, by omega, by simp⟩)))
    have each : ∀ i, i < len0 → ∃ z : Mn, Fit z ∧ NodeAt W b (off + i * 6) z := fun i hi => by
      obtain ⟨cs', h1, h2⟩ := hel i (by omega)
      have hsub : ∀ y ∈ Pl i, y.block < W.heap.size := fun y hy => hlt y (List.mem_append.2 (.inr (List.mem_flatMap.2 ⟨i, List.mem_range.2 (by omega), hy⟩)))
      obtain ⟨_, hlen, hcell⟩ := World.cells?_some h1
      match cs', hlen with
      | [y0, y1, y2, y3, y4, y5], _ =>
        obtain ⟨n0, d0, p0, t0, s0⟩ := struct_field under_Nd h2 0 fNd0 cells_int (v := y0) rfl
        obtain ⟨n1, d1, p1, t1, s1⟩ := struct_field under_Nd h2 1 fNd1 cells_str (v := y1) rfl
        obtain ⟨n2, d2, p2, t2, s2⟩ := struct_field under_Nd h2 2 fNd2 cells_str (v := y2) rfl
        obtain ⟨n3, d3, p3, t3, s3⟩ := struct_field under_Nd h2 3 fNd3 cells_as (v := y3) rfl
        obtain ⟨n4, d4, p4, t4, s4⟩ := struct_field under_Nd h2 4 fNd4 cells_int (v := y4) rfl
        obtain ⟨n5, d5, p5, t5, s5⟩ := struct_field under_Nd h2 5 fNd5 cells_is (v := y5) rfl
        obtain ⟨kd, e0, -, w0⟩ := DataW.trod_int Tryz.underlying3 t0
        obtain ⟨nm0, e1, -, -⟩ := DataW.trod_string Tryz.underlying9 t1
        obtain ⟨tx0, e2, -, -⟩ := DataW.trod_string Tryz.underlying9 t2
        obtain ⟨pr0, e4, -, w4⟩ := DataW.trod_int Tryz.underlying3 t4
        cases e0
        cases e1
        cases e2
        cases e4
        obtain ⟨aA, aC, al, rfl, q1, q2, q3⟩ := attrs_cell t3 (fun y hy => hsub y (s3 y hy))
        obtain ⟨kA, kC, kl, rfl, r1, r2, r3, r4⟩ := ints_cell t5 (fun y hy => hsub y (s5 y hy))
        have g0 := hcell 0 (by omega)
        have g1 := hcell 1 (by omega)
        have g2 := hcell 2 (by omega)
        have g3 := hcell 3 (by omega)
        have g4 := hcell 4 (by omega)
        have g5 := hcell 5 (by omega)
        simp only [add_plain, Nat.add_zero] at g0 g1 g2 g3 g4 g5
        exact ⟨⟨kd, nm0, tx0, al, pr0, kl, aA, aC, kA, kC⟩, ⟨i64_wf w0, i64_wf w4, r4, ⟨q1, q2⟩, ⟨r1, r2⟩⟩, ⟨g0, g1, g2, g3, g4, g5, q3, r3⟩⟩
    obtain ⟨f, hf⟩ := Deep.choose_lt each
    refine ⟨some ⟨b, off, none⟩, m, (List.range len0).map f, by simp, by simpa using hl, hm, fun i z hz => ?_⟩
    obtain ⟨hi, e⟩ := List.getElem?_eq_some_iff.1 hz
    have hi' : i < len0 := by simpa using hi
    have e' : f i = z := by simpa using e
    rw [← e']
    exact ⟨(hf i hi').1, b, off, rfl, hbl, (hf i hi').2⟩
end Go.Proofs.YtaacikjoafobfaaGreatDoor
namespace Go.Proofs.YtaacikjoafobfaaGreatDoor
open Go.ChangeShapes Go.WideShapes Go.ChangeAt Go.RowKit
set_option linter.unusedVariables false
set_option linter.unusedSimpArgs false

def eqI (l l' : List Int) : Bool := decide (l = l')
theorem eq_upto {α : Type} [DecidableEq α] {l l' : List α} {k : Nat} (d : α) (hl : l.length = l'.length) (hk : k < l.length) (h : l.take k = l'.take k) : l.take (k + 1) = l'.take (k + 1) ↔ l.getD k d = l'.getD k d := by
  have hk' : k < l'.length := by omega
  rw [take_more hk, take_more hk', h, getD_at d hk, getD_at d hk', List.append_cancel_left_eq]
  simp only [List.cons.injEq, and_true]
theorem ne_of_take {α : Type} {l l' : List α} {k : Nat} (d : α) (h : l.getD k d ≠ l'.getD k d) : l ≠ l' := fun e => h (by rw [e])
end Go.Proofs.YtaacikjoafobfaaGreatDoor
namespace Go.Proofs.YtaacikjoafobfaaGreatDoor
open Go.ChangeShapes Go.WideShapes Go.ChangeAt Go.RowKit
set_option linter.unusedVariables false
set_option linter.unusedSimpArgs false

theorem fields_At : ((Tryz.prog.fieldsOf 99).toList.map (fun f => (f.type, f.offset, decide (f.name ≠ "_")))) = [(9, 0, true), (9, 1, true)] := by kernel_rfl
theorem toList_inj {a b : ByteArray} : a.toList = b.toList ↔ a = b := by
  constructor
  · intro h
    rw [Lib.toList_data, Lib.toList_data] at h
    exact bytes_inj h
  · rintro rfl; rfl
theorem eqAt (a b c d : ByteArray) (W : World) : (Op.equalIn 10000 99 (.agg #[.string a, .string b]) (.agg #[.string c, .string d])).run Tryz.prog W = .ok (a.toList == c.toList && b.toList == d.toList) W := by
  rw [show (10000 : Nat) = 9999 + 1 from rfl, run_equalIn_struct W 9999 _ _ _ under_At (by kernel_rfl)]
  have hf := fields_At
  generalize (Tryz.prog.fieldsOf 99).toList = fs at *
  have hl := congrArg List.length hf
  simp only [List.length_map, List.length_cons, List.length_nil] at hl
  match fs, hl, hf with
  | [f0, f1], _, hf =>
    simp only [List.map_cons, List.map_nil, List.cons.injEq, Prod.mk.injEq, decide_eq_true_eq, and_true] at hf
    obtain ⟨⟨t0, o0, n0⟩, t1, o1, n1⟩ := hf
    have hG : Tryz.prog.plainKey 9 = true := by kernel_rfl
    simp only [Op.eqFields, n0, n1, t0, t1, o0, o1, ne_eq, not_true, not_false_eq_true, if_true, Sem.run_bind]
    rw [run_part_plain W hG (v := .string a) rfl]
    simp only [Result.andThen_ok]
    rw [run_part_plain W hG (v := .string c) rfl]
    simp only [Result.andThen_ok]
    rw [run_equalIn_string W 9998 _ a c (by kernel_rfl)]
    simp only [Result.andThen_ok]
    cases h : (a.toList == c.toList)
    · rfl
    simp only [Bool.not_true, Bool.false_eq_true, if_false, Sem.run_bind]
    rw [run_part_plain W hG (v := .string b) rfl]
    simp only [Result.andThen_ok]
    rw [run_part_plain W hG (v := .string d) rfl]
    simp only [Result.andThen_ok]
    rw [run_equalIn_string W 9998 _ b d (by kernel_rfl)]
    simp only [Result.andThen_ok, Bool.true_and]
    cases h2 : (b.toList == d.toList)
    · rfl
    · rfl
def eqA (l l' : List (ByteArray × ByteArray)) : Bool := decide (l = l')
end Go.Proofs.YtaacikjoafobfaaGreatDoor
namespace Go.Proofs.YtaacikjoafobfaaGreatDoor
open Go.ChangeShapes Go.WideShapes Go.ChangeAt Go.RowKit
set_option linter.unusedVariables false
set_option linter.unusedSimpArgs false

/-- Whether two nodes are the same. -/
def sameN2 (m n : Mn) : Bool := (m.kind == n.kind) && ((m.name.toList == n.name.toList) && ((m.text.toList == n.text.toList) && ((m.parent == n.parent) && (eqA m.attrs n.attrs && eqI m.kids n.kids))))
end Go.Proofs.YtaacikjoafobfaaGreatDoor
namespace Go.Proofs.YtaacikjoafobfaaGreatDoor
open Go.ChangeShapes Go.WideShapes Go.ChangeAt Go.RowKit
set_option linter.unusedVariables false
set_option linter.unusedSimpArgs false

def pairB (F G : List Mn) (i : Nat) : Bool := ((F[i]?).bind fun m => (G[i]?).map (sameN2 m)).getD false
/-- Whether two forests are the same. -/
def sameF (F G : List Mn) : Bool := decide (F.length = G.length) && (List.range F.length).all (pairB F G)
end Go.Proofs.YtaacikjoafobfaaGreatDoor
namespace Go.Proofs.YtaacikjoafobfaaGreatDoor
open Go.ChangeShapes Go.WideShapes Go.ChangeAt Go.RowKit
set_option linter.unusedVariables false
set_option linter.unusedSimpArgs false

def newM : Mn := ⟨0, ⟨#[]⟩, ⟨#[]⟩, [], -1, [], none, 0, none, 0⟩
theorem newM_may : mayB [newM] = true := by decide +kernel
theorem newM_bd : bdB [newM] = true := by decide +kernel
theorem node1_fr {W : World} {k : Nat} (h : W.heap[k]? = some (.cells #[.int .i64 0, .string ⟨#[]⟩, .string ⟨#[]⟩, .slice none 0 0, .int .i64 (-1), .slice none 0 0] 50 (0, 0))) : FR W (some ⟨k, 0, none⟩) [newM] := by
  obtain ⟨x0, x1, x2, x3, x4, x5⟩ := block6 h
  intro i m hm
  match i with
  | 0 =>
    have e : newM = m := by simpa using hm
    subst e
    refine ⟨⟨by simp [newM, I64], by simp [newM, I64], by simp [newM], by simp [newM], by simp [newM]⟩, k, 0, rfl, lt_of_block h, x0, x1, x2, x3, x4, x5, ?_, ?_⟩
    · intro j hj; simp [newM] at hj
    · intro j hj; simp [newM] at hj
  | i + 1 => simp at hm
set_option maxRecDepth 100000 in
set_option maxHeartbeats 2000000 in
theorem new_any (w : World) :
    Calls Tryz.prog 46 #[] w fun e w' => ∃ A, e = .returned (.slice A 1 1) ∧ FR w' A [newM] ∧ Below w.heap.size w w' := by
  go_enter Tryz.func46, Tryz.ntmps46
  go_wp2_with fail
  go_ret
  exact ⟨_, rfl, node1_fr (heap_alloc_new _ _), (Below.refl _ _).alloc (Nat.le_refl _) _⟩
end Go.Proofs.YtaacikjoafobfaaGreatDoor
namespace Go.Proofs.YtaacikjoafobfaaGreatDoor
open Go.ChangeShapes Go.WideShapes Go.ChangeAt Go.RowKit
set_option linter.unusedVariables false
set_option linter.unusedSimpArgs false

/-- F with the Kind of its nth made other. -/
def setK (F : List Mn) (n : Nat) (k : Int) : List Mn := F.modify n fun m => { m with kind := k }
/-- F with the Parent of its nth made other. -/
def setP (F : List Mn) (n : Nat) (p : Int) : List Mn := F.modify n fun m => { m with parent := p }
theorem setK_length (F : List Mn) (n : Nat) (k : Int) : (setK F n k).length = F.length := by simp [setK]
theorem setP_length (F : List Mn) (n : Nat) (p : Int) : (setP F n p).length = F.length := by simp [setP]
theorem setK_get {F : List Mn} {n : Nat} {k : Int} {i : Nat} (h : i < (setK F n k).length) : (setK F n k)[i] = if n = i then { F[i]'(by rw [setK_length] at h; exact h) with kind := k } else F[i]'(by rw [setK_length] at h; exact h) := List.getElem_modify _ _ _ _ h
theorem setP_get {F : List Mn} {n : Nat} {k : Int} {i : Nat} (h : i < (setP F n k).length) : (setP F n k)[i] = if n = i then { F[i]'(by rw [setP_length] at h; exact h) with parent := k } else F[i]'(by rw [setP_length] at h; exact h) := List.getElem_modify _ _ _ _ h
theorem setK_mem {F : List Mn} {n : Nat} {k : Int} {m : Mn} (h : m ∈ setK F n k) : ∃ m' ∈ F, m.name = m'.name ∧ m.text = m'.text ∧ m.attrs = m'.attrs ∧ m.kids = m'.kids := by
  obtain ⟨i, hi, rfl⟩ := List.mem_iff_getElem.1 h
  have hi' := hi
  rw [setK_length] at hi'
  refine ⟨F[i], List.getElem_mem hi', ?_⟩
  rw [setK_get]
  split <;> simp
theorem setP_mem {F : List Mn} {n : Nat} {k : Int} {m : Mn} (h : m ∈ setP F n k) : ∃ m' ∈ F, m.name = m'.name ∧ m.text = m'.text ∧ m.attrs = m'.attrs ∧ m.kids = m'.kids := by
  obtain ⟨i, hi, rfl⟩ := List.mem_iff_getElem.1 h
  have hi' := hi
  rw [setP_length] at hi'
  refine ⟨F[i], List.getElem_mem hi', ?_⟩
  rw [setP_get]
  split <;> simp
theorem sz_like {F G : List Mn} (h : Sz F) (hl : G.length = F.length) (hm : ∀ m ∈ G, ∃ m' ∈ F, m.name = m'.name ∧ m.text = m'.text ∧ m.attrs = m'.attrs ∧ m.kids = m'.kids) : Sz G :=
  ⟨by rw [hl]; exact h.len, fun m hG => by obtain ⟨m', h1, e1, e2, e3, e4⟩ := hm m hG; rw [e4]; exact h.kids m' h1, fun m hG => by obtain ⟨m', h1, e1, e2, e3, e4⟩ := hm m hG; rw [e1, e2, e3]; exact h.str m' h1⟩
/-- A Kind that may not be makes no forest. -/
theorem kind_none {F : List Mn} {n : Nat} (hn : n < F.length) {k : Int} (hk : k < 0 ∨ k > 3 ∨ (k == 0) ≠ ((n : Int) == 0)) : mayB (setK F n k) = false := by
  refine Bool.eq_false_iff.2 (fun h => ?_)
  obtain ⟨p1, p2, p3, p4, p5⟩ := mayB_parts h
  have hn' : n < (setK F n k).length := by rw [setK_length]; exact hn
  have := sound_of p3 hn'
  have e : (setK F n k)[n].kind = k := by rw [setK_get]; simp
  simp only [oneB, Bool.and_eq_true, e] at this
  obtain ⟨h1, h2, h3⟩ := this
  rcases hk with hk | hk | hk
  · simp only [ownB, e] at h2
    rw [if_neg (by omega), if_neg (by omega), if_neg (by omega)] at h2
    cases h2
  · simp only [ownB, e] at h2
    rw [if_neg (by omega), if_neg (by omega), if_neg (by omega)] at h2
    cases h2
  · exact hk (by simpa using h1)
theorem setP_kids {F : List Mn} {n : Nat} {p : Int} (i : Nat) : kidsOf (setP F n p) i = kidsOf F i := by
  unfold kidsOf setP
  rw [List.getElem?_modify]
  cases F[i]? with
  | none => rfl
  | some m => by_cases h : n = i <;> simp [h]
theorem setP_par {F : List Mn} {n : Nat} {p : Int} (hn : n < F.length) : par (setP F n p) n = p := by
  unfold par setP
  rw [List.getElem?_modify, List.getElem?_eq_getElem hn]
  simp
theorem setP_same {F : List Mn} {n : Nat} (hn : n < F.length) : setP F n (par F n) = F := by
  refine List.ext_getElem (setP_length _ _ _) (fun i h1 h2 => ?_)
  rw [setP_get]
  split
  · rename_i h; subst h
    have e : par F n = F[n].parent := par_at hn
    simp only [e]
  · rfl
/-- A Parent other than it was makes no forest. -/
theorem parent_none {F : List Mn} (h : mayB F = true) {n : Nat} (hn : n < F.length) {p : Int} (hp : p ≠ par F n) : mayB (setP F n p) = false := by
  refine Bool.eq_false_iff.2 (fun h' => ?_)
  obtain ⟨p1, p2, p3, p4, p5⟩ := mayB_parts h
  obtain ⟨q1, q2, q3, q4, q5⟩ := mayB_parts h'
  have hl := setP_length F n p
  have key : ∀ (G G' : List Mn), (List.range G.length).all (fun i => ((G[i]?).map (oneB G i)).getD false) = true → (List.range G'.length).all (fun i => ((G'[i]?).map (oneB G' i)).getD false) = true → G.length = G'.length → (∀ i, kidsOf G i = kidsOf G' i) → n < G.length → par G n ≠ -1 → par G' n = par G n := by
    intro G G' h1 h2 hl hk hn hne
    have hL := link_of h1 hn
    simp only [linkB, Bool.and_eq_true, Bool.or_eq_true, decide_eq_true_eq] at hL
    obtain ⟨hx, hy, hz⟩ := hL.1.resolve_left hne
    rw [isB, decide_eq_true_eq] at hy
    obtain ⟨j, hj⟩ := Int.eq_ofNat_of_zero_le hy.1
    rw [hj, Int.toNat_natCast, hk] at hz
    have hmem : (n : Int) ∈ kidsOf G' j := List.count_pos_iff.1 (by omega)
    have := kids_of h2 (i := j) (by omega) hmem
    rw [Int.toNat_natCast] at this
    rw [this.2, hj]
  by_cases hq : par F n = -1
  · have := key (setP F n p) F q3 p3 hl (fun i => setP_kids i) (by omega) (by rw [setP_par hn]; omega)
    rw [setP_par hn] at this
    exact hp this.symm
  · have := key F (setP F n p) p3 q3 hl.symm (fun i => (setP_kids i).symm) hn hq
    rw [setP_par hn] at this
    exact hp this
theorem parent_may {F : List Mn} (h : mayB F = true) {n : Nat} (hn : n < F.length) (p : Int) : mayB (setP F n p) = decide (p = par F n) := by
  by_cases hp : p = par F n
  · rw [decide_eq_true hp, hp, setP_same hn, h]
  · rw [decide_eq_false hp, parent_none h hn hp]
end Go.Proofs.YtaacikjoafobfaaGreatDoor
namespace Go.Proofs.YtaacikjoafobfaaGreatDoor
open Go.ChangeShapes Go.WideShapes Go.ChangeAt Go.RowKit
set_option linter.unusedVariables false
set_option linter.unusedSimpArgs false

def ncells (m : Mn) : List Value := [.int .i64 m.kind, .string m.name, .string m.text, .slice m.aA m.attrs.length m.aC, .int .i64 m.parent, .slice m.kA m.kids.length m.kC]
def fcells (F : List Mn) : List Value := F.flatMap ncells
theorem fcells_length (F : List Mn) : (fcells F).length = F.length * 6 := by
  induction F with
  | nil => rfl
  | cons m F ih => rw [fcells, List.flatMap_cons, List.length_append]; rw [fcells] at ih; rw [ih]; simp [ncells]; omega
theorem fcells_one (F : List Mn) : ∀ u ∈ fcells F, u.oneCell' = true := by
  intro u hu
  obtain ⟨m, -, hm⟩ := List.mem_flatMap.1 hu
  simp only [ncells, List.mem_cons, List.not_mem_nil, or_false] at hm
  rcases hm with rfl | rfl | rfl | rfl | rfl | rfl <;> rfl
/-- The six cells of a node. -/
structure C6 (w : World) (g o : Nat) (m : Mn) : Prop where
  c0 : w.cell? ⟨g, o, none⟩ = some (.int .i64 m.kind)
  c1 : w.cell? ⟨g, o + 1, none⟩ = some (.string m.name)
  c2 : w.cell? ⟨g, o + 2, none⟩ = some (.string m.text)
  c3 : w.cell? ⟨g, o + 3, none⟩ = some (.slice m.aA m.attrs.length m.aC)
  c4 : w.cell? ⟨g, o + 4, none⟩ = some (.int .i64 m.parent)
  c5 : w.cell? ⟨g, o + 5, none⟩ = some (.slice m.kA m.kids.length m.kC)
/-- The rows of nodes, from o on. -/
def RowAt (w : World) (g o : Nat) (F : List Mn) : Prop := ∀ i m, F[i]? = some m → C6 w g (o + i * 6) m
theorem fr_row {w : World} {g o : Nat} {F : List Mn} (h : FR w (some ⟨g, o, none⟩) F) : RowAt w g o F := fun i m hm => by
  obtain ⟨-, g', o', hA, -, hn⟩ := h i m hm
  cases hA
  exact ⟨hn.c0, hn.c1, hn.c2, hn.c3, hn.c4, hn.c5⟩
theorem row_cells {w : World} {g : Nat} : ∀ {F : List Mn} {o : Nat}, RowAt w g o F → ∀ j u, (fcells F)[j]? = some u → w.cell? ⟨g, o + j, none⟩ = some u
  | [], o, h, j, u, hu => by simp [fcells] at hu
  | m :: F, o, h, j, u, hu => by
    have h0 := h 0 m rfl
    rw [Nat.zero_mul, Nat.add_zero] at h0
    have hr : RowAt w g (o + 6) F := fun i m' hm => by
      have := h (i + 1) m' (by simpa using hm)
      rw [show o + (i + 1) * 6 = o + 6 + i * 6 by omega] at this
      exact this
    rw [fcells, List.flatMap_cons] at hu
    by_cases hj : j < 6
    · rw [List.getElem?_append_left (by simpa [ncells] using hj)] at hu
      rcases j with _ | _ | _ | _ | _ | _ | j
      · simp [ncells] at hu; subst hu; exact h0.c0
      · simp [ncells] at hu; subst hu; exact h0.c1
      · simp [ncells] at hu; subst hu; exact h0.c2
      · simp [ncells] at hu; subst hu; exact h0.c3
      · simp [ncells] at hu; subst hu; exact h0.c4
      · simp [ncells] at hu; subst hu; exact h0.c5
      · omega
    · rw [List.getElem?_append_right (by simp [ncells]; omega)] at hu
      have := row_cells hr (j - 6) u (by simpa [ncells, fcells] using hu)
      rw [show o + 6 + (j - 6) = o + j by omega] at this
      exact this
theorem cells_row {w : World} {g : Nat} : ∀ {F : List Mn} {o : Nat}, (∀ j u, (fcells F)[j]? = some u → w.cell? ⟨g, o + j, none⟩ = some u) → RowAt w g o F
  | [], o, h, i, m, hm => by simp at hm
  | m :: F, o, h, i, m', hm => by
    cases i with
    | zero =>
      simp at hm
      subst hm
      rw [Nat.zero_mul, Nat.add_zero]
      have key : ∀ j u, (ncells m)[j]? = some u → w.cell? ⟨g, o + j, none⟩ = some u := fun j u hu => h j u (by
        rw [fcells, List.flatMap_cons, List.getElem?_append_left (List.getElem?_eq_some_iff.1 hu).1]; exact hu)
      exact ⟨key 0 _ rfl, key 1 _ rfl, key 2 _ rfl, key 3 _ rfl, key 4 _ rfl, key 5 _ rfl⟩
    | succ i =>
      have hr : RowAt w g (o + 6) F := cells_row (fun j u hu => by
        have := h (6 + j) u (by rw [fcells, List.flatMap_cons, List.getElem?_append_right (by simp [ncells])]; simpa [ncells, fcells] using hu)
        rw [show o + (6 + j) = o + 6 + j by omega] at this
        exact this)
      have := hr i m' (by simpa using hm)
      rw [show o + 6 + i * 6 = o + (i + 1) * 6 by omega] at this
      exact this
theorem own_row {w : World} {base : Nat} {v : Value} {F : List Mn} (h : w.ownsRow base 50 6 v F.length (fcells F)) (h0 : 0 < F.length) :
    ∃ g cap cur, v = .slice (some ⟨g, 0, none⟩) F.length cap ∧ base ≤ g ∧ w.heap[g]? = some (.cells cur 50 (0, 0)) ∧ F.length ≤ cap ∧ cap ≤ maxLen ∧ F.length * 6 ≤ cur.size ∧ RowAt w g 0 F := by
  rcases h.2 with ⟨-, h'⟩ | ⟨g, cap, cur, hv, hb, hg, h1, h2, h3, h4⟩
  · omega
  · refine ⟨g, cap, cur, hv, hb, hg, h1, h2, by rw [h3]; exact Nat.mul_le_mul_right _ h1, cells_row (fun j u hu => ?_)⟩
    subst hv
    have := h.cells rfl j u hu
    rw [← this, show (⟨g, 0, none⟩ : Addr).add j = ⟨g, 0 + j, none⟩ by unfold Addr.add; split <;> simp_all]
theorem cell_set {w : World} {g j : Nat} {cur : Array Value} {t : TypeId} (hg : w.heap[g]? = some (.cells cur t (0, 0))) (hj : j < cur.size) (v : Value) (i : Nat) : (w.setCell ⟨g, j, none⟩ v).cell? ⟨g, i, none⟩ = if i = j then some v else w.cell? ⟨g, i, none⟩ := by
  have h1 : (w.setCell ⟨g, j, none⟩ v).heap[g]? = some (.cells (cur.setIfInBounds j v) t (0, 0)) := by
    unfold World.setCell
    simp [Array.getElem?_modify, hg]
  simp only [World.cell?, h1, hg]
  by_cases h : i = j
  · subst h
    simp [hj]
  · simp [h, Ne.symm h]
theorem row_setK {w : World} {g n : Nat} {F : List Mn} {cur : Array Value} {t : TypeId} (h : RowAt w g 0 F) (hg : w.heap[g]? = some (.cells cur t (0, 0))) (hs : F.length * 6 ≤ cur.size) (hn : n < F.length) (k : Int) : RowAt (w.setCell ⟨g, n * 6, none⟩ (.int .i64 k)) g 0 (setK F n k) := by
  intro i m hm
  unfold setK at hm
  rw [List.getElem?_modify] at hm
  obtain ⟨m0, h0, hm'⟩ := Option.map_eq_some_iff.1 hm
  have hc := h i m0 h0
  have key := cell_set hg (j := n * 6) (by omega) (.int .i64 k)
  by_cases hni : n = i
  · subst hni
    rw [if_pos rfl] at hm'
    subst hm'
    constructor
    · rw [key, if_pos (by omega)]
    · rw [key, if_neg (by omega)]; exact hc.c1
    · rw [key, if_neg (by omega)]; exact hc.c2
    · rw [key, if_neg (by omega)]; exact hc.c3
    · rw [key, if_neg (by omega)]; exact hc.c4
    · rw [key, if_neg (by omega)]; exact hc.c5
  · rw [if_neg hni] at hm'
    cases hm'
    constructor
    · rw [key, if_neg (by omega)]; exact hc.c0
    · rw [key, if_neg (by omega)]; exact hc.c1
    · rw [key, if_neg (by omega)]; exact hc.c2
    · rw [key, if_neg (by omega)]; exact hc.c3
    · rw [key, if_neg (by omega)]; exact hc.c4
    · rw [key, if_neg (by omega)]; exact hc.c5
theorem row_setP {w : World} {g n : Nat} {F : List Mn} {cur : Array Value} {t : TypeId} (h : RowAt w g 0 F) (hg : w.heap[g]? = some (.cells cur t (0, 0))) (hs : F.length * 6 ≤ cur.size) (hn : n < F.length) (k : Int) : RowAt (w.setCell ⟨g, n * 6 + 4, none⟩ (.int .i64 k)) g 0 (setP F n k) := by
  intro i m hm
  unfold setP at hm
  rw [List.getElem?_modify] at hm
  obtain ⟨m0, h0, hm'⟩ := Option.map_eq_some_iff.1 hm
  have hc := h i m0 h0
  have key := cell_set hg (j := n * 6 + 4) (by omega) (.int .i64 k)
  by_cases hni : n = i
  · subst hni
    rw [if_pos rfl] at hm'
    subst hm'
    constructor
    · rw [key, if_neg (by omega)]; exact hc.c0
    · rw [key, if_neg (by omega)]; exact hc.c1
    · rw [key, if_neg (by omega)]; exact hc.c2
    · rw [key, if_neg (by omega)]; exact hc.c3
    · rw [key, if_pos (by omega)]
    · rw [key, if_neg (by omega)]; exact hc.c5
  · rw [if_neg hni] at hm'
    cases hm'
    constructor
    · rw [key, if_neg (by omega)]; exact hc.c0
    · rw [key, if_neg (by omega)]; exact hc.c1
    · rw [key, if_neg (by omega)]; exact hc.c2
    · rw [key, if_neg (by omega)]; exact hc.c3
    · rw [key, if_neg (by omega)]; exact hc.c4
    · rw [key, if_neg (by omega)]; exact hc.c5
/-- A row of nodes whose lists lie in what was there is a forest. -/
theorem row_fr {w V : World} {A : Option Addr} {F G : List Mn} {g : Nat} (hF : FR w A F) (hb : Below w.heap.size w V) (hg : g < V.heap.size) (hr : RowAt V g 0 G)
    (hG : ∀ (i : Nat) (m : Mn), G[i]? = some m → Fit m ∧ ∃ m' : Mn, F[i]? = some m' ∧ m.attrs = m'.attrs ∧ m.kids = m'.kids ∧ m.aA = m'.aA ∧ m.kA = m'.kA) : FR V (some ⟨g, 0, none⟩) G := by
  intro i m hm
  obtain ⟨hf, m', hm', e1, e2, e3, e4⟩ := hG i m hm
  obtain ⟨-, g', o', -, -, hn⟩ := hF i m' hm'
  have hc := hr i m hm
  refine ⟨hf, g, 0, rfl, hg, ⟨hc.c0, hc.c1, hc.c2, hc.c3, hc.c4, hc.c5, ?_, ?_⟩⟩
  · rw [e1, e3]; exact hn.ar.below hb
  · rw [e2, e4]; exact hn.ir.below hb
theorem setK_like {F : List Mn} {n : Nat} {k : Int} (hk : I64 k) (hF : ∀ (i : Nat) (m : Mn), F[i]? = some m → Fit m) : ∀ (i : Nat) (m : Mn), (setK F n k)[i]? = some m → Fit m ∧ ∃ m' : Mn, F[i]? = some m' ∧ m.attrs = m'.attrs ∧ m.kids = m'.kids ∧ m.aA = m'.aA ∧ m.kA = m'.kA := by
  intro i m hm
  unfold setK at hm
  rw [List.getElem?_modify] at hm
  obtain ⟨m0, h0, hm'⟩ := Option.map_eq_some_iff.1 hm
  have hf := hF i m0 h0
  by_cases hni : n = i
  · rw [if_pos hni] at hm'
    subst hm'
    exact ⟨⟨hk, hf.p64, hf.ks64, hf.ac, hf.kc⟩, m0, h0, rfl, rfl, rfl, rfl⟩
  · rw [if_neg hni] at hm'
    cases hm'
    exact ⟨hf, m, h0, rfl, rfl, rfl, rfl⟩
theorem setP_like {F : List Mn} {n : Nat} {k : Int} (hk : I64 k) (hF : ∀ (i : Nat) (m : Mn), F[i]? = some m → Fit m) : ∀ (i : Nat) (m : Mn), (setP F n k)[i]? = some m → Fit m ∧ ∃ m' : Mn, F[i]? = some m' ∧ m.attrs = m'.attrs ∧ m.kids = m'.kids ∧ m.aA = m'.aA ∧ m.kA = m'.kA := by
  intro i m hm
  unfold setP at hm
  rw [List.getElem?_modify] at hm
  obtain ⟨m0, h0, hm'⟩ := Option.map_eq_some_iff.1 hm
  have hf := hF i m0 h0
  by_cases hni : n = i
  · rw [if_pos hni] at hm'
    subst hm'
    exact ⟨⟨hf.k64, hk, hf.ks64, hf.ac, hf.kc⟩, m0, h0, rfl, rfl, rfl, rfl⟩
  · rw [if_neg hni] at hm'
    cases hm'
    exact ⟨hf, m, h0, rfl, rfl, rfl, rfl⟩
end Go.Proofs.YtaacikjoafobfaaGreatDoor
namespace Go.Proofs.YtaacikjoafobfaaGreatDoor
open Go.ChangeShapes Go.WideShapes Go.ChangeAt Go.RowKit
set_option linter.unusedVariables false
set_option linter.unusedSimpArgs false

def at2 (a : ByteArray × ByteArray) : List Value := [.string a.1, .string a.2]
def acells (l : List (ByteArray × ByteArray)) : List Value := l.flatMap at2
theorem acells_length (l : List (ByteArray × ByteArray)) : (acells l).length = l.length * 2 := by
  induction l with
  | nil => rfl
  | cons m l ih => rw [acells, List.flatMap_cons, List.length_append]; rw [acells] at ih; rw [ih]; simp [at2]; omega
theorem acells_one (l : List (ByteArray × ByteArray)) : ∀ u ∈ acells l, u.oneCell' = true := by
  intro u hu
  obtain ⟨m, -, hm⟩ := List.mem_flatMap.1 hu
  simp only [at2, List.mem_cons, List.not_mem_nil, or_false] at hm
  rcases hm with rfl | rfl <;> rfl
theorem acells_take {l : List (ByteArray × ByteArray)} {j : Nat} (h : j < l.length) : acells (l.take (j + 1)) = acells (l.take j) ++ at2 l[j] := by
  rw [take_more h, acells, acells, List.flatMap_append]
  simp
theorem fcells_take {l : List Mn} {m : Mn} : fcells (l ++ [m]) = fcells l ++ ncells m := by
  rw [fcells, fcells, List.flatMap_append]
  simp
theorem acells_at : ∀ {l : List (ByteArray × ByteArray)} {j : Nat}, j < l.length → (acells l)[j * 2]? = some (.string (l.getD j default).1) ∧ (acells l)[j * 2 + 1]? = some (.string (l.getD j default).2)
  | a :: l, 0, h => by simp [acells, at2]
  | a :: l, j + 1, h => by
    have := acells_at (l := l) (j := j) (by simpa using h)
    have e : acells (a :: l) = at2 a ++ acells l := by simp [acells]
    rw [e, List.getElem?_append_right (by simp [at2]; omega), List.getElem?_append_right (by simp [at2]; omega)]
    simp only [at2, List.length_cons, List.length_nil]
    rw [show (j + 1) * 2 - (0 + 1 + 1) = j * 2 by omega, show (j + 1) * 2 + 1 - (0 + 1 + 1) = j * 2 + 1 by omega]
    simpa using this
/-- A row of attributes that is owned can be read. -/
theorem own_ar {w : World} {base : Nat} {t : TypeId} {v : Value} {l : List (ByteArray × ByteArray)} (h : w.ownsRow base t 2 v l.length (acells l)) : ∃ p cap, v = .slice p l.length cap ∧ l.length ≤ cap ∧ cap ≤ maxLen ∧ AR w p l := by
  rcases h.2 with ⟨rfl, h'⟩ | ⟨g, cap, cur, rfl, hb, hg, h1, h2, -⟩
  · have : l = [] := List.eq_nil_of_length_eq_zero h'
    subst this
    exact ⟨none, 0, rfl, Nat.le_refl _, by simp [maxLen], fun j hj => absurd hj (by simp)⟩
  · refine ⟨some ⟨g, 0, none⟩, cap, rfl, h1, h2, fun j hj => ⟨g, 0, rfl, (Array.getElem?_eq_some_iff.1 hg).1, ?_, ?_⟩⟩
    · have := h.cells rfl _ _ (acells_at hj).1
      rw [← this, show (⟨g, 0, none⟩ : Addr).add (j * 2) = ⟨g, 0 + j * 2, none⟩ by unfold Addr.add; split <;> simp_all]
    · have := h.cells rfl _ _ (acells_at hj).2
      rw [← this, show (⟨g, 0, none⟩ : Addr).add (j * 2 + 1) = ⟨g, 0 + j * 2 + 1, none⟩ by unfold Addr.add; split <;> simp_all]
/-- What a node says, without where its lists lie. -/
def core (m : Mn) : Mn := { m with aA := none, aC := 0, kA := none, kC := 0 }
theorem own_apart2 {w : World} {base base' s s' : Nat} {e t : TypeId} {v v' : Value} {n n' : Nat} {xs xs' : List Value} (h : w.ownsRow base e s v n xs) (h' : w.ownsRow base' t s' v' n' xs') (hne : e ≠ t) : v.ownBlock = none ∨ v.ownBlock ≠ v'.ownBlock := by
  rcases h'.2 with ⟨rfl, -⟩ | ⟨g, cap, cur, rfl, -, hg, -⟩
  · rcases hv : v.ownBlock with _ | k
    · exact .inl rfl
    · exact .inr (by simp [Value.ownBlock])
  · exact .inr (by simpa [Value.ownBlock] using own_apart h hg hne)
theorem two_new (w : World) (a : ByteArray × ByteArray) (t : TypeId) : ∀ j u, (at2 a)[j]? = some u → (w.alloc (.cells #[.string a.1, .string a.2] t)).cell? ((⟨w.heap.size, 0, none⟩ : Addr).add j) = some u := by
  intro j u hu
  rw [add_plain, Nat.zero_add]
  obtain ⟨h1, h2⟩ := block2 (heap_alloc_new w (.cells #[.string a.1, .string a.2] t))
  match j, hu with
  | 0, hu => cases hu; exact h1
  | 1, hu => cases hu; exact h2
  | j + 2, hu => simp [at2] at hu
/-- append onto a row of the call's own: one step of a region that draws its order. -/
theorem step_own {P : Program} {ops : Array Oper} {o : Oper} {a : Act} {w : World} {K : Act → World → Prop} {Q : Exit → Act → World → Prop} {E : Prop}
    (hgd : o.guard = none) (s x : Operand) (t : TypeId) (ho : o.op = .call { callee := .builtin .append, args := #[s, x], argTypes := #[t, t] })
    (base : Nat) (e : TypeId) (i : TypeInfo) (z : Value) (size bytes : Nat) (ht : P.underlying t = some (.slice e)) (hi : P.info? e = some i) (hz : i.zero = some z)
    (hsize : i.size = size) (hby : i.bytes = bytes) (hzs : z.cells.size = size) (hsz : 0 < size)
    (v : Value) (n : Nat) (xs : List Value) (hs : a.eval s = v) (hown : w.ownsRow base e size v n xs)
    (ad : Addr) (m c : Nat) (news : List Value) (hx : a.eval x = .slice (some ad) m c) (hl : news.length = m * size) (hnews : ∀ j u, news[j]? = some u → w.cell? (ad.add j) = some u) (h1 : ∀ u ∈ news, u.oneCell' = true)
    (h63 : n + m ≤ maxLen) (hbytes : (n + m) * bytes ≤ 140737488355328) (hbase : base ≤ w.heap.size)
    (h : ∀ v' w', w'.ownsRow base e size v' (n + m) (xs ++ news) → w.grownBy w' v.ownBlock → (v'.ownBlock = v.ownBlock ∨ v'.ownBlock = some w.heap.size) → K (a.put o.dst v') w') :
    if Region.wanted o (yielded ops a.tmps) = true then Oper.wp P o a w K Q else E := by
  have hw : Region.wanted o (yielded ops a.tmps) = true := by simp [Region.wanted, hgd]
  rw [if_pos hw]
  obtain ⟨v', w', hr, h2, h3, _, h5⟩ := run_append_own_at (P := P) w base t o.type e i z size bytes ht hi hz hsize hby hzs hsz v n xs hown ad m c news hl hnews h1 h63 hbytes hbase
  unfold Oper.wp execOp
  simp only [ho, resolve, invoke, builtin, Sem.run_bind, Sem.run_pure, Result.andThen_ok, List.map_toArray, List.map_cons, List.map_nil, hs, hx, hr]
  exact h v' w' h2 h3 h5
theorem own_form2 {w : World} {base size : Nat} {e : TypeId} {v : Value} {n : Nat} {xs : List Value} (h : w.ownsRow base e size v n xs) : ∃ p cap, v = .slice p n cap ∧ n ≤ cap ∧ cap ≤ maxLen := by
  rcases h.2 with ⟨rfl, rfl⟩ | ⟨g, cap, cur, rfl, _, _, hnc, hcm, _⟩
  · exact ⟨none, 0, rfl, Nat.le_refl _, by simp [maxLen]⟩
  · exact ⟨_, cap, rfl, hnc, hcm⟩
theorem own_mono {w : World} {base base' : Nat} {e : TypeId} {size n : Nat} {v : Value} {xs : List Value} (h : w.ownsRow base e size v n xs) (hb : base' ≤ base) : w.ownsRow base' e size v n xs := by
  refine ⟨h.1, ?_⟩
  rcases h.2 with h' | ⟨g, cap, cur, h1, h2, h3, h4⟩
  · exact .inl h'
  · exact .inr ⟨g, cap, cur, h1, Nat.le_trans hb h2, h3, h4⟩
end Go.Proofs.YtaacikjoafobfaaGreatDoor
