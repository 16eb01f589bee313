/-
  A forest with one Kind, or one Parent, made other: plain lists.
-/
import Derived.Test.YtkcfpglmlhoiaaaDoorFoV
namespace Go.Proofs.YtkcfpglmlhoiaaaDoor
open Go.ChangeShapes Go.WideShapes Go.ChangeAt Go.RowKit
set_option linter.unusedVariables false
set_option linter.unusedSimpArgs false

/-- F with the Kind of its nth made other. -/
def setK (F : List Mn) (n : Nat) (k : Int) : List Mn := F.modify n fun m => { m with kind := k }
/-- F with the Parent of its nth made other. -/
def setP (F : List Mn) (n : Nat) (p : Int) : List Mn := F.modify n fun m => { m with parent := p }
theorem setK_length (F : List Mn) (n : Nat) (k : Int) : (setK F n k).length = F.length := by simp [setK]
theorem setP_length (F : List Mn) (n : Nat) (p : Int) : (setP F n p).length = F.length := by simp [setP]
theorem setK_get {F : List Mn} {n : Nat} {k : Int} {i : Nat} (h : i < (setK F n k).length) : (setK F n k)[i] = if n = i then { F[i]'(by rw [setK_length] at h; exact h) with kind := k } else F[i]'(by rw [setK_length] at h; exact h) := List.getElem_modify _ _ _ _ h
theorem setP_get {F : List Mn} {n : Nat} {k : Int} {i : Nat} (h : i < (setP F n k).length) : (setP F n k)[i] = if n = i then { F[i]'(by rw [setP_length] at h; exact h) with parent := k } else F[i]'(by rw [setP_length] at h; exact h) := List.getElem_modify _ _ _ _ h
theorem setK_mem {F : List Mn} {n : Nat} {k : Int} {m : Mn} (h : m ∈ setK F n k) : ∃ m' ∈ F, m.name = m'.name ∧ m.text = m'.text ∧ m.attrs = m'.attrs ∧ m.kids = m'.kids := by
  obtain ⟨i, hi, rfl⟩ := List.mem_iff_getElem.1 h
  have hi' := hi
  rw [setK_length] at hi'
  refine ⟨F[i], List.getElem_mem hi', ?_⟩
  rw [setK_get]
  split <;> simp
theorem setP_mem {F : List Mn} {n : Nat} {k : Int} {m : Mn} (h : m ∈ setP F n k) : ∃ m' ∈ F, m.name = m'.name ∧ m.text = m'.text ∧ m.attrs = m'.attrs ∧ m.kids = m'.kids := by
  obtain ⟨i, hi, rfl⟩ := List.mem_iff_getElem.1 h
  have hi' := hi
  rw [setP_length] at hi'
  refine ⟨F[i], List.getElem_mem hi', ?_⟩
  rw [setP_get]
  split <;> simp
theorem sz_like {F G : List Mn} (h : Sz F) (hl : G.length = F.length) (hm : ∀ m ∈ G, ∃ m' ∈ F, m.name = m'.name ∧ m.text = m'.text ∧ m.attrs = m'.attrs ∧ m.kids = m'.kids) : Sz G :=
  ⟨by rw [hl]; exact h.len, fun m hG => by obtain ⟨m', h1, e1, e2, e3, e4⟩ := hm m hG; rw [e4]; exact h.kids m' h1, fun m hG => by obtain ⟨m', h1, e1, e2, e3, e4⟩ := hm m hG; rw [e1, e2, e3]; exact h.str m' h1⟩
/-- A Kind that may not be makes no forest. -/
theorem kind_none {F : List Mn} {n : Nat} (hn : n < F.length) {k : Int} (hk : k < 0 ∨ k > 3 ∨ (k == 0) ≠ ((n : Int) == 0)) : mayB (setK F n k) = false := by
  refine Bool.eq_false_iff.2 (fun h => ?_)
  obtain ⟨p1, p2, p3, p4, p5⟩ := mayB_parts h
  have hn' : n < (setK F n k).length := by rw [setK_length]; exact hn
  have := sound_of p3 hn'
  have e : (setK F n k)[n].kind = k := by rw [setK_get]; simp
  simp only [oneB, Bool.and_eq_true, e] at this
  obtain ⟨h1, h2, h3⟩ := this
  rcases hk with hk | hk | hk
  · simp only [ownB, e] at h2
    rw [if_neg (by omega), if_neg (by omega), if_neg (by omega)] at h2
    cases h2
  · simp only [ownB, e] at h2
    rw [if_neg (by omega), if_neg (by omega), if_neg (by omega)] at h2
    cases h2
  · exact hk (by simpa using h1)
theorem setP_kids {F : List Mn} {n : Nat} {p : Int} (i : Nat) : kidsOf (setP F n p) i = kidsOf F i := by
  unfold kidsOf setP
  rw [List.getElem?_modify]
  cases F[i]? with
  | none => rfl
  | some m => by_cases h : n = i <;> simp [h]
theorem setP_par {F : List Mn} {n : Nat} {p : Int} (hn : n < F.length) : par (setP F n p) n = p := by
  unfold par setP
  rw [List.getElem?_modify, List.getElem?_eq_getElem hn]
  simp
theorem setP_same {F : List Mn} {n : Nat} (hn : n < F.length) : setP F n (par F n) = F := by
  refine List.ext_getElem (setP_length _ _ _) (fun i h1 h2 => ?_)
  rw [setP_get]
  split
  · rename_i h; subst h
    have e : par F n = F[n].parent := par_at hn
    simp only [e]
  · rfl
/-- A Parent other than it was makes no forest. -/
theorem parent_none {F : List Mn} (h : mayB F = true) {n : Nat} (hn : n < F.length) {p : Int} (hp : p ≠ par F n) : mayB (setP F n p) = false := by
  refine Bool.eq_false_iff.2 (fun h' => ?_)
  obtain ⟨p1, p2, p3, p4, p5⟩ := mayB_parts h
  obtain ⟨q1, q2, q3, q4, q5⟩ := mayB_parts h'
  have hl := setP_length F n p
  have key : ∀ (G G' : List Mn), (List.range G.length).all (fun i => ((G[i]?).map (oneB G i)).getD false) = true → (List.range G'.length).all (fun i => ((G'[i]?).map (oneB G' i)).getD false) = true → G.length = G'.length → (∀ i, kidsOf G i = kidsOf G' i) → n < G.length → par G n ≠ -1 → par G' n = par G n := by
    intro G G' h1 h2 hl hk hn hne
    have hL := link_of h1 hn
    simp only [linkB, Bool.and_eq_true, Bool.or_eq_true, decide_eq_true_eq] at hL
    obtain ⟨hx, hy, hz⟩ := hL.1.resolve_left hne
    rw [isB, decide_eq_true_eq] at hy
    obtain ⟨j, hj⟩ := Int.eq_ofNat_of_zero_le hy.1
    rw [hj, Int.toNat_natCast, hk] at hz
    have hmem : (n : Int) ∈ kidsOf G' j := List.count_pos_iff.1 (by omega)
    have := kids_of h2 (i := j) (by omega) hmem
    rw [Int.toNat_natCast] at this
    rw [this.2, hj]
  by_cases hq : par F n = -1
  · have := key (setP F n p) F q3 p3 hl (fun i => setP_kids i) (by omega) (by rw [setP_par hn]; omega)
    rw [setP_par hn] at this
    exact hp this.symm
  · have := key F (setP F n p) p3 q3 hl.symm (fun i => (setP_kids i).symm) hn hq
    rw [setP_par hn] at this
    exact hp this
theorem parent_may {F : List Mn} (h : mayB F = true) {n : Nat} (hn : n < F.length) (p : Int) : mayB (setP F n p) = decide (p = par F n) := by
  by_cases hp : p = par F n
  · rw [decide_eq_true hp, hp, setP_same hn, h]
  · rw [decide_eq_false hp, parent_none h hn hp]
end Go.Proofs.YtkcfpglmlhoiaaaDoor
