/-
  Blanks put around the signs of a printed selector: plain mathematics of no program.
-/
import Derived.Test.YtlehbdjdifejeaaSelO
namespace Go.Proofs.Ytlehbdjdifejeaa.Sl
set_option linter.unusedVariables false
set_option linter.unusedSimpArgs false
def ex (bl : List UInt8) : Bool → List UInt8 → List UInt8
  | _, [] => []
  | q, c :: l => (if (c = 44 ∨ c = 62) ∧ (if c = 34 then !q else q) = false then bl ++ c :: bl else [c]) ++ ex bl (if c = 34 then !q else q) l
def Calm (bl p : List UInt8) : Prop := ∀ l, ex bl false (p ++ l) = p ++ ex bl false l
theorem Calm.app {bl p q : List UInt8} (h : Calm bl p) (h' : Calm bl q) : Calm bl (p ++ q) := fun l => by rw [List.append_assoc, h, h', List.append_assoc]
theorem calm_nil (bl : List UInt8) : Calm bl [] := fun l => rfl
theorem calm_of {bl : List UInt8} : ∀ {p : List UInt8}, (∀ c ∈ p, c ≠ 34 ∧ c ≠ 44 ∧ c ≠ 62) → Calm bl p
  | [], _ => calm_nil bl
  | c :: p, h => fun l => by
    obtain ⟨h1, h2, h3⟩ := h c (by simp)
    have ih := calm_of (bl := bl) (p := p) (fun x hx => h x (by simp [hx])) l
    rw [List.cons_append, ex, if_neg h1, if_neg (by rintro ⟨h | h, -⟩; exact h2 h; exact h3 h), ih]
    rfl
theorem ex_quoted {bl : List UInt8} : ∀ {v : List UInt8} (l : List UInt8), (∀ c ∈ v, c ≠ 34) → ex bl true (v ++ 34 :: l) = v ++ 34 :: ex bl false l
  | [], l, _ => by simp [ex]
  | c :: v, l, h => by
    have h1 := h c (by simp)
    rw [List.cons_append, ex, if_neg h1, if_neg (by rintro ⟨-, h⟩; cases h), ex_quoted l (fun x hx => h x (by simp [hx]))]
    rfl
theorem calm_quoted {bl v : List UInt8} (h : ∀ c ∈ v, c ≠ 34) : Calm bl (34 :: (v ++ [34])) := fun l => by
  rw [List.cons_append, ex, if_pos rfl, if_neg (by rintro ⟨h | h, -⟩ <;> exact absurd h (by decide))]
  have := ex_quoted (bl := bl) l h
  simp only [Bool.not_false]
  rw [show v ++ [34] ++ l = v ++ 34 :: l by simp, this]
  simp
theorem calm_name {bl n : List UInt8} (h : nameOk n = true) : Calm bl n := calm_of (fun c hc => by
  have hN := (nameOk_all h).2 c hc
  refine ⟨?_, ?_, ?_⟩ <;> (rintro rfl; exact absurd hN (by decide)))
theorem calm_pt {bl : List UInt8} {f : Bool} {t : Te} (h : teOk f t) : Calm bl (pt t) := by
  obtain ⟨k, n, v⟩ := t
  have c1 : ∀ c : UInt8, c ≠ 34 → c ≠ 44 → c ≠ 62 → Calm bl [c] := fun c h1 h2 h3 => calm_of (fun x hx => by rw [List.mem_singleton.1 hx]; exact ⟨h1, h2, h3⟩)
  rcases h with ⟨hk, hn, hv⟩ | ⟨hk, hn, hv⟩
  · simp only [] at hk hn
    have hN := calm_name (bl := bl) hn
    rcases hk with ⟨rfl, -⟩ | rfl | rfl | rfl
    · exact hN
    · exact (c1 35 (by decide) (by decide) (by decide)).app hN
    · exact (c1 46 (by decide) (by decide) (by decide)).app hN
    · exact (c1 91 (by decide) (by decide) (by decide)).app (hN.app (c1 93 (by decide) (by decide) (by decide)))
  · simp only [] at hk hn hv
    subst hk
    have hN := calm_name (bl := bl) hn
    have hV := calm_quoted (bl := bl) hv.2
    have := (c1 91 (by decide) (by decide) (by decide)).app (hN.app ((c1 61 (by decide) (by decide) (by decide)).app (hV.app (c1 93 (by decide) (by decide) (by decide)))))
    have e : pt ⟨5, n, v⟩ = [91] ++ (n ++ ([61] ++ (34 :: (v ++ [34]) ++ [93]))) := by simp [pt]
    rw [e]
    exact this
theorem calm_flat {bl : List UInt8} : ∀ {l : List Te}, (∀ t ∈ l, teOk false t) → Calm bl (l.flatMap pt)
  | [], _ => calm_nil bl
  | t :: l, h => by
    rw [List.flatMap_cons]
    exact (calm_pt (h t (by simp))).app (calm_flat (fun x hx => h x (by simp [hx])))
theorem calm_pc {bl : List UInt8} {ts : List Te} (h : tsOk ts) : Calm bl (pc ts) := by
  cases ts with
  | nil => exact calm_of (fun c hc => by rw [List.mem_singleton.1 (show c ∈ [42] from hc)]; decide)
  | cons t l =>
    rw [show pc (t :: l) = pt t ++ l.flatMap pt by simp [pc]]
    exact (calm_pt h.1).app (calm_flat h.2)
def gB (bl : List UInt8) : List UInt8 := (32 :: bl) ++ 62 :: (bl ++ [32])
def hB (bl : List UInt8) : List UInt8 := bl ++ 44 :: (bl ++ [32])
theorem ex_child (bl l : List UInt8) : ex bl false ([32, 62, 32] ++ l) = gB bl ++ ex bl false l := by simp [ex, gB]
theorem ex_comma (bl l : List UInt8) : ex bl false ([44, 32] ++ l) = hB bl ++ ex bl false l := by simp [ex, hB]
theorem ex_steps {bl : List UInt8} : ∀ {r : List Stp} (l : List UInt8), (∀ x ∈ r, tsOk x.c) → ex bl false (r.flatMap (pm [32, 62, 32]) ++ l) = r.flatMap (pm (gB bl)) ++ ex bl false l
  | [], l, _ => rfl
  | x :: r, l, h => by
    have hc := calm_pc (bl := bl) (h x (by simp))
    have ih := ex_steps (bl := bl) (r := r) l (fun y hy => h y (by simp [hy]))
    rw [List.flatMap_cons, List.flatMap_cons, List.append_assoc, List.append_assoc, pm, pm, List.append_assoc, List.append_assoc]
    cases hx : x.child with
    | true => rw [if_pos rfl, if_pos rfl, ex_child, hc, ih]
    | false =>
      rw [if_neg (by simp), if_neg (by simp), calm_of (bl := bl) (p := [32]) (fun c hc => by rw [List.mem_singleton.1 hc]; decide), hc, ih]
theorem ex_row {bl : List UInt8} {r : List Stp} (h : rowOk r) (l : List UInt8) : ex bl false (prow [32, 62, 32] r ++ l) = prow (gB bl) r ++ ex bl false l := by
  cases r with
  | nil => cases h
  | cons x r =>
    rw [prow, prow, List.append_assoc, List.append_assoc, calm_pc h.2.1, ex_steps l h.2.2]
theorem ex_rows {bl : List UInt8} : ∀ {x : List (List Stp)} (l : List UInt8), (∀ r ∈ x, rowOk r) → ex bl false (x.flatMap (fun r => [44, 32] ++ prow [32, 62, 32] r) ++ l) = x.flatMap (fun r => hB bl ++ prow (gB bl) r) ++ ex bl false l
  | [], l, _ => rfl
  | r :: x, l, h => by
    rw [List.flatMap_cons, List.flatMap_cons, List.append_assoc, List.append_assoc, List.append_assoc, List.append_assoc, ex_comma, ex_row (h r (by simp)), ex_rows l (fun y hy => h y (by simp [hy]))]
/-- A printed selector with blanks around every sign. -/
theorem ex_printS {bl : List UInt8} {x : List (List Stp)} (h : selOk x) : ex bl false (printS x) = psel (hB bl) (gB bl) x := by
  obtain ⟨hne, h⟩ := h
  cases x with
  | nil => exact absurd rfl hne
  | cons r x =>
    have h1 := ex_row (bl := bl) (h r (by simp)) (x.flatMap (fun r => [44, 32] ++ prow [32, 62, 32] r))
    have h2 := ex_rows (bl := bl) (x := x) [] (fun y hy => h y (by simp [hy]))
    rw [List.append_nil] at h2
    simp only [printS, psel]
    rw [h1, h2]
    simp [ex]
theorem bl_parse {bl : List UInt8} (hb : Bl bl) {x : List (List Stp)} (h : selOk x) : parse (bl ++ (ex bl false (printS x) ++ bl)) = .ok x := by
  have b32 : Bl [32] := by intro c hc; rw [List.mem_singleton.1 hc]; rfl
  have app : ∀ {a b : List UInt8}, Bl a → Bl b → Bl (a ++ b) := fun ha hb c hc => (List.mem_append.1 hc).elim (ha c) (hb c)
  rw [ex_printS h]
  exact parse_print (a := 32 :: bl) (b := bl ++ [32]) (a2 := bl) (b2 := bl ++ [32]) (d := bl) (d2 := bl) (app b32 hb) (app hb b32) hb (app hb b32) hb hb h
theorem ex_le (bl : List UInt8) : ∀ (l : List UInt8) (q : Bool), (ex bl q l).length ≤ (1 + 2 * bl.length) * l.length
  | [], _ => by simp [ex]
  | c :: l, q => by
    have ih := ex_le bl l (if c = 34 then !q else q)
    rw [ex, List.length_append, List.length_cons, Nat.mul_add, Nat.mul_one]
    generalize (if c = 34 then !q else q) = q' at *
    split <;> simp only [List.length_append, List.length_cons, List.length_nil] <;> omega
end Go.Proofs.Ytlehbdjdifejeaa.Sl
