/-
  Whom a test of an id finds alone, walk.ById finds.
-/
import Derived.Test.YtaacikjoafobfaaGreatDoorZFiId
namespace Go.Proofs.YtaacikjoafobfaaGreatDoor.Fi
open Go.ChangeShapes Go.WideShapes Go.ChangeAt Go.RowKit
open Sx (Tr Ms Mr TR MR XR tV r1 ls te stp rws)
set_option linter.unusedVariables false
set_option linter.unusedSimpArgs false

theorem find_same {p q : Nat → Bool} : ∀ {l : List Nat}, (∀ x ∈ l, p x = q x) → l.find? p = l.find? q
  | [], _ => rfl
  | a :: l, h => by
    have ha := h a (List.mem_cons_self ..)
    have ih := find_same (l := l) (fun x hx => h x (List.mem_cons_of_mem _ hx))
    rw [List.find?_cons, List.find?_cons, ha, ih]
theorem attrs_one {l : List (ByteArray × ByteArray)} (h : attrsB l = true) {i j : Nat} (hj : j < l.length) (hi : i < j) : (l[i]'(by omega)).1 ≠ l[j].1 := by
  unfold attrsB at h
  rw [Bool.and_eq_true] at h
  have h1 := List.all_eq_true.1 h.2 j (List.mem_range.2 hj)
  simp only [Bool.and_eq_true, Bool.not_eq_true', List.any_eq_false] at h1
  have h2 := h1.2.2 (l[i]'(by omega)) (List.mem_take_iff_getElem.2 ⟨i, by omega, rfl⟩)
  rw [List.getD_eq_getElem?_getD, List.getElem?_eq_getElem hj] at h2
  intro e
  rw [Option.getD_some, ← e] at h2
  simp at h2
theorem val_iff {l : List (ByteArray × ByteArray)} (h : attrsB l = true) (n v : ByteArray) : decide (valP l n = some v) = l.any (fun a => decide (a = (n, v))) := by
  rw [Bool.eq_iff_iff, decide_eq_true_eq, List.any_eq_true]
  constructor
  · intro hv
    unfold valP at hv
    obtain ⟨a, ha, rfl⟩ := Option.map_eq_some_iff.1 hv
    have h1 := List.find?_some ha
    have h1 : a.1 = n := by simpa using h1
    exact ⟨a, List.mem_of_find?_eq_some ha, by rw [decide_eq_true_eq, ← h1]⟩
  · rintro ⟨a, ha, he⟩
    obtain rfl := of_decide_eq_true he
    obtain ⟨j, hj, e⟩ := List.mem_iff_getElem.1 ha
    have := find_hit hj (name := n) (fun b hb => by
      obtain ⟨i, hi, rfl⟩ := List.mem_take_iff_getElem.1 hb
      have := attrs_one h (i := i) hj (by omega)
      rw [e] at this
      exact this) (by rw [e])
    rw [this, e]
theorem id_fits {F : List Mn} (h : mayB F = true) {i : Nat} (hi : i < F.length) (n v : ByteArray) : fitsB F[i] [(2, n, v)] = hasId F n i := by
  obtain ⟨-, h2, -⟩ := may_iff.1 h
  have ho := (h2 i hi).2
  unfold hasId
  rw [List.getElem?_eq_getElem hi, Option.map_some, Option.getD_some]
  have e : fitsB F[i] [(2, n, v)] = ((F[i].kind == 1) && F[i].attrs.any (fun a => decide (a = (idS, n)))) := by simp [fitsB, soB]
  rw [e]
  have no : F[i].kind ≠ 1 → F[i].attrs.length = 0 → ((F[i].kind == 1) && F[i].attrs.any (fun a => decide (a = (idS, n)))) = decide (valP F[i].attrs idS = some n) := fun _ h0 => by
    rw [List.eq_nil_of_length_eq_zero h0]
    simp [valP]
  unfold ownB at ho
  split at ho
  · rename_i hk
    simp only [Bool.and_eq_true, decide_eq_true_eq] at ho
    exact no (by omega) ho.2.2.2
  split at ho
  · rename_i hk
    simp only [Bool.and_eq_true, decide_eq_true_eq] at ho
    exact no (by omega) ho.2.2
  split at ho
  · rename_i hk
    simp only [Bool.and_eq_true] at ho
    rw [val_iff ho.2.2, hk]
    rfl
  · cases ho
theorem wayU_here {F : List Mn} {i : Nat} (hi : i < F.length) : ∃ up, wayU F i = F[i] :: up := by
  unfold wayU
  obtain ⟨n, hn⟩ : ∃ n, F.length = n + 1 := ⟨F.length - 1, by omega⟩
  rw [hn, wayL_at hi]
  exact ⟨_, rfl⟩
theorem isP_id {F : List Mn} (h : mayB F = true) {i : Nat} (hi : i < F.length) (p q : Option Addr × Nat) (n v : ByteArray) (ch : Bool) : isP F [(p, [(q, ([(2, n, v)], ch))])] i = hasId F n i := by
  obtain ⟨up, e⟩ := wayU_here hi
  rw [← id_fits h hi n v]
  unfold isP
  rw [e]
  simp [rowB, eD]
theorem first_id {F : List Mn} (h : mayB F = true) (p q : Option Addr × Nat) (n v : ByteArray) (ch : Bool) (h0 : ¬ n.size = 0) : ∃ (k : Int) (b : Bool), firstP F [(p, [(q, ([(2, n, v)], ch))])] 0 = .tuple #[.int .i64 k, .bool b] ∧ byP F n = if b then (k, 0) else (0, 3) := by
  have e : (ord F 0).find? (isP F [(p, [(q, ([(2, n, v)], ch))])]) = (ord F 0).find? (hasId F n) := find_same (fun x hx => isP_id h (ord_lt h (mayB_parts h).1 hx) p q n v ch)
  unfold firstP byP
  rw [e, if_neg h0]
  cases (ord F 0).find? (hasId F n) with
  | none => exact ⟨0, false, rfl, rfl⟩
  | some k => exact ⟨k, true, rfl, rfl⟩
/-- What a selector of one test alone, read of # and more, is. -/
theorem hash_one {l : List UInt8} {x : List Mr} (h : Sl.parse (35 :: l) = .ok (rws x)) {m : Mr} {s : Ms} {t : Tr} (hx : x = [m]) (hm : m.2 = [s]) (hs : s.2.1 = [t]) : t.1 = 2 ∧ ¬ t.2.1.size = 0 := by
  subst hx
  obtain ⟨p, l'⟩ := m
  simp only [] at hm
  subst hm
  obtain ⟨q, T, ch⟩ := s
  simp only [] at hs
  subst hs
  have h' : Sl.parse (35 :: l) = .ok [[⟨[te t], ch⟩]] := h
  obtain ⟨h1, h2⟩ := Sl.parse_hash h'
  refine ⟨h1, fun h0 => h2 ?_⟩
  have : (ls t.2.1).length = 0 := by rw [Sx.ls_len]; exact h0
  exact List.eq_nil_of_length_eq_zero this
end Go.Proofs.YtaacikjoafobfaaGreatDoor.Fi
