/-
  The law FindBelow's mathematics: a compound behind a blank finds those that fit and are below one that does what stands ahead; behind a > those that have it as their parent.
-/
import Derived.Test.YtaacikjoafobfaaGreatDoorZFiS
import Derived.Test.YtaacikjoafobfaaGreatDoorG04
namespace Go.Proofs.YtaacikjoafobfaaGreatDoor.Fi
open Go.ChangeShapes Go.WideShapes Go.ChangeAt Go.RowKit
open Sx (Tr Ms Mr TR MR XR tV r1 ls te stp rws cx cl cx_iff)
set_option linter.unusedVariables false
set_option linter.unusedSimpArgs false

/-! ### the way up, by its nodes -/
theorem way_mem {F : List Mn} (h : mayB F = true) (q : Mn → Bool) : ∀ (n : Nat) (x : Int), (x = -1 ∨ isB F x = true) → ((wayL F n x).any q = true ↔ ∃ (u : Nat) (hu : u < F.length), onWay F u n x = true ∧ q F[u] = true)
  | 0, x, hx => by simp [wayL, onWay]
  | n + 1, x, hx => by
    by_cases hn : x = -1
    · subst hn
      simp [wayL, onWay]
    · have hB := hx.resolve_left hn
      rw [isB, decide_eq_true_eq] at hB
      obtain ⟨j, rfl⟩ := Int.eq_ofNat_of_zero_le hB.1
      have hj : j < F.length := by omega
      have hp : F[j].parent = -1 ∨ isB F F[j].parent = true := by
        have := up_of (mayB_parts h).2.2.1 j hj
        rwa [par_at hj] at this
      rw [wayL_at hj, List.any_cons, Bool.or_eq_true, way_mem h q n F[j].parent hp]
      constructor
      · rintro (e | ⟨u, hu, h1, h2⟩)
        · refine ⟨j, hj, ?_, e⟩
          rw [onWay, if_neg hn]
          simp
        · refine ⟨u, hu, ?_, h2⟩
          rw [onWay, if_neg hn, Int.toNat_natCast, par_at hj, h1, Bool.or_true]
      · rintro ⟨u, hu, h1, h2⟩
        rw [onWay, if_neg hn, Int.toNat_natCast, par_at hj, Bool.or_eq_true, decide_eq_true_eq] at h1
        rcases h1 with h1 | h1
        · obtain rfl : j = u := by omega
          exact .inl h2
        · exact .inr ⟨u, hu, h1, h2⟩
theorem tls_one (T : List Tr) (c : Bool) : ∀ up : List Mn, (tls up).any (eD fitsB [(T, c)]) = up.any (fun m => fitsB m T)
  | [] => by simp [tls, eD]
  | m :: up => by
    rw [tls, List.any_cons, List.any_cons, tls_one T c up]
    congr 1
    simp [eD]
/-- What is asked of a node that may stand ahead. -/
def condB (F : List Mn) (a : List Tr) (ch : Bool) (id u : Nat) : Bool := ((F[u]?).map (fun m => fitsB m a)).getD false && (((u : Int) != (id : Int)) && (belowB F u id && (!ch || (par F id == (u : Int)))))
theorem below_is {F : List Mn} (h : mayB F = true) {id : Nat} (hi : id < F.length) (P Q R : Option Addr) (p q r : Nat) (a b : List Tr) (ca ch : Bool) :
    isP F [((P, p), [((Q, q), (a, ca)), ((R, r), (b, ch))])] id = ((List.range F.length).any (condB F a ch id) && fitsB F[id] b) := by
  obtain ⟨n, hn⟩ : ∃ n, F.length = n + 1 := ⟨F.length - 1, by omega⟩
  have hW : wayU F id = F[id] :: wayL F n F[id].parent := by unfold wayU; rw [hn, wayL_at hi]
  have hp : F[id].parent = -1 ∨ isB F F[id].parent = true := by
    have := up_of (mayB_parts h).2.2.1 id hi
    rwa [par_at hi] at this
  have hBe : ∀ u : Nat, u < F.length → (((u : Int) != (id : Int)) && belowB F u id) = onWay F u n F[id].parent := fun u hu => by
    unfold belowB
    rw [h, show isB F (id : Int) = true by rw [isB, decide_eq_true_eq]; omega, hn, onWay, if_neg (by omega), Int.toNat_natCast, par_at hi]
    by_cases e : u = id
    · subst e
      have hno : onWay F u n F[u].parent = false := by
        rw [Bool.eq_false_iff]
        intro ho
        rcases hp with hp | hp
        · rw [hp, onWay_none] at ho; cases ho
        · rw [isB, decide_eq_true_eq] at hp
          obtain ⟨j, hj, hjl, hd⟩ := par_node h hi (by rw [par_at hi]; omega)
          rw [par_at hi] at hj
          rw [hj] at ho
          have := onWay_dep h n j hjl ho
          omega
      rw [hno]
      simp
    · have h1 : ((u : Int) != (id : Int)) = true := by rw [bne_iff_ne]; omega
      have h2 : decide ((id : Int) = (u : Int)) = false := by simp; omega
      rw [h1, h2]
      simp
  have key : isP F [((P, p), [((Q, q), (a, ca)), ((R, r), (b, ch))])] id = (fitsB F[id] b && (if ch then eD fitsB [(a, ca)] (wayL F n F[id].parent) else (wayL F n F[id].parent).any (fun m => fitsB m a))) := by
    have e : eD fitsB [(b, ch), (a, ca)] (F[id] :: wayL F n F[id].parent) = (fitsB F[id] b && (false || (if ch then eD fitsB [(a, ca)] (wayL F n F[id].parent) else (tls (wayL F n F[id].parent)).any (eD fitsB [(a, ca)])))) := rfl
    rw [tls_one, Bool.false_or] at e
    rw [← e]
    unfold isP
    rw [hW]
    simp [rowB]
  rw [key, Bool.and_comm]
  congr 1
  rw [Bool.eq_iff_iff, List.any_eq_true]
  have hc : ∀ u (hu : u < F.length), condB F a ch id u = true ↔ (onWay F u n F[id].parent = true ∧ fitsB F[u] a = true ∧ (ch = true → F[id].parent = (u : Int))) := fun u hu => by
    unfold condB
    rw [List.getElem?_eq_getElem hu, par_at hi, ← Bool.and_assoc ((u : Int) != (id : Int)) (belowB F u id), hBe u hu]
    simp only [Option.map_some, Option.getD_some, Bool.and_eq_true, Bool.or_eq_true, Bool.not_eq_true', beq_iff_eq]
    constructor
    · rintro ⟨x, y, z⟩
      exact ⟨y, x, fun e => z.resolve_left (by rw [e]; simp)⟩
    · rintro ⟨x, y, z⟩
      refine ⟨y, x, ?_⟩
      cases ch with
      | false => exact .inl rfl
      | true => exact .inr (z rfl)
  cases ch with
  | false =>
    simp only [Bool.false_eq_true, if_false]
    rw [way_mem h _ n _ hp]
    constructor
    · rintro ⟨u, hu, h1, h2⟩
      exact ⟨u, List.mem_range.2 hu, (hc u hu).2 ⟨h1, h2, fun e => by cases e⟩⟩
    · rintro ⟨u, hu, h1⟩
      obtain ⟨x, y, -⟩ := (hc u (List.mem_range.1 hu)).1 h1
      exact ⟨u, List.mem_range.1 hu, x, y⟩
  | true =>
    simp only [if_true]
    have hn0 : F[id].parent ≠ -1 → 0 < n := fun hq => by
      rcases Nat.eq_zero_or_pos n with e | e
      · exfalso
        subst e
        have := hp.resolve_left hq
        rw [isB, decide_eq_true_eq] at this
        obtain ⟨j, hj, hjl, hd⟩ := par_node h hi (by rw [par_at hi]; omega)
        have h1 : j = id := by omega
        rw [h1] at hd
        omega
      · exact e
    rcases hp with hp | hp
    · rw [hp, wayL_none]
      simp only [eD_nil]
      constructor
      · intro e; cases e
      · rintro ⟨u, hu, h1⟩
        have := ((hc u (List.mem_range.1 hu)).1 h1).1
        rw [hp, onWay_none] at this
        cases this
    · rw [isB, decide_eq_true_eq] at hp
      obtain ⟨j, hj⟩ := Int.eq_ofNat_of_zero_le hp.1
      have hjl : j < F.length := by omega
      obtain ⟨n', rfl⟩ : ∃ n', n = n' + 1 := ⟨n - 1, by have := hn0 (by omega); omega⟩
      rw [hj, wayL_at hjl]
      simp only [eD, List.isEmpty_nil, Bool.true_or, Bool.and_true]
      constructor
      · intro e
        refine ⟨j, List.mem_range.2 hjl, (hc j hjl).2 ⟨?_, e, fun _ => hj⟩⟩
        rw [hj, onWay, if_neg (by omega)]
        simp
      · rintro ⟨u, hu, h1⟩
        obtain ⟨-, x, y⟩ := (hc u (List.mem_range.1 hu)).1 h1
        have e : j = u := by have := y rfl; omega
        subst e
        exact x
end Go.Proofs.YtaacikjoafobfaaGreatDoor.Fi
