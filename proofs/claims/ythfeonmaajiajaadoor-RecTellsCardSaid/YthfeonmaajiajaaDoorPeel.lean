/-
  A region that draws its order, whose last operation waits for all others: the others in whatever order, then the last one. No program here.
-/
import Derived.StillTail
import Derived.OrdersHeld
import Derived.Deep.RegionHeld
namespace Go.Proofs.YthfeonmaajiajaaDoor
open Go
set_option linter.unusedVariables false

/-- Each waits for earlier ones alone, none has a guard; each of the first n is waited for by a later one. -/
def peelB (ops : Array Oper) (n : Nat) : Bool :=
  (List.range (n + 1)).all (fun i => match ops[i]? with | some o => o.guard.isNone && o.after.all (fun e => decide (e.on < i)) | none => false) &&
  (List.range n).all (fun i => (List.range (n + 1)).any fun j => decide (i < j) && Region.waitsFor .any ops j i)
def peelQ (P : Program) (ops : Array Oper) (Q : Exit → Act → World → Prop) (oL : Oper) : Exit → Act → World → Prop
  | .normal, a, w => wpList P ops Q [oL] a w
  | e, a, w => Q e a w
section
variable {P : Program} {Q : Exit → Act → World → Prop} {l : List Oper} {oL : Oper}
theorem upon_peel (ops : Array Oper) (o : Oper) (a : Act) (K : Act → World → Prop) (r : Result Next) : o.upon P a K (peelQ P ops Q oL) r = o.upon P a K Q r := by
  cases r with
  | ok n w' => cases n <;> rfl
  | halt x w' => cases x <;> rfl
theorem at_peel {i : Nat} (h : i < l.length) : (l ++ [oL]).toArray[i]? = l.toArray[i]? := by
  simp [List.getElem?_append_left h]
theorem last_peel : (l ++ [oL]).toArray[l.length]? = some oL := by simp
theorem push_get {x : Array Bool} {n i : Nat} (hx : x.size = n) (d : Bool) (h : i < n) : (x.push false).getD i d = x.getD i d := by
  subst hx
  simp [Array.getElem_push_lt, h, Nat.lt_succ_of_lt h]
theorem push_last {x : Array Bool} {n : Nat} (hx : x.size = n) (d : Bool) : (x.push false).getD n d = false := by
  subst hx
  simp
theorem peel_any (hB : peelB (l ++ [oL]).toArray l.length = true) : ∀ (fuel : Nat) (x : Array Bool) (a : Act) (w : World), x.size = l.length →
    (∀ j oj, l.toArray[j]? = some oj → x.getD j false = true → ∀ e ∈ oj.after, Region.binds .any e = true → x.getD e.on false = true) →
    wpAny P .any l.toArray (peelQ P (l ++ [oL]).toArray Q oL) fuel x a w → wpAny P .any (l ++ [oL]).toArray Q (fuel + 1) (x.push false) a w := by
  have hB' := hB
  simp only [peelB, Bool.and_eq_true] at hB'
  obtain ⟨h1, h2⟩ := hB'
  have low : ∀ (i : Nat) (o : Oper), (l ++ [oL]).toArray[i]? = some o → o.guard = none ∧ ∀ e ∈ o.after, e.on < i := fun i o ho => by
    have hi : i < l.length + 1 := by
      have := (Array.getElem?_eq_some_iff.1 ho).1
      simpa using this
    have := List.all_eq_true.1 h1 i (List.mem_range.2 hi)
    rw [ho] at this
    simp only [Bool.and_eq_true, Option.isNone_iff_eq_none] at this
    refine ⟨this.1, fun e he => ?_⟩
    have h3 := this.2
    rw [Array.all_eq_true'] at h3
    simpa using h3 e he
  have up : ∀ (i : Nat), i < l.length → ∃ j, i < j ∧ j ≤ l.length ∧ Region.waitsFor .any (l ++ [oL]).toArray j i = true := fun i hi => by
    have := List.all_eq_true.1 h2 i (List.mem_range.2 hi)
    obtain ⟨j, hj, h⟩ := List.any_eq_true.1 this
    rw [Bool.and_eq_true, decide_eq_true_eq] at h
    exact ⟨j, h.1, by have := List.mem_range.1 hj; omega, h.2⟩
  -- what may come up among the first
  have rdy : ∀ (x : Array Bool), x.size = l.length → ∀ i, i < l.length → (i ∈ Region.ready .any (l ++ [oL]).toArray (x.push false) ↔ i ∈ Region.ready .any l.toArray x) := fun x hx i hi => by
    rw [mem_ready, mem_ready, at_peel hi, push_get hx _ hi]
    refine and_congr Iff.rfl (exists_congr fun o => and_congr_right fun ho => ?_)
    have ho' : (l ++ [oL]).toArray[i]? = some o := by rw [at_peel hi]; exact ho
    refine forall_congr' fun e => forall_congr' fun he => forall_congr' fun hb => ?_
    rw [push_get hx _ (Nat.lt_trans ((low i o ho').2 e he) hi)]
  have all0 : ∀ (x : Array Bool), x.size = l.length → Region.ready .any l.toArray x = [] → ∀ i, i < l.length → x.getD i false = true := fun x hx h0 i => by
    induction i using Nat.strongRecOn with
    | _ i ih =>
      intro hi
      cases hg : x.getD i false with
      | true => rfl
      | false =>
        exfalso
        have hm : i ∈ Region.ready .any l.toArray x := by
          rw [mem_ready]
          refine ⟨by simp only [Array.getD_eq_getD_getElem?] at hg ⊢; rw [Array.getElem?_eq_getElem (by omega)] at hg ⊢; exact hg, l[i], by simp [hi], fun e he _ => ?_⟩
          have := (low i l[i] (by rw [at_peel hi]; simp [hi])).2 e he
          exact ih e.on this (by omega)
        rw [h0] at hm
        cases hm
  have hLast : ∀ (x : Array Bool), x.size = l.length → (∀ i, i < l.length → x.getD i false = true) → l.length ∈ Region.ready .any (l ++ [oL]).toArray (x.push false) := fun x hx h => by
    rw [mem_ready]
    refine ⟨push_last hx _, oL, last_peel, fun e he _ => ?_⟩
    have := (low _ oL last_peel).2 e he
    rw [push_get hx _ this]
    exact h _ this
  have gate : ∀ (x : Array Bool), x.size = l.length → (∀ j oj, l.toArray[j]? = some oj → x.getD j false = true → ∀ e ∈ oj.after, Region.binds .any e = true → x.getD e.on false = true) → l.length ∈ Region.ready .any (l ++ [oL]).toArray (x.push false) → ∀ d i, l.length - i = d → i < l.length → x.getD i false = true := fun x hx hc hr d => by
    induction d using Nat.strongRecOn with
    | _ d ih =>
      intro i hd hi
      obtain ⟨j, hij, hj, hw⟩ := up i hi
      obtain ⟨o, ho, e, he, hb, hon⟩ := Region.waitsFor_spec hw
      rcases Nat.lt_or_ge j l.length with hjl | hjl
      · have := ih (l.length - j) (by omega) j rfl hjl
        have h3 := hc j o (by rw [← at_peel hjl]; exact ho) this e he hb
        rw [hon] at h3
        exact h3
      · obtain rfl : j = l.length := by omega
        rw [mem_ready] at hr
        obtain ⟨-, o', ho', hall⟩ := hr
        rw [ho] at ho'
        cases ho'
        have h3 := hall e he hb
        rw [hon, push_get hx _ hi] at h3
        exact h3
  -- the last one, when all others have come up
  have fin : ∀ (fuel : Nat) (x : Array Bool) (a : Act) (w : World), x.size = l.length → (∀ i, i < l.length → x.getD i false = true) → wpList P (l ++ [oL]).toArray Q [oL] a w → wpAny P .any (l ++ [oL]).toArray Q (fuel + 1) (x.push false) a w := fun fuel x a w hx h hq => by
    have hr := hLast x hx h
    refine ⟨fun h0 => (by rw [h0] at hr; cases hr), fun i hi => ?_⟩
    have hil : i = l.length := by
      have h3 := mem_ready.1 hi
      obtain ⟨h4, o, ho, -⟩ := h3
      have hlt : i < l.length + 1 := by simpa using (Array.getElem?_eq_some_iff.1 ho).1
      rcases Nat.lt_or_ge i l.length with h5 | h5
      · rw [push_get hx _ h5] at h4
        have := h i h5
        simp only [Array.getD_eq_getD_getElem?] at h4 this
        rw [Array.getElem?_eq_getElem (by omega)] at h4 this
        rw [Option.getD_some] at h4 this
        rw [h4] at this
        cases this
      · omega
    subst hil
    have h0 : Region.ready .any (l ++ [oL]).toArray ((x.push false).setIfInBounds l.length true) = [] := by
      rw [List.eq_nil_iff_forall_not_mem]
      intro k hk
      obtain ⟨h4, o, ho, -⟩ := mem_ready.1 hk
      have hlt : k < l.length + 1 := by simpa using (Array.getElem?_eq_some_iff.1 ho).1
      by_cases hkl : k = l.length
      · subst hkl
        simp [hx] at h4
      · rw [getD_set_ne true (fun e => hkl e.symm), push_get hx _ (by omega)] at h4
        have := h k (by omega)
        simp only [Array.getD_eq_getD_getElem?] at h4 this
        rw [Array.getElem?_eq_getElem (by omega)] at h4 this
        rw [Option.getD_some] at h4 this
        rw [h4] at this
        cases this
    have hend : ∀ (f : Nat) a' w', Q .normal a' w' → wpAny P .any (l ++ [oL]).toArray Q f ((x.push false).setIfInBounds l.length true) a' w' := fun f a' w' hq' => by
      cases f with
      | zero => exact ⟨h0, hq'⟩
      | succ f => exact ⟨fun _ => hq', fun j hj => by rw [h0] at hj; cases hj⟩
    have : wpOp P (l ++ [oL]).toArray Q l.length (fun a' w' => Q .normal a' w') a w := by
      unfold wpOp
      rw [last_peel]
      exact hq
    exact wpOp_mono (fun a' w' h' => hend _ a' w' h') this
  intro fuel
  induction fuel with
  | zero =>
    intro x a w hx hc H
    exact fin 0 x a w hx (all0 x hx H.1) H.2
  | succ fuel ih =>
    intro x a w hx hc H
    by_cases h0 : Region.ready .any l.toArray x = []
    · exact fin _ x a w hx (all0 x hx h0) (H.1 h0)
    · obtain ⟨k, hk⟩ := List.exists_mem_of_ne_nil _ h0
      have hkl : k < l.length := by
        obtain ⟨-, o, ho, -⟩ := mem_ready.1 hk
        simpa using (Array.getElem?_eq_some_iff.1 ho).1
      refine ⟨fun h3 => (by have := (rdy x hx k hkl).2 hk; rw [h3] at this; cases this), fun i hi => ?_⟩
      have hil : i < l.length := by
        have hlt : i < l.length + 1 := by
          obtain ⟨-, o, ho, -⟩ := mem_ready.1 hi
          simpa using (Array.getElem?_eq_some_iff.1 ho).1
        rcases Nat.lt_or_ge i l.length with h5 | h5
        · exact h5
        · exfalso
          obtain rfl : i = l.length := by omega
          have := gate x hx hc hi _ k rfl hkl
          have h4 := (mem_ready.1 hk).1
          simp only [Array.getD_eq_getD_getElem?] at h4 this
          rw [Array.getElem?_eq_getElem (by omega)] at h4 this
          rw [Option.getD_some] at h4 this
          rw [h4] at this
          cases this
      have hi1 := (rdy x hx i hil).1 hi
      have h3 := H.2 i hi1
      obtain ⟨hun, o, ho, hall⟩ := mem_ready.1 hi1
      have ho2 : (l ++ [oL]).toArray[i]? = some o := by rw [at_peel hil]; exact ho
      have hg := (low i o ho2).1
      have hw : ∀ y, Region.wanted o y = true := fun y => by simp [Region.wanted, hg]
      have hc2 : ∀ j oj, l.toArray[j]? = some oj → (x.setIfInBounds i true).getD j false = true → ∀ e ∈ oj.after, Region.binds .any e = true → (x.setIfInBounds i true).getD e.on false = true := fun j oj hj hgj e he hb => by
        by_cases hji : j = i
        · subst hji
          rw [ho] at hj
          cases hj
          exact getD_set_true (hall e he hb)
        · rw [getD_set_ne false (fun e => hji e.symm)] at hgj
          exact getD_set_true (hc j oj hj hgj e he hb)
      have hps : (x.push false).setIfInBounds i true = (x.setIfInBounds i true).push false := by
        apply Array.ext_getElem?
        intro k
        simp only [Array.getElem?_setIfInBounds, Array.getElem?_push, Array.size_push, Array.size_setIfInBounds]
        by_cases hki : i = k
        · subst hki
          simp [show i ≠ x.size by omega, show i < x.size by omega, show i < x.size + 1 by omega]
        · simp [hki]
      rw [hps]
      unfold wpOp at h3 ⊢
      rw [ho] at h3
      rw [ho2]
      simp only [hw, if_true] at h3 ⊢
      refine h3.imp (fun h4 => ?_) (fun h4 => ⟨h4.1, by obtain ⟨a', w', h5⟩ := h4.2; exact ⟨a', w', h5⟩⟩)
      unfold Oper.wp at h4 ⊢
      rw [upon_peel] at h4
      exact Oper.wp_mono (o := o) (fun a' w' h5 => ih _ a' w' (by simp [hx]) hc2 h5) h4
/-- The region: all but the last one with a condition that holds behind each of them; then the last one. -/
theorem wp_region_peel {id : Nat} {a : Act} {w : World} {S : World → Prop} (hm : P.follows .mixedOrders = true) (hB : peelB (l ++ [oL]).toArray l.length = true) (hS : S w.drew)
    (h : S w.drew → wpAnyH P .any l.toArray (peelQ P (l ++ [oL]).toArray Q oL) S l.toArray.size (Array.replicate l.toArray.size false) a w.drew) : (Code.region id (l ++ [oL]).toArray true).wp P Q a w := by
  refine wp_region_any hm ?_
  have h1 := wpAny_of_held _ _ _ _ (h hS)
  have h2 := peel_any hB _ _ _ _ (by simp) (fun j oj _ hl => by
    rw [getD_replicate_false] at hl
    cases hl) h1
  have e : (Array.replicate l.toArray.size false).push false = Array.replicate (l ++ [oL]).toArray.size false := by
    simp [Array.replicate_succ]
  rw [e] at h2
  have e2 : l.toArray.size + 1 = (l ++ [oL]).toArray.size := by simp
  rw [e2] at h2
  exact h2
/-- The same, of a region that is written out. -/
theorem wp_region_peel_at {L : List Oper} (n : Nat) {oL : Oper} (hL : L[n]? = some oL) (hn : L.length = n + 1) {id : Nat} {a : Act} {w : World} (S : World → Prop) (hm : P.follows .mixedOrders = true) (hB : peelB L.toArray n = true) (hS : S w.drew)
    (h : S w.drew → wpAnyH P .any (L.take n).toArray (peelQ P L.toArray Q oL) S n (Array.replicate n false) a w.drew) : (Code.region id L.toArray true).wp P Q a w := by
  have hl : (L.take n).length = n := by rw [List.length_take]; omega
  have e : L = L.take n ++ [oL] := by
    obtain ⟨hlt, hx⟩ := List.getElem?_eq_some_iff.1 hL
    rw [← hx]
    have := (List.take_append_getElem hlt)
    rw [this, List.take_of_length_le (by omega)]
  have key := wp_region_peel (P := P) (Q := Q) (l := L.take n) (oL := oL) (id := id) (a := a) (w := w) (S := S) hm
  rw [← e, hl] at key
  refine key hB hS ?_
  have e3 : (L.take n).toArray.size = n := by simp only [List.size_toArray]; exact hl
  rw [e3]
  exact h
/-- An operation of a region that draws its order, taken first: it yields v into slot d in every world that meets S. -/
theorem held_take {ops : Array Oper} {md : Region.Mode} {S : World → Prop} {i : Nat} {oi : Oper} {v : Value} {d : Option Tmp} {fuel : Nat} {listed : Array Bool} {a : Act} {w : World} (hi : ops[i]? = some oi) (hd : oi.dst = d)
    (hs : Region.noSelect ops = true) (hf : Region.free md ops listed i = true) (hr : (Region.ready md ops listed).contains i = true)
    (hQ : ∀ c a w, Q (.panic c) (a.put d v) w → Q (.panic c) a w) (hw : Region.wanted oi (yielded ops a.tmps) = true) (hy : ∀ w, S w → (execOp a.eval oi).run P w = .ok (.value v) w) (hS : S w)
    (h : wpAnyH P md ops Q S fuel (listed.setIfInBounds i true) (a.put d v) w) : wpAnyH P md ops Q S (fuel + 1) listed a w := by
  subst hd
  exact wpAnyH_take hi hs hf hr hQ (Or.inl ⟨hw, hy⟩) hS h
end
end Go.Proofs.YthfeonmaajiajaaDoor
