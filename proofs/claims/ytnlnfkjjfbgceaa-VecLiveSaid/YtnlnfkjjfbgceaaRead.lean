/-
  A region that draws its order: first it only reads, then one operation waits for all that was read, and what is behind waits for that one. The reads are walked once, in the order of the text; what is behind, in whatever order it comes. No program here.
-/
import Derived.StillTailTactics
namespace Go.Proofs.Ytnlnfkjjfbgceaa
open Go
set_option linter.unusedVariables false

/-- Each of the first n is waited for by one up to n; each behind n waits for one from n on. -/
def gateB (ops : Array Oper) (n : Nat) : Bool :=
  decide (n < ops.size) && (List.range n).all (fun i => (List.range (n + 1)).any fun j => decide (i < j) && Region.waitsFor .any ops j i) &&
    (List.range ops.size).all (fun t => decide (t ≤ n) || (List.range t).any fun s => decide (n ≤ s) && Region.waitsFor .any ops t s)
/-- The first n come up in the order of the text, each apart from those that it does not wait for. -/
def headB (ops : Array Oper) : Nat → Nat → Array Bool → Bool
  | 0, _, _ => true
  | f + 1, k, listed => (Region.ready .any ops listed).contains k && Region.free .any ops listed k && headB ops f (k + 1) (listed.setIfInBounds k true)
/-- The first n have come up. -/
def upTo : Nat → Nat → Array Bool → Array Bool
  | 0, _, listed => listed
  | f + 1, k, listed => upTo f (k + 1) (listed.setIfInBounds k true)
section
variable {P : Program} {ops : Array Oper} {w : World}
theorem unlisted {n : Nat} {listed : Array Bool} (inv : HeadInv .any ops n listed) {o : Oper} {t s : Nat} (hr : t ∈ Region.ready .any ops listed) (hw : Region.waitsFor .any ops t s = true) (hs : listed.getD s true = false) : False := by
  obtain ⟨_, ot, hot, hall⟩ := mem_ready.1 hr
  obtain ⟨o', ho', e, he, hb, hon⟩ := Region.waitsFor_spec hw
  cases hot.symm.trans ho'
  have h := hall e he hb
  rw [hon, getD_both hs] at h
  exact Bool.noConfusion h
/-- As long as one of the first n is out, none behind them comes up. -/
theorem gate_shut {n : Nat} (hg : gateB ops n = true) {listed : Array Bool} (inv : HeadInv .any ops n listed) {i : Nat} (hi : i < n) (hu : listed.getD i true = false) : ∀ t ∈ Region.ready .any ops listed, t < n := by
  simp only [gateB, Bool.and_eq_true, decide_eq_true_eq] at hg
  obtain ⟨⟨hn, h1⟩, h2⟩ := hg
  intro t hr
  rcases Nat.lt_or_ge t n with h | h
  · exact h
  · exfalso
    obtain ⟨_, ot, hot, _⟩ := mem_ready.1 hr
    have hts := (Array.getElem?_eq_some_iff.1 hot).1
    have hb := List.all_eq_true.1 h2 t (List.mem_range.2 hts)
    simp only [Bool.or_eq_true, decide_eq_true_eq, List.any_eq_true, List.mem_range, Bool.and_eq_true] at hb
    rcases hb with hb | ⟨s, hs, hns, hw⟩
    · obtain rfl : t = n := by omega
      -- the last one of the first n that is out
      have key : ∀ d j, t - j = d → j < t → listed.getD j true = false → False := by
        intro d
        induction d using Nat.strongRecOn with
        | _ d ih =>
          intro j hd hj huj
          have hb := List.all_eq_true.1 h1 j (List.mem_range.2 hj)
          simp only [List.any_eq_true, List.mem_range, Bool.and_eq_true, decide_eq_true_eq] at hb
          obtain ⟨s, hs, hjs, hw⟩ := hb
          rcases Nat.lt_or_ge s t with hst | hst
          · cases hl : listed.getD s false with
            | true =>
              obtain ⟨os, hos, e, he, hbn, hon⟩ := Region.waitsFor_spec hw
              have := inv.closed s os hos hl e he hbn
              rw [hon, getD_both huj] at this
              exact Bool.noConfusion this
            | false => exact ih (t - s) (by omega) s rfl hst (getD_in (by rw [inv.size]; omega) hl)
          · obtain rfl : s = t := by omega
            exact unlisted (o := ot) inv hr hw huj
      exact key _ i rfl hi hu
    · exact unlisted (o := ot) inv hr hw (inv.tail s hns (by omega))
theorem read_first {n i g : Nat} {oi : Oper} {v : Value} {L : Array Bool → Act → Prop} (hg : gateB ops n = true) (hsel : Region.noSelect ops = true) (hi : ops[i]? = some oi) (hin : i < n) (hL : ∀ listed a, L listed a → ∀ j ∈ Region.ready .any ops listed, n ≤ j) :
    ∀ (f : Nat) (listed : Array Bool) (a : Act), HeadInv .any ops n listed → i ∈ Region.ready .any ops listed →
      (∀ j oj, ops[j]? = some oj → j ≠ i → listed.getD j true = false → (∀ e ∈ oj.after, Region.binds .any e = true → e.on ≠ i) → oi.apart ops oj = true) →
      YieldsAt P ops w oi v a → wpAnyL P .any ops w n L f (listed.setIfInBounds i true) (a.put oi.dst v) → wpAnyL P .any ops w n L (f + 1) listed a := by
  intro f
  induction f with
  | zero =>
    intro listed a inv hr hap hy H
    have hu := (mem_ready.1 hr).1
    refine ⟨List.ne_nil_of_mem hr, fun j hj => ?_⟩
    have hjn := gate_shut hg inv hin hu j hj
    by_cases e : j = i
    · rw [e] at hj ⊢
      exact ⟨hin, hy.stOp hi H⟩
    · have := hL _ _ H j (ready_mono hj e)
      omega
  | succ f ih =>
    intro listed a inv hr hap hy H
    have hu := (mem_ready.1 hr).1
    refine ⟨List.ne_nil_of_mem hr, fun j hj => ?_⟩
    have hjn := gate_shut hg inv hin hu j hj
    by_cases e : j = i
    · rw [e] at hj ⊢
      exact ⟨hin, hy.stOp hi H⟩
    · refine ⟨hjn, ?_⟩
      obtain ⟨huj, oj, hoj, hall⟩ := mem_ready.1 hj
      have ha : oi.apart ops oj = true := hap j oj hoj e huj (fun x hx hb hxi => by
        have h := hall x hx hb
        rw [hxi, getD_both hu] at h
        exact Bool.noConfusion h)
      have h1 := stOp_put hoj ha (fun cs b => Region.noSelect_spec hsel i oi cs b hi) (fun cs b => Region.noSelect_spec hsel j oj cs b hoj) hy (H.2 j (ready_mono hj e)).2
      refine stOp_mono (fun a' h2 => ih _ a' (inv.set hj hjn) (ready_mono hr (Ne.symm e)) (fun k ok hk hki huk hno => hap k ok hk hki ?_ hno) h2.1 ?_) h1
      · by_cases hjk : j = k
        · rw [← hjk]; exact huj
        · rw [getD_set_ne true hjk] at huk; exact huk
      · rw [Array.setIfInBounds_comm _ _ e]; exact h2.2
theorem read_lex {n : Nat} {Lq : Act → Prop} {X : Array Bool} (hg : gateB ops n = true) (hsel : Region.noSelect ops = true) (hX : ∀ j ∈ Region.ready .any ops X, n ≤ j) :
    ∀ (l : List Oper) (k : Nat) (listed : Array Bool) (a : Act), (∀ j, j < l.length → l[j]? = ops[k + j]?) → k + l.length = n → HeadInv .any ops n listed → headB ops l.length k listed = true → upTo l.length k listed = X →
      wpStill P ops w Lq l a → wpAnyL P .any ops w n (fun x a' => x = X ∧ Lq a') l.length listed a
  | [], k, listed, a, _, _, _, _, hU, h => ⟨hU, h⟩
  | o :: l, k, listed, a, hl, hk, inv, hB, hU, h => by
    have h0 : ops[k]? = some o := by simpa using (hl 0 (by simp)).symm
    simp only [List.length_cons, headB, Bool.and_eq_true] at hB
    have hk' : k + 1 + l.length = n := by simp only [List.length_cons] at hk; omega
    have hr : k ∈ Region.ready .any ops listed := by simpa using hB.1.1
    have hst : stOp P ops w k (wpStill P ops w Lq l) a := by unfold stOp; simp only [h0]; exact h
    obtain ⟨v, hy, hK⟩ := yieldsAt_of_stOp h0 hst
    refine read_first (g := 0) hg hsel h0 (by omega) (fun x a' hx j hj => hX j (by rw [← hx.1]; exact hj)) l.length listed a inv hr (Region.free_spec h0 hB.1.2) hy ?_
    exact read_lex hg hsel hX l (k + 1) _ _ (fun j hj => by have := hl (j + 1) (by simp; omega); simpa [Nat.add_assoc, Nat.add_comm 1 j] using this) hk' (inv.set hr (by omega)) hB.2 hU hK
/-- The region: n reads, then whatever order the rest comes in. -/
theorem wp_region_reads {id : Nat} {Q : Exit → Act → World → Prop} {a : Act} {w : World} {l : List Oper} (n : Nat) (X : Array Bool) (hm : P.follows .mixedOrders = true)
    (hB : (Region.noSelect l.toArray && gateB l.toArray n && headB l.toArray n 0 (Array.replicate l.toArray.size false) && (Region.ready .any l.toArray X).all (fun j => decide (n ≤ j))) = true)
    (hX : upTo n 0 (Array.replicate l.toArray.size false) = X)
    (h : wpStill P l.toArray w.drew (fun a' => wpAny P .any l.toArray Q (l.toArray.size - n) X a' w.drew) (l.take n) a) : (Code.region id l.toArray true).wp P Q a w := by
  simp only [Bool.and_eq_true] at hB
  obtain ⟨⟨⟨hsel, hg⟩, hh⟩, hx⟩ := hB
  have hn : n < l.length := by
    have := hg
    simp only [gateB, Bool.and_eq_true, decide_eq_true_eq] at this
    simpa using this.1.1
  have ht : (l.take n).length = n := by simp; omega
  have inv0 : HeadInv .any l.toArray n (Array.replicate l.toArray.size false) :=
    ⟨by simp, fun j oj _ hl => (by rw [getD_replicate_false] at hl; exact Bool.noConfusion hl), fun t _ ht => getD_in (by simpa using ht) (getD_replicate_false _ _)⟩
  have H := read_lex (P := P) (w := w.drew) hg hsel (fun j hj => by simpa using List.all_eq_true.1 hx j hj) (l.take n) 0 _ a (fun j hj => by
    have hj' : j < n := by rw [ht] at hj; exact hj
    simp [hj']) (by simpa using ht) inv0 (by rw [ht]; exact hh) (by rw [ht]; exact hX) h
  refine wp_region_any hm ?_
  have := wpAny_of_head (Q' := Q) (g := l.toArray.size - n) (fun listed a' hL => by rw [hL.1]; exact hL.2) _ _ _ H
  rw [ht, show n + (l.toArray.size - n) = l.toArray.size by simp; omega] at this
  exact this
end
end Go.Proofs.Ytnlnfkjjfbgceaa
