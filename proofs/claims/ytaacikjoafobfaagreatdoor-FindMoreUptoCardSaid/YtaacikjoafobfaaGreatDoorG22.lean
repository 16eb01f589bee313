/-
  What the laws of layer 7 want of lists of operations: laid one behind the other.
-/
import Derived.Test.YtaacikjoafobfaaGreatDoorG16
import Derived.Test.YtaacikjoafobfaaGreatDoorG04
namespace Go.Proofs.YtaacikjoafobfaaGreatDoor
open Go.ChangeShapes Go.WideShapes Go.ChangeAt Go.RowKit
set_option linter.unusedVariables false
set_option linter.unusedSimpArgs false

def opc (o : Ops.Po) : List Value := [.int .i64 o.kind, .int .i64 o.id, .int .i64 o.dst, .int .i64 o.pos, .string o.name, .string o.text]
def ocells (l : List Ops.Po) : List Value := l.flatMap opc
theorem ocells_length (l : List Ops.Po) : (ocells l).length = l.length * 6 := by
  induction l with
  | nil => rfl
  | cons m l ih => rw [ocells, List.flatMap_cons, List.length_append]; rw [ocells] at ih; rw [ih]; simp [opc]; omega
theorem ocells_one (l : List Ops.Po) : ∀ u ∈ ocells l, u.oneCell' = true := by
  intro u hu
  obtain ⟨m, -, hm⟩ := List.mem_flatMap.1 hu
  simp only [opc, List.mem_cons, List.not_mem_nil, or_false] at hm
  rcases hm with rfl | rfl | rfl | rfl | rfl | rfl <;> rfl
theorem ocells_app (a b : List Ops.Po) : ocells (a ++ b) = ocells a ++ ocells b := by simp [ocells]
theorem ocells_at : ∀ {l : List Ops.Po} {j : Nat} (h : j < l.length) {k : Nat}, k < 6 → (ocells l)[j * 6 + k]? = (opc l[j])[k]?
  | o :: l, 0, h, k, hk => by
    have e : ocells (o :: l) = opc o ++ ocells l := by simp [ocells]
    rw [e, List.getElem?_append_left (by simp [opc]; omega)]
    simp
  | o :: l, j + 1, h, k, hk => by
    have e : ocells (o :: l) = opc o ++ ocells l := by simp [ocells]
    have hl : (opc o).length = 6 := rfl
    rw [e, List.getElem?_append_right (by omega), hl, show (j + 1) * 6 + k - 6 = j * 6 + k by omega]
    exact ocells_at (by simpa using h) hk
theorem six {p : Nat → Prop} (h0 : p 0) (h1 : p 1) (h2 : p 2) (h3 : p 3) (h4 : p 4) (h5 : p 5) : ∀ k, k < 6 → p k
  | 0, _ => h0
  | 1, _ => h1
  | 2, _ => h2
  | 3, _ => h3
  | 4, _ => h4
  | 5, _ => h5
  | k + 6, h => by omega
theorem ocells_cell {w : World} {ad : Addr} {l : List Ops.Po} (h : Ops.OL w (some ad) l) : ∀ j u, (ocells l)[j]? = some u → w.cell? (ad.add j) = some u := by
  intro j u hu
  have hj : j < l.length * 6 := by rw [← ocells_length]; exact (List.getElem?_eq_some_iff.1 hu).1
  have hq : j / 6 < l.length := by omega
  have hk : j % 6 < 6 := by omega
  have e : j = j / 6 * 6 + j % 6 := by omega
  obtain ⟨-, g, off, hA, -, a0, a1, a2, a3, a4, a5⟩ := h (j / 6) l[j / 6] (List.getElem?_eq_getElem hq)
  cases hA
  rw [e, ocells_at hq hk] at hu
  rw [e, add_plain]
  generalize j / 6 = q at *
  generalize j % 6 = k at *
  have key : ∀ k, k < 6 → ∀ u, (opc l[q])[k]? = some u → w.cell? ⟨g, off + (q * 6 + k), none⟩ = some u :=
    six (fun u hu => by cases hu; exact a0) (fun u hu => by cases hu; exact a1) (fun u hu => by cases hu; exact a2) (fun u hu => by cases hu; exact a3) (fun u hu => by cases hu; exact a4) (fun u hu => by cases hu; exact a5)
  exact key k hk u hu
theorem info_op : (Tryz.prog.info? 92).map (fun i => (i.zero, i.size, i.bytes)) = some (some (.agg #[.int .i64 0, .int .i64 0, .int .i64 0, .int .i64 0, .string ⟨#[]⟩, .string ⟨#[]⟩]), 6, 64) := by kernel_rfl
theorem run_more {base n : Nat} {e : TypeId} {size : Nat} {v : Value} {xs : List Value} {i : TypeInfo} {w : World} (hi : Tryz.prog.info? 92 = some i) (hown : w.ownsRow base e size v n xs) (c : Nat) :
    (Builtin.append_ #[22, 22] 22 #[v, .slice none 0 c]).run Tryz.prog w = .ok v w := by
  have hu : Tryz.prog.underlying 22 = some (.slice 92) := Tryz.underlying22
  rcases hown.2 with ⟨rfl, rfl⟩ | ⟨g, cap, cur, rfl, _, _, hnc, _⟩
  · simp [Builtin.append_, run_underlying hu, sizeOf, typeInfo, hi, Builtin.lenOf, Builtin.firstCells]
  · simp [Builtin.append_, run_underlying hu, sizeOf, typeInfo, hi, Builtin.lenOf, Builtin.firstCells, hnc, storeCells]
theorem run_ops {base : Nat} {v : Value} {l0 l : List Ops.Po} {A : Option Addr} {w : World} (hown : w.ownsRow base 92 6 v l0.length (ocells l0)) (c : Nat) (hL : Ops.OL w A l) (hl : l0.length + l.length ≤ 1000) (hb : base ≤ w.heap.size) :
    ∃ v' w', (Builtin.append_ #[22, 22] 22 #[v, .slice A l.length c]).run Tryz.prog w = .ok v' w' ∧ w'.ownsRow base 92 6 v' (l0 ++ l).length (ocells (l0 ++ l)) ∧ w.grownBy w' v.ownBlock := by
  have hI := info_op
  cases hi : Tryz.prog.info? 92 with
  | none => rw [hi] at hI; cases hI
  | some i =>
    rw [hi] at hI
    simp only [Option.map_some, Option.some.injEq, Prod.mk.injEq] at hI
    obtain ⟨h1, h2, h3⟩ := hI
    cases A with
    | none =>
      have : l = [] := by
        cases l with
        | nil => rfl
        | cons o l =>
          obtain ⟨-, g, off, hA, -⟩ := hL 0 o rfl
          cases hA
      subst this
      refine ⟨v, w, run_more hi hown c, ?_, grown_refl _ _⟩
      rw [List.append_nil]
      exact hown
    | some ad =>
      obtain ⟨v', w', hr, r1, r2, -, -⟩ := run_append_own_at (P := Tryz.prog) w base 22 22 92 i _ 6 64 Tryz.underlying22 hi h1 h2 h3 rfl (by decide) v l0.length (ocells l0) hown ad l.length c (ocells l) (ocells_length l) (ocells_cell hL) (ocells_one l) (by unfold maxLen; omega) (by omega) hb
      refine ⟨v', w', hr, ?_, r2⟩
      rw [List.length_append, ocells_app]
      exact r1
/-- append, of operations that can be read, onto a row of the call's own. -/
theorem wpList_ops {ops : Array Oper} {rest : List Oper} {o : Oper} {a : Act} {w : World} {Q : Exit → Act → World → Prop} (hgd : o.guard = none) (s x : Operand)
    (ho : o.op = .call { callee := .builtin .append, args := #[s, x], argTypes := #[22, 22] }) (ht : o.type = 22)
    {base : Nat} {v : Value} {l0 l : List Ops.Po} {A : Option Addr} {n : Nat} (hs : a.eval s = v) (hown : w.ownsRow base 92 6 v l0.length (ocells l0)) (c : Nat) (hx : a.eval x = .slice A n c) (hn : l.length = n) (hL : Ops.OL w A l) (hl : l0.length + l.length ≤ 1000) (hb : base ≤ w.heap.size)
    (hK : ∀ v' w', w'.ownsRow base 92 6 v' (l0 ++ l).length (ocells (l0 ++ l)) → w.grownBy w' v.ownBlock → wpList Tryz.prog ops Q rest (a.put o.dst v') w') : wpList Tryz.prog ops Q (o :: rest) a w := by
  subst hn
  refine wpList_plain hgd fun K hK' => ?_
  obtain ⟨v', w', hr, h2, h3⟩ := run_ops hown c hL hl hb
  rw [← ht] at hr
  unfold Oper.wp
  rw [ht] at hr
  simp only [execOp, ho, ht, resolve, invoke, builtin, Sem.run_bind, Sem.run_pure, Result.andThen_ok, List.map_toArray, List.map_cons, List.map_nil, hs, hx, hr]
  exact hK' _ _ (hK v' w' h2 h3)
theorem own_ol {w : World} {base : Nat} {v : Value} {l : List Ops.Po} (h : w.ownsRow base 92 6 v l.length (ocells l)) (hf : ∀ o ∈ l, Ops.Fit o) : ∃ p cap, v = .slice p l.length cap ∧ Ops.OL w p l := by
  rcases h.2 with ⟨rfl, h'⟩ | ⟨g, cap, cur, rfl, hb, hg, h1, h2, -⟩
  · have : l = [] := List.eq_nil_of_length_eq_zero h'
    subst this
    exact ⟨none, 0, rfl, fun i o ho => by simp at ho⟩
  · refine ⟨some ⟨g, 0, none⟩, cap, rfl, fun i o ho => ?_⟩
    obtain ⟨hi, rfl⟩ := List.getElem?_eq_some_iff.1 ho
    have key : ∀ k u, k < 6 → (opc l[i])[k]? = some u → w.cell? ⟨g, 0 + i * 6 + k, none⟩ = some u := fun k u hk hu => by
      have := h.cells rfl _ _ ((ocells_at hi hk).trans hu)
      rw [add_plain] at this
      rw [← this, Nat.add_assoc]
    exact ⟨hf _ (List.getElem_mem hi), g, 0, rfl, (Array.getElem?_eq_some_iff.1 hg).1, key 0 _ (by omega) rfl, key 1 _ (by omega) rfl, key 2 _ (by omega) rfl, key 3 _ (by omega) rfl, key 4 _ (by omega) rfl, key 5 _ (by omega) rfl⟩
theorem ol_fit {w : World} {A : Option Addr} {l : List Ops.Po} (h : Ops.OL w A l) : ∀ o ∈ l, Ops.Fit o := fun o ho => by
  obtain ⟨i, hi, rfl⟩ := List.getElem_of_mem ho
  exact (h i l[i] (List.getElem?_eq_getElem hi)).1
end Go.Proofs.YtaacikjoafobfaaGreatDoor
