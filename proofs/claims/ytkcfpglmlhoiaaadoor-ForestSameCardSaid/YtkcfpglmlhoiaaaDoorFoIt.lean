/-
  The reference's forest out of ours: words.
-/
import Derived.Test.YtkcfpglmlhoiaaaDoorFoBe
import Derived.Test.YtkcfpglmlhoiaaaDoorFoX
import Derived.Deep.RegionHeld3
import Derived.BigRegion
import Derived.Deep.RegionLaw
namespace Go.Proofs.YtkcfpglmlhoiaaaDoor
open Go.ChangeShapes Go.WideShapes Go.ChangeAt Go.RowKit
set_option linter.unusedVariables false
set_option linter.unusedSimpArgs false

def at2 (a : ByteArray × ByteArray) : List Value := [.string a.1, .string a.2]
def acells (l : List (ByteArray × ByteArray)) : List Value := l.flatMap at2
theorem acells_length (l : List (ByteArray × ByteArray)) : (acells l).length = l.length * 2 := by
  induction l with
  | nil => rfl
  | cons m l ih => rw [acells, List.flatMap_cons, List.length_append]; rw [acells] at ih; rw [ih]; simp [at2]; omega
theorem acells_one (l : List (ByteArray × ByteArray)) : ∀ u ∈ acells l, u.oneCell' = true := by
  intro u hu
  obtain ⟨m, -, hm⟩ := List.mem_flatMap.1 hu
  simp only [at2, List.mem_cons, List.not_mem_nil, or_false] at hm
  rcases hm with rfl | rfl <;> rfl
theorem acells_take {l : List (ByteArray × ByteArray)} {j : Nat} (h : j < l.length) : acells (l.take (j + 1)) = acells (l.take j) ++ at2 l[j] := by
  rw [take_more h, acells, acells, List.flatMap_append]
  simp
theorem fcells_take {l : List Mn} {m : Mn} : fcells (l ++ [m]) = fcells l ++ ncells m := by
  rw [fcells, fcells, List.flatMap_append]
  simp
theorem acells_at : ∀ {l : List (ByteArray × ByteArray)} {j : Nat}, j < l.length → (acells l)[j * 2]? = some (.string (l.getD j default).1) ∧ (acells l)[j * 2 + 1]? = some (.string (l.getD j default).2)
  | a :: l, 0, h => by simp [acells, at2]
  | a :: l, j + 1, h => by
    have := acells_at (l := l) (j := j) (by simpa using h)
    have e : acells (a :: l) = at2 a ++ acells l := by simp [acells]
    rw [e, List.getElem?_append_right (by simp [at2]; omega), List.getElem?_append_right (by simp [at2]; omega)]
    simp only [at2, List.length_cons, List.length_nil]
    rw [show (j + 1) * 2 - (0 + 1 + 1) = j * 2 by omega, show (j + 1) * 2 + 1 - (0 + 1 + 1) = j * 2 + 1 by omega]
    simpa using this
/-- A row of attributes that is owned can be read. -/
theorem own_ar {w : World} {base : Nat} {t : TypeId} {v : Value} {l : List (ByteArray × ByteArray)} (h : w.ownsRow base t 2 v l.length (acells l)) : ∃ p cap, v = .slice p l.length cap ∧ l.length ≤ cap ∧ cap ≤ maxLen ∧ AR w p l := by
  rcases h.2 with ⟨rfl, h'⟩ | ⟨g, cap, cur, rfl, hb, hg, h1, h2, -⟩
  · have : l = [] := List.eq_nil_of_length_eq_zero h'
    subst this
    exact ⟨none, 0, rfl, Nat.le_refl _, by simp [maxLen], fun j hj => absurd hj (by simp)⟩
  · refine ⟨some ⟨g, 0, none⟩, cap, rfl, h1, h2, fun j hj => ⟨g, 0, rfl, (Array.getElem?_eq_some_iff.1 hg).1, ?_, ?_⟩⟩
    · have := h.cells rfl _ _ (acells_at hj).1
      rw [← this, show (⟨g, 0, none⟩ : Addr).add (j * 2) = ⟨g, 0 + j * 2, none⟩ by unfold Addr.add; split <;> simp_all]
    · have := h.cells rfl _ _ (acells_at hj).2
      rw [← this, show (⟨g, 0, none⟩ : Addr).add (j * 2 + 1) = ⟨g, 0 + j * 2 + 1, none⟩ by unfold Addr.add; split <;> simp_all]
/-- What a node says, without where its lists lie. -/
def core (m : Mn) : Mn := { m with aA := none, aC := 0, kA := none, kC := 0 }
theorem own_apart2 {w : World} {base base' s s' : Nat} {e t : TypeId} {v v' : Value} {n n' : Nat} {xs xs' : List Value} (h : w.ownsRow base e s v n xs) (h' : w.ownsRow base' t s' v' n' xs') (hne : e ≠ t) : v.ownBlock = none ∨ v.ownBlock ≠ v'.ownBlock := by
  rcases h'.2 with ⟨rfl, -⟩ | ⟨g, cap, cur, rfl, -, hg, -⟩
  · rcases hv : v.ownBlock with _ | k
    · exact .inl rfl
    · exact .inr (by simp [Value.ownBlock])
  · exact .inr (by simpa [Value.ownBlock] using own_apart h hg hne)
theorem info_rn : (Tryd.prog.info? 48).map (fun i => (i.zero, i.size, i.bytes)) = some (some (.agg #[.int .i64 0, .string ⟨#[]⟩, .string ⟨#[]⟩, .slice none 0 0, .int .i64 0, .slice none 0 0]), 6, 96) := by kernel_rfl
theorem info_ra : (Tryd.prog.info? 49).map (fun i => (i.zero, i.size, i.bytes)) = some (some (.agg #[.string ⟨#[]⟩, .string ⟨#[]⟩]), 2, 32) := by kernel_rfl
/-- A node of the copy: its kids lie where they lay, its attributes in a row of the call's own. -/
structure Cop (w V : World) (base : Nat) (m : Mn) : Prop where
  fit : Fit m
  ir : IR w m.kA m.kids
  ar : V.ownsRow base 49 2 (.slice m.aA m.attrs.length m.aC) m.attrs.length (acells m.attrs)
theorem Cop.kept {w V W : World} {base : Nat} {m : Mn} {row : Option Nat} (h : Cop w V base m) (hg : V.grownBy W row) (hr : (Value.slice m.aA m.attrs.length m.aC).ownBlock = none ∨ (Value.slice m.aA m.attrs.length m.aC).ownBlock ≠ row) : Cop w W base m :=
  ⟨h.fit, h.ir, h.ar.kept hg hr⟩
theorem Cop.below {w V W : World} {base : Nat} {m : Mn} (h : Cop w V base m) (hb : Below V.heap.size V W) : Cop w W base m := ⟨h.fit, h.ir, own_below h.ar hb⟩
theorem two_new (w : World) (a : ByteArray × ByteArray) (t : TypeId) : ∀ j u, (at2 a)[j]? = some u → (w.alloc (.cells #[.string a.1, .string a.2] t)).cell? ((⟨w.heap.size, 0, none⟩ : Addr).add j) = some u := by
  intro j u hu
  rw [add_plain, Nat.zero_add]
  obtain ⟨h1, h2⟩ := block2 (heap_alloc_new w (.cells #[.string a.1, .string a.2] t))
  match j, hu with
  | 0, hu => cases hu; exact h1
  | 1, hu => cases hu; exact h2
  | j + 2, hu => simp [at2] at hu
/-- append onto a row of the call's own: one step of a region that draws its order. -/
theorem step_own {P : Program} {ops : Array Oper} {o : Oper} {a : Act} {w : World} {K : Act → World → Prop} {Q : Exit → Act → World → Prop} {E : Prop}
    (hgd : o.guard = none) (s x : Operand) (t : TypeId) (ho : o.op = .call { callee := .builtin .append, args := #[s, x], argTypes := #[t, t] })
    (base : Nat) (e : TypeId) (i : TypeInfo) (z : Value) (size bytes : Nat) (ht : P.underlying t = some (.slice e)) (hi : P.info? e = some i) (hz : i.zero = some z)
    (hsize : i.size = size) (hby : i.bytes = bytes) (hzs : z.cells.size = size) (hsz : 0 < size)
    (v : Value) (n : Nat) (xs : List Value) (hs : a.eval s = v) (hown : w.ownsRow base e size v n xs)
    (ad : Addr) (m c : Nat) (news : List Value) (hx : a.eval x = .slice (some ad) m c) (hl : news.length = m * size) (hnews : ∀ j u, news[j]? = some u → w.cell? (ad.add j) = some u) (h1 : ∀ u ∈ news, u.oneCell' = true)
    (h63 : n + m ≤ maxLen) (hbytes : (n + m) * bytes ≤ 140737488355328) (hbase : base ≤ w.heap.size)
    (h : ∀ v' w', w'.ownsRow base e size v' (n + m) (xs ++ news) → w.grownBy w' v.ownBlock → (v'.ownBlock = v.ownBlock ∨ v'.ownBlock = some w.heap.size) → K (a.put o.dst v') w') :
    if Region.wanted o (yielded ops a.tmps) = true then Oper.wp P o a w K Q else E := by
  have hw : Region.wanted o (yielded ops a.tmps) = true := by simp [Region.wanted, hgd]
  rw [if_pos hw]
  obtain ⟨v', w', hr, h2, h3, _, h5⟩ := run_append_own_at (P := P) w base t o.type e i z size bytes ht hi hz hsize hby hzs hsz v n xs hown ad m c news hl hnews h1 h63 hbytes hbase
  unfold Oper.wp execOp
  simp only [ho, resolve, invoke, builtin, Sem.run_bind, Sem.run_pure, Result.andThen_ok, List.map_toArray, List.map_cons, List.map_nil, hs, hx, hr]
  exact h v' w' h2 h3 h5
theorem own_form2 {w : World} {base size : Nat} {e : TypeId} {v : Value} {n : Nat} {xs : List Value} (h : w.ownsRow base e size v n xs) : ∃ p cap, v = .slice p n cap ∧ n ≤ cap ∧ cap ≤ maxLen := by
  rcases h.2 with ⟨rfl, rfl⟩ | ⟨g, cap, cur, rfl, _, _, hnc, hcm, _⟩
  · exact ⟨none, 0, rfl, Nat.le_refl _, by simp [maxLen]⟩
  · exact ⟨_, cap, rfl, hnc, hcm⟩
theorem own_mono {w : World} {base base' : Nat} {e : TypeId} {size n : Nat} {v : Value} {xs : List Value} (h : w.ownsRow base e size v n xs) (hb : base' ≤ base) : w.ownsRow base' e size v n xs := by
  refine ⟨h.1, ?_⟩
  rcases h.2 with h' | ⟨g, cap, cur, h1, h2, h3, h4⟩
  · exact .inl h'
  · exact .inr ⟨g, cap, cur, h1, Nat.le_trans hb h2, h3, h4⟩
theorem cop_fr {w V : World} {base j cap : Nat} {p : Option Addr} {G : List Mn} (h : V.ownsRow base 48 6 (.slice p j cap) j (fcells G)) (hC : ∀ m ∈ G, Cop w V base m) (hb : Below w.heap.size w V) : FR V p G := by
  have hl := h.1
  rw [fcells_length] at hl
  intro i m hm
  obtain ⟨hi, -⟩ := List.getElem?_eq_some_iff.1 hm
  rcases h.2 with ⟨-, h'⟩ | ⟨g, cap', cur, hv, hbg, hg, h1, h2, h3, h4⟩
  · omega
  · cases hv
    have hr : RowAt V g 0 G := cells_row (fun j u hu => by
      have := h.cells rfl j u hu
      rw [← this, show (⟨g, 0, none⟩ : Addr).add j = ⟨g, 0 + j, none⟩ by unfold Addr.add; split <;> simp_all])
    have hc := hr i m hm
    have hm' := hC m (List.mem_of_getElem? hm)
    obtain ⟨q, c, hv, -, -, ha⟩ := own_ar hm'.ar
    cases hv
    exact ⟨hm'.fit, g, 0, rfl, (Array.getElem?_eq_some_iff.1 hg).1, ⟨hc.c0, hc.c1, hc.c2, hc.c3, hc.c4, hc.c5, ha, hm'.ir.below hb⟩⟩
end Go.Proofs.YtkcfpglmlhoiaaaDoor
