/-
  Words for the law SlotsOnce: a map of what was seen; a list that grows, and loses one.
-/
import Derived.Test.YtnhdpaiekcddiaaSlotT
import Derived.Maps.OwnOps
import Derived.Maps.OwnSet
import Derived.Maps.Views
namespace Go.Proofs.Ytnhdpaiekcddiaa
open Go.ChangeShapes Go.WideShapes Go.ChangeAt Go.RowKit Go.Maps
set_option linter.unusedVariables false

theorem lawK : Keyed Try.prog 23 := int_keyed Try.underlying23
theorem zeroI (w : World) : (zeroValue 3).run Try.prog w = .ok (.int .i64 0) w := by kernel_rfl
theorem keyU {h : Int} (h0 : 0 ≤ h) (h1 : h ≤ 18446744073709551615) : keyOf Try.prog 23 (.int .u64 h) = some (.int .u64 h) :=
  keyOf_int_mk Try.underlying23 (by simp [Lit.wf, IntKind.min, IntKind.max, IntKind.signed, IntKind.bits]; omega)

/-- A handle that was told: of its slot's generation, or an elder one. -/
def Old (n : Nat) (s : St) (h : Int) : Prop := ∃ i : Nat, h % 16777216 = i ∧ i < n ∧ h / 16777216 ≤ s.gens.getD i 0 ∧ (s.used.getD i false = false → h / 16777216 < s.gens.getD i 0)
theorem Old.tk {n : Nat} {s : St} {h : Int} {i : Nat} (ho : Old n s h) : Old n (s.tk i) h := by
  obtain ⟨j, hj, hn, hg, hu⟩ := ho
  refine ⟨j, hj, hn, hg, fun hf => hu ?_⟩
  have hf' : (s.used.set i true).getD j false = false := hf
  rw [getD_set] at hf'
  split at hf'
  · cases hf'
  · exact hf'
theorem Old.gb {n : Nat} {G : Int} {s : St} {h : Int} {i : Nat} {g : Int} (hO : Ok n G s) (ho : Old n s h) (hg : s.gens.getD i 0 < g) : Old n (s.gb i g) h := by
  obtain ⟨j, hj, hn, hle, hu⟩ := ho
  have e1 : (s.gb i g).gens.getD j 0 = if i = j ∧ i < s.gens.length then g else s.gens.getD j 0 := getD_set _ _ _ _ _
  have e2 : (s.gb i g).used.getD j false = if i = j ∧ i < s.used.length then false else s.used.getD j false := getD_set _ _ _ _ _
  refine ⟨j, hj, hn, ?_, ?_⟩
  · rw [e1]; split
    · rename_i hc; obtain ⟨rfl, _⟩ := hc; omega
    · exact hle
  · rw [e1, e2]
    intro hf
    split
    · rename_i hc; obtain ⟨rfl, _⟩ := hc; omega
    · rename_i hc
      split at hf
      · rename_i hc2; exact absurd ⟨hc2.1, by rw [hO.gens, ← hO.used]; exact hc2.2⟩ hc
      · exact hu hf
theorem Old.new {n : Nat} {s : St} {i : Nat} (hi : i < n) (hn : n ≤ 500) (hl : s.used.length = n) : Old n (s.tk i) (hd i (s.gens.getD i 0)) := by
  refine ⟨i, hd_index (by omega), hi, by rw [hd_gen (by omega)]; exact Int.le_refl _, fun hf => ?_⟩
  have hf' : (s.used.set i true).getD i false = false := hf
  rw [getD_set, if_pos ⟨rfl, by omega⟩] at hf'
  cases hf'
theorem not_old {n : Nat} {s : St} {i : Nat} (hi : i < 16777216) (hu : s.used.getD i false = false) : ¬ Old n s (hd i (s.gens.getD i 0)) := by
  rintro ⟨j, hj, _, _, hlt⟩
  rw [hd_index hi] at hj
  obtain rfl : i = j := by omega
  have := hlt hu
  rw [hd_gen hi] at this
  omega
/-- What the map says: it has none but such that were told. -/
def Says (n : Nat) (s : St) (D : DataW Unit) : Prop := ∀ h : Int, ¬ Old n s h → D.atKey (.int .u64 h) (.lit (.int .i64 0)) = .lit (.int .i64 0)
theorem Says.none (n : Nat) (s : St) : Says n s (.map []) := fun h _ => rfl
theorem Says.mono {n : Nat} {s s' : St} {D : DataW Unit} (h : Says n s D) (hm : ∀ x, Old n s x → Old n s' x) : Says n s' D := fun x hx => h x (fun ho => hx (hm x ho))
theorem Says.put {n : Nat} {s : St} {D : DataW Unit} {x : Int} (h : Says n s D) (hx : Old n s x) (d : DataW Unit) : Says n s (D.put (.int .u64 x) d) := fun y hy => by
  rw [atKey_put_other (by intro e; injection e with _ e; subst e; exact hy hx)]
  exact h y hy

theorem map_below {w w' : World} {b n : Nat} {D : DataW Unit} (h : w.ownsMap Try.prog 23 (plainElem Try.prog 3) b n D) (hb : Below w.heap.size w w') : w'.ownsMap Try.prog 23 (plainElem Try.prog 3) b n D :=
  h.kept ⟨hb.os, hb.tape, hb.output, hb.size, fun k hk _ => hb.block k hk⟩ (row := none) (by simp)
theorem map_ne {w : World} {b n k : Nat} {D : DataW Unit} {cs : Array Value} {t : TypeId} (h : w.ownsMap Try.prog 23 (plainElem Try.prog 3) b n D) (hk : w.heap[k]? = some (.cells cs t (0, 0))) : b ≠ k := by
  obtain ⟨es, c, hm, _⟩ := h
  rintro rfl
  rw [hm] at hk
  cases hk
theorem map_row {w : World} {b n base : Nat} {D : DataW Unit} {e : TypeId} {v : Value} {m : Nat} {xs : List Value} (h : w.ownsMap Try.prog 23 (plainElem Try.prog 3) b n D) (hr : w.ownsRow base e 1 v m xs) : v.ownBlock ≠ some b := by
  obtain ⟨es, c, hm, _⟩ := h
  rcases hr.2 with ⟨rfl, _⟩ | ⟨g, cap, cur, rfl, _, hg, _⟩
  · simp [Value.ownBlock]
  · intro e
    obtain rfl : g = b := by simpa [Value.ownBlock] using e
    rw [hm] at hg
    cases hg
theorem map_set3 {w : World} {b n k : Nat} {D : DataW Unit} (h : w.ownsMap Try.prog 23 (plainElem Try.prog 3) b n D) (hk : b ≠ k) (x y z : Value) : (((w.setCell ⟨k, 0, none⟩ x).setCell ⟨k, 1, none⟩ y).setCell ⟨k, 2, none⟩ z).ownsMap Try.prog 23 (plainElem Try.prog 3) b n D :=
  ((h.setCell (a := ⟨k, 0, none⟩) hk x).setCell (a := ⟨k, 1, none⟩) hk y).setCell (a := ⟨k, 2, none⟩) hk z
/-- An arena stays while a block that is none of its lists' is written. -/
theorem Ar.grown {w w' : World} {b : Nat} {vg vu vf : Value} {s : St} {row : Option Nat} (h : Ar w b vg vu vf s) (hg : w.grownBy w' row) (h1 : vg.ownBlock = none ∨ vg.ownBlock ≠ row) (h2 : vu.ownBlock = none ∨ vu.ownBlock ≠ row) (h3 : vf.ownBlock = none ∨ vf.ownBlock ≠ row) : Ar w' b vg vu vf s :=
  ⟨h.g.kept hg h1, h.u.kept hg h2, h.f.kept hg h3⟩
theorem Box.grown {t : TypeId} {w w' : World} {k : Nat} {pg : Option Addr} {cg : Nat} {pu : Option Addr} {cu : Nat} {pf : Option Addr} {cf : Nat} {s : St} {row : Option Nat} (h : Box t w k pg cg pu cu pf cf s) (hg : w.grownBy w' row) (hk : some k ≠ row)
    (h1 : (Value.slice pg s.gens.length cg).ownBlock ≠ row) (h2 : (Value.slice pu s.used.length cu).ownBlock ≠ row) (h3 : (Value.slice pf s.free.length cf).ownBlock ≠ row) : Box t w' k pg cg pu cu pf cf s :=
  ⟨(hg.block k (lt_of_block h.blk) hk).trans h.blk, h.ar.grown hg (.inr h1) (.inr h2) (.inr h3)⟩

theorem Box.grown2 {t : TypeId} {w w' : World} {k : Nat} {pg : Option Addr} {cg : Nat} {pu : Option Addr} {cu : Nat} {pf : Option Addr} {cf : Nat} {s : St} {row : Option Nat} (h : Box t w k pg cg pu cu pf cf s) (hg : w.grownBy w' row) (hk : some k ≠ row)
    (h1 : (Value.slice pg s.gens.length cg).ownBlock = none ∨ (Value.slice pg s.gens.length cg).ownBlock ≠ row) (h2 : (Value.slice pu s.used.length cu).ownBlock = none ∨ (Value.slice pu s.used.length cu).ownBlock ≠ row) (h3 : (Value.slice pf s.free.length cf).ownBlock = none ∨ (Value.slice pf s.free.length cf).ownBlock ≠ row) : Box t w' k pg cg pu cu pf cf s :=
  ⟨(hg.block k (lt_of_block h.blk) hk).trans h.blk, h.ar.grown hg h1 h2 h3⟩
theorem own_len {p : Option Addr} {n n' c c' : Nat} {r : Nat} (h : (Value.slice p n c).ownBlock = some r) : (Value.slice p n' c').ownBlock = some r := by
  cases p with
  | none => exact h
  | some a => exact h
theorem apart_or {a b : Option Nat} (h : ∀ r, a = some r → b ≠ some r) : b = none ∨ b ≠ a := by
  cases hb : b with
  | none => exact .inl rfl
  | some r => exact .inr (fun e => h r e.symm hb)
theorem own_other {w : World} {base base' : Nat} {e t : TypeId} {v v' : Value} {n n' : Nat} {xs xs' : List Value} (h : w.ownsRow base e 1 v n xs) (h' : w.ownsRow base' t 1 v' n' xs') (hne : e ≠ t) : v.ownBlock = none ∨ v.ownBlock ≠ v'.ownBlock :=
  apart_or (fun r hr => own_apart2 h h' hr hne)

/-- 's[j+1:]' of a list that lies at a block's head: where it lies, and what it holds. -/
theorem slice_from {A cap ℓ j : Nat} (hj : j < ℓ) (hc : ℓ ≤ cap) : ∃ ad : Addr, (∀ W, Sem.run Try.prog (Instr.slice 25 (.slice (some ⟨A, 0, none⟩) ℓ cap) (some (.int .i64 ((j : Int) + 1))) none none) W = .ok (.slice (some ad) (ℓ - (j + 1)) (cap - (j + 1))) W) ∧
    ∀ (W : World) (xs : List Value), (∀ r u, xs[r]? = some u → W.cell? ((⟨A, 0, none⟩ : Addr).add r) = some u) → ∀ r u, (xs.drop (j + 1))[r]? = some u → xs.length = ℓ → W.cell? (ad.add r) = some u := by
  have hsz : ∀ W : World, (sizeOf 23).run Try.prog W = .ok 1 W := fun W => by
    obtain ⟨i0, hi, _, hz1, _⟩ := info_parts info_G
    simp [sizeOf, typeInfo, hi, hz1]
  refine ⟨if cap = j + 1 then ⟨A, 0, none⟩ else ⟨A, j + 1, none⟩, fun W => ?_, fun W xs hc r u hu hl => ?_⟩
  · rw [run_slice_l (P := Try.prog) W 25 (some ⟨A, 0, none⟩) ℓ cap Try.underlying25 .i64 ((j : Int) + 1) (by omega) (by omega)]
    rw [show ((sizeOf (Try.prog.elem 25)).run Try.prog W) = .ok 1 W from hsz W]
    have e : ((j : Int) + 1).toNat = j + 1 := by omega
    simp only [Result.andThen, sliced, e, Nat.mul_one]
    split
    · rename_i h; simp [h]
    · simp [add_plain]
  · rw [List.getElem?_drop] at hu
    have hlt : j + 1 + r < xs.length := by
      rcases Nat.lt_or_ge (j + 1 + r) xs.length with h | h
      · exact h
      · rw [List.getElem?_eq_none h] at hu; cases hu
    rw [if_neg (by omega), add_plain]
    have := hc (j + 1 + r) u hu
    rw [add_plain, Nat.zero_add] at this
    exact this

/-- append onto a row of the call's own, as one step of a region that draws its order. -/
theorem step_own {P : Program} {ops : Array Oper} {o : Oper} {a : Act} {w : World} {K : Act → World → Prop} {Q : Exit → Act → World → Prop} {E : Prop}
    (hgd : o.guard = none) (s x : Operand) (t : TypeId) (ho : o.op = .call { callee := .builtin .append, args := #[s, x], argTypes := #[t, t] })
    (base : Nat) (e : TypeId) (i : TypeInfo) (z : Value) (size bytes : Nat) (ht : P.underlying t = some (.slice e)) (hi : P.info? e = some i) (hz : i.zero = some z)
    (hsize : i.size = size) (hby : i.bytes = bytes) (hzs : z.cells.size = size) (hsz : 0 < size)
    (v : Value) (n : Nat) (xs : List Value) (hs : a.eval s = v) (hown : w.ownsRow base e size v n xs)
    (ad : Addr) (m c : Nat) (news : List Value) (hx : a.eval x = .slice (some ad) m c) (hl : news.length = m * size) (hnews : ∀ j u, news[j]? = some u → w.cell? (ad.add j) = some u) (h1 : ∀ u ∈ news, u.oneCell' = true)
    (h63 : n + m ≤ maxLen) (hbytes : (n + m) * bytes ≤ 140737488355328) (hbase : base ≤ w.heap.size)
    (h : ∀ v' w', w'.ownsRow base e size v' (n + m) (xs ++ news) → w.grownBy w' v.ownBlock → (v'.ownBlock = v.ownBlock ∨ v'.ownBlock = some w.heap.size) → K (a.put o.dst v') w') :
    if Region.wanted o (yielded ops a.tmps) = true then Oper.wp P o a w K Q else E := by
  have hw : Region.wanted o (yielded ops a.tmps) = true := by simp [Region.wanted, hgd]
  rw [if_pos hw]
  obtain ⟨v', w', hr, h2, h3, _, h5⟩ := run_append_own_at (P := P) w base t o.type e i z size bytes ht hi hz hsize hby hzs hsz v n xs hown ad m c news hl hnews h1 h63 hbytes hbase
  unfold Oper.wp execOp
  simp only [ho, resolve, invoke, builtin, Sem.run_bind, Sem.run_pure, Result.andThen_ok, List.map_toArray, List.map_cons, List.map_nil, hs, hx, hr]
  exact h v' w' h2 h3 h5
end Go.Proofs.Ytnhdpaiekcddiaa
