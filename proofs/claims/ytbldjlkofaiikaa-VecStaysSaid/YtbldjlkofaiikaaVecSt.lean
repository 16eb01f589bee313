/-
  A change to the same items; append of a list that came in, as one step of a region that draws its order.
-/
import Derived.Test.YtbldjlkofaiikaaVecSa
import Derived.Test.YtbldjlkofaiikaaVecTu
namespace Go.Proofs.Ytbldjlkofaiikaa
open Go.ChangeShapes Go.WideShapes Go.ChangeAt Go.RowKit
set_option linter.unusedVariables false

theorem change_same {n : Nat} {G : Int} {p : Pl} {v : Vc} {l : List Int} {rows : List (List Int)} (hP : PK n G p) (hG : G ≤ 1099511627775) (hv : WF p v l rows) : p.change v l = ⟨p, v, [], 0⟩ := by
  have hr : p.raise rows (lvs l.length) l = some (p, rows) := by rw [← hv.len]; exact raise_same hv.tr
  obtain ⟨a, -⟩ := change_wf hP hG hv hv.small hv.u64 hr
  have h1 : left rows 0 rows = [] := left_same rows []
  rw [a, h1, ← hv.root, ← hv.size]
theorem root_zero {p : Pl} {v : Vc} {l : List Int} {rows : List (List Int)} (hv : WF p v l rows) : v.root = 0 ↔ l.length = 0 := by
  constructor
  · intro h
    apply Decidable.byContradiction
    intro hl
    have hne : rows ≠ [] := fun e => by
      have := hv.len
      rw [e] at this
      exact hl (lvs_zero this.symm)
    have h1 := hv.top hne
    have h2 := tr_mem hv.tr (rows.getLast hne) (List.getLast_mem hne)
    rw [h1] at h2
    exact (h2 v.root (by simp)).2.2 h
  · intro h
    have h1 := hv.len
    rw [h] at h1
    have h2 : rows = [] := List.eq_nil_of_length_eq_zero h1
    rw [hv.root, h2]
    rfl
theorem eh1 (w : World) (a : Obj) : (w.alloc a).heap[w.heap.size]? = some a := heap_alloc_new _ _
theorem eh2a (w : World) (a b : Obj) : ((w.alloc a).alloc b).heap[w.heap.size]? = some a := by rw [heap_alloc_old _ _ (by simp)]; exact heap_alloc_new _ _
theorem eh2b (w : World) (a b : Obj) : ((w.alloc a).alloc b).heap[w.heap.size + 1]? = some b := heap_alloc2_new _ _ _
theorem eh3a (w : World) (a b c : Obj) : (((w.alloc a).alloc b).alloc c).heap[w.heap.size]? = some a := by rw [heap_alloc_old _ _ (by simp; omega)]; exact eh2a _ _ _
theorem eh3b (w : World) (a b c : Obj) : (((w.alloc a).alloc b).alloc c).heap[w.heap.size + 1]? = some b := by rw [heap_alloc_old _ _ (by simp)]; exact eh2b _ _ _
theorem eh3c (w : World) (a b c : Obj) : (((w.alloc a).alloc b).alloc c).heap[w.heap.size + 1 + 1]? = some c := by
  have := heap_alloc2_new (w.alloc a) b c
  rw [show (w.alloc a).heap.size = w.heap.size + 1 by simp] at this
  exact this
/-- An empty list that was laid just now. -/
theorem own_e {w : World} {B n : Nat} {e : TypeId} (h : w.heap[n]? = some (.cells #[] e (0, 0))) (hB : B ≤ n) : w.ownsRow B e 1 (.slice (some ⟨n, 0, none⟩) 0 0) 0 [] :=
  ⟨rfl, .inr ⟨n, 0, #[], rfl, hB, h, Nat.le_refl _, Nat.zero_le _, rfl, rfl⟩⟩
theorem up1 {w : World} {n : Nat} {o : Obj} (h : w.heap[n]? = some o) (o' : Obj) : (w.alloc o').heap[n]? = some o := by
  rw [heap_alloc_old _ _ (lt_of_block h)]; exact h
theorem ne_types {w : World} {a b : Nat} {cs cs' : Array Value} {t t' : TypeId} (h : w.heap[a]? = some (.cells cs t (0, 0))) (h' : w.heap[b]? = some (.cells cs' t' (0, 0))) (hne : t ≠ t') : a ≠ b ∧ b ≠ a := by
  have : a ≠ b := by
    rintro rfl
    rw [h] at h'
    cases h'
    exact hne rfl
  exact ⟨this, Ne.symm this⟩
theorem lt_ne {w : World} {a : Nat} {o : Obj} (h : w.heap[a]? = some o) : a < w.heap.size ∧ a ≠ w.heap.size ∧ w.heap.size ≠ a := by
  have := lt_of_block h
  omega
theorem so {w : World} {n k j : Nat} {o : Obj} {u : Value} (h : w.heap[n]? = some o) (hne : k ≠ n) : (w.setCell ⟨k, j, none⟩ u).heap[n]? = some o := by
  rw [heap_set_other _ _ _ hne]; exact h
theorem alloc' {a w : World} (h : Below a.heap.size a w) (o : Obj) : Below a.heap.size a (w.alloc o) := h.alloc h.size _
/-- A pool, and a list, in two variables: five ways. -/
def Fin (W wx : World) (k8 k9 : Nat) (vg vu vf vc : Value) (p : Pl) (rt : Int) (n : Nat) : Prop := Hid (PX wx k8 vg vu vf vc p) ∧ Hid (VX wx k9 ⟨rt, n⟩) ∧ Hid (Below W.heap.size W wx)
section
variable {W wt : World} {vg vu vf vc : Value} {p : Pl} {rt : Int} {n : Nat}
theorem fin_out {wx : World} {k8 k9 : Nat} (h : Fin W wx k8 k9 vg vu vf vc p rt n) : Hid (PX wx k8 vg vu vf vc p) ∧ Hid (VX wx k9 ⟨rt, n⟩) ∧ Hid (Below W.heap.size W wx) := h
theorem finA1 (hP : PA wt 0 vg vu vf vc p) (hb : Below W.heap.size W wt) : Fin W ((wt.alloc (.cells #[vg, vu, vf, vc] 31)).alloc (.cells #[.int .u64 rt, .int .i64 n] 43)) wt.heap.size (wt.heap.size + 1) vg vu vf vc p rt n :=
  ⟨Lib.hid ⟨eh2a _ _ _, (hP.below ((Below.refl _ _).alloc (Nat.le_refl _) _)).below ((Below.refl _ _).alloc (Nat.le_refl _) _)⟩, Lib.hid (eh2b _ _ _), Lib.hid (alloc' (alloc' hb _) _)⟩
theorem finA2 (hP : PA wt 0 vg vu vf vc p) (hb : Below W.heap.size W wt) : Fin W ((wt.alloc (.cells #[.int .u64 rt, .int .i64 n] 43)).alloc (.cells #[vg, vu, vf, vc] 31)) (wt.heap.size + 1) wt.heap.size vg vu vf vc p rt n :=
  ⟨Lib.hid ⟨eh2b _ _ _, (hP.below ((Below.refl _ _).alloc (Nat.le_refl _) _)).below ((Below.refl _ _).alloc (Nat.le_refl _) _)⟩, Lib.hid (eh2a _ _ _), Lib.hid (alloc' (alloc' hb _) _)⟩
theorem finB {k : Nat} {a b c d : Value} (hP : PA wt 0 vg vu vf vc p) (hb : Below W.heap.size W wt) (h : wt.heap[k]? = some (.cells #[a, b, c, d] 31 (0, 0))) (hk : W.heap.size ≤ k) : Fin W (((((wt.setCell ⟨k, 0, none⟩ vg).setCell ⟨k, 1, none⟩ vu).setCell ⟨k, 2, none⟩ vf).setCell ⟨k, 3, none⟩ vc).alloc (.cells #[.int .u64 rt, .int .i64 n] 43)) k wt.heap.size vg vu vf vc p rt n :=
  ⟨Lib.hid ⟨up1 (heap_s4 h _ _ _ _) _, (hP.set4t h _ _ _ _).below ((Below.refl _ _).alloc (Nat.le_refl _) _)⟩, Lib.hid (alloc_here _ _ _ (by simp)), Lib.hid (alloc' (below_set4 hb hk _ _ _ _) _)⟩
theorem finB2 {k : Nat} {a b c d : Value} (hP : PA wt 0 vg vu vf vc p) (hb : Below W.heap.size W wt) (h : wt.heap[k]? = some (.cells #[a, b, c, d] 31 (0, 0))) (hk : W.heap.size ≤ k) : Fin W (((((wt.alloc (.cells #[.int .u64 rt, .int .i64 n] 43)).setCell ⟨k, 0, none⟩ vg).setCell ⟨k, 1, none⟩ vu).setCell ⟨k, 2, none⟩ vf).setCell ⟨k, 3, none⟩ vc) k wt.heap.size vg vu vf vc p rt n := by
  have h' := up1 h (.cells #[.int .u64 rt, .int .i64 n] 43)
  have hlt := lt_of_block h
  refine ⟨Lib.hid ⟨heap_s4 h' _ _ _ _, (hP.below ((Below.refl _ _).alloc (Nat.le_refl _) _)).set4t h' _ _ _ _⟩, Lib.hid ?_, Lib.hid (below_set4 (alloc' hb _) hk _ _ _ _)⟩
  exact so (so (so (so (eh1 _ _) (by omega)) (by omega)) (by omega)) (by omega)
theorem finC {k : Nat} {a b : Value} (hP : PA wt 0 vg vu vf vc p) (hb : Below W.heap.size W wt) (h : wt.heap[k]? = some (.cells #[a, b] 43 (0, 0))) (hk : W.heap.size ≤ k) : Fin W (((wt.setCell ⟨k, 0, none⟩ (.int .u64 rt)).setCell ⟨k, 1, none⟩ (.int .i64 n)).alloc (.cells #[vg, vu, vf, vc] 31)) wt.heap.size k vg vu vf vc p rt n :=
  ⟨Lib.hid ⟨alloc_here _ _ _ (by simp), (hP.set2t h _ _).below ((Below.refl _ _).alloc (Nat.le_refl _) _)⟩, Lib.hid (up1 (heap_s2 h _ _) _), Lib.hid (alloc' (below_set2 hb hk _ _) _)⟩
theorem finC2 {k : Nat} {a b : Value} (hP : PA wt 0 vg vu vf vc p) (hb : Below W.heap.size W wt) (h : wt.heap[k]? = some (.cells #[a, b] 43 (0, 0))) (hk : W.heap.size ≤ k) : Fin W (((wt.alloc (.cells #[vg, vu, vf, vc] 31)).setCell ⟨k, 0, none⟩ (.int .u64 rt)).setCell ⟨k, 1, none⟩ (.int .i64 n)) wt.heap.size k vg vu vf vc p rt n := by
  have h' := up1 h (.cells #[vg, vu, vf, vc] 31)
  have hlt := lt_of_block h
  refine ⟨Lib.hid ⟨so (so (eh1 _ _) (by omega)) (by omega), (hP.below ((Below.refl _ _).alloc (Nat.le_refl _) _)).set2t h' _ _⟩, Lib.hid (heap_s2 h' _ _), Lib.hid (below_set2 (alloc' hb _) hk _ _)⟩
theorem finD {k k' : Nat} {a b c d e f : Value} (hP : PA wt 0 vg vu vf vc p) (hb : Below W.heap.size W wt) (h : wt.heap[k]? = some (.cells #[a, b, c, d] 31 (0, 0))) (h' : wt.heap[k']? = some (.cells #[e, f] 43 (0, 0))) (hk : W.heap.size ≤ k) (hk' : W.heap.size ≤ k') : Fin W ((((((wt.setCell ⟨k, 0, none⟩ vg).setCell ⟨k, 1, none⟩ vu).setCell ⟨k, 2, none⟩ vf).setCell ⟨k, 3, none⟩ vc).setCell ⟨k', 0, none⟩ (.int .u64 rt)).setCell ⟨k', 1, none⟩ (.int .i64 n)) k k' vg vu vf vc p rt n := by
  obtain ⟨n1, n2⟩ := ne_types h h' (by decide)
  have h2 : ((((wt.setCell ⟨k, 0, none⟩ vg).setCell ⟨k, 1, none⟩ vu).setCell ⟨k, 2, none⟩ vf).setCell ⟨k, 3, none⟩ vc).heap[k']? = some (.cells #[e, f] 43 (0, 0)) := so (so (so (so h' n1) n1) n1) n1
  exact ⟨Lib.hid ⟨so (so (heap_s4 h _ _ _ _) n2) n2, (hP.set4t h _ _ _ _).set2t h2 _ _⟩, Lib.hid (heap_s2 h2 _ _), Lib.hid (below_set2 (below_set4 hb hk _ _ _ _) hk' _ _)⟩
end
/-- What a row of uint64, written, leaves: blocks of other elements. -/
def KeepT (w w' : World) : Prop := ∀ (k : Nat) (cs : Array Value) (t : TypeId), t ≠ 41 → w.heap[k]? = some (.cells cs t (0, 0)) → w'.heap[k]? = some (.cells cs t (0, 0))
theorem step_rl {P : Program} {ops : Array Oper} {o : Oper} {a : Act} {w : World} {K : Act → World → Prop} {Q : Exit → Act → World → Prop} {E : Prop}
    (hgd : o.guard = none) (s x : Operand) (t : TypeId) (ho : o.op = .call { callee := .builtin .append, args := #[s, x], argTypes := #[t, t] })
    (base : Nat) (i : TypeInfo) (z : Value) (bytes : Nat) (ht : P.underlying t = some (.slice 41)) (hi : P.info? 41 = some i) (hz : i.zero = some z)
    (hsize : i.size = 1) (hby : i.bytes = bytes) (hzs : z.cells.size = 1)
    (v : Value) (n : Nat) (xs : List Value) (hs : a.eval s = v) (hown : w.ownsRow base 41 1 v n xs)
    (A : Option Addr) (l : List Int) (c : Nat) (hx : a.eval x = .slice A l.length c) (hR : RL w A l)
    (h63 : n + l.length ≤ maxLen) (hbytes : (n + l.length) * bytes ≤ 140737488355328) (hbase : base ≤ w.heap.size)
    (h : ∀ v' w', w'.ownsRow base 41 1 v' (n + l.length) (xs ++ gvs l) → KeepT w w' → Below base w w' → K (a.put o.dst v') w') :
    if Region.wanted o (yielded ops a.tmps) = true then Oper.wp P o a w K Q else E := by
  have kp : ∀ w', w.grownBy w' v.ownBlock → KeepT w w' ∧ Below base w w' := fun w' hg =>
    ⟨fun k cs t' hne hk => (hg.block k (lt_of_block hk) (Ne.symm (own_apart hown hk (Ne.symm hne)))).trans hk, (Below.refl _ _).grown hg hbase (fun r e => (hown.lt r e).1)⟩
  rcases Nat.eq_zero_or_pos l.length with h0 | h0
  · have hnil : l = [] := List.eq_nil_of_length_eq_zero h0
    subst hnil
    have hw : Region.wanted o (yielded ops a.tmps) = true := by simp [Region.wanted, hgd]
    rw [if_pos hw]
    have hx' : a.eval x = .slice A 0 c := hx
    have hr : (Builtin.append_ #[t, t] o.type #[v, .slice A 0 c]).run P w = .ok v w := by
      rcases hown.2 with ⟨rfl, rfl⟩ | ⟨g, cap, cur, rfl, _, _, hnc, _⟩
      · cases A <;> simp [Builtin.append_, run_underlying ht, sizeOf, typeInfo, hi, Builtin.lenOf, Builtin.firstCells, loadCells, loadCellsFrom]
      · cases A <;> simp [Builtin.append_, run_underlying ht, sizeOf, typeInfo, hi, Builtin.lenOf, Builtin.firstCells, hnc, storeCells, loadCells, loadCellsFrom]
    unfold Oper.wp execOp
    simp only [ho, resolve, invoke, builtin, Sem.run_bind, Sem.run_pure, Result.andThen_ok, List.map_toArray, List.map_cons, List.map_nil, hs, hx', hr]
    obtain ⟨k1, k2⟩ := kp w ⟨rfl, rfl, rfl, Nat.le_refl _, fun _ _ _ => rfl⟩
    exact h v w (by simpa [gvs] using hown) k1 k2
  · obtain ⟨g, off, rfl, hg, hc⟩ := hR h0
    exact step_own hgd s x t ho base 41 i z 1 bytes ht hi hz hsize hby hzs (by decide) v n xs hs hown ⟨g, off, none⟩ l.length c (gvs l) hx (by simp [gvs]) (fun j u hu => by rw [add_plain]; exact hc j u hu) (gvs_one _) h63 hbytes hbase (fun v' w' a b _ => h v' w' a (kp w' b).1 (kp w' b).2)
end Go.Proofs.Ytbldjlkofaiikaa
