/-
  The document's own copy of an arena.
-/
import Derived.Test.YtnhdpaiekcddiaaSlotU
namespace Go.Proofs.Ytnhdpaiekcddiaa
open Go.ChangeShapes Go.WideShapes Go.ChangeAt Go.RowKit
set_option linter.unusedVariables false

/-! ### new blocks, by their numbers -/
theorem eh1 (w : World) (a : Obj) : (w.alloc a).heap[w.heap.size]? = some a := heap_alloc_new _ _
theorem eh2a (w : World) (a b : Obj) : ((w.alloc a).alloc b).heap[w.heap.size]? = some a := by rw [heap_alloc_old _ _ (by simp)]; exact heap_alloc_new _ _
theorem eh2b (w : World) (a b : Obj) : ((w.alloc a).alloc b).heap[w.heap.size + 1]? = some b := heap_alloc2_new _ _ _
theorem eh3a (w : World) (a b c : Obj) : (((w.alloc a).alloc b).alloc c).heap[w.heap.size]? = some a := by rw [heap_alloc_old _ _ (by simp; omega)]; exact eh2a _ _ _
theorem eh3b (w : World) (a b c : Obj) : (((w.alloc a).alloc b).alloc c).heap[w.heap.size + 1]? = some b := by rw [heap_alloc_old _ _ (by simp)]; exact eh2b _ _ _
theorem eh3c (w : World) (a b c : Obj) : (((w.alloc a).alloc b).alloc c).heap[w.heap.size + 1 + 1]? = some c := by
  have := heap_alloc2_new (w.alloc a) b c
  rw [show (w.alloc a).heap.size = w.heap.size + 1 by simp] at this
  exact this
/-- An empty list that was laid just now. -/
theorem own_e {w : World} {B n : Nat} {e : TypeId} (h : w.heap[n]? = some (.cells #[] e (0, 0))) (hB : B ≤ n) : w.ownsRow B e 1 (.slice (some ⟨n, 0, none⟩) 0 0) 0 [] :=
  ⟨rfl, .inr ⟨n, 0, #[], rfl, hB, h, Nat.le_refl _, Nat.zero_le _, rfl, rfl⟩⟩
theorem up1 {w : World} {n : Nat} {o : Obj} (h : w.heap[n]? = some o) (o' : Obj) : (w.alloc o').heap[n]? = some o := by
  rw [heap_alloc_old _ _ (lt_of_block h)]; exact h
/-- Empty lists of other elements stay while one is written. -/
theorem keep_e {w w' : World} {B : Nat} {e : TypeId} {v : Value} {n : Nat} {xs : List Value} (hr : w.ownsRow B e 1 v n xs) (hg : w.grownBy w' v.ownBlock) : ∀ (k : Nat) (t : TypeId), e ≠ t → w.heap[k]? = some (.cells #[] t (0, 0)) → w'.heap[k]? = some (.cells #[] t (0, 0)) := fun k t hne hk =>
  (hg.block k (lt_of_block hk) (Ne.symm (own_apart hr hk hne))).trans hk

/-- What a row of elements e, written, leaves: empty lists of other elements, and rows of other elements. -/
def Keeps (e : TypeId) (w w' : World) : Prop :=
  (∀ (k : Nat) (t : TypeId), e ≠ t → w.heap[k]? = some (.cells #[] t (0, 0)) → w'.heap[k]? = some (.cells #[] t (0, 0))) ∧ (∀ (b : Nat) (t : TypeId) (v : Value) (n : Nat) (xs : List Value), t ≠ e → w.ownsRow b t 1 v n xs → w'.ownsRow b t 1 v n xs)

/-- append of a list that is owned, nil or not, onto a row of the call's own: one step of a region that draws its order. -/
theorem step_any {P : Program} {ops : Array Oper} {o : Oper} {a : Act} {w : World} {K : Act → World → Prop} {Q : Exit → Act → World → Prop} {E : Prop}
    (hgd : o.guard = none) (s x : Operand) (t : TypeId) (ho : o.op = .call { callee := .builtin .append, args := #[s, x], argTypes := #[t, t] })
    (base : Nat) (e : TypeId) (i : TypeInfo) (z : Value) (bytes : Nat) (ht : P.underlying t = some (.slice e)) (hi : P.info? e = some i) (hz : i.zero = some z)
    (hsize : i.size = 1) (hby : i.bytes = bytes) (hzs : z.cells.size = 1)
    (v : Value) (n : Nat) (xs : List Value) (hs : a.eval s = v) (hown : w.ownsRow base e 1 v n xs)
    (b : Nat) (src : Value) (m : Nat) (news : List Value) (hx : a.eval x = src) (hsrc : w.ownsRow b e 1 src m news) (h1 : ∀ u ∈ news, u.oneCell' = true)
    (h63 : n + m ≤ maxLen) (hbytes : (n + m) * bytes ≤ 140737488355328) (hbase : base ≤ w.heap.size)
    (h : ∀ v' w', w'.ownsRow base e 1 v' (n + m) (xs ++ news) → Keeps e w w' → Below base w w' → K (a.put o.dst v') w') :
    if Region.wanted o (yielded ops a.tmps) = true then Oper.wp P o a w K Q else E := by
  have kp : ∀ w', w.grownBy w' v.ownBlock → Keeps e w w' ∧ Below base w w' := fun w' hg =>
    ⟨⟨keep_e hown hg, fun b t v' n' xs' hne hr => hr.kept hg (own_other hr hown hne)⟩, (Below.refl _ _).grown hg hbase (fun r e => (hown.lt r e).1)⟩
  rcases hsrc.2 with ⟨rfl, rfl⟩ | ⟨g, cp, cur, rfl, _⟩
  · have hnil : news = [] := List.eq_nil_of_length_eq_zero (by have := hsrc.1; simpa using this)
    subst hnil
    have hw : Region.wanted o (yielded ops a.tmps) = true := by simp [Region.wanted, hgd]
    rw [if_pos hw]
    have hr : (Builtin.append_ #[t, t] o.type #[v, .slice none 0 0]).run P w = .ok v w := by
      rcases hown.2 with ⟨rfl, rfl⟩ | ⟨g, cap, cur, rfl, _, _, hnc, _⟩
      · simp [Builtin.append_, run_underlying ht, sizeOf, typeInfo, hi, Builtin.lenOf, Builtin.firstCells]
      · simp [Builtin.append_, run_underlying ht, sizeOf, typeInfo, hi, Builtin.lenOf, Builtin.firstCells, hnc, storeCells]
    unfold Oper.wp execOp
    simp only [ho, resolve, invoke, builtin, Sem.run_bind, Sem.run_pure, Result.andThen_ok, List.map_toArray, List.map_cons, List.map_nil, hs, hx, hr]
    obtain ⟨k1, k2⟩ := kp w ⟨rfl, rfl, rfl, Nat.le_refl _, fun _ _ _ => rfl⟩
    exact h v w (by simpa using hown) k1 k2
  · exact step_own hgd s x t ho base e i z 1 bytes ht hi hz hsize hby hzs (by decide) v n xs hs hown ⟨g, 0, none⟩ m cp news hx hsrc.1 (hsrc.cells rfl) h1 h63 hbytes hbase (fun v' w' a b _ => h v' w' a (kp w' b).1 (kp w' b).2)

set_option maxHeartbeats 4000000 in
theorem copied_any (vg vu vf : Value) (s : St) (b : Nat) (w : World) (h : Ar w b vg vu vf s) (hg : s.gens.length ≤ 1000) (hu : s.used.length ≤ 1000) (hf : s.free.length ≤ 1000) :
    Calls Try.prog 26 #[.agg #[vg, vu, vf]] w (GivesSt s w) := by
  obtain ⟨pg, cg, rfl, _, _, _⟩ := own_form h.g
  obtain ⟨pu, cu, rfl, _, _, _⟩ := own_form h.u
  obtain ⟨pf, cf, rfl, _, _, _⟩ := own_form h.f
  have HA := Lib.hid h
  clear h
  obtain ⟨iG, hiG, gz0, gz1, gz2⟩ := info_parts info_G
  obtain ⟨iU, hiU, uz0, uz1, uz2⟩ := info_parts info_U
  obtain ⟨iF, hiF, fz0, fz1, fz2⟩ := info_parts info_F
  have HIG := Lib.hid (And.intro hiG (And.intro gz0 (And.intro gz1 gz2)))
  have HIU := Lib.hid (And.intro hiU (And.intro uz0 (And.intro uz1 uz2)))
  have HIF := Lib.hid (And.intro hiF (And.intro fz0 (And.intro fz1 fz2)))
  clear hiG gz0 gz1 gz2 hiU uz0 uz1 uz2 hiF fz0 fz1 fz2
  go_enter Try.func26, Try.ntmps26
  go_wp2_with fail
  obtain ⟨W, hW⟩ : ∃ W, W = (w.alloc (.cells #[.slice pg s.gens.length cg, .slice pu s.used.length cu, .slice pf s.free.length cf] 33)).alloc (.cells #[.slice none 0 0, .slice none 0 0, .slice none 0 0] 33) := ⟨_, rfl⟩
  have HW : Hid (Below w.heap.size w W ∧ W.heap.size = w.heap.size + 2 ∧ W.heap[w.heap.size]? = some (.cells #[.slice pg s.gens.length cg, .slice pu s.used.length cu, .slice pf s.free.length cf] 33 (0, 0)) ∧ W.heap[w.heap.size + 1]? = some (.cells #[.slice none 0 0, .slice none 0 0, .slice none 0 0] 33 (0, 0))) := Lib.hid (by
    subst hW
    refine ⟨((Below.refl _ w).alloc (Nat.le_refl _) _).alloc (by simp) _, by simp, ?_, heap_alloc2_new _ _ _⟩
    rw [heap_alloc_old _ _ (by simp)]; exact heap_alloc_new w _)
  rw [← hW]
  clear hW
  have HS := Lib.hid HW.out.2.1
  have HAW := Lib.hid (HA.out.below HW.out.1)
  have HCV : Hid (∀ w', Below W.heap.size W w' → w'.cell? ⟨w.heap.size, 0, none⟩ = some (.slice pg s.gens.length cg) ∧ w'.cell? ⟨w.heap.size, 1, none⟩ = some (.slice pu s.used.length cu) ∧ w'.cell? ⟨w.heap.size, 2, none⟩ = some (.slice pf s.free.length cf)) := Lib.hid (fun w' hb => by
    have hk : w'.heap[w.heap.size]? = some (.cells #[.slice pg s.gens.length cg, .slice pu s.used.length cu, .slice pf s.free.length cf] 33 (0, 0)) := (hb.block _ (by have := HS.out; omega)).trans HW.out.2.2.1
    obtain ⟨c0, c1, c2, _⟩ := block3 hk
    exact ⟨c0, c1, c2⟩)
  have HCS : Hid (∀ w' x y z, Below W.heap.size W w' → (((w'.setCell ⟨w.heap.size + 1, 0, none⟩ x).setCell ⟨w.heap.size + 1, 1, none⟩ y).setCell ⟨w.heap.size + 1, 2, none⟩ z).cell? ⟨w.heap.size, 0, none⟩ = some (.slice pg s.gens.length cg) ∧ (((w'.setCell ⟨w.heap.size + 1, 0, none⟩ x).setCell ⟨w.heap.size + 1, 1, none⟩ y).setCell ⟨w.heap.size + 1, 2, none⟩ z).cell? ⟨w.heap.size, 1, none⟩ = some (.slice pu s.used.length cu) ∧ (((w'.setCell ⟨w.heap.size + 1, 0, none⟩ x).setCell ⟨w.heap.size + 1, 1, none⟩ y).setCell ⟨w.heap.size + 1, 2, none⟩ z).cell? ⟨w.heap.size, 2, none⟩ = some (.slice pf s.free.length cf)) := Lib.hid (fun w' x y z hb => by
    have hk : (((w'.setCell ⟨w.heap.size + 1, 0, none⟩ x).setCell ⟨w.heap.size + 1, 1, none⟩ y).setCell ⟨w.heap.size + 1, 2, none⟩ z).heap[w.heap.size]? = some (.cells #[.slice pg s.gens.length cg, .slice pu s.used.length cu, .slice pf s.free.length cf] 33 (0, 0)) := by
      rw [heap_set_other _ _ _ (by simp), heap_set_other _ _ _ (by simp), heap_set_other _ _ _ (by simp)]
      exact (hb.block _ (by have := HS.out; omega)).trans HW.out.2.2.1
    obtain ⟨c0, c1, c2, _⟩ := block3 hk
    exact ⟨c0, c1, c2⟩)
  go_region_held3 (fun w' => w'.cell? ⟨w.heap.size, 0, none⟩ = some (.slice pg s.gens.length cg) ∧ w'.cell? ⟨w.heap.size, 1, none⟩ = some (.slice pu s.used.length cu) ∧ w'.cell? ⟨w.heap.size, 2, none⟩ = some (.slice pf s.free.length cf))
    (first
      | exact HCV.out _ (Below.refl _ _).drew
      | exact HCV.out _ (by first | exact ((Below.refl _ _).alloc (Nat.le_refl _) _).drew | exact (((Below.refl _ _).alloc (Nat.le_refl _) _).alloc (by simp) _).drew | exact ((((Below.refl _ _).alloc (Nat.le_refl _) _).alloc (by simp) _).alloc (by simp; omega) _).drew)
      | exact HCV.out _ (by first | exact HB1.out | exact (HB1.out).alloc HB1.out.size _ | exact ((HB1.out).alloc HB1.out.size _).alloc (by simp; omega) _)
      | exact HCV.out _ (by first | exact HB2.out | exact (HB2.out).alloc HB2.out.size _ | exact ((HB2.out).alloc HB2.out.size _).alloc (by simp; omega) _)
      | exact HCV.out _ HB3.out
      | exact HCS.out _ _ _ _ HB3.out)
    (first
      | (refine step_any rfl (.tmp 3) (.tmp 5) 25 rfl W.heap.size 23 iG (.int .u64 0) 8 Try.underlying25 HIG.out.1 HIG.out.2.1 HIG.out.2.2.1 HIG.out.2.2.2 rfl ?_ 0 [] ?_ ?_ b (.slice pg s.gens.length cg) s.gens.length (gvs s.gens) (by rfl) (own_below HAW.out.g (by first | exact ((Below.refl _ _).alloc (Nat.le_refl _) _).drew | exact (((Below.refl _ _).alloc (Nat.le_refl _) _).alloc (by simp) _).drew | exact ((((Below.refl _ _).alloc (Nat.le_refl _) _).alloc (by simp) _).alloc (by simp; omega) _).drew)) (gvs_one _) (by unfold maxLen; omega) (by omega) (by first | omega | (simp; done) | (simp; omega)) ?_
         rotate_left
         · rfl
         · exact own_e (by first | exact eh1 _ _ | exact eh2a _ _ _ | exact eh2b _ _ _ | exact eh3a _ _ _ _ | exact eh3b _ _ _ _ | exact eh3c _ _ _ _) (by omega)
         intro v1 w1 ho1 hk1 hb1
         have HO1 := Lib.hid ho1
         have HK1 := Lib.hid hk1
         have HB1 : Hid (Below W.heap.size W w1) := Lib.hid (Below.trans (by first | exact ((Below.refl _ _).alloc (Nat.le_refl _) _).drew | exact (((Below.refl _ _).alloc (Nat.le_refl _) _).alloc (by simp) _).drew | exact ((((Below.refl _ _).alloc (Nat.le_refl _) _).alloc (by simp) _).alloc (by simp; omega) _).drew) hb1)
         have hs1 := HB1.out.size
         clear ho1 hk1 hb1)
      | (refine step_any rfl (.tmp 7) (.tmp 9) 26 rfl W.heap.size 4 iU (.bool false) 1 Try.underlying26 HIU.out.1 HIU.out.2.1 HIU.out.2.2.1 HIU.out.2.2.2 rfl ?_ 0 [] ?_ ?_ b (.slice pu s.used.length cu) s.used.length (bvs s.used) (by rfl) (own_below HAW.out.u (by first | exact HB1.out | exact (HB1.out).alloc HB1.out.size _ | exact ((HB1.out).alloc HB1.out.size _).alloc (by simp; omega) _)) (bvs_one _) (by unfold maxLen; omega) (by omega) (by first | omega | (simp; done) | (simp; omega)) ?_
         rotate_left
         · rfl
         · first | exact own_e (by first | exact eh1 _ _ | exact eh2a _ _ _ | exact eh2b _ _ _ | exact eh3a _ _ _ _ | exact eh3b _ _ _ _ | exact eh3c _ _ _ _) (by omega) | exact own_e (HK1.out.1 _ _ (by decide) (by first | exact eh1 _ _ | exact eh2a _ _ _ | exact eh2b _ _ _ | exact eh3a _ _ _ _ | exact eh3b _ _ _ _ | exact eh3c _ _ _ _)) (by omega) | exact own_e (up1 (HK1.out.1 _ _ (by decide) (by first | exact eh1 _ _ | exact eh2a _ _ _ | exact eh2b _ _ _ | exact eh3a _ _ _ _ | exact eh3b _ _ _ _ | exact eh3c _ _ _ _)) _) (by omega)
         intro v2 w2 ho2 hk2 hb2
         have HO2 := Lib.hid ho2
         have HK2 := Lib.hid hk2
         have HO12 : Hid (w2.ownsRow W.heap.size 23 1 v1 (0 + s.gens.length) ([] ++ gvs s.gens)) := Lib.hid (hk2.2 _ _ _ _ _ (by decide) (by first | exact HO1.out | exact HO1.out.alloc _ | exact (HO1.out.alloc _).alloc _))
         have HB2 : Hid (Below W.heap.size W w2) := Lib.hid (Below.trans (by first | exact HB1.out | exact (HB1.out).alloc HB1.out.size _ | exact ((HB1.out).alloc HB1.out.size _).alloc (by simp; omega) _) hb2)
         have hs2 := HB2.out.size
         clear ho2 hk2 hb2)
      | (refine step_any rfl (.tmp 11) (.tmp 13) 27 rfl W.heap.size 3 iF (.int .i64 0) 8 Try.underlying27 HIF.out.1 HIF.out.2.1 HIF.out.2.2.1 HIF.out.2.2.2 rfl ?_ 0 [] ?_ ?_ b (.slice pf s.free.length cf) s.free.length (ivs s.free) (by rfl) (own_below HAW.out.f (by first | exact HB2.out | exact (HB2.out).alloc HB2.out.size _ | exact ((HB2.out).alloc HB2.out.size _).alloc (by simp; omega) _)) (ivs_one _) (by unfold maxLen; omega) (by omega) (by first | omega | (simp; done) | (simp; omega)) ?_
         rotate_left
         · rfl
         · first | exact own_e (by first | exact eh1 _ _ | exact eh2a _ _ _ | exact eh2b _ _ _ | exact eh3a _ _ _ _ | exact eh3b _ _ _ _ | exact eh3c _ _ _ _) (by omega) | exact own_e (HK2.out.1 _ _ (by decide) (by first | exact eh1 _ _ | exact eh2a _ _ _ | exact eh2b _ _ _ | exact eh3a _ _ _ _ | exact eh3b _ _ _ _ | exact eh3c _ _ _ _)) (by omega) | exact own_e (HK2.out.1 _ _ (by decide) (HK1.out.1 _ _ (by decide) (by first | exact eh1 _ _ | exact eh2a _ _ _ | exact eh2b _ _ _ | exact eh3a _ _ _ _ | exact eh3b _ _ _ _ | exact eh3c _ _ _ _))) (by omega) | exact own_e (HK2.out.1 _ _ (by decide) (up1 (HK1.out.1 _ _ (by decide) (by first | exact eh1 _ _ | exact eh2a _ _ _ | exact eh2b _ _ _ | exact eh3a _ _ _ _ | exact eh3b _ _ _ _ | exact eh3c _ _ _ _)) _)) (by omega)
         intro v3 w3 ho3 hk3 hb3
         obtain ⟨p3, k3, rfl, -, -, -⟩ := own_form ho3
         have HO3 := Lib.hid ho3
         have HO13 : Hid (w3.ownsRow W.heap.size 23 1 v1 (0 + s.gens.length) ([] ++ gvs s.gens)) := Lib.hid (hk3.2 _ _ _ _ _ (by decide) (by first | exact HO12.out | exact HO12.out.alloc _))
         have HO23 : Hid (w3.ownsRow W.heap.size 4 1 v2 (0 + s.used.length) ([] ++ bvs s.used)) := Lib.hid (hk3.2 _ _ _ _ _ (by decide) (by first | exact HO2.out | exact HO2.out.alloc _))
         obtain ⟨p1, k1, rfl, -, -, -⟩ := own_form HO13.out
         obtain ⟨p2, k2, rfl, -, -, -⟩ := own_form HO23.out
         have HB3 : Hid (Below W.heap.size W w3) := Lib.hid (Below.trans (by first | exact HB2.out | exact (HB2.out).alloc HB2.out.size _ | exact ((HB2.out).alloc HB2.out.size _).alloc (by simp; omega) _) hb3)
         have hs3 := HB3.out.size
         have HT3 : Hid (w3.heap[w.heap.size + 1]? = some (.cells #[.slice none 0 0, .slice none 0 0, .slice none 0 0] 33 (0, 0))) := Lib.hid ((HB3.out.block _ (by have := HS.out; omega)).trans HW.out.2.2.2)
         obtain ⟨d0, d1, d2, y0, y1, y2⟩ := block3 HT3.out
         clear ho3 hk3 hb3))
  all_goals
    go_wp2
    have hs := HS.out
    refine bodyPost_ret (v := .agg #[.slice p1 s.gens.length k1, .slice p2 s.used.length k2, .slice p3 s.free.length k3]) (by simp [results, Try.results26, go_sem, d0, d1, d2]) rfl ⟨_, _, _, rfl, Ar.drop (Ar.set3 (b := W.heap.size) ⟨?_, ?_, ?_⟩ (by omega) _ _ _) (by omega), ?_⟩
    · have := HO13.out; rw [Nat.zero_add, List.nil_append] at this; exact this
    · have := HO23.out; rw [Nat.zero_add, List.nil_append] at this; exact this
    · have := HO3.out; rw [Nat.zero_add, List.nil_append] at this; exact this
    · exact below_set3 (HW.out.1.trans (HB3.out.mono (by omega))) (by omega) _ _ _
end Go.Proofs.Ytnhdpaiekcddiaa
