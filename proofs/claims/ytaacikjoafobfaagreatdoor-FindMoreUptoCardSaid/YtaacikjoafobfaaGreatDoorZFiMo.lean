/-
  The law FindMore's mathematics and its worlds: a test more, a step more.
-/
import Derived.Test.YtaacikjoafobfaaGreatDoorG44
import Derived.Test.YtaacikjoafobfaaGreatDoorG18
namespace Go.Proofs.YtaacikjoafobfaaGreatDoor.Fi
open Go.ChangeShapes Go.WideShapes Go.ChangeAt Go.RowKit
open Sx (Tr Ms Mr TR MR XR tV r1 ls te stp rws cx cl cx_iff tcells t3 tcells_at tr_of)
set_option linter.unusedVariables false
set_option linter.unusedSimpArgs false

theorem wayU_hd {F : List Mn} {i : Nat} (hi : i < F.length) : ∃ up, wayU F i = F[i] :: up := by
  unfold wayU
  obtain ⟨n, hn⟩ : ∃ n, F.length = n + 1 := ⟨F.length - 1, by omega⟩
  rw [hn, wayL_at hi]
  exact ⟨_, rfl⟩
theorem isP_one {F : List Mn} {i : Nat} (hi : i < F.length) (P Q : Option Addr) (p q : Nat) (a : List Tr) (ca : Bool) : isP F [((P, p), [((Q, q), (a, ca))])] i = fitsB F[i] a := by
  obtain ⟨up, e⟩ := wayU_hd hi
  unfold isP
  rw [e]
  simp [rowB, eD]
theorem isP_two {F : List Mn} {i : Nat} (hi : i < F.length) (P Q R : Option Addr) (p q r : Nat) (a b : List Tr) (ca ch : Bool) (h : fitsB F[i] b = false) : isP F [((P, p), [((Q, q), (a, ca)), ((R, r), (b, ch))])] i = false := by
  obtain ⟨up, e⟩ := wayU_hd hi
  unfold isP
  rw [e]
  simp [rowB, eD, h]
theorem fitsB_snoc (m : Mn) (a : List Tr) (t : Tr) : fitsB m (a ++ [t]) = (fitsB m a && fitsB m [t]) := by
  unfold fitsB
  rw [List.all_append]
  cases m.kind == 1 <;> simp
structure Srow (w : World) (A : Option Addr) (m size : Nat) (news : List Value) : Prop where
  len : news.length = m * size
  none_ : A = none → m = 0
  at_ : ∀ ad, A = some ad → ∀ j u, news[j]? = some u → w.cell? (ad.add j) = some u
  one : ∀ u ∈ news, u.oneCell' = true
theorem run_srow {P : Program} {base n size bytes : Nat} {t e : TypeId} {v z : Value} {xs news : List Value} {i : TypeInfo} {w : World} {A : Option Addr} {m : Nat} {pt : TypeId} (hu : P.underlying t = some (.slice e)) (hi : P.info? e = some i) (hz : i.zero = some z) (hs : i.size = size) (hb : i.bytes = bytes) (hzs : z.cells.size = size) (h0 : 0 < size)
    (hown : w.ownsRow base e size v n xs) (c : Nat) (hS : Srow w A m size news) (h63 : n + m ≤ maxLen) (hby : (n + m) * bytes ≤ 140737488355328) (hbase : base ≤ w.heap.size) :
    ∃ v' w', (Builtin.append_ #[t, t] pt #[v, .slice A m c]).run P w = .ok v' w' ∧ w'.ownsRow base e size v' (n + m) (xs ++ news) ∧ w.grownBy w' v.ownBlock ∧ (v'.ownBlock = v.ownBlock ∨ v'.ownBlock = some w.heap.size) := by
  cases A with
  | none =>
    obtain rfl := hS.none_ rfl
    have hn : news = [] := List.eq_nil_of_length_eq_zero (by rw [hS.len, Nat.zero_mul])
    subst hn
    refine ⟨v, w, ?_, by simpa using hown, grown_refl _ _, .inl rfl⟩
    rcases hown.2 with ⟨rfl, rfl⟩ | ⟨g, cap, cur, rfl, _, _, hnc, _⟩
    · simp [Builtin.append_, run_underlying hu, sizeOf, typeInfo, hi, Builtin.lenOf, Builtin.firstCells]
    · simp [Builtin.append_, run_underlying hu, sizeOf, typeInfo, hi, Builtin.lenOf, Builtin.firstCells, hnc, storeCells]
  | some ad =>
    obtain ⟨v', w', hr, h2, h3, _, h5⟩ := run_append_own_at (P := P) w base t pt e i z size bytes hu hi hz hs hb hzs h0 v n xs hown ad m c news hS.len (hS.at_ ad rfl) hS.one h63 hby hbase
    exact ⟨v', w', hr, h2, h3, h5⟩
theorem step_srow {P : Program} {ops : Array Oper} {o : Oper} {a : Act} {w : World} {K : Act → World → Prop} {Q : Exit → Act → World → Prop} {E : Prop}
    (hgd : o.guard = none) (s x : Operand) (t : TypeId) (ho : o.op = .call { callee := .builtin .append, args := #[s, x], argTypes := #[t, t] })
    (base : Nat) (e : TypeId) (i : TypeInfo) (z : Value) (size bytes : Nat) (ht : P.underlying t = some (.slice e)) (hi : P.info? e = some i) (hz : i.zero = some z)
    (hsize : i.size = size) (hby : i.bytes = bytes) (hzs : z.cells.size = size) (hsz : 0 < size)
    (v : Value) (n : Nat) (xs : List Value) (hs : a.eval s = v) (hown : w.ownsRow base e size v n xs)
    (A : Option Addr) (m c : Nat) (news : List Value) (hx : a.eval x = .slice A m c) (hS : Srow w A m size news)
    (h63 : n + m ≤ maxLen) (hbytes : (n + m) * bytes ≤ 140737488355328) (hbase : base ≤ w.heap.size)
    (h : ∀ v' w', w'.ownsRow base e size v' (n + m) (xs ++ news) → w.grownBy w' v.ownBlock → (v'.ownBlock = v.ownBlock ∨ v'.ownBlock = some w.heap.size) → K (a.put o.dst v') w') :
    if Region.wanted o (yielded ops a.tmps) = true then Oper.wp P o a w K Q else E := by
  have hw : Region.wanted o (yielded ops a.tmps) = true := by simp [Region.wanted, hgd]
  rw [if_pos hw]
  obtain ⟨v', w', hr, h2, h3, h5⟩ := run_srow (P := P) (pt := o.type) ht hi hz hsize hby hzs hsz hown c hS h63 hbytes hbase
  unfold Oper.wp execOp
  simp only [ho, resolve, invoke, builtin, Sem.run_bind, Sem.run_pure, Result.andThen_ok, List.map_toArray, List.map_cons, List.map_nil, hs, hx, hr]
  exact h v' w' h2 h3 h5
theorem tcells_length : ∀ T : List Tr, (tcells T).length = T.length * 3
  | [] => rfl
  | t :: T => by
    have := tcells_length T
    simp only [tcells, List.flatMap_cons, List.length_append, List.length_cons] at this ⊢
    simp only [t3, List.length_cons, List.length_nil]
    omega
theorem t3_ones (T : List Tr) : ∀ u ∈ tcells T, u.oneCell' = true := fun u hu => by
  obtain ⟨t, -, h⟩ := List.mem_flatMap.1 hu
  simp only [t3, List.mem_cons, List.not_mem_nil, or_false] at h
  rcases h with rfl | rfl | rfl <;> rfl
theorem srow_tests {w : World} {A : Option Addr} {T : List Tr} (h : TR w A T) : Srow w A T.length 3 (tcells T) := by
  refine ⟨tcells_length T, fun e => ?_, fun ad e j u hu => ?_, t3_ones T⟩
  · cases T with
    | nil => rfl
    | cons x l =>
      obtain ⟨g, off, hA, -⟩ := h 0 x rfl
      rw [e] at hA
      cases hA
  · subst e
    have hj : j < T.length * 3 := by rw [← tcells_length]; exact (List.getElem?_eq_some_iff.1 hu).1
    have hq : j / 3 < T.length := by omega
    obtain ⟨t, ht⟩ : ∃ t, T[j / 3]? = some t := ⟨_, List.getElem?_eq_getElem hq⟩
    obtain ⟨g, off, hA, -, c0, c1, c2⟩ := h (j / 3) t ht
    cases hA
    obtain ⟨a0, a1, a2⟩ := tcells_at ht
    rw [add_plain]
    obtain ⟨q, hqe⟩ : ∃ q, j / 3 = q := ⟨_, rfl⟩
    have hj3 : j = q * 3 ∨ j = q * 3 + 1 ∨ j = q * 3 + 2 := by omega
    rw [hqe] at c0 c1 c2 a0 a1 a2
    clear hqe hq hj ht
    rcases hj3 with rfl | rfl | rfl
    · rw [a0] at hu; cases hu; exact c0
    · rw [a1] at hu; cases hu; rw [← Nat.add_assoc]; exact c1
    · rw [a2] at hu; cases hu; rw [← Nat.add_assoc]; exact c2
theorem info_t9 : (Tryz.prog.info? 77).map (fun i => (i.zero, i.size, i.bytes)) = some (some (.agg #[.int .i64 0, .string ⟨#[]⟩, .string ⟨#[]⟩]), 3, 40) := by kernel_rfl
theorem tr_box {w : World} {g : Nat} {t : Tr} (h : w.heap[g]? = some (.cells #[.int .i64 t.1, .string t.2.1, .string t.2.2] 77 (0, 0))) : TR w (some ⟨g, 0, none⟩) [t] := fun i u hi => by
  match i, hi with
  | 0, hi =>
    cases hi
    exact ⟨g, 0, rfl, lt_of_block h, by simp [World.cell?, h], by simp [World.cell?, h], by simp [World.cell?, h]⟩
  | i + 1, hi => simp at hi
theorem block4m {w : World} {g : Nat} {x y z u : Value} {t : TypeId} (h : w.heap[g]? = some (.cells #[x, y, z, u] t (0, 0))) : w.cell? ⟨g, 0, none⟩ = some x ∧ w.cell? ⟨g, 1, none⟩ = some y ∧ w.cell? ⟨g, 2, none⟩ = some z ∧ w.cell? ⟨g, 3, none⟩ = some u := by
  refine ⟨?_, ?_, ?_, ?_⟩ <;> simp [World.cell?, h]
theorem block2m {w : World} {g : Nat} {x y : Value} {t : TypeId} (h : w.heap[g]? = some (.cells #[x, y] t (0, 0))) : w.cell? ⟨g, 0, none⟩ = some x ∧ w.cell? ⟨g, 1, none⟩ = some y := by
  refine ⟨?_, ?_⟩ <;> simp [World.cell?, h]
def one1W (V : World) (A : Option Addr) (n c : Nat) : World := (V.alloc (.cells #[.slice A n c, .bool false] 54)).alloc (.cells #[.slice (some ⟨V.heap.size, 0, none⟩) 1 1] 46)
def one1X (V : World) (A : Option Addr) (a : List Tr) (c : Nat) : List Mr := [((some ⟨V.heap.size, 0, none⟩, 1), [((A, c), (a, false))])]
theorem one1_below (V : World) (A : Option Addr) (n c : Nat) : Below V.heap.size V (one1W V A n c) := ((Below.refl _ _).alloc (Nat.le_refl _) _).alloc (by simp) _
theorem one1_xr {V : World} {A : Option Addr} {a : List Tr} {c : Nat} (h : TR V A a) : XR (one1W V A a.length c) (some ⟨V.heap.size + 1, 0, none⟩) (one1X V A a c) := by
  have h1 : (one1W V A a.length c).heap[V.heap.size + 1]? = some (.cells #[.slice (some ⟨V.heap.size, 0, none⟩) 1 1] 46 (0, 0)) := by
    have := heap_alloc_new (V.alloc (.cells #[.slice A a.length c, .bool false] 54)) (.cells #[.slice (some ⟨V.heap.size, 0, none⟩) 1 1] 46)
    rwa [World.size_alloc] at this
  have h0 : (one1W V A a.length c).heap[V.heap.size]? = some (.cells #[.slice A a.length c, .bool false] 54 (0, 0)) := (Below.heap_alloc _ _ _ (by simp)).trans (heap_alloc_new V _)
  obtain ⟨e0, e1⟩ := block2m h0
  intro i m hi
  match i, hi with
  | 0, hi =>
    cases hi
    refine ⟨V.heap.size + 1, 0, rfl, lt_of_block h1, block1 h1, fun j s hj => ?_⟩
    match j, hj with
    | 0, hj =>
      cases hj
      exact ⟨V.heap.size, 0, rfl, lt_of_block h0, e0, e1, h.below (one1_below ..)⟩
    | j + 1, hj => simp at hj
  | i + 1, hi => simp [one1X] at hi
theorem one1_xs {V : World} {A : Option Addr} {a : List Tr} {c : Nat} (h : TR V A a) (hl : a.length ≤ 9223372036854775807) (hs : ∀ t ∈ a, t.2.1.size ≤ 100000) : Xs (one1W V A a.length c) (some ⟨V.heap.size + 1, 0, none⟩) (one1X V A a c) := by
  refine ⟨one1_xr h, by simp [one1X], fun m hm => ?_⟩
  simp only [one1X, List.mem_singleton] at hm
  subst hm
  refine ⟨fun s hs' => ?_, by simp, by simp⟩
  simp only [List.mem_singleton] at hs'
  subst hs'
  exact ⟨hl, hs⟩
def one2W (V : World) (A : Option Addr) (n c : Nat) (B : Option Addr) (m d : Nat) (ch : Bool) : World := (V.alloc (.cells #[.slice A n c, .bool false, .slice B m d, .bool ch] 54)).alloc (.cells #[.slice (some ⟨V.heap.size, 0, none⟩) 2 2] 46)
def one2X (V : World) (A : Option Addr) (a : List Tr) (c : Nat) (B : Option Addr) (b : List Tr) (d : Nat) (ch : Bool) : List Mr := [((some ⟨V.heap.size, 0, none⟩, 2), [((A, c), (a, false)), ((B, d), (b, ch))])]
theorem one2_below (V : World) (A : Option Addr) (n c : Nat) (B : Option Addr) (m d : Nat) (ch : Bool) : Below V.heap.size V (one2W V A n c B m d ch) := ((Below.refl _ _).alloc (Nat.le_refl _) _).alloc (by simp) _
theorem one2_xr {V : World} {A : Option Addr} {a : List Tr} {c : Nat} {B : Option Addr} {b : List Tr} {d : Nat} (h : TR V A a) (k : TR V B b) (ch : Bool) : XR (one2W V A a.length c B b.length d ch) (some ⟨V.heap.size + 1, 0, none⟩) (one2X V A a c B b d ch) := by
  have h1 : (one2W V A a.length c B b.length d ch).heap[V.heap.size + 1]? = some (.cells #[.slice (some ⟨V.heap.size, 0, none⟩) 2 2] 46 (0, 0)) := by
    have := heap_alloc_new (V.alloc (.cells #[.slice A a.length c, .bool false, .slice B b.length d, .bool ch] 54)) (.cells #[.slice (some ⟨V.heap.size, 0, none⟩) 2 2] 46)
    rwa [World.size_alloc] at this
  have h0 : (one2W V A a.length c B b.length d ch).heap[V.heap.size]? = some (.cells #[.slice A a.length c, .bool false, .slice B b.length d, .bool ch] 54 (0, 0)) := (Below.heap_alloc _ _ _ (by simp)).trans (heap_alloc_new V _)
  obtain ⟨e0, e1, e2, e3⟩ := block4m h0
  intro i m hi
  match i, hi with
  | 0, hi =>
    cases hi
    refine ⟨V.heap.size + 1, 0, rfl, lt_of_block h1, block1 h1, fun j s hj => ?_⟩
    match j, hj with
    | 0, hj =>
      cases hj
      exact ⟨V.heap.size, 0, rfl, lt_of_block h0, e0, e1, h.below (one2_below ..)⟩
    | 1, hj =>
      cases hj
      exact ⟨V.heap.size, 0, rfl, lt_of_block h0, e2, e3, k.below (one2_below ..)⟩
    | j + 2, hj => simp at hj
  | i + 1, hi => simp [one2X] at hi
theorem one2_xs {V : World} {A : Option Addr} {a : List Tr} {c : Nat} {B : Option Addr} {b : List Tr} {d : Nat} (h : TR V A a) (k : TR V B b) (ch : Bool) (hl : a.length ≤ 9223372036854775807) (hs : ∀ t ∈ a, t.2.1.size ≤ 100000) (kl : b.length ≤ 9223372036854775807) (ks : ∀ t ∈ b, t.2.1.size ≤ 100000) : Xs (one2W V A a.length c B b.length d ch) (some ⟨V.heap.size + 1, 0, none⟩) (one2X V A a c B b d ch) := by
  refine ⟨one2_xr h k ch, by simp [one2X], fun m hm => ?_⟩
  simp only [one2X, List.mem_singleton] at hm
  subst hm
  refine ⟨fun s hs' => ?_, by simp, by simp⟩
  simp only [List.mem_cons, List.not_mem_nil, or_false] at hs'
  rcases hs' with rfl | rfl
  · exact ⟨hl, hs⟩
  · exact ⟨kl, ks⟩
end Go.Proofs.YtaacikjoafobfaaGreatDoor.Fi
