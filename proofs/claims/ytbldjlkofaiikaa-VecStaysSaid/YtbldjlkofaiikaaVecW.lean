/-
  slices.Insert of one number.
-/
import Derived.Test.YtbldjlkofaiikaaVecV
import Derived.Shelf.Spec.SlicesInsert
namespace Go.Proofs.Ytbldjlkofaiikaa
open Go.ChangeShapes Go.WideShapes Go.ChangeAt Go.RowKit
set_option linter.unusedVariables false
set_option linter.unusedSimpArgs false

def overV (l : List Value) (o : Nat) : List Value → List Value
  | [] => l
  | x :: r => overV (l.set o x) (o + 1) r
theorem overV_eq : ∀ (m : List Value) (l : List Value) (o : Nat), o + m.length ≤ l.length → overV l o m = l.take o ++ m ++ l.drop (o + m.length)
  | [], l, o, h => by simp [overV]
  | x :: r, l, o, h => by
    rw [overV, overV_eq r _ _ (by simp at h ⊢; omega)]
    have ho : o < l.length := by simp at h; omega
    rw [List.take_succ_eq_append_getElem (by simp; exact ho), List.getElem_set_self, List.take_set_of_le (Nat.le_refl _), List.drop_set_of_lt (by omega)]
    simp
    congr 1
    omega
theorem own_overV {B g n cap : Nat} : ∀ (m : List Value) (o : Nat) (w : World) (l : List Value), w.ownsRow B 41 1 (.slice (some ⟨g, 0, none⟩) n cap) n l → (w.setCells g o m).ownsRow B 41 1 (.slice (some ⟨g, 0, none⟩) n cap) n (overV l o m)
  | [], o, w, l, h => h
  | x :: r, o, w, l, h => own_overV r (o + 1) _ _ (h.stored o x).1
theorem own_longer {w : World} {B g n cap : Nat} {xs : List Value} (h : w.ownsRow B 41 1 (.slice (some ⟨g, 0, none⟩) n cap) n xs) (hn : n < cap) : ∃ u, w.ownsRow B 41 1 (.slice (some ⟨g, 0, none⟩) (n + 1) cap) (n + 1) (xs ++ [u]) := by
  have h1 := h.1
  rcases h.2 with ⟨h', _⟩ | ⟨g', cap', cur, hv, h2, h3, h4, h5, h6, h7⟩
  · cases h'
  · cases hv
    rw [Nat.mul_one] at h6
    obtain ⟨u, hu⟩ : ∃ u, cur.toList[n]? = some u := ⟨_, List.getElem?_eq_getElem (by simp; omega)⟩
    refine ⟨u, by simp; omega, .inr ⟨g, cap, cur, rfl, h2, h3, hn, h5, by omega, ?_⟩⟩
    rw [Nat.mul_one] at h7 ⊢
    rw [List.take_add_one, h7, hu]
    rfl

set_option maxRecDepth 1000000 in
set_option maxHeartbeats 4000000 in
theorem insert_end (B vb : Nat) (x : Int) (l : List Int) (v : Value) (w : World) (ho : w.ownsRow B 41 1 v l.length (gvs l)) (hv : w.heap[vb]? = some (.cells #[.int .u64 x] 41 (0, 0))) (hB : B ≤ w.heap.size) (hl : l.length ≤ 1000) :
    Calls Try.prog 32 #[v, .int .i64 l.length, .slice (some ⟨vb, 0, none⟩) 1 1] w (GivesTu B (l ++ [x]) w) := by
  obtain ⟨pl, cap, rfl, hnc, hcm, -⟩ := own_form ho
  unfold maxLen at hcm
  obtain ⟨i0', hi0, hz0, hz1, hz2⟩ := info_parts info_G
  have hI := Lib.hid hi0
  have hZ0 := Lib.hid hz0
  have hZ1 := Lib.hid hz1
  have hZ2 := Lib.hid hz2
  clear hi0 hz0 hz1 hz2
  have HO := Lib.hid ho
  have HV : Hid (∀ j u, [Value.int .u64 x][j]? = some u → w.cell? ((⟨vb, 0, none⟩ : Addr).add j) = some u) := Lib.hid (fun j u hu => by
    rw [add_plain]
    match j, hu with
    | 0, hu => cases hu; simp [World.cell?, hv]
    | j + 1, hu => simp at hu)
  have n0 : (0 : Int) ≤ (l.length : Int) := by omega
  have hnc' : (l.length : Int) ≤ (cap : Int) := by omega
  have key : Hid (pl = none → l.length = 0 ∧ cap = 0) := Lib.hid (fun e => by
    rcases ho.2 with ⟨h1, h2⟩ | ⟨g, c, cur, h1, -⟩
    · exact ⟨h2, (Value.slice.inj h1).2.2⟩
    · have := (Value.slice.inj h1).1
      rw [e] at this
      cases this)
  clear ho hv
  cases pl with
  | none =>
    obtain ⟨h1, h2⟩ := key.out rfl
    have : l = [] := List.eq_nil_of_length_eq_zero h1
    subst this
    subst h2
    go_enter Try.func32, Try.ntmps32
    go_wp2_with (at_builtin; refine wpList_append_own_at _ rfl _ _ 24 rfl B 41 i0' (.int .u64 0) 1 8 Try.underlying24 hI.out hZ0.out hZ1.out hZ2.out rfl (by decide) _ _ _ rfl HO.out ⟨vb, 0, none⟩ 1 1 [.int .u64 x] rfl rfl HV.out (by simp [Value.oneCell']) (by simp [maxLen]) (by simp) hB ?_; intro v' w5 hown' hgrow _ hat; obtain ⟨q', cap', rfl, -, -, -⟩ := own_form hown'
                 have HO' := Lib.hid hown'
                 have HGR := Lib.hid hgrow
                 clear hown' hgrow hat)
    go_ret
    exact ⟨_, rfl, HO'.out, (Below.refl _ w).grown HGR.out hB (fun q e => (HO.out.lt q e).1)⟩
  | some a =>
    obtain ⟨g, rfl⟩ : ∃ g, a = ⟨g, 0, none⟩ := by
      rcases HO.out.2 with ⟨h1, _⟩ | ⟨g, c, cur, h1, _⟩
      · have := (Value.slice.inj h1).1
        cases this
      · have := (Value.slice.inj h1).1
        exact ⟨g, Option.some.inj this⟩
    obtain ⟨n, hn⟩ : ∃ n, l.length = n := ⟨_, rfl⟩
    have HN := Lib.hid hn
    rw [hn] at HO n0 hnc' hl ⊢
    clear hn
    go_enter Try.func32, Try.ntmps32
    go_wp2_with (at_builtin; refine wpList_append_own_at _ rfl _ _ 24 rfl B 41 i0' (.int .u64 0) 1 8 Try.underlying24 hI.out hZ0.out hZ1.out hZ2.out rfl (by decide) _ _ _ rfl HO.out ⟨vb, 0, none⟩ 1 1 [.int .u64 x] rfl rfl HV.out (by simp [Value.oneCell']) (by unfold maxLen; omega) (by omega) hB ?_; intro v' w5 hown' hgrow _ hat; obtain ⟨q', cap', rfl, -, -, -⟩ := own_form hown'
                 have HO' := Lib.hid hown'
                 have HGR := Lib.hid hgrow
                 clear hown' hgrow hat)
    all_goals go_ret
    all_goals
      refine ⟨_, rfl, ?_, (Below.refl _ w).grown HGR.out hB (fun q e => (HO.out.lt q e).1)⟩
      rw [List.length_append, HN.out, gvs_append]
      exact HO'.out

set_option maxRecDepth 1000000 in
set_option maxHeartbeats 4000000 in
theorem insert_room (k B vb g cap : Nat) (x : Int) (l : List Int) (w : World) (ho : w.ownsRow B 41 1 (.slice (some ⟨g, 0, none⟩) l.length cap) l.length (gvs l)) (hv : w.heap[vb]? = some (.cells #[.int .u64 x] 41 (0, 0))) (hvg : vb ≠ g) (hk : k < l.length) (hl : l.length ≤ 1000) (hroom : l.length < cap) (hcm : cap ≤ 9223372036854775807) :
    Calls Try.prog 32 #[.slice (some ⟨g, 0, none⟩) l.length cap, .int .i64 k, .slice (some ⟨vb, 0, none⟩) 1 1] w (GivesTu B (l.take k ++ [x] ++ l.drop k) w) := by
  obtain ⟨u, hu⟩ := own_longer ho hroom
  obtain ⟨cur, hgb, hBg⟩ := own_blk ho
  obtain ⟨n, hn⟩ : ∃ n, l.length = n := ⟨_, rfl⟩
  rw [hn] at ho hk hl hroom hu ⊢
  have hsz : (Try.prog.info? 41).map (·.size) = some 1 := by kernel_rfl
  have hvc : w.cell? ⟨vb, 0, none⟩ = some (.int .u64 x) := by simp [World.cell?, hv]
  have hdl : (gvs (l.drop k)).length = n - k := by rw [gvs_length, List.length_drop, hn]
  have hcell : ∀ j, j < n + 1 → (w.cell? ⟨g, j, none⟩).isSome = true := fun j hj => by
    rw [hu.cellAt j (by omega), List.getElem?_eq_getElem (by have := hu.1; omega)]; rfl
  have hfz : ∀ j, w.frozen? ⟨g, j, none⟩ = false := fun j => hu.frozenAt j
  have hcs : cur.size ≠ 0 := by
    rcases ho.2 with ⟨h', _⟩ | ⟨g', cap', cur', hv', _, h3, _, _, h6, _⟩
    · cases h'
    · cases hv'
      rw [hgb] at h3
      cases h3
      omega
  have hov : ∀ lb cb, (callFunc 62 #[.slice (some ⟨vb, 0, none⟩) 1 1, .slice (some ⟨g, k + 1, none⟩) lb cb]).run Try.prog w = .ok (.value (.bool false)) w := fun lb cb => by
    rw [run_callFunc_extern Try.func62 (by kernel_rfl) (by kernel_rfl) (by kernel_rfl) (e := Extern.SlicesOverlaps.overlaps #[24, 24] #[4]) (by kernel_rfl),
      Lib.run_overlaps_apart w 24 4 41 Try.underlying24 1 sizeOf_G ⟨vb, 0, none⟩ ⟨g, k + 1, none⟩ 1 1 lb cb hvg 41 41 1 cur.size (by simp [World.shape?, hv]) (by simp [World.shape?, hgb]) hcs (by simp [World.frozen?, hv]) (by simp [World.frozen?, hv])]
    rfl
  have hcp1 : ∀ ty dc sc, (Builtin.copy_ #[24, 24] ty #[.slice (some ⟨g, k + 1, none⟩) (n - k) dc, .slice (some ⟨g, k, none⟩) (n + 1 - k) sc]).run Try.prog w.drew = .ok (goInt (gvs (l.drop k)).length) (w.drew.setCells g (k + 1) (gvs (l.drop k))) := fun ty dc sc =>
    run_copy_cells w.drew _ _ ty 41 g (k + 1) (n - k) dc ⟨g, k, none⟩ (n + 1 - k) sc (gvs (l.drop k)) Try.underlying24 hsz (by rw [hdl]; simp only [Nat.min_def]; split <;> omega)
      (fun j v hj => by rw [Addr.add_lit]; exact own_from ho k j v hj)
      (fun j hj => hcell _ (by omega)) (fun j hj => hfz _) (gvs_one _)
  obtain ⟨W1, hW1⟩ : ∃ W1, W1 = w.drew.setCells g (k + 1) (gvs (l.drop k)) := ⟨_, rfl⟩
  have hO1 : W1.ownsRow B 41 1 (.slice (some ⟨g, 0, none⟩) (n + 1) cap) (n + 1) (overV (gvs l ++ [u]) (k + 1) (gvs (l.drop k))) := by
    rw [hW1]
    exact own_overV _ _ _ _ hu.drew
  have hB1 : Below B w W1 := by rw [hW1]; exact below_setCells hBg _ _ _ (Below.refl _ w).drew
  have hc1 : ∀ j, j < n + 1 → (W1.cell? ⟨g, j, none⟩).isSome = true := fun j hj => by
    rw [hO1.cellAt j (by omega), List.getElem?_eq_getElem (by have := hO1.1; omega)]; rfl
  have hvc1 : W1.cell? ⟨vb, 0, none⟩ = some (.int .u64 x) := by
    rw [hW1, World.cell?_setCells_out g _ _ _ _ (fun h _ => absurd h hvg)]
    exact hvc
  have hcp2 : ∀ (W : World), (∀ y, W.cell? y = W1.cell? y) → (∀ y, W.frozen? y = W1.frozen? y) → ∀ ty dc, (Builtin.copy_ #[24, 24] ty #[.slice (some ⟨g, k, none⟩) (n + 1 - k) dc, .slice (some ⟨vb, 0, none⟩) 1 1]).run Try.prog W = .ok (goInt [Value.int .u64 x].length) (W.setCells g k [.int .u64 x]) := fun W hWc hWf ty dc =>
    run_copy_cells W _ _ ty 41 g k (n + 1 - k) dc ⟨vb, 0, none⟩ 1 1 [.int .u64 x] Try.underlying24 hsz (by simp only [List.length_singleton, Nat.min_def]; split <;> omega)
      (fun j v hj => by
        rw [Addr.add_lit, hWc]
        match j, hj with
        | 0, hj => cases hj; exact hvc1
        | j + 1, hj => simp at hj)
      (fun j hj => by rw [hWc]; exact hc1 _ (by simp at hj; omega)) (fun j hj => by rw [hWf]; exact hO1.frozenAt _) (by simp [Value.oneCell'])
  have hO2 := own_overV [.int .u64 x] k W1 _ hO1
  have hfin : overV (overV (gvs l ++ [u]) (k + 1) (gvs (l.drop k))) k [.int .u64 x] = gvs (l.take k ++ [x] ++ l.drop k) := by
    have h1 : (gvs l ++ [u]).length = n + 1 := by simp [gvs, hn]
    have h2 : (gvs l ++ [u]).drop (k + 1 + (n - k)) = [] := List.drop_eq_nil_of_le (by rw [h1]; omega)
    have e1 : overV (gvs l ++ [u]) (k + 1) (gvs (l.drop k)) = (gvs l ++ [u]).take (k + 1) ++ gvs (l.drop k) := by
      rw [overV_eq (gvs (l.drop k)) _ _ (by rw [hdl, h1]; omega), hdl, h2, List.append_nil]
    have h3 : ((gvs l ++ [u]).take (k + 1)).length = k + 1 := by rw [List.length_take, h1]; omega
    rw [e1, overV_eq [.int .u64 x] _ _ (by rw [List.length_append, h3, hdl]; simp <;> omega)]
    have e2 : ((gvs l ++ [u]).take (k + 1) ++ gvs (l.drop k)).take k = gvs (l.take k) := by
      rw [List.take_append_of_le_length (by rw [h3]; omega), List.take_take, Nat.min_eq_left (by omega), List.take_append_of_le_length (by rw [gvs_length, hn]; omega), gvs, gvs, List.map_take]
    have e3 : ((gvs l ++ [u]).take (k + 1) ++ gvs (l.drop k)).drop (k + [Value.int .u64 x].length) = gvs (l.drop k) := List.drop_left' h3
    rw [e2, e3, gvs_append, gvs_append]
    rfl
  rw [hfin] at hO2
  have HFL : Hid ((l.take k ++ [x] ++ l.drop k).length = n + 1) := Lib.hid (by simp; omega)
  have HO2 := Lib.hid hO2
  have HB2 := Lib.hid (below_setCells hBg [.int .u64 x] k W1 hB1)
  rw [← hW1] at hcp1
  have HW1 := Lib.hid hW1
  have mixed : Try.prog.follows Departure.mixedOrders = true := by kernel_rfl
  have hz1 : ¬ (((1 : Nat) : Int) = 0) := by decide
  have hz2 : ¬ ((k : Int) = (n : Int)) := by omega
  have k0 : (0 : Int) ≤ (k : Int) := by omega
  have kn : (k : Int) ≤ (n : Int) := by omega
  have kn1 : (k : Int) ≤ (n : Int) + 1 := by omega
  have kc : (k : Int) ≤ (cap : Int) := by omega
  have hr1 : ¬ ((cap : Int) < (n : Int) + 1) := by omega
  have hr2 : (n : Int) + 1 ≤ (cap : Int) := by omega
  have hr3 : (0 : Int) ≤ (n : Int) + 1 := by omega
  have hr4 : ((n : Int) + 1).toNat = n + 1 := by omega
  have hk4 : ((k : Int) + 1).toNat = k + 1 := by omega
  have hk5 : (0 : Int) ≤ (k : Int) + 1 := by omega
  have hk6 : (k : Int) + 1 ≤ (n : Int) + 1 := by omega
  have hw1 : IntKind.i64.wrap ((k : Int) + 1) = (k : Int) + 1 := by rw [IntKind.wrap_i64]; omega
  have hb2 : ¬ (cap = k + 1) := by omega
  have hb4 : ¬ (cap = k) := by omega
  clear hW1 ho hv hu hgb hO1 hO2 hfin hB1 hc1 hvc1 hcell hfz hvc hdl
  go_enter Try.func32, Try.ntmps32
  go_wp2_with (simp only [hov])
  go_region_law_o (refine step_copy_runI rfl _ _ 24 24 rfl _ _ (by simp [Act.eval, Act.put]) (by simp [Act.eval, Act.put]) (hcp1 _ _ _) ?_)
  go_wp2_with (at_builtin; refine wpList_copy_runI _ rfl _ _ 24 24 rfl _ _ rfl rfl (hcp2 _ (fun _ => rfl) (fun _ => rfl) _ _) ?_)
  go_ret
  refine ⟨_, rfl, ?_, ?_⟩
  · rw [HFL.out]; exact HO2.out
  · exact HB2.out

set_option maxRecDepth 1000000 in
set_option maxHeartbeats 4000000 in
theorem insert_grow (k B vb g : Nat) (x : Int) (l : List Int) (w : World) (ho : w.ownsRow B 41 1 (.slice (some ⟨g, 0, none⟩) l.length l.length) l.length (gvs l)) (hv : w.heap[vb]? = some (.cells #[.int .u64 x] 41 (0, 0))) (hk : k < l.length) (hl : l.length ≤ 1000) (hB : B ≤ w.heap.size) :
    Calls Try.prog 32 #[.slice (some ⟨g, 0, none⟩) l.length l.length, .int .i64 k, .slice (some ⟨vb, 0, none⟩) 1 1] w (GivesTu B (l.take k ++ [x] ++ l.drop k) w) := by
  obtain ⟨cur, hgb, hBg⟩ := own_blk ho
  obtain ⟨n, hn⟩ : ∃ n, l.length = n := ⟨_, rfl⟩
  rw [hn] at ho hk hl ⊢
  have hsz : (Try.prog.info? 41).map (·.size) = some 1 := by kernel_rfl
  obtain ⟨i0, hi0, hz0, hzs, hzb⟩ := info_parts info_G
  have hvc : w.cell? ⟨vb, 0, none⟩ = some (.int .u64 x) := by simp [World.cell?, hv]
  have hbw := lt_of_block hgb
  have hvw := lt_of_block hv
  have hdl : (gvs (l.drop k)).length = n - k := by rw [gvs_length, List.length_drop, hn]
  have hik : k + (n + 1 - k) = n + 1 := by omega
  have hold : (Builtin.firstCells i0.size k (.slice (some ⟨g, 0, none⟩) k n)).run Try.prog w.drew = .ok (gvs (l.take k)).toArray w.drew := by
    rw [hzs]
    exact run_firstCells_some w.drew 1 k ⟨g, 0, none⟩ k n (gvs (l.take k)) (by rw [gvs_length, List.length_take]; omega) (fun j v hj => by
      have : (gvs l)[j]? = some v := by
        simp only [gvs, List.map_take] at hj ⊢
        rw [List.getElem?_take] at hj
        split at hj
        · exact hj
        · cases hj
      exact ho.cells rfl j v this)
  have hGn : n + 1 ≤ grownCap w (n + 1) n 41 := grownCap_ge w _ _ _
  have hG63 := grownCap_le_maxLen w (n + 1) n 41 (by unfold maxLen; omega)
  have hrz : ∀ ty, _ := fun ty => Lib.run_append_grow_zeros (P := Try.prog) w 24 3 ty 41 i0 (.int .u64 0) .i64 .i64 Try.underlying24 Try.underlying3 hi0 hz0 (some ⟨g, 0, none⟩) k n (gvs (l.take k)) hold (n + 1 - k) (by omega) (by omega) (by omega) (by omega) (by rw [hzb]; omega) (by rw [hzb, hik]; exact growslice_fits (by omega) (by omega))
  rw [hik] at hrz
  generalize grownCap w (n + 1) n 41 = G at *
  obtain ⟨ROW, hROW⟩ : ∃ ROW : Array Value, ROW = (gvs (l.take k)).toArray ++ Builtin.zeroCells (Value.int .u64 0).cells (n + 1 - k) ++ Builtin.zeroCells (Value.int .u64 0).cells (G - (n + 1)) := ⟨_, rfl⟩
  rw [← hROW] at hrz
  have hzc : ∀ m, (Builtin.zeroCells (Value.int .u64 0).cells m).toList = gvs (List.replicate m 0) := fun m => by
    simp [Builtin.zeroCells, Value.cells, gvs]
    apply List.ext_getElem
    · simp
    · intro i h1 h2
      simp
      rw [Nat.mod_one]
      rfl
  have hRs : ROW.size = G := by
    have := congrArg List.length (hzc (n + 1 - k))
    have h2 := congrArg List.length (hzc (G - (n + 1)))
    rw [hROW, Array.size_append, Array.size_append]
    rw [gvs_length, Array.length_toList] at this h2
    rw [this, h2]
    simp [gvs]
    omega
  have hRl : ROW.toList.take (n + 1) = gvs (l.take k ++ List.replicate (n + 1 - k) 0) := by
    rw [hROW, Array.toList_append, Array.toList_append, hzc, hzc, List.take_left' (by simp [gvs]; omega), gvs_append]
  obtain ⟨W1, hW1⟩ : ∃ W1, W1 = w.drew.alloc (.cells ROW 41) := ⟨_, rfl⟩
  rw [← hW1] at hrz
  have hO1 : W1.ownsRow B 41 1 (.slice (some ⟨w.heap.size, 0, none⟩) (n + 1) G) (n + 1) (gvs (l.take k ++ List.replicate (n + 1 - k) 0)) := by
    rw [hW1]
    refine ⟨by simp [gvs]; omega, .inr ⟨w.heap.size, G, ROW, rfl, hB, heap_alloc_new w.drew _, hGn, hG63, by rw [Nat.mul_one]; exact hRs, by rw [Nat.mul_one]; exact hRl⟩⟩
  have hB1 : Below B w W1 := by rw [hW1]; exact (Below.refl _ w).drew.alloc hB _
  have hcells : ∀ (W : World) (xs : List Value), W.ownsRow B 41 1 (.slice (some ⟨w.heap.size, 0, none⟩) (n + 1) G) (n + 1) xs → ∀ j, j < n + 1 → (W.cell? ⟨w.heap.size, j, none⟩).isSome = true := fun W xs h j hj => by
    rw [h.cellAt j (by omega), List.getElem?_eq_getElem (by have := h.1; omega)]; rfl
  have hOv : W1.cell? ⟨vb, 0, none⟩ = some (.int .u64 x) := by rw [hW1]; exact (World.cell?_alloc_lt w.drew _ _ hvw).trans hvc
  have hcpA : ∀ (W : World), (∀ y, W.cell? y = W1.cell? y) → (∀ y, W.frozen? y = W1.frozen? y) → ∀ ty dc, (Builtin.copy_ #[24, 24] ty #[.slice (some ⟨w.heap.size, k, none⟩) (n + 1 - k) dc, .slice (some ⟨vb, 0, none⟩) 1 1]).run Try.prog W = .ok (goInt [Value.int .u64 x].length) (W.setCells w.heap.size k [.int .u64 x]) := fun W hWc hWf ty dc =>
    run_copy_cells W _ _ ty 41 w.heap.size k (n + 1 - k) dc ⟨vb, 0, none⟩ 1 1 [.int .u64 x] Try.underlying24 hsz (by simp only [List.length_singleton, Nat.min_def]; split <;> omega)
      (fun j v hj => by
        rw [Addr.add_lit, hWc]
        match j, hj with
        | 0, hj => cases hj; exact hOv
        | j + 1, hj => simp at hj)
      (fun j hj => by rw [hWc]; exact hcells _ _ hO1 _ (by simp at hj; omega)) (fun j hj => by rw [hWf]; exact hO1.frozenAt _) (by simp [Value.oneCell'])
  have hO2 := own_over [x] k W1 _ hO1
  have hcpB : ∀ (W : World), (∀ y, W.cell? y = (W1.setCells w.heap.size k [.int .u64 x]).cell? y) → (∀ y, W.frozen? y = (W1.setCells w.heap.size k [.int .u64 x]).frozen? y) → ∀ ty dc sc, (Builtin.copy_ #[24, 24] ty #[.slice (some ⟨w.heap.size, k + 1, none⟩) (n - k) dc, .slice (some ⟨g, k, none⟩) (n - k) sc]).run Try.prog W = .ok (goInt (gvs (l.drop k)).length) (W.setCells w.heap.size (k + 1) (gvs (l.drop k))) := fun W hWc hWf ty dc sc =>
    run_copy_cells W _ _ ty 41 w.heap.size (k + 1) (n - k) dc ⟨g, k, none⟩ (n - k) sc (gvs (l.drop k)) Try.underlying24 hsz (by rw [hdl]; simp [Nat.min_def])
      (fun j v hj => by
        rw [Addr.add_lit, hWc, World.cell?_setCells_out _ _ _ _ _ (fun h _ => absurd h (by show g ≠ w.heap.size; omega)), hW1]
        exact (World.cell?_alloc_lt w.drew _ _ hbw).trans (own_from ho k j v hj))
      (fun j hj => by rw [hWc]; exact hcells _ _ hO2 _ (by rw [hdl] at hj; omega))
      (fun j hj => by rw [hWf]; exact hO2.frozenAt _) (gvs_one _)
  have hO3 := own_over (l.drop k) (k + 1) _ _ hO2.drew
  have hfin : over (over (l.take k ++ List.replicate (n + 1 - k) 0) k [x]) (k + 1) (l.drop k) = l.take k ++ [x] ++ l.drop k := by
    have ht : (l.take k).length = k := by rw [List.length_take]; omega
    rw [over_eq [x] _ _ (by simp; omega)]
    have e1 : (l.take k ++ List.replicate (n + 1 - k) 0).take k = l.take k := List.take_left' ht
    rw [e1, over_eq _ _ _ (by simp; omega)]
    have e2 : (l.take k ++ [x] ++ (l.take k ++ List.replicate (n + 1 - k) 0).drop (k + [x].length)).take (k + 1) = l.take k ++ [x] := List.take_left' (by simp; omega)
    have e3 : (l.take k ++ [x] ++ (l.take k ++ List.replicate (n + 1 - k) 0).drop (k + [x].length)).drop (k + 1 + (l.drop k).length) = [] := List.drop_eq_nil_of_le (by simp; omega)
    rw [e2, e3, List.append_nil]
  rw [hfin] at hO3
  have HFL : Hid ((l.take k ++ [x] ++ l.drop k).length = n + 1) := Lib.hid (by simp; omega)
  have HO3 := Lib.hid hO3
  have HB3 := Lib.hid (below_setCells hB (gvs (l.drop k)) (k + 1) _ (below_setCells hB (gvs [x]) k W1 hB1).drew)
  have mixed : Try.prog.follows Departure.mixedOrders = true := by kernel_rfl
  have hz2 : ¬ ((k : Int) = (n : Int)) := by omega
  have k0 : (0 : Int) ≤ (k : Int) := by omega
  have kn : (k : Int) ≤ (n : Int) := by omega
  have kn1 : (k : Int) ≤ (n : Int) + 1 := by omega
  have hr1 : (n : Int) < (n : Int) + 1 := by omega
  have hkk : (n : Int) + 1 - (k : Int) = ((n + 1 - k : Nat) : Int) := by omega
  have hk4 : ((k : Int) + 1).toNat = k + 1 := by omega
  have hk5 : (0 : Int) ≤ (k : Int) + 1 := by omega
  have hk6 : (k : Int) + 1 ≤ (n : Int) + 1 := by omega
  have hw1 : IntKind.i64.wrap ((k : Int) + 1) = (k : Int) + 1 := by rw [IntKind.wrap_i64]; omega
  have hG1 : ¬ (G = k) := by omega
  have hG2 : ¬ (G = k + 1) := by omega
  have hnk : ¬ (n = k) := by omega
  have hGi : (k : Int) ≤ (G : Int) := by omega
  have hGi2 : (n : Int) + 1 ≤ (G : Int) := by omega
  unfold maxLen at hG63
  have HW1 := Lib.hid hW1
  have hcpB' := hcpB ((W1.setCells w.heap.size k [.int .u64 x]).drew) (fun _ => rfl) (fun _ => rfl)
  clear hcpB
  rw [← hkk] at hrz
  clear hW1 ho hv hgb hO1 hO2 hO3 hfin hB1 hvc hdl hold hRl hRs hROW hzc hcells hOv hi0 hz0 hzs hzb hkk
  go_enter Try.func32, Try.ntmps32
  go_wp2_with (first
    | (at_builtin; refine Lib.wpList_append_run _ rfl _ _ _ _ rfl _ _ rfl rfl _ _ (hrz _) ?_)
    | (at_builtin; refine wpList_copy_runI _ rfl _ _ 24 24 rfl _ _ rfl rfl (hcpA _ (fun _ => rfl) (fun _ => rfl) _ _) ?_))
  go_region_law_o (refine step_copy_runI rfl _ _ 24 24 rfl _ _ (by simp [Act.eval, Act.put]) (by simp [Act.eval, Act.put]) (hcpB' _ _ _) ?_)
  go_wp2
  go_ret
  refine ⟨_, rfl, ?_, ?_⟩
  · rw [HFL.out]; exact HO3.out
  · exact HB3.out
end Go.Proofs.Ytbldjlkofaiikaa
