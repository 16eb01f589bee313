/-
  A list changed at one place, on plain pools: one chunk a level is taken, as many are left. No program here.
-/
import Derived.Test.YtbldjlkofaiikaaVecY
namespace Go.Proofs.Ytbldjlkofaiikaa
set_option linter.unusedVariables false
set_option linter.unusedSimpArgs false

theorem place_keep {p : Pl} {h : Int} {c : List Int} (h0 : h ≠ 0) (hc : p.at h = c) : p.place h c = some (p, h) := by
  unfold Pl.place
  rw [if_pos ⟨h0, hc⟩]
theorem lays_same {p : Pl} : ∀ {old : List Int}, Lv p old → p.lays old (old.map p.at) = some (p, old)
  | [], _ => rfl
  | h :: t, hl => by
    rw [List.map_cons, lays_cons]
    simp only [List.headD_cons, List.tail_cons]
    rw [place_keep (hl h (by simp)).2.2 rfl]
    simp only [lays_same (old := t) (fun x hx => hl x (by simp [hx]))]
    rfl
theorem raise_same {p : Pl} : ∀ {rows : List (List Int)} {below : List Int}, Tr p rows below → p.raise rows rows.length below = some (p, rows)
  | [], _, _ => rfl
  | row :: rows, below, h => by
    rw [List.length_cons, raise_succ]
    simp only [List.headD_cons, List.tail_cons]
    rw [← h.1, lays_same h.2.1]
    simp only [raise_same h.2.2]
    rfl
theorem lays_set {n : Nat} {G : Int} {p : Pl} (hP : PK n G p) (hG : G ≤ 1099511627775) {fr : List Int} {i : Nat} (hfr : p.st.free = fr ++ [(i : Int)]) {c' : List Int} : ∀ {old : List Int} {j : Nat}, Lv p old → j < old.length → p.at (old.getD j 0) ≠ c' →
    p.lays old ((old.map p.at).set j c') = some (p.tk i c', old.set j (hd i (p.st.gens.getD i 0)))
  | [], j, _, hj, _ => by simp at hj
  | h :: t, 0, hl, _, hne => by
    rw [List.map_cons, List.set_cons_zero, lays_cons]
    simp only [List.headD_cons, List.tail_cons]
    rw [place_take (fun hc => hne (by simpa using hc.2)), hfr, List.getLast?_concat]
    simp only [Int.toNat_natCast]
    have ht : Lv p t := fun x hx => hl x (by simp [hx])
    have e := tk_ext hP hfr c'
    rw [← map_at_ext ht e, lays_same (ht.ext e)]
    rfl
  | h :: t, j + 1, hl, hj, hne => by
    rw [List.map_cons, List.set_cons_succ, lays_cons]
    simp only [List.headD_cons, List.tail_cons]
    rw [place_keep (hl h (by simp)).2.2 rfl]
    simp only [lays_set hP hG hfr (old := t) (j := j) (fun x hx => hl x (by simp [hx])) (by simpa using hj) (by simpa using hne)]
    rfl
theorem fours_set : ∀ (m : Nat) (l : List Int) (k : Nat) (x : Int), k < l.length → k / 4 < m → fours m (l.set k x) = (fours m l).set (k / 4) (((l.set k x).drop (4 * (k / 4))).take 4)
  | 0, l, k, x, _, h => by omega
  | m + 1, l, k, x, hk, h => by
    rw [fours, fours]
    by_cases h4 : k < 4
    · have e : k / 4 = 0 := by omega
      rw [e, List.set_cons_zero, Nat.mul_zero, List.drop_zero, List.drop_set_of_lt h4]
    · have e : k / 4 = (k - 4) / 4 + 1 := by omega
      rw [e, List.set_cons_succ]
      have e1 : (l.set k x).take 4 = l.take 4 := List.take_set_of_le (by omega)
      have e2 : (l.set k x).drop 4 = (l.drop 4).set (k - 4) x := by rw [List.drop_set, if_neg (by omega)]
      have e3 : ∀ z : List Int, (z.drop 4).drop (4 * ((k - 4) / 4)) = z.drop (4 * ((k - 4) / 4 + 1)) := fun z => by
        rw [List.drop_drop]
        congr 1
        omega
      rw [e1, e2, fours_set m (l.drop 4) (k - 4) x (by simp; omega) (by omega), ← e2, e3]
theorem four_ne {l : List Int} {k : Nat} {x : Int} (hk : k < l.length) (hx : l.getD k 0 ≠ x) : (l.drop (4 * (k / 4))).take 4 ≠ ((l.set k x).drop (4 * (k / 4))).take 4 := by
  intro e
  have h1 := it_four l (k / 4) (k % 4) (by omega)
  have h2 := it_four (l.set k x) (k / 4) (k % 4) (by omega)
  rw [← e, h1, show 4 * (k / 4) + k % 4 = k by omega, getD_set, if_pos ⟨rfl, hk⟩] at h2
  exact hx h2
theorem leftRow_same : ∀ (new old : List Int) (k : Nat), (∀ j, j < old.length → new.getD (k + j) 0 = old.getD j 0) → leftRow new k old = []
  | new, [], k, _ => rfl
  | new, h :: t, k, hs => by
    rw [leftRow, if_pos (by simpa using hs 0 (by simp)), leftRow_same new t (k + 1) (fun j hj => by
      have := hs (j + 1) (by simpa using hj)
      rw [show k + (j + 1) = k + 1 + j by omega] at this
      simpa using this)]
theorem leftRow_set : ∀ (old new : List Int) (k j : Nat) (h : Int), j < old.length → h ≠ old.getD j 0 → (∀ i, i < old.length → new.getD (k + i) 0 = (old.set j h).getD i 0) → leftRow new k old = [old.getD j 0]
  | [], new, k, j, h, hj, _, _ => by simp at hj
  | a :: t, new, k, 0, h, hj, hne, hs => by
    have h0 := hs 0 (by simp)
    simp at h0 hne
    rw [leftRow, if_neg (by simp [h0]; exact hne), leftRow_same new t (k + 1) (fun i hi => by
      have := hs (i + 1) (by simpa using hi)
      rw [show k + (i + 1) = k + 1 + i by omega] at this
      simpa using this)]
    simp
  | a :: t, new, k, j + 1, h, hj, hne, hs => by
    have h0 := hs 0 (by simp)
    simp at h0
    rw [leftRow, if_pos (by simp [h0]), leftRow_set t new (k + 1) j h (by simpa using hj) (by simpa using hne) (fun i hi => by
      have := hs (i + 1) (by simpa using hi)
      rw [show k + (i + 1) = k + 1 + i by omega] at this
      simpa using this)]
    simp
theorem U64.set {l : List Int} (h : U64 l) (k : Nat) {x : Int} (hx : B64 x) : U64 (l.set k x) := by
  intro y hy
  rcases List.mem_or_eq_of_mem_set hy with hy | rfl
  · exact h y hy
  · exact hx
theorem raise_set {n : Nat} {G : Int} (hG : G ≤ 1099511627775) : ∀ {rows : List (List Int)} {p : Pl} {below : List Int} {k : Nat} {y : Int}, PK n G p → U64 below → B64 y → Tr p rows below → k < below.length → below.getD k 0 ≠ y → rows.length ≤ p.st.free.length →
    ∃ q rows', p.raise rows rows.length (below.set k y) = some (q, rows') ∧ q.st.free.length + rows.length = p.st.free.length ∧ rows'.length = rows.length ∧ rows'.flatten.length = rows.flatten.length ∧ ∀ pre, (left (pre ++ rows') pre.length rows).length = rows.length
  | [], p, below, k, y, hP, hU, hy, ht, hk, hne, hf => ⟨p, [], rfl, by simp, rfl, rfl, fun pre => by simp [left]⟩
  | row :: rest, p, below, k, y, hP, hU, hy, ht, hk, hne, hf => by
    have hff : p.st.free ≠ [] := fun e => by rw [e] at hf; simp at hf
    obtain ⟨fr, i, hfr, hi⟩ := hP.ok.last hff
    obtain ⟨hj, -⟩ := it_row ht.1 hk
    have hlen := congrArg List.length ht.1
    rw [List.length_map, fours_len] at hlen
    have hat : p.at (row.getD (k / 4) 0) = (below.drop (4 * (k / 4))).take 4 := by
      rw [← fours_at (qs below.length) below (k / 4) (by omega), ← ht.1, getD_at [] (by rw [List.length_map]; exact hj), List.getElem_map, getD_at 0 hj]
    have hcs : fours (qs (below.set k y).length) (below.set k y) = (row.map p.at).set (k / 4) (((below.set k y).drop (4 * (k / 4))).take 4) := by
      rw [List.length_set, fours_set _ _ _ _ hk (by omega), ht.1]
    have hl := lays_set hP hG hfr (c' := ((below.set k y).drop (4 * (k / 4))).take 4) (j := k / 4) ht.2.1 hj (by rw [hat]; exact four_ne hk hne)
    obtain ⟨a, e, -, d⟩ := lays_spec hG hP (by rw [← hcs]; exact fours_ok _ (hU.set k hy)) (fun x hx _ => ⟨(ht.2.1 x hx).1, (ht.2.1 x hx).2.1⟩) hl
    have hnl : row.getD (k / 4) 0 ≠ hd i (p.st.gens.getD i 0) := by
      intro e'
      have hlv := (ht.2.1 (row.getD (k / 4) 0) (by rw [getD_at 0 hj]; exact List.getElem_mem _)).1
      rw [e'] at hlv
      obtain ⟨i', h1, -, h3, -⟩ := hP.ok.live hlv
      have hs := hP.ok.small
      rw [hd_index (by omega)] at h1
      have : i' = i := by omega
      rw [this, hP.ok.free i (by rw [hfr]; simp)] at h3
      cases h3
    have hb : B64 (hd i (p.st.gens.getD i 0)) := by
      have := hP.ok.gen hi
      have := hP.ok.small
      unfold B64 hd
      omega
    have hfl : (p.tk i (((below.set k y).drop (4 * (k / 4))).take 4)).st.free.length + 1 = p.st.free.length := by
      show p.st.free.dropLast.length + 1 = _
      rw [hfr]
      simp
    obtain ⟨q, rows', h1, h2, h3, h4, h5⟩ := raise_set hG (rows := rest) a ht.2.1.u64 hb (ht.2.2.ext e) hj hnl (by simp at hf; omega)
    refine ⟨q, row.set (k / 4) (hd i (p.st.gens.getD i 0)) :: rows', ?_, by simp; omega, by simp [h3], by simp [h4], fun pre => ?_⟩
    · rw [List.length_cons, raise_succ]
      simp only [List.headD_cons, List.tail_cons]
      rw [hcs, hl]
      simp only [h1]
      rfl
    · have h6 := h5 (pre ++ [row.set (k / 4) (hd i (p.st.gens.getD i 0))])
      rw [List.append_assoc, List.singleton_append, List.length_append, List.length_singleton] at h6
      rw [left, List.length_append, h6, getD_right _ (Nat.le_refl _), Nat.sub_self, List.getD_cons_zero, leftRow_set row _ 0 (k / 4) (hd i (p.st.gens.getD i 0)) hj (Ne.symm hnl) (fun i _ => by rw [Nat.zero_add])]
      simp
      omega
/-- A first change in a new pool takes all its chunks. -/
theorem lays_none : ∀ {cs : List (List Int)} {p q : Pl} {row : List Int}, p.lays [] cs = some (q, row) → q.st.free.length + row.length = p.st.free.length
  | [], p, q, row, h => by cases h; rfl
  | c :: cs, p, q, row, h => by
    rw [lays_cons] at h
    split at h
    · cases h
    · rename_i q1 y hp
      obtain ⟨r, h1, h2⟩ := Option.map_eq_some_iff.1 h
      cases h2
      have ih := lays_none h1
      rw [place_take (by simp)] at hp
      cases hl : p.st.free.getLast? with
      | none => rw [hl] at hp; cases hp
      | some i =>
        rw [hl] at hp
        cases hp
        have hne : p.st.free ≠ [] := fun e => by rw [e] at hl; simp at hl
        have : (p.tk i.toNat c).st.free.length + 1 = p.st.free.length := by
          show p.st.free.dropLast.length + 1 = _
          rw [List.length_dropLast]
          have := List.length_pos_iff.2 hne
          omega
        simp
        omega
theorem raise_none : ∀ {L : Nat} {p q : Pl} {rows : List (List Int)} {below : List Int}, p.raise [] L below = some (q, rows) → q.st.free.length + rows.flatten.length = p.st.free.length
  | 0, p, q, rows, below, h => by cases h; simp
  | L + 1, p, q, rows, below, h => by
    rw [raise_succ] at h
    split at h
    · cases h
    · rename_i q1 row hl
      obtain ⟨r, h1, h2⟩ := Option.map_eq_some_iff.1 h
      cases h2
      have a := lays_none hl
      have b := raise_none h1
      show r.1.st.free.length + (row :: r.2).flatten.length = _
      rw [List.flatten_cons, List.length_append]
      omega
theorem left_same : ∀ (rows : List (List Int)) (pre : List (List Int)), left (pre ++ rows) pre.length rows = []
  | [], pre => rfl
  | row :: rest, pre => by
    have := left_same rest (pre ++ [row])
    rw [List.append_assoc, List.singleton_append, List.length_append, List.length_singleton] at this
    rw [left, this, getD_right _ (Nat.le_refl _), Nat.sub_self, List.getD_cons_zero, leftRow_same row row 0 (fun j _ => by rw [Nat.zero_add])]
    rfl
theorem lev_loop : ∀ m, m < 201 → ∀ j, j < 5 → (0 < m ∧ 1 ≤ j ∧ j ≤ lvs m) → (4 ^ j < m → j + 1 ≤ lvs m) ∧ (¬ 4 ^ j < m → j = lvs m) := by decide +kernel
/-- What Set comes to where there is room. -/
theorem set_path {n : Nat} {G : Int} {p : Pl} {v : Vc} {l : List Int} {rows : List (List Int)} (hP : PK n G p) (hG : G ≤ 1099511627775) (hv : WF p v l rows) {k : Nat} {x : Int} (hk : k < l.length) (hx : B64 x) (hf : 68 ≤ p.st.free.length) :
    ∃ T : Told, p.setV v k x = T ∧ T.e = 0 ∧ T.v.size = l.length ∧ PK n G T.p ∧ (∃ rows2, WF T.p T.v (l.set k x) rows2 ∧ rows2.flatten.length = rows.flatten.length) ∧
      (l.getD k 0 = x → T.v = v ∧ T.gone = []) ∧ (l.getD k 0 ≠ x → T.gone.length = lvs l.length ∧ T.p.st.free.length + lvs l.length = p.st.free.length) := by
  have hs := hv.small
  have e0 : p.setV v k x = p.change v (l.set k x) := by
    rw [Pl.setV, if_neg (by rw [hv.size]; omega), hv.items]
    simp only [Int.toNat_natCast]
  have hlen : (l.set k x).length = l.length := List.length_set ..
  by_cases hxe : l.getD k 0 = x
  · have e1 : l.set k x = l := by
      rw [← hxe, getD_at 0 hk]
      exact List.set_getElem_self hk
    have hr : p.raise rows (lvs l.length) l = some (p, rows) := by rw [← hv.len]; exact raise_same hv.tr
    obtain ⟨a, b, c, d⟩ := change_wf hP hG hv hs hv.u64 hr
    refine ⟨_, e0, ?_, ?_, ?_, ⟨rows, ?_, rfl⟩, fun _ => ⟨?_, ?_⟩, fun h => absurd hxe h⟩
    · rw [e1, a]
    · rw [e1, a]
    · rw [e1, a]; exact b
    · rw [e1, a]; exact d
    · rw [e1, a, ← hv.root, ← hv.size]
    · rw [e1, a]; exact left_same rows []
  · have hU := hv.u64.set k hx
    obtain ⟨q, rows', h1, h2, h3, h4, h5⟩ := raise_set hG hP hv.u64 hx hv.tr hk hxe (by rw [hv.len]; have := lvs_le l.length; omega)
    rw [hv.len] at h1 h2
    obtain ⟨a, b, c, d⟩ := change_wf hP hG hv (items := l.set k x) (by omega) hU (by rw [hlen]; exact h1)
    refine ⟨_, e0, by rw [a], by rw [a]; exact hlen, by rw [a]; exact b, ⟨rows', by rw [a]; exact d, h4⟩, fun h => absurd h hxe, fun _ => ⟨?_, by rw [a]; exact h2⟩⟩
    rw [a]
    have := h5 []
    rw [hv.len] at this
    exact this
end Go.Proofs.Ytbldjlkofaiikaa
