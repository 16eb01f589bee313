/-
  Which handles are live when a list is turned, and what it leaves is freed. No program here.
-/
import Derived.Test.YtnlnfkjjfbgceaaVecTu
namespace Go.Proofs.Ytnlnfkjjfbgceaa
set_option linter.unusedVariables false
set_option linter.unusedSimpArgs false

def keptRow (new : List Int) : Nat → List Int → List Int
  | _, [] => []
  | k, h :: t => if new.getD k 0 = h then h :: keptRow new (k + 1) t else keptRow new (k + 1) t
theorem kept_left (new : List Int) : ∀ (old : List Int) (k : Nat), old.Perm (keptRow new k old ++ leftRow new k old)
  | [], k => by simp [keptRow, leftRow]
  | h :: t, k => by
    rw [keptRow, leftRow]
    split
    · exact (kept_left new t (k + 1)).cons h
    · exact ((kept_left new t (k + 1)).cons h).trans List.perm_middle.symm
def keptAll (rows : List (List Int)) : Nat → List (List Int) → List Int
  | _, [] => []
  | l, row :: t => keptRow (rows.getD l []) 0 row ++ keptAll rows (l + 1) t
theorem kept_all (rows : List (List Int)) : ∀ (old : List (List Int)) (l : Nat), old.flatten.Perm (keptAll rows l old ++ left rows l old)
  | [], l => by simp [keptAll, left]
  | row :: t, l => by
    rw [keptAll, left, List.flatten_cons]
    refine ((kept_left (rows.getD l []) row 0).append (kept_all rows t (l + 1))).trans ?_
    rw [List.append_assoc, List.append_assoc]
    refine List.Perm.append_left _ ?_
    rw [← List.append_assoc, ← List.append_assoc]
    exact List.perm_append_comm.append_right _
theorem keptRow_none : ∀ {old : List Int} {k : Nat}, (∀ h ∈ old, h ≠ 0) → keptRow [] k old = []
  | [], k, _ => rfl
  | h :: t, k, hz => by
    rw [keptRow, if_neg (fun e => hz h (by simp) (by simpa using e.symm)), keptRow_none (fun x hx => hz x (by simp [hx]))]
theorem keptAll_none {rows : List (List Int)} : ∀ {old : List (List Int)} {l : Nat}, rows.length ≤ l → (∀ r ∈ old, ∀ h ∈ r, h ≠ 0) → keptAll rows l old = []
  | [], l, _, _ => rfl
  | row :: t, l, hl, hz => by
    have e : rows.getD l [] = [] := by rw [List.getD, List.getElem?_eq_none hl]; rfl
    rw [keptAll, e, keptRow_none (hz row (by simp)), keptAll_none (by omega) (fun r hr => hz r (by simp [hr]))]
    rfl
theorem lv_tk_iff {n : Nat} {G : Int} {s : St} (ho : Ok n G s) {fr : List Int} {i : Nat} (hfr : s.free = fr ++ [(i : Int)]) (hi : i < n) (h : Int) : (s.tk i).lv h = true ↔ s.lv h = true ∨ h = hd i (s.gens.getD i 0) := by
  have hs := ho.small
  refine ⟨fun hl => ?_, fun hl => ?_⟩
  · obtain ⟨i', h1, h2, h3, h4⟩ := (ho.tk hfr).live hl
    by_cases e : i = i'
    · right
      subst e
      have h4' : s.gens.getD i 0 = h / 16777216 := h4
      rw [h4']
      unfold hd
      omega
    · left
      have h3' : (s.used.set i true).getD i' false = true := h3
      rw [getD_set, if_neg (fun hc => e hc.1)] at h3'
      exact lv_of h1 h3' h4
  · rcases hl with hl | rfl
    · exact lv_tk_other hl
    · exact lv_tk_new (by rw [ho.used]; exact hi) (by omega)
theorem lv_freeL {n : Nat} {G : Int} {s : St} (ho : Ok n G s) {fr : List Int} {i : Nat} (hfr : s.free = fr ++ [(i : Int)]) (hi : i < n) : s.lv (hd i (s.gens.getD i 0)) = false := by
  have hs := ho.small
  cases hl : s.lv (hd i (s.gens.getD i 0)) with
  | false => rfl
  | true =>
    obtain ⟨i', h1, h2, h3, h4⟩ := ho.live hl
    rw [hd_index (by omega)] at h1
    have : i' = i := by omega
    rw [this, ho.free i (by rw [hfr]; simp)] at h3
    cases h3
/-- What laying chunks comes to: N are the new handles. -/
structure Laid (p q : Pl) (N : List Int) : Prop where
  nd : N.Nodup
  dead : ∀ h ∈ N, p.st.lv h = false
  lv : ∀ h, q.st.lv h = true ↔ p.st.lv h = true ∨ h ∈ N
theorem Laid.refl (p : Pl) : Laid p p [] := ⟨List.nodup_nil, fun h hh => by simp at hh, fun h => by simp⟩
theorem Laid.trans {p q r : Pl} {N M : List Int} (a : Laid p q N) (b : Laid q r M) : Laid p r (N ++ M) := by
  refine ⟨List.nodup_append.2 ⟨a.nd, b.nd, fun x hx y hy e => ?_⟩, fun h hh => ?_, fun h => ?_⟩
  · subst e
    have := b.dead x hy
    rw [(a.lv x).2 (.inr hx)] at this
    cases this
  · rcases List.mem_append.1 hh with hh | hh
    · exact a.dead h hh
    · cases hl : p.st.lv h with
      | false => rfl
      | true =>
        have := b.dead h hh
        rw [(a.lv h).2 (.inl hl)] at this
        cases this
  · rw [b.lv, a.lv, List.mem_append, or_assoc]
theorem lays_just {n : Nat} {G : Int} (hG : G ≤ 1099511627775) : ∀ {cs : List (List Int)} {p q : Pl} {old row : List Int}, PK n G p → CsOk cs → Lv p old → p.lays old cs = some (q, row) → ∃ N, Laid p q N ∧ ∀ pre, row.Perm (keptRow (pre ++ row) pre.length old ++ N)
  | [], p, q, old, row, hP, hc, hl, he => by
    cases he
    refine ⟨[], Laid.refl _, fun pre => ?_⟩
    have : ∀ {old : List Int} {k : Nat}, pre.length ≤ k → (∀ h ∈ old, h ≠ 0) → keptRow (pre ++ []) k old = [] := by
      intro old
      induction old with
      | nil => intro k _ _; rfl
      | cons h t ih =>
        intro k hk hz
        rw [keptRow, if_neg (fun e => hz h (by simp) (by rw [List.append_nil, List.getD, List.getElem?_eq_none hk] at e; simpa using e.symm)), ih (by omega) (fun x hx => hz x (by simp [hx]))]
    rw [this (Nat.le_refl _) (fun h hh => (hl h hh).2.2)]
    exact List.Perm.refl _
  | c :: cs, p, q, old, row, hP, hc, hl, he => by
    rw [lays_cons] at he
    split at he
    · cases he
    · rename_i q1 y hp
      obtain ⟨r, h1, h2⟩ := Option.map_eq_some_iff.1 he
      cases h2
      have hsp := place_spec hP hG (hc c (by simp)).1 (hc c (by simp)).2 (fun hx => ⟨(hl _ (headD_mem hx)).1, (hl _ (headD_mem hx)).2.1⟩) hp
      have hct : CsOk cs := fun d hd => hc d (by simp [hd])
      have hlt : Lv p old.tail := fun x hx => hl x (List.mem_of_mem_tail hx)
      obtain ⟨N, hL, hN⟩ := lays_just hG hsp.pk hct (hlt.ext hsp.ext) h1
      unfold Pl.place at hp
      split at hp
      · rename_i hk
        cases hp
        match old, hl, hk, hN with
        | h :: t, hl, hk, hN =>
          simp only [List.headD_cons, List.tail_cons] at *
          refine ⟨N, hL, fun pre => ?_⟩
          have := hN (pre ++ [h])
          rw [List.append_assoc, List.singleton_append, List.length_append, List.length_singleton] at this
          rw [keptRow, if_pos (by rw [getD_right _ (Nat.le_refl _), Nat.sub_self]; rfl)]
          exact this.cons h
      · by_cases hf : p.st.free = []
        · rw [hf] at hp; cases hp
        · obtain ⟨fr, i, hfr, hi⟩ := hP.ok.last hf
          rw [hfr, List.getLast?_concat] at hp
          simp only [Int.toNat_natCast] at hp
          cases hp
          have hT : Laid p (p.tk i c) [hd i (p.st.gens.getD i 0)] := ⟨by simp, fun h hh => by rw [List.mem_singleton.1 hh]; exact lv_freeL hP.ok hfr hi, fun h => by rw [List.mem_singleton]; exact lv_tk_iff hP.ok hfr hi h⟩
          refine ⟨_, hT.trans hL, fun pre => ?_⟩
          have := hN (pre ++ [hd i (p.st.gens.getD i 0)])
          rw [List.append_assoc, List.singleton_append, List.length_append, List.length_singleton] at this
          have hkr : keptRow (pre ++ hd i (p.st.gens.getD i 0) :: r.2) pre.length old = keptRow (pre ++ hd i (p.st.gens.getD i 0) :: r.2) (pre.length + 1) old.tail := by
            match old, hl with
            | [], _ => rfl
            | h :: t, hl =>
              rw [keptRow, if_neg ?_]
              · rfl
              · rw [getD_right _ (Nat.le_refl _), Nat.sub_self, List.getD_cons_zero]
                intro e
                have h1 := lv_freeL hP.ok hfr hi
                rw [e, (hl h (by simp)).1] at h1
                cases h1
          rw [hkr, List.singleton_append]
          exact (this.cons _).trans List.perm_middle.symm
theorem raise_just {n : Nat} {G : Int} (hG : G ≤ 1099511627775) : ∀ {L : Nat} {p q : Pl} {old rows : List (List Int)} {below : List Int}, PK n G p → U64 below → (∀ r ∈ old, Lv p r) → p.raise old L below = some (q, rows) → ∃ N, Laid p q N ∧ ∀ pre, rows.flatten.Perm (keptAll (pre ++ rows) pre.length old ++ N)
  | 0, p, q, old, rows, below, hP, hU, hl, he => by
    cases he
    refine ⟨[], Laid.refl _, fun pre => ?_⟩
    rw [keptAll_none (rows := pre ++ []) (by simp) (fun r hr h hh => (hl r hr h hh).2.2)]
    exact List.Perm.refl _
  | L + 1, p, q, old, rows, below, hP, hU, hl, he => by
    rw [raise_succ] at he
    split at he
    · cases he
    · rename_i q1 row hp
      obtain ⟨r, h1, h2⟩ := Option.map_eq_some_iff.1 he
      cases h2
      have hlh : Lv p (old.headD []) := by
        cases old with
        | nil => intro x hx; simp at hx
        | cons a t => exact hl a (by simp)
      obtain ⟨a1, a2, a3, a4⟩ := lays_spec hG hP (fours_ok _ hU) (fun x hx _ => ⟨(hlh x hx).1, (hlh x hx).2.1⟩) hp
      obtain ⟨N, hN, hNp⟩ := lays_just hG hP (fours_ok _ hU) hlh hp
      obtain ⟨M, hM, hMp⟩ := raise_just hG a1 a4.u64 (fun r hr => (hl r (List.mem_of_mem_tail hr)).ext a2) h1
      refine ⟨_, hN.trans hM, fun pre => ?_⟩
      have e1 := hNp []
      have e2 := hMp (pre ++ [row])
      rw [List.append_assoc, List.singleton_append, List.length_append, List.length_singleton] at e2
      simp only [List.nil_append, List.length_nil] at e1
      have hka : keptAll (pre ++ row :: r.2) pre.length old = keptRow row 0 (old.headD []) ++ keptAll (pre ++ row :: r.2) (pre.length + 1) old.tail := by
        cases old with
        | nil => rfl
        | cons a t => rw [keptAll, getD_right _ (Nat.le_refl _), Nat.sub_self]; rfl
      rw [hka, List.flatten_cons]
      refine (e1.append e2).trans ?_
      rw [List.append_assoc, List.append_assoc]
      refine List.Perm.append_left _ ?_
      rw [← List.append_assoc, ← List.append_assoc]
      exact List.perm_append_comm.append_right _
/-- Just the handles of L are live. -/
structure Just (p : Pl) (L : List Int) : Prop where
  nd : L.Nodup
  mem : ∀ h, p.st.lv h = true ↔ h ∈ L
/-- Chunks are given back. -/
def Pl.freeL (p : Pl) : List Int → Option Pl
  | [] => some p
  | h :: t => if p.st.lv h then (p.gb (ix h) (h / 16777216 + 1)).freeL t else none
theorem PK.gb {n : Nat} {G : Int} {p : Pl} (hP : PK n G p) {h : Int} (hl : p.st.lv h = true) : PK n (G + 1) (p.gb (ix h) (h / 16777216 + 1)) := by
  obtain ⟨i, h1, h2, h3, h4⟩ := hP.ok.live hl
  have e : ix h = i := by unfold ix; omega
  have hg := hP.ok.gen h2
  rw [e]
  refine ⟨hP.ok.gb h2 h3 (by omega) (by omega) (by omega), by show (p.ch.set i []).length = n; rw [List.length_set, hP.len], fun c hc => ?_, fun c hc => ?_⟩
  · rcases List.mem_or_eq_of_mem_set hc with hc | rfl
    · exact hP.four c hc
    · simp
  · rcases List.mem_or_eq_of_mem_set hc with hc | rfl
    · exact hP.u64 c hc
    · intro x hx; simp at hx
theorem gb_lv {p : Pl} {h x : Int} (hl : p.st.lv h = true) : (p.gb (ix h) (h / 16777216 + 1)).st.lv x = true ↔ p.st.lv x = true ∧ x ≠ h := by
  have e : ((ix h : Nat) : Int) = h % 16777216 := by unfold ix; omega
  by_cases hx : x % 16777216 = h % 16777216
  · refine ⟨fun hc => ?_, fun ⟨h1, h2⟩ => absurd (lv_same h1 hl hx) h2⟩
    have : (p.st.gb (ix h) (h / 16777216 + 1)).lv x = false := lv_gb (by omega)
    exact absurd hc (by show ¬ (p.st.gb (ix h) (h / 16777216 + 1)).lv x = true; rw [this]; decide)
  · have : (p.st.gb (ix h) (h / 16777216 + 1)).lv x = p.st.lv x := lv_gb_other (by omega) (by omega)
    show (p.st.gb (ix h) (h / 16777216 + 1)).lv x = true ↔ _
    rw [this]
    exact ⟨fun hc => ⟨hc, fun e => hx (by rw [e])⟩, fun hc => hc.1⟩
theorem gb_at {p : Pl} {h x : Int} (hl : p.st.lv h = true) (hx : p.st.lv x = true) (hne : x ≠ h) : (p.gb (ix h) (h / 16777216 + 1)).at x = p.at x := by
  have : ix h ≠ ix x := fun e => hne (lv_same hx hl (by unfold ix at e; omega))
  show (p.ch.set (ix h) []).getD (ix x) [] = p.ch.getD (ix x) []
  rw [getD_set, if_neg (fun hc => this hc.1)]
theorem free_all {n : Nat} : ∀ {l : List Int} {G : Int} {p : Pl}, PK n G p → l.Nodup → (∀ h ∈ l, p.st.lv h = true) → ∃ q, p.freeL l = some q ∧ PK n (G + l.length) q ∧ (∀ h, q.st.lv h = true ↔ p.st.lv h = true ∧ h ∉ l) ∧ ∀ h, q.st.lv h = true → q.at h = p.at h
  | [], G, p, hP, _, _ => ⟨p, rfl, by simpa using hP, fun h => by simp, fun h _ => rfl⟩
  | x :: t, G, p, hP, hn, hl => by
    have hlx := hl x (by simp)
    obtain ⟨hx, hnt⟩ := List.nodup_cons.1 hn
    obtain ⟨q, h1, h2, h3, h4⟩ := free_all (hP.gb hlx) hnt (fun h hh => (gb_lv hlx).2 ⟨hl h (by simp [hh]), fun e => hx (by rw [← e]; exact hh)⟩)
    refine ⟨q, by rw [Pl.freeL, if_pos hlx]; exact h1, ?_, fun h => ?_, fun h hh => ?_⟩
    · have e : G + 1 + (t.length : Int) = G + ((x :: t).length : Int) := by simp; omega
      rw [← e]
      exact h2
    · rw [h3, gb_lv hlx, List.mem_cons, not_or, and_assoc]
    · have := (gb_lv hlx).1 ((h3 h).1 hh).1
      rw [h4 h hh, gb_at hlx this.1 this.2]
theorem Tr.keep {p q : Pl} : ∀ {rows : List (List Int)} {below : List Int}, (∀ h ∈ rows.flatten, q.st.lv h = true ∧ q.at h = p.at h) → Tr p rows below → Tr q rows below
  | [], _, _, _ => trivial
  | row :: rows, below, hk, ht => by
    refine ⟨?_, fun x hx => ⟨(hk x (by simp [hx])).1, (ht.2.1 x hx).2⟩, Tr.keep (fun h hh => hk h (by rw [List.flatten_cons]; exact List.mem_append.2 (.inr hh))) ht.2.2⟩
    rw [← ht.1]
    exact List.map_congr_left fun x hx => (hk x (by simp [hx])).2
theorem WF.keep {p q : Pl} {v : Vc} {l : List Int} {rows : List (List Int)} (h : WF p v l rows) (hk : ∀ h ∈ rows.flatten, q.st.lv h = true ∧ q.at h = p.at h) : WF q v l rows := ⟨h.size, h.small, h.u64, h.len, h.tr.keep hk, h.root⟩
/-- A turn, and what it leaves freed: just the chunks of the list are live. -/
theorem Turned.frees {n : Nat} {G : Int} {p : Pl} {v : Vc} {l : List Int} {rows : List (List Int)} {T : Told} (hP : PK n G p) (hG : G ≤ 1099511627775) (hv : WF p v l rows) (hj : Just p rows.flatten) (h : Turned p v rows T) :
    (∀ x ∈ T.gone, B64 x) ∧ ∃ q, T.p.freeL T.gone = some q ∧ PK n (G + T.gone.length) q ∧ ∃ l' rows', WF q T.v l' rows' ∧ Just q rows'.flatten := by
  rcases h with ⟨e1, e2, e3⟩ | ⟨items, rows', h1, h2, h3⟩
  · rw [e1, e2, e3]
    exact ⟨fun x hx => by simp at hx, p, rfl, by simpa using hP, l, rows, hv, hj⟩
  · obtain ⟨a, b, c, d⟩ := raise_spec hG hP h3.u64 (tr_mem hv.tr) h1
    obtain ⟨N, hN, hp⟩ := raise_just hG hP h3.u64 (tr_mem hv.tr) h1
    have e1 := hp []
    simp only [List.nil_append, List.length_nil] at e1
    have e2 := kept_all rows' rows 0
    rw [← h2] at e2
    generalize keptAll rows' 0 rows = K at *
    have hnd := e2.nodup_iff.1 hj.nd
    obtain ⟨k1, k2, k3⟩ := List.nodup_append.1 hnd
    have hgm : ∀ x ∈ T.gone, x ∈ rows.flatten := fun x hx => e2.mem_iff.2 (List.mem_append.2 (.inr hx))
    have hKm : ∀ x ∈ K, x ∈ rows.flatten := fun x hx => e2.mem_iff.2 (List.mem_append.2 (.inl hx))
    have hpl : ∀ x ∈ T.gone, p.st.lv x = true := fun x hx => (hj.mem x).2 (hgm x hx)
    obtain ⟨q, f1, f2, f3, f4⟩ := free_all a k2 (fun x hx => (hN.lv x).2 (.inl (hpl x hx)))
    have hlq : ∀ h, q.st.lv h = true ↔ h ∈ rows'.flatten := fun h => by
      rw [f3, hN.lv, hj.mem, e1.mem_iff, e2.mem_iff, List.mem_append, List.mem_append]
      constructor
      · rintro ⟨(hk | hg) | hn, hng⟩
        · exact .inl hk
        · exact absurd hg hng
        · exact .inr hn
      · rintro (hk | hn)
        · exact ⟨.inl (.inl hk), fun hg => k3 h hk h hg rfl⟩
        · refine ⟨.inr hn, fun hg => ?_⟩
          have := hN.dead h hn
          rw [hpl h hg] at this
          cases this
    refine ⟨fun x hx => ?_, q, f1, f2, items, rows', h3.keep (fun h hh => ⟨(hlq h).2 hh, f4 h ((hlq h).2 hh)⟩), ⟨e1.nodup_iff.2 (List.nodup_append.2 ⟨k1, hN.nd, fun x hx y hy e => ?_⟩), hlq⟩⟩
    · obtain ⟨r, hr, hxr⟩ := List.mem_flatten.1 (hgm x hx)
      exact (tr_mem hv.tr r hr x hxr).2.1
    · subst e
      have := hN.dead x hy
      rw [(hj.mem x).2 (hKm x hx)] at this
      cases this
theorem al_of {s : St} : ∀ {k i : Nat}, i < k → s.used.getD i false = true → hd i (s.gens.getD i 0) ∈ s.al k
  | k + 1, i, hi, hu => by
    rw [St.al]
    by_cases e : i = k
    · subst e
      rw [if_pos hu]
      exact List.mem_append.2 (.inr (by simp))
    · have := al_of (show i < k by omega) hu
      split
      · exact List.mem_append.2 (.inl this)
      · exact this
/-- As many are told as the list has. -/
theorem Just.count {n : Nat} {G : Int} {p : Pl} {L : List Int} (hP : PK n G p) (h : Just p L) : (p.st.al n).length = L.length := by
  have hs := hP.ok.small
  refine ((List.perm_ext_iff_of_nodup ?_ h.nd).2 fun x => ?_).length_eq
  · exact (al_rises hs).imp fun hab e => by rw [e] at hab; omega
  · rw [← h.mem]
    refine ⟨fun hm => (al_live hs hm).1, fun hl => ?_⟩
    obtain ⟨i, h1, h2, h3, h4⟩ := hP.ok.live hl
    have e : x = hd i (p.st.gens.getD i 0) := by rw [h4]; unfold hd; omega
    rw [e]
    exact al_of h2 h3
theorem just_fresh (n : Nat) : Just (freshP n) [] := by
  refine ⟨List.nodup_nil, fun h => ?_⟩
  have : (freshP n).st.lv h = false := by
    unfold St.lv freshP fresh
    simp only []
    rw [getD_replicate]
    simp
  rw [this]
  simp
end Go.Proofs.Ytnlnfkjjfbgceaa
