/-
  What lists in pools are: the plain mathematics of raise, down, items, get. No program here.
-/
import Derived.Test.YtbldjlkofaiikaaVecO
import Derived.Test.YtbldjlkofaiikaaVecS
namespace Go.Proofs.Ytbldjlkofaiikaa
set_option linter.unusedVariables false
set_option linter.unusedSimpArgs false

def B64 (h : Int) : Prop := 0 ≤ h ∧ h ≤ 18446744073709551615
/-- What is live stays so, with the same chunk. -/
def Ext (p q : Pl) : Prop := ∀ h, p.st.lv h = true → q.st.lv h = true ∧ q.at h = p.at h
theorem Ext.refl (p : Pl) : Ext p p := fun h hl => ⟨hl, rfl⟩
theorem Ext.trans {p q r : Pl} (a : Ext p q) (b : Ext q r) : Ext p r := fun h hl => ⟨(b h (a h hl).1).1, (b h (a h hl).1).2.trans (a h hl).2⟩
theorem tk_ext {n : Nat} {G : Int} {p : Pl} (hP : PK n G p) {fr : List Int} {i : Nat} (hfr : p.st.free = fr ++ [(i : Int)]) (c : List Int) : Ext p (p.tk i c) := by
  intro h hl
  refine ⟨lv_tk_other hl, ?_⟩
  obtain ⟨j, hj, hjn, hu, hg⟩ := hP.ok.live hl
  have hf : p.st.used.getD i false = false := hP.ok.free i (by rw [hfr]; simp)
  have hne : i ≠ ix h := by
    unfold ix
    intro e
    have : j = i := by omega
    rw [this, hf] at hu
    cases hu
  show (p.ch.set i c).getD (ix h) [] = p.ch.getD (ix h) []
  rw [getD_set, if_neg (fun hc => hne hc.1)]
structure Spec1 (n : Nat) (G : Int) (p q : Pl) (y : Int) (c : List Int) : Prop where
  pk : PK n G q
  ext : Ext p q
  lv : q.st.lv y = true
  at_ : q.at y = c
  b64 : B64 y
  nz : y ≠ 0
theorem place_spec {n : Nat} {G : Int} {p : Pl} (hP : PK n G p) (hG : G ≤ 1099511627775) {x : Int} {c : List Int} (h4 : c.length ≤ 4) (hc : U64 c) (hx : x ≠ 0 → p.st.lv x = true ∧ B64 x) {q : Pl} {y : Int} (he : p.place x c = some (q, y)) : Spec1 n G p q y c := by
  obtain ⟨hq, hy⟩ := place_some hP hG h4 hc (fun a => (hx a).2) he
  unfold Pl.place at he
  split at he
  · rename_i hc'
    cases he
    exact ⟨hP, Ext.refl _, (hx hc'.1).1, hc'.2, hy, hc'.1⟩
  · by_cases hf : p.st.free = []
    · rw [hf] at he; cases he
    · obtain ⟨fr, i, hfr, hi⟩ := hP.ok.last hf
      rw [hfr, List.getLast?_concat] at he
      cases he
      have hs := hP.ok.small
      have hg := hP.ok.gen hi
      rw [Int.toNat_natCast] at hq hy ⊢
      refine ⟨hq, tk_ext hP hfr c, lv_tk_new (by rw [hP.ok.used]; exact hi) (by omega), ?_, hy, by unfold hd; omega⟩
      show (p.ch.set i c).getD (ix (hd i (p.st.gens.getD i 0))) [] = c
      have : ix (hd i (p.st.gens.getD i 0)) = i := by unfold ix; rw [hd_index (by omega)]; simp
      rw [this, getD_set, if_pos ⟨rfl, by rw [hP.len]; exact hi⟩]
/-- Handles that are live. -/
def Lv (p : Pl) (l : List Int) : Prop := ∀ x ∈ l, p.st.lv x = true ∧ B64 x ∧ x ≠ 0
theorem Lv.ext {p q : Pl} {l : List Int} (h : Lv p l) (e : Ext p q) : Lv q l := fun x hx => ⟨(e x (h x hx).1).1, (h x hx).2⟩
theorem Lv.all {p : Pl} {l : List Int} (h : Lv p l) : l.all p.st.lv = true := List.all_eq_true.2 fun x hx => (h x hx).1
theorem map_at_ext {p q : Pl} {l : List Int} (h : Lv p l) (e : Ext p q) : l.map q.at = l.map p.at := List.map_congr_left fun x hx => (e x (h x hx).1).2
def CsOk (cs : List (List Int)) : Prop := ∀ c ∈ cs, c.length ≤ 4 ∧ U64 c
theorem headD_mem {l : List Int} (h : l.headD 0 ≠ 0) : l.headD 0 ∈ l := by cases l <;> simp at h ⊢
theorem lays_spec {n : Nat} {G : Int} (hG : G ≤ 1099511627775) : ∀ {cs : List (List Int)} {p q : Pl} {old row : List Int}, PK n G p → CsOk cs → (∀ x ∈ old, x ≠ 0 → p.st.lv x = true ∧ B64 x) → p.lays old cs = some (q, row) → PK n G q ∧ Ext p q ∧ row.map q.at = cs ∧ Lv q row
  | [], p, q, old, row, hP, _, _, he => by cases he; exact ⟨hP, Ext.refl _, rfl, fun x hx => by simp at hx⟩
  | c :: cs, p, q, old, row, hP, hcs, ho, he => by
    rw [lays_cons] at he
    split at he
    · cases he
    · rename_i q1 y hpl
      obtain ⟨r, h1, h2⟩ := Option.map_eq_some_iff.1 he
      cases h2
      have s := place_spec hP hG (hcs c (by simp)).1 (hcs c (by simp)).2 (fun hne => ho _ (headD_mem hne) hne) hpl
      obtain ⟨a, b, d, e⟩ := lays_spec hG (old := old.tail) s.pk (fun c hc => hcs c (by simp [hc])) (fun x hx hne => ⟨(s.ext x (ho x (List.mem_of_mem_tail hx) hne).1).1, (ho x (List.mem_of_mem_tail hx) hne).2⟩) h1
      refine ⟨a, s.ext.trans b, ?_, fun x hx => ?_⟩
      · rw [List.map_cons, (b y s.lv).2, s.at_, d]
      · rcases List.mem_cons.1 hx with rfl | hx
        · exact ⟨(b x s.lv).1, s.b64, s.nz⟩
        · exact e x hx
/-- The rows of a list, from below on up. -/
def Tr (p : Pl) : List (List Int) → List Int → Prop
  | [], _ => True
  | row :: rows, below => row.map p.at = fours (qs below.length) below ∧ Lv p row ∧ Tr p rows row
theorem Tr.ext {p q : Pl} (e : Ext p q) : ∀ {rows : List (List Int)} {below : List Int}, Tr p rows below → Tr q rows below
  | [], _, _ => trivial
  | row :: rows, below, h => ⟨(map_at_ext h.2.1 e).trans h.1, h.2.1.ext e, Tr.ext e h.2.2⟩
theorem fours_ok : ∀ (m : Nat) {l : List Int}, U64 l → CsOk (fours m l)
  | 0, l, h => fun c hc => by simp [fours] at hc
  | m + 1, l, h => fun c hc => by
    rcases List.mem_cons.1 hc with rfl | hc
    · exact ⟨by simp; omega, h.take 4⟩
    · exact fours_ok m (h.drop 4) c hc
theorem Lv.u64 {p : Pl} {l : List Int} (h : Lv p l) : U64 l := fun x hx => (h x hx).2.1
theorem mem_headD {ls : List (List Int)} {x : Int} (h : x ∈ ls.headD []) : ∃ r ∈ ls, x ∈ r := by
  cases ls with
  | nil => simp at h
  | cons r t => exact ⟨r, by simp, h⟩
theorem raise_spec {n : Nat} {G : Int} (hG : G ≤ 1099511627775) : ∀ {L : Nat} {p q : Pl} {old rows : List (List Int)} {below : List Int}, PK n G p → U64 below → (∀ r ∈ old, Lv p r) → p.raise old L below = some (q, rows) → PK n G q ∧ Ext p q ∧ Tr q rows below ∧ rows.length = L
  | 0, p, q, old, rows, below, hP, _, _, he => by cases he; exact ⟨hP, Ext.refl _, trivial, rfl⟩
  | L + 1, p, q, old, rows, below, hP, hU, ho, he => by
    rw [raise_succ] at he
    split at he
    · cases he
    · rename_i q1 row hl
      obtain ⟨r, h1, h2⟩ := Option.map_eq_some_iff.1 he
      cases h2
      obtain ⟨a, b, c, d⟩ := lays_spec hG hP (fours_ok _ hU) (fun x hx _ => by obtain ⟨r, hr, hxr⟩ := mem_headD hx; exact ⟨(ho r hr x hxr).1, (ho r hr x hxr).2.1⟩) hl
      obtain ⟨a2, b2, c2, d2⟩ := raise_spec hG (old := old.tail) a d.u64 (fun r hr => (ho r (List.mem_of_mem_tail hr)).ext b) h1
      exact ⟨a2, b.trans b2, ⟨(map_at_ext d b2).trans c, d.ext b2, c2⟩, by simp [d2]⟩

/-! ### room -/
def need : Nat → Nat → Nat
  | 0, _ => 0
  | L + 1, m => qs m + need L (qs m)
theorem need_68 : ∀ m, m < 201 → need (lvs m) m ≤ 68 := by decide +kernel
theorem lays_room : ∀ {cs : List (List Int)} {p : Pl} {old : List Int}, cs.length ≤ p.st.free.length → ∃ q row, p.lays old cs = some (q, row) ∧ p.st.free.length ≤ q.st.free.length + cs.length
  | [], p, old, _ => ⟨p, [], rfl, by simp⟩
  | c :: cs, p, old, h => by
    have hp : ∃ q y, p.place (old.headD 0) c = some (q, y) ∧ p.st.free.length ≤ q.st.free.length + 1 := by
      unfold Pl.place
      split
      · exact ⟨p, _, rfl, by omega⟩
      · cases hl : p.st.free.getLast? with
        | none => rw [List.getLast?_eq_none_iff] at hl; rw [hl] at h; simp at h
        | some i => exact ⟨_, _, rfl, by simp [Pl.tk, St.tk]; omega⟩
    obtain ⟨q, y, h1, h2⟩ := hp
    obtain ⟨q2, row, h3, h4⟩ := lays_room (cs := cs) (p := q) (old := old.tail) (by simp at h; omega)
    refine ⟨q2, y :: row, by rw [lays_cons, h1]; simp [h3], by simp; omega⟩
theorem raise_room : ∀ {L : Nat} {p : Pl} {old : List (List Int)} {below : List Int}, need L below.length ≤ p.st.free.length → ∃ q rows, p.raise old L below = some (q, rows) ∧ p.st.free.length ≤ q.st.free.length + need L below.length
  | 0, p, old, below, _ => ⟨p, [], rfl, by simp [need]⟩
  | L + 1, p, old, below, h => by
    rw [need] at h
    obtain ⟨q, row, h1, h2⟩ := lays_room (cs := fours (qs below.length) below) (p := p) (old := old.headD []) (by rw [fours_len]; omega)
    have hr := lays_len h1
    rw [fours_len] at hr h2
    obtain ⟨q2, rows, h3, h4⟩ := raise_room (L := L) (p := q) (old := old.tail) (below := row) (by rw [hr]; omega)
    refine ⟨q2, row :: rows, by rw [raise_succ, h1]; simp [h3], ?_⟩
    rw [need, hr] at *
    omega

/-! ### down -/
theorem fours_flat : ∀ (m : Nat) (l : List Int), l.length ≤ 4 * m → (fours m l).flatten = l
  | 0, l, h => by
    have : l = [] := List.eq_nil_of_length_eq_zero (by omega)
    subst this; rfl
  | m + 1, l, h => by
    rw [fours, List.flatten_cons, fours_flat m _ (by simp; omega), List.take_append_drop]
theorem parts_of {p : Pl} {row below : List Int} (h : row.map p.at = fours (qs below.length) below) : p.parts row = below := by
  rw [Pl.parts, List.flatMap_def, h]
  exact fours_flat _ _ (by unfold qs; omega)
theorem down_len {p : Pl} : ∀ {L : Nat} {row : List Int} {ls : List (List Int)}, p.down L row = some ls → ls.length = L
  | 0, row, ls, h => by cases h; rfl
  | L + 1, row, ls, h => by
    rw [Pl.down] at h
    split at h
    · obtain ⟨x, h1, rfl⟩ := Option.map_eq_some_iff.1 h
      simp [down_len h1]
    · cases h
theorem down_snoc {p : Pl} : ∀ {k : Nat} {top r0 : List Int} {rest : List (List Int)}, p.down k top = some (r0 :: rest) → p.down (k + 1) top = if (p.parts r0).all p.st.lv then some (p.parts r0 :: r0 :: rest) else none
  | 0, top, r0, rest, h => by cases h
  | k + 1, top, r0, rest, h => by
    rw [Pl.down] at h
    split at h
    · rename_i hall
      obtain ⟨ls, h1, h2⟩ := Option.map_eq_some_iff.1 h
      rw [Pl.down, if_pos hall]
      cases ls with
      | nil =>
        have hk := down_len h1
        simp at hk
        subst hk
        simp at h2
        obtain ⟨rfl, rfl⟩ := h2
        rw [Pl.down, Pl.down]
        split <;> rfl
      | cons r0' ls' =>
        simp at h2
        obtain ⟨rfl, rfl⟩ := h2
        rw [down_snoc h1]
        split <;> simp
    · cases h
theorem down_tr {p : Pl} : ∀ {rows : List (List Int)} {below : List Int} (hne : rows ≠ []), Tr p rows below → p.down rows.length (rows.getLast hne) = some rows
  | [], _, hne, _ => absurd rfl hne
  | [row], below, _, h => by
    show p.down 1 row = some [row]
    rw [Pl.down, if_pos h.2.1.all]
    rfl
  | row :: r0 :: rest, below, _, h => by
    have ih := down_tr (rows := r0 :: rest) (by simp) h.2.2
    have := down_snoc ih
    rw [parts_of h.2.2.1, if_pos h.2.1.all] at this
    rw [List.getLast_cons (by simp)]
    exact this
def itq : Nat → Nat → Nat
  | 0, m => m
  | L + 1, m => itq L (qs m)
theorem itq_1 : ∀ m, m < 201 → 0 < m → itq (lvs m) m = 1 := by decide +kernel
theorem tr_last {p : Pl} : ∀ {rows : List (List Int)} {below : List Int} (hne : rows ≠ []), Tr p rows below → (rows.getLast hne).length = itq rows.length below.length
  | [], _, hne, _ => absurd rfl hne
  | [row], below, _, h => by
    have := congrArg List.length h.1
    rw [List.length_map, fours_len] at this
    exact this
  | row :: r0 :: rest, below, _, h => by
    have ih := tr_last (rows := r0 :: rest) (by simp) h.2.2
    have := congrArg List.length h.1
    rw [List.length_map, fours_len] at this
    rw [List.getLast_cons (by simp), ih, this]
    rfl
/-- The vec v is the list l, of these rows, in the pool p. -/
structure WF (p : Pl) (v : Vc) (l : List Int) (rows : List (List Int)) : Prop where
  size : v.size = l.length
  small : l.length ≤ 200
  u64 : U64 l
  len : rows.length = lvs l.length
  tr : Tr p rows l
  root : v.root = atR rows (rows.length - 1) 0
theorem lvs_zero {n : Nat} (h : lvs n = 0) : n = 0 := by
  rcases Nat.eq_zero_or_pos n with h' | h'
  · exact h'
  · have := lvs_pos h'; omega
theorem WF.top {p : Pl} {v : Vc} {l : List Int} {rows : List (List Int)} (h : WF p v l rows) (hne : rows ≠ []) : rows.getLast hne = [v.root] := by
  have h1 := tr_last hne h.tr
  have hp : 0 < l.length := by
    rcases Nat.eq_zero_or_pos l.length with h' | h'
    · have := h.len; rw [h'] at this; exact absurd (List.eq_nil_of_length_eq_zero this) hne
    · exact h'
  rw [h.len, itq_1 _ (by have := h.small; omega) hp] at h1
  have hr := h.root
  unfold atR at hr
  have hl : rows.length - 1 < rows.length := by have := List.length_pos_iff.2 hne; omega
  rw [getD_at [] hl, ← List.getLast_eq_getElem hne] at hr
  generalize rows.getLast hne = t at *
  match t, h1 with
  | [x], _ => rw [hr]; rfl
theorem WF.down {p : Pl} {v : Vc} {l : List Int} {rows : List (List Int)} (h : WF p v l rows) : p.down (lvs v.size) [v.root] = some rows := by
  rw [h.size]
  by_cases hne : rows = []
  · have := h.len
    rw [hne] at this ⊢
    rw [← this]; rfl
  · rw [← h.len, ← h.top hne]
    exact down_tr hne h.tr
theorem WF.items {p : Pl} {v : Vc} {l : List Int} {rows : List (List Int)} (h : WF p v l rows) : p.items v = some l := by
  unfold Pl.items
  rw [h.down]
  cases rows with
  | nil =>
    have := h.len
    have hz := lvs_zero this.symm
    rw [List.eq_nil_of_length_eq_zero hz]
  | cons row rest => simp only [parts_of h.tr.1]
theorem tr_mem {p : Pl} : ∀ {rows : List (List Int)} {below : List Int}, Tr p rows below → ∀ r ∈ rows, Lv p r
  | [], _, _, r, hr => by simp at hr
  | row :: rows, below, h, r, hr => by
    rcases List.mem_cons.1 hr with rfl | hr
    · exact h.2.1
    · exact tr_mem h.2.2 r hr
theorem WF.ext {p q : Pl} {v : Vc} {l : List Int} {rows : List (List Int)} (h : WF p v l rows) (e : Ext p q) : WF q v l rows := ⟨h.size, h.small, h.u64, h.len, h.tr.ext e, h.root⟩
theorem WF.b64 {p : Pl} {v : Vc} {l : List Int} {rows : List (List Int)} (h : WF p v l rows) : 0 ≤ v.root ∧ v.root ≤ 18446744073709551615 := by
  by_cases hne : rows = []
  · have := h.root
    rw [hne] at this
    rw [this]; decide
  · have := (tr_mem h.tr _ (List.getLast_mem hne) v.root (by rw [h.top hne]; simp)).2.1
    exact this
theorem WF.empty (p : Pl) : WF p ⟨0, 0⟩ [] [] := ⟨rfl, by simp, fun x hx => by simp at hx, rfl, trivial, rfl⟩
/-- What a change comes to. -/
theorem change_wf {n : Nat} {G : Int} {p : Pl} {v : Vc} {l items : List Int} {old : List (List Int)} (hP : PK n G p) (hG : G ≤ 1099511627775) (hv : WF p v l old) (hi : items.length ≤ 200) (hU : U64 items) {q : Pl} {rows : List (List Int)} (he : p.raise old (lvs items.length) items = some (q, rows)) :
    p.change v items = ⟨q, ⟨atR rows (rows.length - 1) 0, items.length⟩, left rows 0 old, 0⟩ ∧ PK n G q ∧ Ext p q ∧ WF q ⟨atR rows (rows.length - 1) 0, items.length⟩ items rows := by
  obtain ⟨a, b, c, d⟩ := raise_spec hG hP hU (tr_mem hv.tr) he
  refine ⟨?_, a, b, ⟨rfl, hi, hU, d, c, rfl⟩⟩
  rw [Pl.change, if_neg (by omega), hv.down]
  simp only [he]
end Go.Proofs.Ytbldjlkofaiikaa
