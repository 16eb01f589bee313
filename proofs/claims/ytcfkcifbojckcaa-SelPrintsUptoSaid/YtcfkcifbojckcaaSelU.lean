/-
  Print: the text of a selector, or that there is none.
-/
import Derived.Test.YtcfkcifbojckcaaSelT
namespace Go.Proofs.Ytcfkcifbojckcaa
open Go.ChangeShapes Go.WideShapes Go.ChangeAt Go.RowKit
open Go.PlainAid (bt)
set_option linter.unusedVariables false
set_option linter.unusedSimpArgs false

/-! ### what is owned can be read -/
theorem tcells_at : ∀ {T : List Tr} {i : Nat} {t : Tr}, T[i]? = some t → (tcells T)[i * 3]? = some (.int .i64 t.1) ∧ (tcells T)[i * 3 + 1]? = some (.string t.2.1) ∧ (tcells T)[i * 3 + 2]? = some (.string t.2.2)
  | a :: l, 0, t, h => by cases h; simp [tcells, t3]
  | a :: l, i + 1, t, h => by
    have := tcells_at (T := l) (i := i) (t := t) (by simpa using h)
    have e : tcells (a :: l) = t3 a ++ tcells l := by simp [tcells]
    have e3 : (t3 a).length = 3 := rfl
    rw [e, List.getElem?_append_right (by omega), List.getElem?_append_right (by omega), List.getElem?_append_right (by omega), e3, show (i + 1) * 3 - 3 = i * 3 by omega, show (i + 1) * 3 + 1 - 3 = i * 3 + 1 by omega, show (i + 1) * 3 + 2 - 3 = i * 3 + 2 by omega]
    exact this
theorem scells_at : ∀ {l : List Ms} {i : Nat} {m : Ms}, l[i]? = some m → (scells l)[i * 2]? = some (.slice m.1.1 m.2.1.length m.1.2) ∧ (scells l)[i * 2 + 1]? = some (.bool m.2.2)
  | a :: l, 0, t, h => by cases h; simp [scells, s2]
  | a :: l, i + 1, t, h => by
    have := scells_at (l := l) (i := i) (m := t) (by simpa using h)
    have e : scells (a :: l) = s2 a ++ scells l := by simp [scells]
    have e3 : (s2 a).length = 2 := rfl
    rw [e, List.getElem?_append_right (by omega), List.getElem?_append_right (by omega), e3, show (i + 1) * 2 - 2 = i * 2 by omega, show (i + 1) * 2 + 1 - 2 = i * 2 + 1 by omega]
    exact this
theorem tr_of {w : World} {base : Nat} {A : Option Addr} {c : Nat} {T : List Tr} (h : w.ownsRow base 39 3 (.slice A T.length c) T.length (tcells T)) : TR w A T := by
  intro i t hi
  have hlt : i < T.length := (List.getElem?_eq_some_iff.1 hi).1
  rcases h.2 with ⟨-, h'⟩ | ⟨g, cap, cur, hv, hb, hg, h1, h2, -⟩
  · omega
  · cases hv
    obtain ⟨e1, e2, e3⟩ := tcells_at hi
    refine ⟨g, 0, rfl, lt_block hg, ?_, ?_, ?_⟩
    · have := h.cells rfl _ _ e1; rw [← this, add_plain]
    · have := h.cells rfl _ _ e2; rw [← this, add_plain]; congr 2
    · have := h.cells rfl _ _ e3; rw [← this, add_plain]; congr 2
theorem mr_of {w : World} {base : Nat} {A : Option Addr} {c : Nat} {l : List Ms} (h : Rw w base (.slice A l.length c) l) : MR w A l := by
  intro i m hi
  have hlt : i < l.length := (List.getElem?_eq_some_iff.1 hi).1
  rcases h.row.2 with ⟨-, h'⟩ | ⟨g, cap, cur, hv, hb, hg, h1, h2, -⟩
  · omega
  · cases hv
    obtain ⟨e1, e2⟩ := scells_at hi
    refine ⟨g, 0, rfl, lt_block hg, ?_, ?_, tr_of (h.sub m (List.mem_of_getElem? hi))⟩
    · have := h.row.cells rfl _ _ e1; rw [← this, add_plain]
    · have := h.row.cells rfl _ _ e2; rw [← this, add_plain]; congr 2
theorem xr_of {w : World} {base : Nat} {v : Value} {x : List Mr} (h : Sr w base v x) : ∃ A c, v = .slice A x.length c ∧ XR w A x := by
  obtain ⟨A, c, rfl, -⟩ := own_form2 h.row
  refine ⟨A, c, rfl, fun i m hi => ?_⟩
  have hlt : i < x.length := (List.getElem?_eq_some_iff.1 hi).1
  rcases h.row.2 with ⟨-, h'⟩ | ⟨g, cap, cur, hv, hb, hg, h1, h2, -⟩
  · omega
  · cases hv
    have e1 : (rcells x)[i]? = some (r1 m) := by simp [rcells, hi]
    refine ⟨g, 0, rfl, lt_block hg, ?_, mr_of (h.sub m (List.mem_of_getElem? hi))⟩
    have := h.row.cells rfl _ _ e1
    rw [← this, add_plain]
theorem ls_inj {a b : ByteArray} (h : ls a = ls b) : a = b := ByteArray.ext (Array.toList_inj.1 h)
theorem te_inj {a b : Tr} (h : te a = te b) : a = b := by
  obtain ⟨k, n, v⟩ := a
  obtain ⟨k', n', v'⟩ := b
  simp only [te, Sl.Te.mk.injEq] at h
  rw [h.1, ls_inj h.2.1, ls_inj h.2.2]
theorem map_inj {α β : Type} {f : α → β} (hf : ∀ {a b}, f a = f b → a = b) : ∀ {l l' : List α}, l.map f = l'.map f → l = l'
  | [], [], _ => rfl
  | [], b :: l', h => by simp at h
  | a :: l, [], h => by simp at h
  | a :: l, b :: l', h => by
    simp only [List.map_cons, List.cons.injEq] at h
    rw [hf h.1, map_inj hf h.2]
def st2 (p : List Tr × Bool) : Sl.Stp := ⟨p.1.map te, p.2⟩
theorem st2_inj {a b : List Tr × Bool} (h : st2 a = st2 b) : a = b := by
  obtain ⟨a1, a2⟩ := a
  obtain ⟨b1, b2⟩ := b
  simp only [st2, Sl.Stp.mk.injEq] at h
  rw [map_inj te_inj h.1, h.2]
theorem rws_cx (x : List Mr) : rws x = (cx x).map (fun l => l.map st2) := by simp [rws, cx, cl, stp, st2]
/-- Selectors that say the same. -/
theorem cx_iff {x y : List Mr} : cx x = cx y ↔ rws x = rws y := by
  rw [rws_cx, rws_cx]
  exact ⟨fun h => by rw [h], fun h => map_inj (fun h => map_inj st2_inj h) h⟩
theorem small_wx {x : List Mr} (h : Sl.wx (rws x) ≤ 1000000000000) : smallX x := by
  have h1 := Sl.wx_len (rws x)
  rw [rws, List.length_map] at h1
  refine ⟨by rw [rws] at h; omega, fun m hm => ?_⟩
  have h2 := Sl.wx_row (List.mem_map_of_mem (f := fun m : Mr => m.2.map stp) hm)
  have h3 := Sl.wss_len (m.2.map stp)
  rw [List.length_map] at h3
  unfold Sl.wr at h2
  rw [rws] at h
  refine ⟨by omega, fun s hs => ?_⟩
  have h4 := Sl.wr_step (List.mem_map_of_mem (f := stp) hs)
  have h5 := Sl.wc_len (s.2.1.map te)
  rw [List.length_map] at h5
  have e : Sl.ws (stp s) = 4 + Sl.wc (s.2.1.map te) := rfl
  omega
theorem join_psel (x : List (List Sl.Stp)) : Lib.join (x.map (Sl.prow gG)) [44, 32] = Sl.printS x := by
  cases x with
  | nil => rfl
  | cons r l =>
    rw [List.map_cons, Lib.join_cons]
    unfold Sl.printS Sl.psel Lib.joinTail
    rw [List.map_map, ← List.flatMap_def]
    rfl
theorem info_str : (Try.prog.info? 9).map (fun i => (i.zero, i.size, i.bytes)) = some (some (.string ⟨#[]⟩), 1, 16) := by kernel_rfl
theorem join_any (A : Option Addr) (c : Nat) (xs : List ByteArray) (w : World) (base : Nat) (h : w.ownsRow base 9 1 (.slice A xs.length c) xs.length (xs.map Value.string)) (hl : (Lib.join (xs.map ls) [44, 32]).length ≤ 1000000) (hn : xs.length ≤ 1000000) :
    Calls Try.prog 11 #[.slice A xs.length c, .string ⟨#[44, 32]⟩] w (GivesV (.string (ba (Lib.join (xs.map ls) [44, 32]))) w) := by
  rcases h.2 with ⟨hv, h'⟩ | ⟨g, cap, cur, hv, hb, hg, h1, h2, -⟩
  · have : xs = [] := List.eq_nil_of_length_eq_zero h'
    subst this
    exact (Any.strings_Join_none Try.lays156 Try.Builder_Extra_156 A c ⟨#[44, 32]⟩ w).mono fun e w' ⟨he, hw⟩ => ⟨he, hw ▸ Below.refl _ _⟩
  · cases hv
    refine (Try.strings_Join g 0 c xs ⟨#[44, 32]⟩ w (fun j x hx => ?_) (lt_block hg) (by omega) h1 (by show (Lib.join (xs.map ls) [44, 32]).length ≤ _; omega)).mono fun e w' he => he
    have := h.cells rfl j (.string x) (by simp [hx])
    rw [← this, add_plain]
end Go.Proofs.Ytcfkcifbojckcaa
