/-
  What the law ApplyAttrs wants of plain forests: an attribute set, and taken away.
-/
import Derived.Test.YtfmciefodohdgaaGreatDoorG12
namespace Go.Proofs.YtfmciefodohdgaaGreatDoor
open Go.ChangeShapes Go.WideShapes Go.ChangeAt Go.RowKit
set_option linter.unusedVariables false
set_option linter.unusedSimpArgs false

def setO (i : Nat) (n t : ByteArray) : Ops.Po := ⟨6, i, 0, 0, n, t⟩
def delO (i : Nat) (n : ByteArray) : Ops.Po := ⟨7, i, 0, 0, n, ⟨#[]⟩⟩
theorem set_may {i : Nat} {n t : ByteArray} (hn : n.size ≤ 100) (ht : t.size ≤ 100) : Ops.mayO (setO i n t) = true := by
  have h1 : n.size ≤ 255 := by omega
  have h2 : t.size ≤ 255 := by omega
  unfold Ops.mayO setO Ops.isK Ops.hasI Ops.hasT Ops.hasN Ops.hasX
  simp only []
  rw [decide_eq_true h1, decide_eq_true h2]
  rfl
theorem del_may {i : Nat} {n : ByteArray} (hn : n.size ≤ 100) : Ops.mayO (delO i n) = true := by
  have h1 : n.size ≤ 255 := by omega
  unfold Ops.mayO delO Ops.isK Ops.hasI Ops.hasT Ops.hasN Ops.hasX
  simp only []
  rw [decide_eq_true h1]
  rfl
theorem set_errs {F : List Mn} {i : Nat} (hi : i < F.length) {n t : ByteArray} (hn : n.size ≤ 100) (ht : t.size ≤ 100) : errP F (setO i n t) = 0 ∨ errP F (setO i n t) = 71 ∨ errP F (setO i n t) = 74 ∨ errP F (setO i n t) = 75 := by
  have hm := set_may (i := i) hn ht
  have hB : isB F (i : Int) = true := by rw [isB, decide_eq_true_eq]; omega
  have e : errP F (setO i n t) = setE F (setO i n t) := by
    unfold errP
    rw [if_neg (by rw [hm]; simp), if_neg (by unfold setO; simp only []; omega), if_neg (by unfold setO; simp only []; omega), if_neg (by unfold setO; simp only []; omega), if_neg (by unfold setO; simp only []; omega), if_pos (by rfl)]
  rw [e]
  unfold setE
  rw [if_neg (by show ¬ isB F (i : Int) = false; rw [hB]; simp)]
  split
  · exact .inr (.inl rfl)
  split
  · exact .inr (.inr (.inl rfl))
  split
  · exact .inr (.inr (.inl rfl))
  split
  · exact .inr (.inr (.inr rfl))
  · exact .inl rfl
theorem setAt_at {F : List Mn} {i : Nat} {l : List At2} (hi : i < F.length) (h : i < (setAt F i l).length) : (setAt F i l)[i] = { F[i] with attrs := l } := by
  simp [setAt, List.getElem_modify]
theorem setAt_ne {F : List Mn} {i j : Nat} {l : List At2} (hj : j < F.length) (h : j < (setAt F i l).length) (hn : i ≠ j) : (setAt F i l)[j] = F[j] := by
  simp [setAt, List.getElem_modify, hn]
theorem core_attrs2 {x y : Mn} {l : List At2} (h : core x = core { y with attrs := l }) : core { x with attrs := y.attrs } = core y := by
  unfold core at h ⊢
  simp only [Mn.mk.injEq, and_true] at h ⊢
  obtain ⟨b1, b2, b3, b4, b5, b6⟩ := h
  exact ⟨b1, b2, b3, trivial, b5, b6⟩
theorem like_at {F G : List Mn} (h : G.map core = F.map core) {i : Nat} (hi : i < F.length) (hg : i < G.length) : core G[i] = core F[i] := by
  have e : (G.map core)[i]? = (F.map core)[i]? := by rw [h]
  rw [List.getElem?_map, List.getElem?_map, List.getElem?_eq_getElem hg, List.getElem?_eq_getElem hi] at e
  simpa using e
/-- What comes of an attribute that is set, and then taken away. -/
theorem set_del {F G : List Mn} (hF : mayB F = true) {i : Nat} (hi : i < F.length) {n t : ByteArray} (hn : n.size ≤ 100) (ht : t.size ≤ 100) (he : errP F (setO i n t) = 0) (hG : G.map core = (oneP F (setO i n t)).1.map core) :
    ndA F[i].attrs ∧ F[i].attrs.length ≤ 8 ∧ G.length = F.length ∧ (∀ hg : i < G.length, G[i].attrs = setA F[i].attrs n t) ∧ errP G (delO i n) = 0 ∧
    ∀ H : List Mn, H.map core = (oneP G (delO i n)).1.map core → H.length = F.length ∧ (∀ hh : i < H.length, H[i].attrs = delA (setA F[i].attrs n t) n) ∧ (hasA F[i].attrs n = false → H.map core = F.map core) := by
  have hm := set_may (i := i) hn ht
  have hmd := del_may (i := i) hn
  have hB : isB F (i : Int) = true := by rw [isB, decide_eq_true_eq]; omega
  have e : errP F (setO i n t) = setE F (setO i n t) := by
    unfold errP
    rw [if_neg (by rw [hm]; simp), if_neg (by unfold setO; simp only []; omega), if_neg (by unfold setO; simp only []; omega), if_neg (by unfold setO; simp only []; omega), if_neg (by unfold setO; simp only []; omega), if_pos (by rfl)]
  have hki : F[i].kind = 1 := by
    have he' := he
    rw [e] at he'
    unfold setE at he'
    split at he'; · cases he'
    split at he'; · cases he'
    rename_i a1 a2
    have : kindOf F i = 1 := Decidable.not_not.1 a2
    rwa [kindOf_at hi] at this
  have hab : attrsB F[i].attrs = true := by
    obtain ⟨-, h2, -⟩ := may_iff.1 hF
    have ho := (h2 i hi).2
    unfold ownB at ho
    rw [if_neg (by omega), if_neg (by omega), if_pos hki, Bool.and_eq_true, Bool.and_eq_true] at ho
    exact ho.2.2
  have hd : doP F (setO i n t) = setAt F i (setA F[i].attrs n t) := by
    unfold doP
    rw [if_neg (by unfold setO; simp only []; omega), if_neg (by unfold setO; simp only []; omega), if_neg (by unfold setO; simp only []; omega), if_pos (by rfl)]
    show setAt F i (setA (attrsOf F i) n t) = _
    rw [attrsOf_at hi]
  rw [oneP, if_pos he, hd] at hG
  have hl : (setAt F i (setA F[i].attrs n t)).length = F.length := setAt_len
  have hGl : G.length = F.length := by rw [len_like hG, hl]
  have hGi : i < G.length := by rw [hGl]; exact hi
  have hc := like_at hG (by rw [hl]; exact hi) hGi
  rw [setAt_at hi] at hc
  have hca : G[i].attrs = setA F[i].attrs n t := congrArg Mn.attrs hc
  have hck : G[i].kind = 1 := (congrArg Mn.kind hc).trans hki
  have heD : errP G (delO i n) = 0 := by
    unfold errP
    rw [if_neg (by rw [hmd]; simp), if_neg (by unfold delO; simp only []; omega), if_neg (by unfold delO; simp only []; omega), if_neg (by unfold delO; simp only []; omega), if_neg (by unfold delO; simp only []; omega), if_neg (by unfold delO; simp only []; omega), if_pos (by rfl)]
    unfold delE
    rw [if_neg (by show ¬ isB G (i : Int) = false; rw [isB, decide_eq_false_iff_not]; omega), if_neg (by show ¬ kindOf G i ≠ 1; rw [kindOf_at hGi, hck]; simp), if_neg (by show ¬ hasA (attrsOf G i) n = false; rw [attrsOf_at hGi, hca, setA_has]; simp)]
  refine ⟨nd_of hab, (attrs_iff.1 hab).1, hGl, fun _ => hca, heD, fun H hH => ?_⟩
  have hdD : doP G (delO i n) = setAt G i (delA (setA F[i].attrs n t) n) := by
    unfold doP
    rw [if_neg (by unfold delO; simp only []; omega), if_neg (by unfold delO; simp only []; omega), if_neg (by unfold delO; simp only []; omega), if_neg (by unfold delO; simp only []; omega), if_pos (by rfl)]
    show setAt G i (delA (attrsOf G i) n) = _
    rw [attrsOf_at hGi, hca]
  rw [oneP, if_pos heD, hdD] at hH
  have hl2 : (setAt G i (delA (setA F[i].attrs n t) n)).length = G.length := setAt_len
  have hHl : H.length = F.length := by rw [len_like hH, hl2, hGl]
  refine ⟨hHl, fun hh => ?_, fun hf => ?_⟩
  · have hc2 := like_at hH (by rw [hl2]; exact hGi) hh
    rw [setAt_at hGi] at hc2
    exact congrArg Mn.attrs hc2
  · rw [hH, del_set hf]
    apply List.ext_getElem
    · simp [setAt_len, hGl]
    · intro j h1 h2
      rw [List.getElem_map, List.getElem_map]
      have hjF : j < F.length := by simpa using h2
      have hjG : j < G.length := by rw [hGl]; exact hjF
      have hcj := like_at hG (i := j) (by rw [hl]; exact hjF) hjG
      by_cases hji : i = j
      · subst hji
        rw [setAt_at hi] at hcj
        rw [setAt_at hGi]
        exact core_attrs2 hcj
      · rw [setAt_ne hjF (by rw [hl]; exact hjF) hji] at hcj
        rw [setAt_ne hjG (by rw [setAt_len]; exact hjG) hji]
        exact hcj
theorem cnt_more {l : List At2} {n t : ByteArray} {k : Nat} (hk : k < l.length) : cntA (l.take (k + 1)) n t = cntA (l.take k) n t + (if (l.getD k default).1 = n ∧ (l.getD k default).2 = t then 1 else 0) := by
  rw [take_more hk, getD_at default hk]
  unfold cntA
  rw [List.countP_append]
  congr 1
  by_cases h1 : l[k].1 = n <;> by_cases h2 : l[k].2 = t <;> simp [h1, h2]
theorem has_more {l : List At2} {n : ByteArray} {k : Nat} (hk : k < l.length) : hasA (l.take (k + 1)) n = (hasA (l.take k) n || decide ((l.getD k default).1 = n)) := by
  rw [take_more hk, getD_at default hk]
  unfold hasA
  rw [List.any_append]
  simp
theorem attr_row {w : World} {g off : Nat} {G : List Mn} (h : FR w (some ⟨g, off, none⟩) G) {i : Nat} (hi : i < G.length) : ∃ aA aC, w.cell? ⟨g, off + i * 6 + 3, none⟩ = some (.slice aA G[i].attrs.length aC) ∧ AR w aA G[i].attrs := by
  obtain ⟨-, g', o', hA, -, hn⟩ := h i G[i] (List.getElem?_eq_getElem hi)
  cases hA
  exact ⟨_, _, hn.c3, hn.ar⟩
theorem set_fit {i : Nat} {n t : ByteArray} (hi : i ≤ 1000) : Ops.Fit (setO i n t) := by
  refine ⟨?_, ?_, ?_, ?_⟩ <;> unfold Ops.I64 setO <;> simp only [] <;> omega
theorem del_fit {i : Nat} {n : ByteArray} (hi : i ≤ 1000) : Ops.Fit (delO i n) := by
  refine ⟨?_, ?_, ?_, ?_⟩ <;> unfold Ops.I64 delO <;> simp only [] <;> omega
theorem has_pos {l : List At2} {n : ByteArray} (h : hasA l n = true) : 0 < l.length := by
  cases l with
  | nil => cases h
  | cons a l => simp
end Go.Proofs.YtfmciefodohdgaaGreatDoor
