/-
  The document's own answers that go through lists of words: whether a word is among some, and whether two lists are the same.
-/
import Derived.Test.YtaapfgbeompckaaWordE
import Derived.Deep.QuietTactic
import Derived.BigQuiet
namespace Go.Proofs.Ytaapfgbeompckaa
open Go.ChangeShapes Go.WideShapes Go.ChangeAt Go.RowKit
open Go.PlainAid (bt)
set_option linter.unusedVariables false

/-- The list p, n, that lies below block B, holds the words l. -/
def Rd (w : World) (B : Nat) (p : Option Addr) (n : Nat) (l : List Wd) : Prop :=
  l.length = n ∧ (0 < n → ∃ g, p = some ⟨g, 0, none⟩ ∧ g < B ∧ ∀ j x, l[j]? = some x → w.cell? ⟨g, j, none⟩ = some (sv x))
theorem bdrew {B : Nat} {a w : World} (h : Below B a w) (n : Nat) : Below B a (w.drewN n) := h.trans ⟨rfl, rfl, rfl, Nat.le_refl _, fun _ _ => rfl⟩
theorem Rd.below {w w' : World} {B : Nat} {p : Option Addr} {n : Nat} {l : List Wd} (h : Rd w B p n l) (hb : Below B w w') : Rd w' B p n l :=
  ⟨h.1, fun hn => by
    obtain ⟨g, e, hg, hc⟩ := h.2 hn
    exact ⟨g, e, hg, fun j x hx => (hb.cell (p := ⟨g, j, none⟩) hg).trans (hc j x hx)⟩⟩
theorem Rd.up {w : World} {B B' : Nat} {p : Option Addr} {n : Nat} {l : List Wd} (h : Rd w B p n l) (hb : B ≤ B') : Rd w B' p n l :=
  ⟨h.1, fun hn => by
    obtain ⟨g, e, hg, hc⟩ := h.2 hn
    exact ⟨g, e, by omega, hc⟩⟩
theorem Rd.of_own {w : World} {base : Nat} {v : Value} {l : List Wd} (h : w.ownsRow base 9 1 v l.length (l.map sv)) : ∃ p cap, v = .slice p l.length cap ∧ l.length ≤ cap ∧ cap ≤ maxLen ∧ Rd w w.heap.size p l.length l := by
  have h0 := h
  rcases h.2 with ⟨rfl, hn⟩ | ⟨g, cap, cur, rfl, hb, hg, hnc, hcm, hs, ht⟩
  · exact ⟨none, 0, by rw [hn], by omega, by simp [maxLen], rfl, fun h => by omega⟩
  · refine ⟨_, cap, rfl, hnc, hcm, rfl, fun _ => ⟨g, rfl, (Array.getElem?_eq_some_iff.1 hg).1, fun j x hx => ?_⟩⟩
    have hj : j < l.length := by
      rcases Nat.lt_or_ge j l.length with hj | hj
      · exact hj
      · rw [List.getElem?_eq_none hj] at hx; cases hx
    rw [h0.cellAt j (by omega), List.getElem?_map, hx]
    rfl

set_option maxHeartbeats 400000 in
theorem in_any (p : Option Addr) (n cap : Nat) (l : List Wd) (t : ByteArray) (w : World) (B : Nat) (h : Rd w B p n l) (hn : n ≤ 1000000) :
    Calls Try.prog 26 #[.slice p n cap, .string t] w fun e w' => e = .returned (.bool (decide (t.data.toList ∈ l))) ∧ w = w' := by
  go_enter Try.func26, Try.ntmps26
  go_wp2
  go_loop [5] (fun i => ∃ k : Nat, k ≤ n ∧ i = .int .i64 k ∧ Hid (t.data.toList ∉ l.take k)) (fun i => n - (intOf i).toNat)
  case atStart => exact ⟨0, Nat.zero_le _, rfl, Lib.hid (by simp)⟩
  case round =>
    obtain ⟨k, hk, rfl, hne⟩ := hrel
    by_cases hlt : k < n
    · obtain ⟨g, rfl, hg, hc⟩ := h.2 (by omega)
      have hkl : k < l.length := by rw [h.1]; exact hlt
      have hcell := hc k _ (List.getElem?_eq_getElem hkl)
      have hsn : l.take (k + 1) = l.take k ++ [l[k]] := List.take_succ_eq_append_getElem hkl
      have HS := Lib.hid hsn
      have HH := Lib.hid h
      clear hsn hc h
      unfold sv at hcell
      go_wp2
      · rename_i hx _
        go_ret
        refine ⟨ret_bool ?_, rfl⟩
        rw [str_toList, Lib.toList_data] at hx
        have : t.data.toList ∈ l := by rw [← eq_of_beq hx]; exact List.getElem_mem hkl
        simp [this]
      · go_round
        case rel =>
          refine ⟨k + 1, by omega, by go_num, Lib.hid ?_⟩
          have hx : ((str l[k]).toList == t.toList) = false := by assumption
          rw [HS.out]
          rw [str_toList, Lib.toList_data] at hx
          have hn' : t.data.toList ≠ l[k] := by
            intro e
            rw [← e] at hx
            simp at hx
          rintro h'
          rcases List.mem_append.1 h' with h' | h'
          · exact hne.out h'
          · exact hn' (by simpa using h')
        case measure => simp [intOf]; omega
    · have HH := Lib.hid h
      clear h
      go_wp2
      go_ret
      refine ⟨ret_bool ?_, rfl⟩
      have hle : l.length ≤ k := by rw [HH.out.1]; omega
      have := hne.out
      rw [List.take_of_length_le hle] at this
      simp [this]


set_option maxHeartbeats 400000 in
theorem same_any (p q : Option Addr) (n m cap cap' : Nat) (l l' : List Wd) (w : World) (B : Nat) (h : Rd w B p n l) (h' : Rd w B q m l') (hn : n ≤ 1000000) (hm : m ≤ 1000000) :
    Calls Try.prog 14 #[.slice p n cap, .slice q m cap'] w fun e w' => e = .returned (.bool (decide (l = l'))) ∧ Below w.heap.size w w' := by
  by_cases hnm : n = m
  · subst hnm
    go_enter Try.func14, Try.ntmps14
    go_wp2
    go_loopw [5] (fun i wr => ∃ k : Nat, k ≤ n ∧ i = .int .i64 k ∧ Hid (l.take k = l'.take k) ∧ Hid (∃ d, wr = w.drewN d)) (fun i _ => n - (intOf i).toNat)
    case atStart => exact ⟨0, Nat.zero_le _, rfl, Lib.hid (by simp), Lib.hid ⟨0, rfl⟩⟩
    case round =>
      obtain ⟨k, hk, rfl, heq, hd⟩ := hrel
      obtain ⟨d, rfl⟩ := hd.out
      by_cases hlt : k < n
      · obtain ⟨g, rfl, hg, hc⟩ := h.2 (by omega)
        obtain ⟨g', rfl, hg', hc'⟩ := h'.2 (by omega)
        have hkl : k < l.length := by rw [h.1]; exact hlt
        have hkl' : k < l'.length := by rw [h'.1]; exact hlt
        have hcell := hc k _ (List.getElem?_eq_getElem hkl)
        have hcell' := hc' k _ (List.getElem?_eq_getElem hkl')
        have hsn : l.take (k + 1) = l.take k ++ [l[k]] := List.take_succ_eq_append_getElem hkl
        have hsn' : l'.take (k + 1) = l'.take k ++ [l'[k]] := List.take_succ_eq_append_getElem hkl'
        have HS := Lib.hid hsn
        have HS' := Lib.hid hsn'
        have HH := Lib.hid h
        have HH' := Lib.hid h'
        clear hsn hsn' hc hc' h h'
        unfold sv at hcell hcell'
        by_cases hx : l[k] = l'[k]
        · have hb : ((str l[k]).toList == (str l'[k]).toList) = true := by rw [hx]; simp
          have HX := Lib.hid hx
          clear hx
          go_wp2
          go_quiet (fail)
          go_wp2
          go_roundw
          case rel => exact ⟨k + 1, by omega, by go_num, Lib.hid (by rw [HS.out, HS'.out, heq.out, HX.out]), Lib.hid ⟨d + nq, by simp⟩⟩
          case measure => simp [intOf]; omega
        · have hb : ((str l[k]).toList == (str l'[k]).toList) = false := by
            rw [str_toList, str_toList]; simpa using hx
          go_wp2
          go_quiet (fail)
          go_wp2
          go_ret
          refine ⟨ret_bool ?_, bdrew (bdrew (Below.refl _ _) d) nq⟩
          have : l ≠ l' := by
            intro e
            subst e
            exact hx rfl
          simp [this]
      · have HH := Lib.hid h
        have HH' := Lib.hid h'
        clear h h'
        go_wp2
        go_ret
        refine ⟨ret_bool ?_, bdrew (Below.refl _ _) d⟩
        have := heq.out
        rw [List.take_of_length_le (by rw [HH.out.1]; omega), List.take_of_length_le (by rw [HH'.out.1]; omega)] at this
        simp [this]
  · have hne : ((n : Int) != (m : Int)) = true := by simp; omega
    go_enter Try.func14, Try.ntmps14
    go_wp2
    go_ret
    refine ⟨ret_bool ?_, Below.refl _ _⟩
    have : l ≠ l' := by
      intro e
      subst e
      exact hnm (h.1.symm.trans h'.1)
    simp [this]
end Go.Proofs.Ytaapfgbeompckaa
