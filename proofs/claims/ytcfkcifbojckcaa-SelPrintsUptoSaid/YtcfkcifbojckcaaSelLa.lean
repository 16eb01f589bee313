/-
  What the laws of layer 9 share: Parse, Print, its, Same, of a selector that is known.
-/
import Derived.Test.YtcfkcifbojckcaaSelAb
import Derived.ChangeMaps5
namespace Go.Proofs.Ytcfkcifbojckcaa
open Go.ChangeShapes Go.WideShapes Go.ChangeAt Go.RowKit
open Go.PlainAid (bt)
set_option linter.unusedVariables false
set_option linter.unusedSimpArgs false

/-- A selector that can be read, and what it says. -/
def HasX (w w' : World) (v : Value) (X : List (List Sl.Stp)) : Prop := (∃ (x : List Mr) (A : Option Addr) (c : Nat), v = .slice A x.length c ∧ XR w' A x ∧ rws x = X) ∧ Below w.heap.size w w'
theorem parse_good {t : ByteArray} (ht : t.size ≤ 4000000) {X : List (List Sl.Stp)} (h : Sl.parse (ls t) = .ok X) (V : World) : Calls Try.prog 9 #[.string t] V fun e w' => (∃ (x : List Mr) (A : Option Addr) (c : Nat), e = .returned (.tuple #[.slice A x.length c, .int .i64 0, .int .i64 0]) ∧ XR w' A x ∧ rws x = X) ∧ Below V.heap.size V w' :=
  (sel_parse t V ht).mono (fun e w' hc => by
    obtain ⟨hc, hb⟩ := hc
    rw [h] at hc
    rcases hc with ⟨x, v, he, hS, hx⟩ | ⟨k, -, hx⟩
    · obtain ⟨A, c, rfl, hX⟩ := xr_of hS
      simp only [Except.ok.injEq] at hx
      exact ⟨⟨x, A, c, he, hX, hx.symm⟩, hb⟩
    · cases hx)
theorem parse_bad {t : ByteArray} (ht : t.size ≤ 4000000) {k : Nat} (h : Sl.parse (ls t) = .error k) (V : World) : Calls Try.prog 9 #[.string t] V fun e w' => e = .returned (.tuple #[.slice none 0 0, .int .i64 k, .int .i64 90]) ∧ Below V.heap.size V w' :=
  (sel_parse t V ht).mono (fun e w' hc => by
    obtain ⟨hc, hb⟩ := hc
    rw [h] at hc
    rcases hc with ⟨x, v, -, -, hx⟩ | ⟨k', he, hx⟩
    · cases hx
    · cases hx
      exact ⟨he, hb⟩)
theorem print_good {A : Option Addr} {x : List Mr} {c : Nat} {V : World} (hX : XR V A x) (hw : Sl.wx (rws x) ≤ 300000) (h : Sl.selOk (rws x)) : Calls Try.prog 6 #[.slice A x.length c] V fun e w' => e = .returned (.tuple #[.string (ba (Sl.printS (rws x))), .int .i64 0]) ∧ Below V.heap.size V w' :=
  (sel_print A x c V hX hw).mono (fun e w' hc => by
    obtain ⟨hc, hb⟩ := hc
    rcases hc with ⟨he, -⟩ | ⟨-, hx⟩
    · exact ⟨he, hb⟩
    · exact absurd (Sl.parse_printS h) hx)
theorem its_good {A : Option Addr} {x : List Mr} {c : Nat} {V : World} (hX : XR V A x) (hw : Sl.wx (rws x) ≤ 1000000) : Calls Try.prog 8 #[.slice A x.length c] V fun e w' => (∃ (y : List Mr) (B : Option Addr) (d : Nat), e = .returned (.slice B y.length d) ∧ SrR w' V.heap.size (.slice B y.length d) y ∧ XR w' B y ∧ rws y = rws x) ∧ Below V.heap.size V w' :=
  (its_any A x c V hX hw).mono (fun e w' hc => by
    obtain ⟨y, v, he, hS, hc, hb⟩ := hc
    obtain ⟨B, d, rfl, hY⟩ := xr_ofR hS
    exact ⟨⟨y, B, d, he, hS, hY, cx_iff.1 hc⟩, hb⟩)
theorem same_good {A B : Option Addr} {x y : List Mr} {c d : Nat} {V : World} (hX : XR V A x) (hY : XR V B y) (h : rws x = rws y) (hw : Sl.wx (rws y) ≤ 1000000) : Calls Try.prog 15 #[.slice A x.length c, .slice B y.length d] V (GivesV (.bool true) V) := by
  have := rsame_any A B x y c d V hX hY (small_wx (by rw [h]; omega)) (small_wx (by omega))
  rwa [decide_eq_true (cx_iff.2 h)] at this
theorem len_rws {x : List Mr} {X : List (List Sl.Stp)} (h : rws x = X) : x.length = X.length := by rw [← h, rws, List.length_map]
end Go.Proofs.Ytcfkcifbojckcaa
