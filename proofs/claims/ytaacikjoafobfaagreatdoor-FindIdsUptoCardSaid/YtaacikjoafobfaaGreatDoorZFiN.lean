/-
  What a selector says, without where it lies.
-/
import Derived.Test.YtaacikjoafobfaaGreatDoorG34
namespace Go.Proofs.YtaacikjoafobfaaGreatDoor.Sx
open Go.ChangeShapes Go.WideShapes Go.ChangeAt Go.RowKit
set_option linter.unusedVariables false
set_option linter.unusedSimpArgs false

/-- What steps say, without where they lie. -/
def cl (l : List Ms) : List (List Tr × Bool) := l.map (·.2)
def cx (x : List Mr) : List (List (List Tr × Bool)) := x.map (fun m => cl m.2)
theorem ls_inj {a b : ByteArray} (h : ls a = ls b) : a = b := ByteArray.ext (Array.toList_inj.1 h)
theorem te_inj {a b : Tr} (h : te a = te b) : a = b := by
  obtain ⟨k, n, v⟩ := a
  obtain ⟨k', n', v'⟩ := b
  simp only [te, Sl.Te.mk.injEq] at h
  rw [h.1, ls_inj h.2.1, ls_inj h.2.2]
theorem map_inj {α β : Type} {f : α → β} (hf : ∀ {a b}, f a = f b → a = b) : ∀ {l l' : List α}, l.map f = l'.map f → l = l'
  | [], [], _ => rfl
  | [], b :: l', h => by simp at h
  | a :: l, [], h => by simp at h
  | a :: l, b :: l', h => by
    simp only [List.map_cons, List.cons.injEq] at h
    rw [hf h.1, map_inj hf h.2]
def st2 (p : List Tr × Bool) : Sl.Stp := ⟨p.1.map te, p.2⟩
theorem st2_inj {a b : List Tr × Bool} (h : st2 a = st2 b) : a = b := by
  obtain ⟨a1, a2⟩ := a
  obtain ⟨b1, b2⟩ := b
  simp only [st2, Sl.Stp.mk.injEq] at h
  rw [map_inj te_inj h.1, h.2]
theorem rws_cx (x : List Mr) : rws x = (cx x).map (fun l => l.map st2) := by simp [rws, cx, cl, stp, st2]
/-- Selectors that say the same. -/
theorem cx_iff {x y : List Mr} : cx x = cx y ↔ rws x = rws y := by
  rw [rws_cx, rws_cx]
  exact ⟨fun h => by rw [h], fun h => map_inj (fun h => map_inj st2_inj h) h⟩
end Go.Proofs.YtaacikjoafobfaaGreatDoor.Sx
