/-
  The calls of package slots at arenas that may be; an arena in a variable; the small case of the laws.
-/
import Derived.Test.YtbldjlkofaiikaaSlotK
import Derived.Test.YtbldjlkofaiikaaSlotN
namespace Go.Proofs.Ytbldjlkofaiikaa
open Go.ChangeShapes Go.WideShapes Go.ChangeAt Go.RowKit
set_option linter.unusedVariables false

theorem Ok.free_le {n : Nat} {G : Int} {s : St} (h : Ok n G s) : s.free.length ≤ n := by have := h.sum; omega
section
variable {n : Nat} {G : Int} {s : St} {vg vu vf : Value} {b : Nat} {w : World}
theorem takeN (ho : Ok n G s) (hA : Ar w b vg vu vf s) (hf : s.free = []) : Calls Try.prog 71 #[.agg #[vg, vu, vf]] w (GivesT s 0 2 w) := by
  have h1 := ho.gens
  have h2 := ho.used
  have h3 := ho.small
  exact take_full vg vu vf s b w hA (by omega) (by omega) (by rw [hf]; rfl)
theorem takeO (ho : Ok n G s) (hG : G ≤ 1099511627775) (hA : Ar w b vg vu vf s) {fr : List Int} {i : Nat} (hfr : s.free = fr ++ [(i : Int)]) (hi : i < n) : Calls Try.prog 71 #[.agg #[vg, vu, vf]] w (GivesT (s.tk i) (hd i (s.gens.getD i 0)) 0 w) := by
  have h1 := ho.gens
  have h2 := ho.used
  have h3 := ho.small
  have h4 := ho.free_le
  have h5 := ho.gen hi
  exact take_ok i fr _ vg vu vf s b w hA (by omega) (by omega) (by omega) hfr (by omega) (by omega) rfl (by omega) (by omega)
theorem giveN {h : Int} (ho : Ok n G s) (hA : Ar w b vg vu vf s) (h0 : 0 ≤ h) (h1 : h ≤ 18446744073709551615) (hl : s.lv h = false) : Calls Try.prog 50 #[.agg #[vg, vu, vf], .int .u64 h] w (GivesE s 30 w) := by
  have g1 := ho.gens
  have g2 := ho.used
  have g3 := ho.small
  have g4 := ho.free_le
  exact give_no h vg vu vf s b w hA (by omega) (by omega) (by omega) h0 h1 hl
theorem giveO {h : Int} {i : Nat} (ho : Ok n G s) (hG : G ≤ 1099511627774) (hA : Ar w b vg vu vf s) (h0 : 0 ≤ h) (h1 : h ≤ 18446744073709551615) (hl : s.lv h = true) (hi : h % 16777216 = i) : Calls Try.prog 50 #[.agg #[vg, vu, vf], .int .u64 h] w (GivesE (s.gb i (h / 16777216 + 1)) 0 w) := by
  have g1 := ho.gens
  have g2 := ho.used
  have g3 := ho.small
  have g4 := ho.free_le
  obtain ⟨i', hi', hin, hu, hg⟩ := ho.live hl
  obtain rfl : i' = i := by omega
  have g5 := ho.gen hin
  have e : (h + 16777216) % 18446744073709551616 / 16777216 = h / 16777216 + 1 := by omega
  rw [← e]
  exact give_ok h i' vg vu vf s b w hA (by omega) (by omega) (by omega) h0 h1 hl hi (by omega)
theorem liveO {h : Int} (ho : Ok n G s) (hA : Ar w b vg vu vf s) (h0 : 0 ≤ h) (h1 : h ≤ 18446744073709551615) : Calls Try.prog 58 #[.agg #[vg, vu, vf], .int .u64 h] w (GivesV (.bool (s.lv h)) w) := by
  have g1 := ho.gens
  have g2 := ho.used
  have g3 := ho.small
  exact live_any h vg vu vf s b w hA h0 h1 (by omega) (by omega)
end

/-- Block k, a variable of type t, bears the arena s. -/
structure Box (t : TypeId) (w : World) (k : Nat) (pg : Option Addr) (cg : Nat) (pu : Option Addr) (cu : Nat) (pf : Option Addr) (cf : Nat) (s : St) : Prop where
  blk : w.heap[k]? = some (.cells #[.slice pg s.gens.length cg, .slice pu s.used.length cu, .slice pf s.free.length cf] t (0, 0))
  ar : Ar w 0 (.slice pg s.gens.length cg) (.slice pu s.used.length cu) (.slice pf s.free.length cf) s
theorem Box.below {t : TypeId} {w w' : World} {k : Nat} {pg : Option Addr} {cg : Nat} {pu : Option Addr} {cu : Nat} {pf : Option Addr} {cf : Nat} {s : St} (h : Box t w k pg cg pu cu pf cf s) (hb : Below w.heap.size w w') : Box t w' k pg cg pu cu pf cf s :=
  ⟨(hb.block k (lt_of_block h.blk)).trans h.blk, h.ar.below hb⟩
/-- What was handed back stands in new memory. -/
theorem Ar.form {w : World} {b : Nat} {vg vu vf : Value} {s : St} (h : Ar w b vg vu vf s) : ∃ pg cg pu cu pf cf, vg = .slice pg s.gens.length cg ∧ vu = .slice pu s.used.length cu ∧ vf = .slice pf s.free.length cf := by
  obtain ⟨pg, cg, rfl, _⟩ := own_form h.g
  obtain ⟨pu, cu, rfl, _⟩ := own_form h.u
  obtain ⟨pf, cf, rfl, _⟩ := own_form h.f
  exact ⟨pg, cg, pu, cu, pf, cf, rfl, rfl, rfl⟩
theorem Box.new (t : TypeId) {w : World} {b : Nat} {pg : Option Addr} {cg : Nat} {pu : Option Addr} {cu : Nat} {pf : Option Addr} {cf : Nat} {s : St} (h : Ar w b (.slice pg s.gens.length cg) (.slice pu s.used.length cu) (.slice pf s.free.length cf) s) :
    Box t (w.alloc (.cells #[.slice pg s.gens.length cg, .slice pu s.used.length cu, .slice pf s.free.length cf] t)) w.heap.size pg cg pu cu pf cf s :=
  ⟨heap_alloc_new _ _, (h.drop (Nat.zero_le _)).below ((Below.refl _ w).alloc (Nat.le_refl _) _)⟩
/-- Three cells of a block of another type leave an arena. -/
theorem Ar.set3t {w : World} {b k : Nat} {vg vu vf : Value} {s : St} {t : TypeId} {cs : Array Value} (h : Ar w b vg vu vf s) (hk : w.heap[k]? = some (.cells cs t (0, 0))) (hg : 41 ≠ t) (hu : 4 ≠ t) (hf : 3 ≠ t) (x y z : Value) :
    Ar (((w.setCell ⟨k, 0, none⟩ x).setCell ⟨k, 1, none⟩ y).setCell ⟨k, 2, none⟩ z) b vg vu vf s :=
  ⟨ownsRow_setCell_other (ownsRow_setCell_other (ownsRow_setCell_other h.g (own_apart h.g hk hg) _) (own_apart h.g hk hg) _) (own_apart h.g hk hg) _,
   ownsRow_setCell_other (ownsRow_setCell_other (ownsRow_setCell_other h.u (own_apart h.u hk hu) _) (own_apart h.u hk hu) _) (own_apart h.u hk hu) _,
   ownsRow_setCell_other (ownsRow_setCell_other (ownsRow_setCell_other h.f (own_apart h.f hk hf) _) (own_apart h.f hk hf) _) (own_apart h.f hk hf) _⟩
theorem heap_set123 {w : World} {k : Nat} {a b c : Value} {t : TypeId} (h : w.heap[k]? = some (.cells #[a, b, c] t (0, 0))) (x y z : Value) : (((w.setCell ⟨k, 0, none⟩ x).setCell ⟨k, 1, none⟩ y).setCell ⟨k, 2, none⟩ z).heap[k]? = some (.cells #[x, y, z] t (0, 0)) := by
  simp [World.setCell, Array.getElem?_modify, h]
theorem Box.set {t : TypeId} {w : World} {k b : Nat} {a c d : Value} {pg : Option Addr} {cg : Nat} {pu : Option Addr} {cu : Nat} {pf : Option Addr} {cf : Nat} {s : St} (hk : w.heap[k]? = some (.cells #[a, c, d] t (0, 0))) (h : Ar w b (.slice pg s.gens.length cg) (.slice pu s.used.length cu) (.slice pf s.free.length cf) s)
    (hg : 41 ≠ t) (hu : 4 ≠ t) (hf : 3 ≠ t) :
    Box t (((w.setCell ⟨k, 0, none⟩ (.slice pg s.gens.length cg)).setCell ⟨k, 1, none⟩ (.slice pu s.used.length cu)).setCell ⟨k, 2, none⟩ (.slice pf s.free.length cf)) k pg cg pu cu pf cf s :=
  ⟨heap_set123 hk _ _ _, (h.set3t hk hg hu hf _ _ _).drop (Nat.zero_le _)⟩
end Go.Proofs.Ytbldjlkofaiikaa
