/-
  Pools in memory; a chunk of one, a chunk filled, chunks compared.
-/
import Derived.Test.YtbldjlkofaiikaaVecA
namespace Go.Proofs.Ytbldjlkofaiikaa
open Go.ChangeShapes Go.WideShapes Go.ChangeAt Go.RowKit
set_option linter.unusedVariables false

/-- The lists hold the pool p, each in a block from b on. -/
structure PA (w : World) (b : Nat) (vg vu vf vc : Value) (p : Pl) : Prop where
  ar : Ar w b vg vu vf p.st
  cs : w.ownsRow b 83 5 vc p.ch.length (cvs p.ch)
theorem PA.below {w w' : World} {b : Nat} {vg vu vf vc : Value} {p : Pl} (h : PA w b vg vu vf vc p) (hb : Below w.heap.size w w') : PA w' b vg vu vf vc p := ⟨h.ar.below hb, own_below h.cs hb⟩
theorem PA.drop {w : World} {b b' : Nat} {vg vu vf vc : Value} {p : Pl} (h : PA w b vg vu vf vc p) (hb : b' ≤ b) : PA w b' vg vu vf vc p := ⟨h.ar.drop hb, own_drop h.cs hb⟩
theorem own_form5 {w : World} {base size : Nat} {e : TypeId} {v : Value} {n : Nat} {xs : List Value} (h : w.ownsRow base e size v n xs) : ∃ p cap, v = .slice p n cap ∧ n ≤ cap ∧ cap ≤ maxLen := by
  rcases h.2 with ⟨rfl, rfl⟩ | ⟨g, cap, cur, rfl, _, _, hnc, hcm, _⟩
  · exact ⟨none, 0, rfl, Nat.le_refl _, by simp [maxLen]⟩
  · exact ⟨_, cap, rfl, hnc, hcm⟩
theorem own_some5 {w : World} {base size : Nat} {e : TypeId} {p : Option Addr} {n cap : Nat} {xs : List Value} (h : w.ownsRow base e size (.slice p n cap) n xs) (hn : 0 < n) : ∃ g, p = some ⟨g, 0, none⟩ ∧ base ≤ g ∧ g < w.heap.size := by
  rcases h.2 with ⟨_, rfl⟩ | ⟨g, cap', cur, hv, hb, hg, _⟩
  · omega
  · cases hv
    exact ⟨g, rfl, hb, (Array.getElem?_eq_some_iff.1 hg).1⟩
theorem PA.form {w : World} {b : Nat} {vg vu vf vc : Value} {p : Pl} (h : PA w b vg vu vf vc p) : ∃ pg cg pu cu pf cf pc cc, vg = .slice pg p.st.gens.length cg ∧ vu = .slice pu p.st.used.length cu ∧ vf = .slice pf p.st.free.length cf ∧ vc = .slice pc p.ch.length cc := by
  obtain ⟨pg, cg, pu, cu, pf, cf, e1, e2, e3⟩ := h.ar.form
  obtain ⟨pc, cc, e4, _⟩ := own_form5 h.cs
  exact ⟨pg, cg, pu, cu, pf, cf, pc, cc, e1, e2, e3, e4⟩
theorem own_chunk {w : World} {b g n cap i : Nat} {l : List (List Int)} (h : w.ownsRow b 83 5 (.slice (some ⟨g, 0, none⟩) n cap) n (cvs l)) (hi : i < l.length) :
    w.cell? ⟨g, i * 5, none⟩ = some (.int .i64 (l.getD i []).length) ∧ w.cell? ⟨g, i * 5 + 1, none⟩ = some (.int .u64 (it (l.getD i []) 0)) ∧ w.cell? ⟨g, i * 5 + 2, none⟩ = some (.int .u64 (it (l.getD i []) 1)) ∧
    w.cell? ⟨g, i * 5 + 3, none⟩ = some (.int .u64 (it (l.getD i []) 2)) ∧ w.cell? ⟨g, i * 5 + 4, none⟩ = some (.int .u64 (it (l.getD i []) 3)) := by
  have hc : ∀ j, j < 5 → w.cell? ⟨g, i * 5 + j, none⟩ = (ccs (l.getD i []))[j]? := fun j hj => by
    have e := cvs_at l i j hi hj
    have hj' : j < (ccs (l.getD i [])).length := hj
    rw [List.getElem?_eq_getElem hj'] at e ⊢
    have := h.cells rfl (i * 5 + j) _ e
    rw [add_plain, Nat.zero_add] at this
    exact this
  exact ⟨hc 0 (by omega), hc 1 (by omega), hc 2 (by omega), hc 3 (by omega), hc 4 (by omega)⟩

set_option maxHeartbeats 1000000 in
theorem chunk_any (h : Int) (vg vu vf vc : Value) (p : Pl) (b : Nat) (w : World) (hA : PA w b vg vu vf vc p) (h0 : 0 ≤ h) (h1 : h ≤ 18446744073709551615) (hi : ix h < p.ch.length) (hl : p.ch.length ≤ 1000) :
    Calls Try.prog 59 #[.agg #[vg, vu, vf, vc], .int .u64 h] w (GivesV (cval (p.at h)) w) := by
  obtain ⟨pg, cg, pu, cu, pf, cf, pc, cc, rfl, rfl, rfl, rfl⟩ := hA.form
  obtain ⟨g, rfl, _, hg⟩ := own_some5 hA.cs (by omega)
  obtain ⟨c0, c1, c2, c3, c4⟩ := own_chunk hA.cs hi
  unfold Pl.at
  have HX : Hid (h % 16777216 = (ix h : Int)) := Lib.hid (by unfold ix; omega)
  generalize p.ch.getD (ix h) [] = c at *
  generalize ix h = i at *
  have HA := Lib.hid hA
  clear hA
  have i0 : (0 : Int) ≤ (i : Int) := by omega
  have i1 : (i : Int) < (p.ch.length : Int) := by omega
  have ne : g ≠ w.heap.size := by omega
  go_enter Try.func59, Try.ntmps59
  go_wp2_with fail
  go_region_held3 (fun w' => w'.cell? ⟨w.heap.size, 3, none⟩ = some (.slice (some ⟨g, 0, none⟩) p.ch.length cc) ∧ w'.cell? ⟨g, i * 5, none⟩ = some (.int .i64 c.length) ∧ w'.cell? ⟨g, i * 5 + 1, none⟩ = some (.int .u64 (it c 0)) ∧ w'.cell? ⟨g, i * 5 + 2, none⟩ = some (.int .u64 (it c 1)) ∧ w'.cell? ⟨g, i * 5 + 3, none⟩ = some (.int .u64 (it c 2)) ∧ w'.cell? ⟨g, i * 5 + 4, none⟩ = some (.int .u64 (it c 3)))
    (go_keep)
    (first
      | (go_at_call 51; refine (index_any h _ h0 h1).mono ?_; rw [HX.out]; rintro e w' ⟨rfl, rfl⟩))
  go_wp2
  refine bodyPost_ret (v := cval c) (by simp [results, Try.results59, go_sem, cval]) rfl ⟨rfl, ?_⟩
  exact (((Below.refl _ w).alloc (Nat.le_refl _) _).alloc (by simp) _).drew
end Go.Proofs.Ytbldjlkofaiikaa
