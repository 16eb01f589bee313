/-
  A list of numbers that came in; the law VecGets.
-/
import Derived.Test.YtbldjlkofaiikaaVecZ
import Derived.ChangeSlices
import Derived.OpenShut
import Derived.Carry
namespace Go.Proofs.Ytbldjlkofaiikaa
open Go.ChangeShapes Go.WideShapes Go.ChangeAt Go.RowKit
set_option linter.unusedVariables false
set_option linter.unusedSimpArgs false

theorem cells_u64 : Try.prog.cellsOf 41 = 1 := by kernel_rfl
set_option maxRecDepth 100000 in
/-- A list of numbers that came in: it can be read. -/
theorem u64s_open {H : Type} {enc : TypeId × Value → H} {W : World} {base : Nat} {v : Value} {d : DataW H} {ps : List MemPlace} (hv : Value.okWide Try.prog W .any base 24 v)
    (h : DataW.Trod enc Try.prog W 0 (fun _ => true) true 24 v d ps) (hlt : ∀ x ∈ ps, x.block < W.heap.size) :
    ∃ (A : Option Addr) (cap : Nat) (zs : List Int), v = .slice A zs.length cap ∧ zs.length ≤ cap ∧ cap ≤ maxLen ∧ RL W A zs ∧ U64 zs := by
  obtain ⟨a0, len, cap, rfl⟩ := okWide_slice Try.underlying24 hv
  obtain ⟨fuel, hf⟩ := h
  rcases open_ints Try.underlying24 Try.underlying41 cells_u64 hf with ⟨hcs, hx⟩ | ⟨a, len', cap', ss, hcs, _, hl, hm, hz, hx, hcell, hws⟩
  · simp [Value.cells] at hcs
    obtain ⟨rfl, rfl, rfl⟩ := hcs
    exact ⟨none, 0, [], rfl, by simp, by simp [maxLen], fun h => by simp at h, fun x hx => by simp at hx⟩
  · simp [Value.cells] at hcs
    obtain ⟨rfl, rfl, rfl⟩ := hcs
    simp only [Prod.mk.injEq] at hx
    obtain ⟨rfl, rfl⟩ := hx
    simp only [if_true] at hz
    have hlen : (ss.take len).length = len := by rw [List.length_take]; omega
    refine ⟨some a, cap, ss.take len, by rw [hlen], by rw [hlen]; exact hl, hm, fun h0 => ?_, fun z hz => ?_⟩
    · rw [hlen] at h0
      obtain ⟨b, off, spot⟩ := a
      have hspot : spot = none := by simpa [Addr.add] using World.cell?_spot (hcell 0 (by omega))
      subst hspot
      refine ⟨b, off, rfl, hlt (.cell b off) (MemPlace.mem_row.2 ⟨0, by omega, by simp⟩), fun j u hu => ?_⟩
      have hj : j < len := by
        rcases Nat.lt_or_ge j len with hj | hj
        · exact hj
        · rw [List.getElem?_eq_none (by rw [gvs_length, hlen]; exact hj)] at hu; cases hu
      have := hcell j (by omega)
      rw [add_plain] at this
      rw [this]
      have e : (gvs (ss.take len))[j]? = some (.int .u64 (ss.getD j 0)) := by
        rw [gvs, List.getElem?_map, List.getElem?_take, if_pos hj, List.getElem?_eq_getElem (by omega), getD_at 0 (by omega)]
        rfl
      rw [e] at hu
      exact hu
    · exact u64_wf (hws z (List.mem_of_mem_take hz))

/-- What a first change in a new pool comes to. -/
theorem first_wf {n : Nat} (hn : n ≤ 500) (h68 : 68 ≤ n) {zs : List Int} (hz : zs.length ≤ 200) (hU : U64 zs) :
    ∃ T : Told, (freshP n).change ⟨0, 0⟩ zs = T ∧ T.e = 0 ∧ T.v.size = zs.length ∧ PK n 1 T.p ∧ (∃ rows, WF T.p T.v zs rows ∧ T.gone = [] ∧ (freshP n).raise [] (lvs zs.length) zs = some (T.p, rows)) ∧ 0 ≤ T.v.root ∧ T.v.root ≤ 18446744073709551615 := by
  have hf : (freshP n).st.free.length = n := by simp [freshP, fresh, downs_length]
  obtain ⟨q, rows, h, -⟩ := raise_room (L := lvs zs.length) (p := freshP n) (old := []) (below := zs) (by rw [hf]; have := need_68 zs.length (by omega); omega)
  obtain ⟨a, b, c, d⟩ := change_wf (freshP_ok hn) (by decide) (WF.empty _) hz hU h
  exact ⟨_, a, rfl, rfl, b, ⟨rows, d, rfl, h⟩, d.b64.1, d.b64.2⟩

end Go.Proofs.Ytbldjlkofaiikaa
