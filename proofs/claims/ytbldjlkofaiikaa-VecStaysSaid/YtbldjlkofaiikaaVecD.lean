/-
  What the chunks of a row have; a handle by its level and number.
-/
import Derived.Test.YtbldjlkofaiikaaVecC
namespace Go.Proofs.Ytbldjlkofaiikaa
open Go.ChangeShapes Go.WideShapes Go.ChangeAt Go.RowKit
set_option linter.unusedVariables false
set_option linter.unusedSimpArgs false

theorem block4 {w : World} {k : Nat} {a b c d : Value} {t : TypeId} (h : w.heap[k]? = some (.cells #[a, b, c, d] t (0, 0))) :
    w.cell? ⟨k, 0, none⟩ = some a ∧ w.cell? ⟨k, 1, none⟩ = some b ∧ w.cell? ⟨k, 2, none⟩ = some c ∧ w.cell? ⟨k, 3, none⟩ = some d ∧
    w.frozen? ⟨k, 0, none⟩ = false ∧ w.frozen? ⟨k, 1, none⟩ = false ∧ w.frozen? ⟨k, 2, none⟩ = false ∧ w.frozen? ⟨k, 3, none⟩ = false := by
  simp [World.cell?, World.frozen?, h]
/-- The handles of a row are live, of chunks of up to four parts. -/
def Fit (p : Pl) (row : List Int) : Prop := ∀ h ∈ row, 0 ≤ h ∧ h ≤ 18446744073709551615 ∧ ix h < p.ch.length ∧ (p.at h).length ≤ 4
theorem parts_length {p : Pl} : ∀ {row : List Int}, Fit p row → (p.parts row).length ≤ 4 * row.length
  | [], _ => by simp [Pl.parts]
  | h :: t, hf => by
    have h1 := (hf h (by simp)).2.2.2
    have h2 := parts_length (row := t) (fun x hx => hf x (by simp [hx]))
    simp only [Pl.parts, List.flatMap_cons, List.length_append, List.length_cons] at h2 ⊢
    omega
theorem parts_take_succ {p : Pl} {row : List Int} {k : Nat} (h : k < row.length) : p.parts (row.take (k + 1)) = p.parts (row.take k) ++ p.at (row.getD k 0) := by
  rw [take_more h, getD_at 0 h, Pl.parts, List.flatMap_append]
  simp [Pl.parts]
theorem Fit.take {p : Pl} {row : List Int} (h : Fit p row) (k : Nat) : Fit p (row.take k) := fun x hx => h x (List.mem_of_mem_take hx)
theorem gvs_append (a b : List Int) : gvs (a ++ b) = gvs a ++ gvs b := by simp [gvs]
/-- The cells of a chunk in a box, as many as it has. -/
theorem box_parts {w : World} {k : Nat} (c : List Int) (hl : c.length ≤ 4) (h : w.heap[k]? = some (.cells #[.int .i64 c.length, .int .u64 (it c 0), .int .u64 (it c 1), .int .u64 (it c 2), .int .u64 (it c 3)] 83 (0, 0))) :
    ∀ j u, (gvs c)[j]? = some u → w.cell? ((⟨k, 1, none⟩ : Addr).add j) = some u := by
  obtain ⟨⟨c0, c1, c2, c3, c4⟩, -⟩ := block5 h
  intro j u hj
  rw [add_plain]
  have hjl : j < c.length := by
    rcases Nat.lt_or_ge j c.length with h | h
    · exact h
    · rw [List.getElem?_eq_none (by rw [gvs_length]; exact h)] at hj; cases hj
  have e : u = .int .u64 (it c j) := by
    simp only [gvs, List.getElem?_map, List.getElem?_eq_getElem hjl, Option.map_some, Option.some.injEq] at hj
    rw [← hj, it, getD_at 0 hjl]
  rw [e]
  match j, hjl with
  | 0, _ => exact c1
  | 1, _ => exact c2
  | 2, _ => exact c3
  | 3, _ => exact c4
  | j + 4, h => omega

set_option maxRecDepth 100000 in
set_option maxHeartbeats 2000000 in
theorem parts_any (row : List Int) (vr : Value) (b' : Nat) (vg vu vf vc : Value) (p : Pl) (b : Nat) (w : World) (hA : PA w b vg vu vf vc p) (hR : w.ownsRow b' 41 1 vr row.length (gvs row)) (hF : Fit p row) (hl : p.ch.length ≤ 1000) (hrl : row.length ≤ 1000) :
    Calls Try.prog 54 #[.agg #[vg, vu, vf, vc], vr] w (GivesRow 41 (gvs (p.parts row)) w) := by
  obtain ⟨pr, cr, rfl, _, _, _⟩ := own_form hR
  have HA := Lib.hid hA
  have HR := Lib.hid hR
  have HF := Lib.hid hF
  clear hA hR hF
  obtain ⟨i0', hi0, hz0, hz1, hz2⟩ := info_parts info_G
  have hI := Lib.hid hi0
  have hZ0 := Lib.hid hz0
  have hZ1 := Lib.hid hz1
  have hZ2 := Lib.hid hz2
  clear hi0 hz0 hz1 hz2
  obtain ⟨W, hW⟩ : ∃ W, W = w.alloc (.cells #[vg, vu, vf, vc] 31) := ⟨_, rfl⟩
  have HW : Hid (Below w.heap.size w W ∧ W.heap[w.heap.size]? = some (.cells #[vg, vu, vf, vc] 31 (0, 0)) ∧ W.heap.size = w.heap.size + 1) := Lib.hid (by
    subst hW; exact ⟨(Below.refl _ w).alloc (Nat.le_refl _) _, heap_alloc_new w _, by simp⟩)
  have HWE := Lib.hid hW
  have HAW := Lib.hid (HA.out.below HW.out.1)
  have HRW := Lib.hid (own_below HR.out HW.out.1)
  have HSW := Lib.hid HW.out.2.2
  clear hW
  obtain ⟨n, hn⟩ : ∃ n, row.length = n := ⟨_, rfl⟩
  have HN := Lib.hid hn
  rw [hn] at hrl HRW ⊢
  clear hn
  go_enter Try.func54, Try.ntmps54
  go_wp2
  rw [← HWE.out]
  go_loopw [5, 11] (fun l i wr => ∃ (k : Nat) (q : Option Addr) (cap : Nat), k ≤ n ∧ i = .int .i64 k ∧ l = .slice q (p.parts (row.take k)).length cap ∧
      Hid (wr.ownsRow (w.heap.size + 1) 41 1 (.slice q (p.parts (row.take k)).length cap) (p.parts (row.take k)).length (gvs (p.parts (row.take k)))) ∧ Hid (Below (w.heap.size + 1) W wr)) (fun _ i _ => n - (intOf i).toNat)
  case atStart =>
    exact ⟨0, none, 0, Nat.zero_le _, rfl, by simp [Pl.parts], Lib.hid (by simpa [Pl.parts, gvs] using World.ownsRow_nil _ _ _ _), Lib.hid (Below.refl _ _)⟩
  case round =>
    obtain ⟨k, q, cap, hk, rfl, rfl, HO, HB⟩ := hrel
    have hpl := parts_length (HF.out.take k)
    rw [List.length_take] at hpl
    have hpl' : (p.parts (row.take k)).length ≤ 4 * k := by omega
    clear hpl
    have HAr := Lib.hid (HAW.out.below (HB.out.mono (by rw [HSW.out]; exact Nat.le_refl _)))
    have HRr := Lib.hid (own_below HRW.out (HB.out.mono (by rw [HSW.out]; exact Nat.le_refl _)))
    have HKr : Hid (wr.heap[w.heap.size]? = some (.cells #[vg, vu, vf, vc] 31 (0, 0))) := Lib.hid ((HB.out.block _ (by omega)).trans HW.out.2.1)
    obtain ⟨c0, c1, c2, c3, -⟩ := block4 HKr.out
    have hBs : w.heap.size + 1 ≤ wr.heap.size := by have := HB.out.size; have := HSW.out; omega
    by_cases hlt : k < n
    · have k0 : (0 : Int) ≤ (k : Int) := by omega
      have k1 : (k : Int) < (n : Int) := by omega
      obtain ⟨gr, rfl, _, hgr⟩ := own_some HRr.out (by omega)
      have cr0 := own_at_gen HRr.out hlt
      have HX : Hid (0 ≤ row.getD k 0 ∧ row.getD k 0 ≤ 18446744073709551615 ∧ ix (row.getD k 0) < p.ch.length ∧ (p.at (row.getD k 0)).length ≤ 4) := Lib.hid (HF.out _ (by rw [getD_at 0 (by rw [HN.out]; exact hlt)]; exact List.getElem_mem _))
      have HS := Lib.hid (parts_take_succ (p := p) (row := row) (k := k) (by rw [HN.out]; exact hlt))
      generalize row.getD k 0 = h at *
      go_wp2_with fail
      refine (chunk_any h vg vu vf vc p b wr HAr.out HX.out.1 HX.out.2.1 HX.out.2.2.1 hl).mono ?_
      unfold cval
      rintro e w1 ⟨rfl, hb1⟩
      have h4 := HX.out.2.2.2
      generalize p.at h = c at *
      generalize p.parts (row.take k) = l at *
      have HO1 := Lib.hid (own_below HO.out hb1)
      have HB1 : Hid (Below (w.heap.size + 1) W w1) := Lib.hid (HB.out.trans (hb1.mono hBs))
      have hs1 := hb1.size
      have h4' : (c.length : Int) ≤ 4 := by omega
      have h4'' : (0 : Int) ≤ (c.length : Int) := by omega
      clear hb1
      have HBX : Hid ((w1.alloc (.cells #[.int .i64 c.length, .int .u64 (it c 0), .int .u64 (it c 1), .int .u64 (it c 2), .int .u64 (it c 3)] 83)).heap[w1.heap.size]? = some (.cells #[.int .i64 c.length, .int .u64 (it c 0), .int .u64 (it c 1), .int .u64 (it c 2), .int .u64 (it c 3)] 83 (0, 0))) := Lib.hid (heap_alloc_new _ _)
      go_wp2_with (at_builtin; refine wpList_append_own_at _ rfl _ _ 24 rfl (w.heap.size + 1) 41 i0' (.int .u64 0) 1 8 Try.underlying24 hI.out hZ0.out hZ1.out hZ2.out rfl (by decide) _ _ _ rfl (HO1.out.alloc _) ⟨w1.heap.size, 1, none⟩ c.length 4 (gvs c) rfl (by rw [gvs_length, Nat.mul_one]) (box_parts c h4 HBX.out) (gvs_one _) (by unfold maxLen; omega) (by omega) (by simp; omega) ?_; intro v' w5 hown' hgrow _ hat; obtain ⟨q', cap', rfl, -, -, -⟩ := own_form hown'
                   have HO' := Lib.hid hown'
                   have HGR := Lib.hid hgrow
                   clear hown' hgrow hat)
      go_roundw
      case rel =>
        refine ⟨k + 1, q', cap', by omega, by go_num, ?_, Lib.hid ?_, Lib.hid ?_⟩
        · rw [HS.out, List.length_append]
        · rw [HS.out, List.length_append, gvs_append]; exact HO'.out
        · exact (HB1.out.alloc (by omega) _).grown HGR.out (by simp; omega) (fun q e => (HO1.out.lt q e).1)
      case measure => simp [intOf] <;> omega
    · obtain rfl : k = n := by omega
      go_wp2
      go_ret
      have e : row.take k = row := List.take_of_length_le (by rw [HN.out]; exact Nat.le_refl _)
      have HO' := HO.out
      rw [e] at HO'
      rw [e]
      refine ⟨_, rfl, ?_, HW.out.1.trans (HB.out.mono (by omega))⟩
      rw [gvs_length]
      exact own_drop HO' (by omega)

/-- A list of lists in memory, all from block b on. -/
def RR (w : World) (b : Nat) (v : Value) (ls : List (List Int)) : Prop :=
  ∃ vs : List Value, w.ownsRow b 24 1 v ls.length vs ∧ ∀ i, i < ls.length → ∃ x, vs[i]? = some x ∧ w.ownsRow b 41 1 x (ls.getD i []).length (gvs (ls.getD i []))
theorem RR.below {w w' : World} {b : Nat} {v : Value} {ls : List (List Int)} (h : RR w b v ls) (hb : Below w.heap.size w w') : RR w' b v ls := by
  obtain ⟨vs, h1, h2⟩ := h
  exact ⟨vs, own_below h1 hb, fun i hi => by obtain ⟨x, e, o⟩ := h2 i hi; exact ⟨x, e, own_below o hb⟩⟩
theorem RR.drop {w : World} {b b' : Nat} {v : Value} {ls : List (List Int)} (h : RR w b v ls) (hb : b' ≤ b) : RR w b' v ls := by
  obtain ⟨vs, h1, h2⟩ := h
  exact ⟨vs, own_drop h1 hb, fun i hi => by obtain ⟨x, e, o⟩ := h2 i hi; exact ⟨x, e, own_drop o hb⟩⟩
theorem RR.form {w : World} {b : Nat} {v : Value} {ls : List (List Int)} (h : RR w b v ls) : ∃ p cap, v = .slice p ls.length cap ∧ ls.length ≤ cap ∧ cap ≤ maxLen := by
  obtain ⟨vs, h1, h2⟩ := h
  exact own_form5 h1
/-- A row of it. -/
theorem RR.row {w : World} {b g cap : Nat} {ls : List (List Int)} {i : Nat} (h : RR w b (.slice (some ⟨g, 0, none⟩) ls.length cap) ls) (hi : i < ls.length) :
    ∃ q c, w.cell? ⟨g, i, none⟩ = some (.slice q (ls.getD i []).length c) ∧ w.ownsRow b 41 1 (.slice q (ls.getD i []).length c) (ls.getD i []).length (gvs (ls.getD i [])) := by
  obtain ⟨vs, h1, h2⟩ := h
  obtain ⟨x, e, o⟩ := h2 i hi
  obtain ⟨q, c, rfl, -⟩ := own_form o
  exact ⟨q, c, (h1.cellAt i (by omega)).trans e, o⟩

set_option maxHeartbeats 1000000 in
theorem at_in (l k : Nat) (rows : List (List Int)) (v : Value) (b : Nat) (w : World) (hR : RR w b v rows) (hl : rows.length ≤ 1000) (hll : l ≤ 1000) (hk : k ≤ 1000) (hrl : ∀ r ∈ rows, r.length ≤ 1000) :
    Calls Try.prog 39 #[v, .int .i64 l, .int .i64 k] w fun e w' => e = .returned (.int .u64 (atR rows l k)) ∧ w = w' := by
  obtain ⟨p, c, rfl, -, -⟩ := hR.form
  have hl0 : ((l : Int) < 0) = False := by simp
  by_cases h1 : l < rows.length
  · obtain ⟨g, rfl, -, hg⟩ := own_some5 hR.choose_spec.1 (by omega)
    obtain ⟨q, c', hc, ho⟩ := hR.row h1
    unfold atR
    have hr := hrl (rows.getD l []) (by rw [getD_at [] h1]; exact List.getElem_mem _)
    generalize rows.getD l [] = r at *
    have l0 : (0 : Int) ≤ (l : Int) := by omega
    have l1 : (l : Int) < (rows.length : Int) := by omega
    clear hR
    by_cases h2 : k < r.length
    · obtain ⟨g', rfl, -, hg'⟩ := own_some ho (by omega)
      have cr := own_at_gen ho h2
      have k0 : (0 : Int) ≤ (k : Int) := by omega
      have k1 : (k : Int) < (r.length : Int) := by omega
      generalize r.getD k 0 = x at *
      go_enter Try.func39, Try.ntmps39
      go_wp2
      go_ret
      exact ⟨rfl, rfl⟩
    · have e : r.getD k 0 = 0 := by rw [List.getD, List.getElem?_eq_none (by omega)]; rfl
      rw [e]
      have k1 : (r.length : Int) ≤ (k : Int) := by omega
      go_enter Try.func39, Try.ntmps39
      go_wp2
      go_ret
      exact ⟨rfl, rfl⟩
  · have e : atR rows l k = 0 := by
      have : rows.getD l [] = [] := by rw [List.getD, List.getElem?_eq_none (by omega)]; rfl
      unfold atR
      rw [this]; rfl
    rw [e]
    have l1 : (rows.length : Int) ≤ (l : Int) := by omega
    go_enter Try.func39, Try.ntmps39
    go_wp2
    go_ret
    exact ⟨rfl, rfl⟩
set_option maxHeartbeats 1000000 in
theorem at_neg (v : Value) (w : World) :
    Calls Try.prog 39 #[v, .int .i64 (-1), .int .i64 0] w fun e w' => e = .returned (.int .u64 0) ∧ w = w' := by
  go_enter Try.func39, Try.ntmps39
  go_wp2
  go_ret
  exact ⟨rfl, rfl⟩
end Go.Proofs.Ytbldjlkofaiikaa
