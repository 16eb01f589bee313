/-
  What of a list another one has not.
-/
import Derived.Test.YtbldjlkofaiikaaVecK
namespace Go.Proofs.Ytbldjlkofaiikaa
open Go.ChangeShapes Go.WideShapes Go.ChangeAt Go.RowKit
set_option linter.unusedVariables false
set_option linter.unusedSimpArgs false

theorem drop_at {α : Type} {l : List α} {i : Nat} (d : α) (h : i < l.length) : l.drop i = l.getD i d :: l.drop (i + 1) := by
  rw [getD_at d h]; exact List.drop_eq_getElem_cons h
theorem left_at {rows old : List (List Int)} {i : Nat} (h : i < old.length) : left rows i (old.drop i) = leftRow (rows.getD i []) 0 ((old.getD i []).drop 0) ++ left rows (i + 1) (old.drop (i + 1)) := by
  rw [drop_at [] h, left]; rfl
theorem left_end {rows old : List (List Int)} {i : Nat} (h : old.length ≤ i) : left rows i (old.drop i) = [] := by
  rw [List.drop_eq_nil_of_le h]; rfl
theorem leftRow_at {new row : List Int} {j : Nat} (h : j < row.length) : leftRow new j (row.drop j) = if new.getD j 0 = row.getD j 0 then leftRow new (j + 1) (row.drop (j + 1)) else row.getD j 0 :: leftRow new (j + 1) (row.drop (j + 1)) := by
  rw [drop_at 0 h, leftRow]
theorem leftRow_end {new row : List Int} {j : Nat} (h : row.length ≤ j) : leftRow new j (row.drop j) = [] := by
  rw [List.drop_eq_nil_of_le h]; rfl

set_option maxRecDepth 100000 in
set_option maxHeartbeats 4000000 in
theorem left_pl (old rows : List (List Int)) (vo vr : Value) (b b' : Nat) (w : World) (hO : RR w b vo old) (hR : RR w b' vr rows) (ho : old.length ≤ 4) (hr : rows.length ≤ 4) (hol : ∀ r ∈ old, r.length ≤ 256) (hrl : ∀ r ∈ rows, r.length ≤ 256) :
    Calls Try.prog 42 #[vo, vr] w (GivesRow 41 (gvs (left rows 0 old)) w) := by
  obtain ⟨po, co, rfl, -, -⟩ := hO.form
  obtain ⟨pr, cr, rfl, -, -⟩ := hR.form
  have HO := Lib.hid hO
  have HR := Lib.hid hR
  have HOL := Lib.hid hol
  have HAT := Lib.hid (fun (w' : World) (h : RR w' b' (.slice pr rows.length cr) rows) (l m : Nat) (hl : l ≤ 1000) (hm : m ≤ 1000) => at_in l m rows _ b' w' h (by omega) hl hm (fun r hx => by have := hrl r hx; omega))
  clear hO hR hol hrl
  obtain ⟨i0', hi0, hz0, hz1, hz2⟩ := info_parts info_G
  have hI := Lib.hid hi0
  have hZ0 := Lib.hid hz0
  have hZ1 := Lib.hid hz1
  have hZ2 := Lib.hid hz2
  clear hi0 hz0 hz1 hz2
  obtain ⟨N, hN⟩ : ∃ N, old.length = N := ⟨_, rfl⟩
  have HN := Lib.hid hN
  rw [hN] at ho HO ⊢
  clear hN
  go_enter Try.func42, Try.ntmps42
  go_wp2
  go_loopw [5, 12] (fun l i wr => ∃ (k : Nat) (acc : List Int) (q : Option Addr) (cap : Nat), k ≤ N ∧ i = .int .i64 k ∧ l = .slice q acc.length cap ∧ acc.length ≤ 256 * k ∧
      Hid (wr.ownsRow w.heap.size 41 1 (.slice q acc.length cap) acc.length (gvs acc)) ∧ Hid (left rows 0 old = acc ++ left rows k (old.drop k)) ∧ Hid (Below w.heap.size w wr)) (fun _ i _ => N - (intOf i).toNat)
  case atStart => exact ⟨0, [], none, 0, Nat.zero_le _, rfl, rfl, by simp, Lib.hid (World.ownsRow_nil _ _ _ _), Lib.hid (by simp), Lib.hid (Below.refl _ _)⟩
  case round =>
    obtain ⟨k, acc, q, cap, hk, rfl, rfl, hal, HA, HE, HB⟩ := hrel
    obtain ⟨wo, hwo⟩ : ∃ wo, wo = wr := ⟨_, rfl⟩
    subst hwo
    by_cases hlt : k < N
    · have k0 : (0 : Int) ≤ (k : Int) := by omega
      have k1 : (k : Int) < (N : Int) := by omega
      have hkl : k < old.length := by rw [HN.out]; exact hlt
      have HOr : Hid (RR w b (.slice po old.length co) old) := Lib.hid (by rw [HN.out]; exact HO.out)
      obtain ⟨go, hgo, -, hgol⟩ : ∃ g, po = some ⟨g, 0, none⟩ ∧ b ≤ g ∧ g < w.heap.size := by
        obtain ⟨vs, h1, -⟩ := HOr.out
        exact own_some5 h1 (by omega)
      subst hgo
      obtain ⟨rq, rc, hcell0, hrow⟩ := HOr.out.row hkl
      have hcell := (HB.out.cell (p := ⟨go, k, none⟩) hgol).trans hcell0
      clear hcell0
      have HLA := Lib.hid (left_at (rows := rows) hkl)
      have hRL := HOL.out (old.getD k []) (by rw [getD_at [] hkl]; exact List.getElem_mem _)
      have HATR : Hid (∀ m, atR rows k m = (rows.getD k []).getD m 0) := Lib.hid (fun m => rfl)
      generalize old.getD k [] = row at *
      generalize rows.getD k [] = new at *
      have HRow := Lib.hid hrow
      clear hrow
      obtain ⟨m', hm'⟩ : ∃ m', row.length = m' := ⟨_, rfl⟩
      have HML := Lib.hid hm'
      rw [hm'] at hRL HRow hcell
      clear hm'
      go_wp2_with fail
      go_loopw [5, 19] (fun l i wr => ∃ (j : Nat) (ac : List Int) (q : Option Addr) (cap : Nat), j ≤ m' ∧ i = .int .i64 j ∧ l = .slice q ac.length cap ∧ ac.length ≤ 256 * k + j ∧
          Hid (wr.ownsRow w.heap.size 41 1 (.slice q ac.length cap) ac.length (gvs ac)) ∧ Hid (left rows 0 old = ac ++ (leftRow new j (row.drop j) ++ left rows (k + 1) (old.drop (k + 1)))) ∧ Hid (Below w.heap.size w wr)) (fun _ i _ => m' - (intOf i).toNat)
      case atStart => exact ⟨0, acc, q, cap, Nat.zero_le _, rfl, rfl, by omega, HA, Lib.hid (by rw [HE.out, HLA.out]), HB⟩
      case round =>
        obtain ⟨j, ac, q, cap, hj, rfl, rfl, hacl, HA, HE, HBi⟩ := hrel
        by_cases hjl : j < m'
        · have j0 : (0 : Int) ≤ (j : Int) := by omega
          have j1 : (j : Int) < (m' : Int) := by omega
          have HRr := Lib.hid (own_below HRow.out HBi.out)
          obtain ⟨gr, rfl, _, hgr⟩ := own_some HRr.out (by omega)
          have cr0 := own_at_gen HRr.out hjl
          have HLR := Lib.hid (leftRow_at (new := new) (row := row) (j := j) (by rw [HML.out]; exact hjl))
          have HAJ : Hid (atR rows k j = new.getD j 0) := Lib.hid (HATR.out j)
          generalize row.getD j 0 = h at *
          go_wp2_with fail
          refine (HAT.out wr (HR.out.below HBi.out) k j (by omega) (by omega)).mono ?_
          rintro e w1 ⟨rfl, rfl⟩
          rw [HAJ.out]
          generalize new.getD j 0 = x at *
          by_cases hx : x = h
          · have hx' : (x != h) = false := by simp [hx]
            have HX := Lib.hid hx
            clear hx
            go_wp2
            go_roundw
            case rel => exact ⟨j + 1, ac, q, cap, by omega, by go_num, rfl, by omega, HA, Lib.hid (by rw [HE.out, HLR.out, if_pos HX.out]), HBi⟩
            case measure => simp [intOf] <;> omega
          · have hx' : (x != h) = true := by simp [hx]
            have HX := Lib.hid hx
            have hws := HBi.out.size
            clear hx
            go_wp2_with (at_builtin; refine wpList_append_own_at _ rfl _ _ 24 rfl w.heap.size 41 i0' (.int .u64 0) 1 8 Try.underlying24 hI.out hZ0.out hZ1.out hZ2.out rfl (by decide) _ _ _ rfl (HA.out.alloc _) ⟨wr.heap.size, 0, none⟩ 1 1 [.int .u64 h] rfl rfl (cell_one_new _ _ _) (by simp [Value.oneCell']) (by unfold maxLen; omega) (by omega) (by simp; omega) ?_; intro v' w5 hown' hgrow _ hat; obtain ⟨q', cap', rfl, -, -, -⟩ := own_form hown'
                         have HO' := Lib.hid hown'
                         have HGR := Lib.hid hgrow
                         clear hown' hgrow hat)
            go_roundw
            case rel =>
              refine ⟨j + 1, ac ++ [h], q', cap', by omega, by go_num, by rw [List.length_append]; rfl, by simp; omega, Lib.hid ?_, Lib.hid (by rw [HE.out, HLR.out, if_neg HX.out]; simp), Lib.hid ?_⟩
              · rw [List.length_append, gvs_append]; exact HO'.out
              · exact (HBi.out.alloc hws _).grown HGR.out (by simp; omega) (fun q e => (HA.out.lt q e).1)
            case measure => simp [intOf] <;> omega
        · obtain rfl : j = m' := by omega
          go_wp2
          go_roundw
          case rel =>
            refine ⟨k + 1, ac, q, cap, by omega, by go_num, rfl, by omega, HA, Lib.hid ?_, HBi⟩
            rw [HE.out, leftRow_end (by rw [HML.out]; exact Nat.le_refl _), List.nil_append]
          case measure => simp [intOf] <;> omega
    · obtain rfl : k = N := by omega
      go_wp2
      go_ret
      have hE := HE.out
      rw [left_end (by rw [HN.out]; exact Nat.le_refl _), List.append_nil] at hE
      rw [hE]
      exact ⟨_, rfl, by rw [gvs_length]; exact HA.out, HB.out⟩
end Go.Proofs.Ytbldjlkofaiikaa
