/-
  Lists joined; Reach.
-/
import Derived.Test.YtbldjlkofaiikaaVecQ
import Derived.Lib.AppendZeros
namespace Go.Proofs.Ytbldjlkofaiikaa
open Go.ChangeShapes Go.WideShapes Go.ChangeAt Go.RowKit
set_option linter.unusedVariables false
set_option linter.unusedSimpArgs false

set_option maxRecDepth 100000 in
set_option maxHeartbeats 2000000 in
theorem grow_nil (n : Nat) (w : World) (h : n ≤ 100000) :
    Calls Try.prog 83 #[.slice none 0 0, .int .i64 n] w (GivesRow 41 [] w) := by
  by_cases hn : n = 0
  · subst hn
    go_enter Try.func83, Try.ntmps83
    go_wp2
    go_ret
    exact ⟨_, rfl, World.ownsRow_nil _ _ _ _, Below.refl _ _⟩
  · obtain ⟨i0', hi0, hz0, hz1, hz2⟩ := info_parts info_G
    have hG0 := grownCap_ge w n 0 41
    have hG1 := grownCap_le_maxLen w n 0 41 (by unfold maxLen; omega)
    have hrz : ∀ ty, _ := fun ty => Lib.run_append_nil_zeros (P := Try.prog) w 24 3 ty 41 i0' (.int .u64 0) .i64 .i64 Try.underlying24 Try.underlying3 hi0 hz0 n (by omega) (by omega) (by omega) (by rw [hz2]; omega)
    generalize grownCap w n 0 41 = C at *
    unfold maxLen at hG1
    have HRZ := Lib.hid hrz
    clear hrz hi0 hz0 hz1 hz2
    have h1 : (0 : Int) < (n : Int) := by omega
    have h2 : ¬ ((n : Int) < 0) := by omega
    go_enter Try.func83, Try.ntmps83
    go_wp2_with (at_builtin; refine Lib.wpList_append_run _ rfl _ _ _ _ rfl _ _ rfl rfl _ _ (HRZ.out _) ?_)
    all_goals go_ret
    all_goals
      refine ⟨_, rfl, ⟨rfl, .inr ⟨w.heap.size, C, _, rfl, Nat.le_refl _, heap_alloc_new w.drew _, Nat.zero_le _, by unfold maxLen; omega, ?_, by simp⟩⟩, (Below.refl _ w).drew.alloc (Nat.le_refl _) _⟩
      rw [Array.size_append, size_zeroCells, size_zeroCells]
      simp [Value.cells]
      omega

theorem flat_take {ls : List (List Int)} {k : Nat} (h : k < ls.length) : (ls.take (k + 1)).flatten = (ls.take k).flatten ++ ls.getD k [] := by
  rw [take_more h, getD_at [] h, List.flatten_append]
  simp
theorem flat_len {ls : List (List Int)} {m : Nat} (h : ∀ r ∈ ls, r.length ≤ m) : ∀ k, (ls.take k).flatten.length ≤ m * k
  | 0 => by simp
  | k + 1 => by
    have := flat_len h k
    rcases Nat.lt_or_ge k ls.length with hk | hk
    · rw [flat_take hk, List.length_append]
      have h2 := h (ls.getD k []) (by rw [getD_at [] hk]; exact List.getElem_mem _)
      rw [Nat.mul_succ]
      omega
    · rw [List.take_of_length_le (by omega)]
      rw [List.take_of_length_le hk] at this
      rw [Nat.mul_succ]
      omega
set_option maxRecDepth 100000 in
set_option maxHeartbeats 4000000 in
theorem concat_pl (ls : List (List Int)) (v : Value) (b : Nat) (w : World) (hR : RR w b v ls) (hl : ls.length ≤ 4) (hrl : ∀ r ∈ ls, r.length ≤ 256) :
    Calls Try.prog 56 #[v] w (GivesRow 41 (gvs ls.flatten) w) := by
  obtain ⟨pr, cr, rfl, -, -⟩ := hR.form
  have HR := Lib.hid hR
  have HRL := Lib.hid hrl
  clear hR hrl
  obtain ⟨i0', hi0, hz0, hz1, hz2⟩ := info_parts info_G
  have hI := Lib.hid hi0
  have hZ0 := Lib.hid hz0
  have hZ1 := Lib.hid hz1
  have hZ2 := Lib.hid hz2
  clear hi0 hz0 hz1 hz2
  obtain ⟨N, hN⟩ : ∃ N, ls.length = N := ⟨_, rfl⟩
  have HN := Lib.hid hN
  have HRN : Hid (RR w b (.slice pr N cr) ls) := Lib.hid (by rw [← hN]; exact HR.out)
  rw [hN] at hl ⊢
  clear hN HR
  have HROW : Hid (∀ k, k < N → ∃ (go : Nat) (q : Option Addr) (c : Nat), pr = some ⟨go, 0, none⟩ ∧ go < w.heap.size ∧ w.cell? ⟨go, k, none⟩ = some (.slice q (ls.getD k []).length c) ∧ w.ownsRow b 41 1 (.slice q (ls.getD k []).length c) (ls.getD k []).length (gvs (ls.getD k []))) := Lib.hid (fun k hk => by
    have hr := HRN.out
    rw [← HN.out] at hr hk
    obtain ⟨go, hgo, -, hgol⟩ : ∃ g, pr = some ⟨g, 0, none⟩ ∧ b ≤ g ∧ g < w.heap.size := by
      obtain ⟨vs, h1, -⟩ := hr
      exact own_some5 h1 (by omega)
    subst hgo
    obtain ⟨q, c, h1, h2⟩ := hr.row hk
    exact ⟨go, q, c, rfl, hgol, h1, h2⟩)
  go_enter Try.func56, Try.ntmps56
  go_wp2
  go_loopw [3, 11] (fun z i wr => ∃ (k : Nat), k ≤ N ∧ i = .int .i64 k ∧ z = .int .i64 ((ls.take k).flatten.length : Nat) ∧ w = wr) (fun _ i _ => N - (intOf i).toNat)
  case atStart => exact ⟨0, Nat.zero_le _, rfl, by simp, rfl⟩
  case round =>
    obtain ⟨k, hk, rfl, rfl, rfl⟩ := hrel
    have hfl := flat_len HRL.out k
    by_cases hlt : k < N
    · obtain ⟨go, q, c, hpr, hgol, hc, ho⟩ := HROW.out k hlt
      subst hpr
      have hfl2 := flat_len HRL.out (k + 1)
      have HFT := Lib.hid (flat_take (ls := ls) (k := k) (by rw [HN.out]; exact hlt))
      rw [HFT.out, List.length_append] at hfl2
      generalize (ls.take k).flatten = acc at *
      generalize ls.getD k [] = r at *
      have k0 : (0 : Int) ≤ (k : Int) := by omega
      have k1 : (k : Int) < (N : Int) := by omega
      have a0 : ¬ ((acc.length : Int) + (r.length : Int) < 0) := by omega
      clear ho
      go_wp2
      go_roundw
      case rel => exact ⟨k + 1, by omega, by go_num, by rw [HFT.out, List.length_append]; simp, by first | trivial | rfl⟩
      case measure => simp [intOf] <;> omega
    · obtain rfl : k = N := by omega
      generalize (ls.take k).flatten.length = m at *
      go_wp2_with fail
      refine (grow_nil m _ (by omega)).mono ?_
      rintro e w1 ⟨v1, rfl, ho1, hb1⟩
      obtain ⟨q1, c1, rfl, -, -⟩ := own_form5 ho1
      have HO1 := Lib.hid ho1
      have HB1 := Lib.hid hb1
      clear ho1 hb1
      go_wp2_with fail
      go_loopw [6, 27] (fun z i wr => ∃ (j : Nat) (q : Option Addr) (cap : Nat), j ≤ k ∧ i = .int .i64 j ∧ z = .slice q (ls.take j).flatten.length cap ∧ Hid (wr.ownsRow w.heap.size 41 1 (.slice q (ls.take j).flatten.length cap) (ls.take j).flatten.length (gvs (ls.take j).flatten)) ∧ Hid (Below w.heap.size w wr)) (fun _ i _ => k - (intOf i).toNat)
      case atStart => exact ⟨0, _, _, Nat.zero_le _, rfl, rfl, HO1, HB1⟩
      case round =>
        obtain ⟨j, q, cap, hj, rfl, rfl, HO, HB⟩ := hrel
        have hfl' := flat_len HRL.out j
        have hws := HB.out.size
        by_cases hjl : j < k
        · obtain ⟨go, rq, rc, hpr, hgol, hc0, ho⟩ := HROW.out j hjl
          subst hpr
          have hc := (HB.out.cell (p := ⟨go, j, none⟩) hgol).trans hc0
          have HFT := Lib.hid (flat_take (ls := ls) (k := j) (by rw [HN.out]; exact hjl))
          have hrl2 := HRL.out (ls.getD j []) (by rw [getD_at [] (by rw [HN.out]; exact hjl)]; exact List.getElem_mem _)
          generalize (ls.take j).flatten = acc at *
          generalize ls.getD j [] = r at *
          have HSr := Lib.hid (own_below ho HB.out)
          clear ho hc0
          have j0 : (0 : Int) ≤ (j : Int) := by omega
          have j1 : (j : Int) < (k : Int) := by omega
          rcases HSr.out.2 with ⟨hnil, hn0⟩ | ⟨gs, scap, scur, hsl, -⟩
          · obtain rfl : r = [] := List.eq_nil_of_length_eq_zero hn0
            have hc2 : wr.cell? ⟨go, j, none⟩ = some (.slice none 0 0) := by rw [hc, hnil]
            clear hc hnil
            go_wp2_with (at_builtin; refine wpList_append_own_none rfl _ _ 24 rfl w.heap.size 41 i0' 1 Try.underlying24 hI.out _ _ _ rfl HO.out rfl ?_)
            go_roundw
            case rel => exact ⟨j + 1, q, cap, by omega, by go_num, by rw [HFT.out, List.append_nil], Lib.hid (by rw [HFT.out, List.append_nil]; exact HO.out), HB⟩
            case measure => simp [intOf] <;> omega
          · cases hsl
            go_wp2_with (at_builtin; refine wpList_append_own_at _ rfl _ _ 24 rfl w.heap.size 41 i0' (.int .u64 0) 1 8 Try.underlying24 hI.out hZ0.out hZ1.out hZ2.out rfl (by decide) _ _ _ rfl HO.out ⟨gs, 0, none⟩ r.length _ (gvs r) rfl (by rw [gvs_length, Nat.mul_one]) (HSr.out.cells rfl) (gvs_one _) (by unfold maxLen; omega) (by omega) (by omega) ?_; intro v' w5 hown' hgrow _ hat; obtain ⟨q', cap', rfl, -, -, -⟩ := own_form hown'
                         have HO' := Lib.hid hown'
                         have HGR := Lib.hid hgrow
                         clear hown' hgrow hat)
            go_roundw
            case rel =>
              refine ⟨j + 1, q', cap', by omega, by go_num, by rw [HFT.out, List.length_append], Lib.hid ?_, Lib.hid ?_⟩
              · rw [HFT.out, List.length_append, gvs_append]; exact HO'.out
              · exact HB.out.grown HGR.out hws (fun q e => (HO.out.lt q e).1)
            case measure => simp [intOf] <;> omega
        · obtain rfl : j = k := by omega
          have e : ls.take j = ls := List.take_of_length_le (by rw [HN.out]; exact Nat.le_refl _)
          have hO := HO.out
          rw [e] at hO
          rw [e]
          go_wp2
          go_ret
          exact ⟨_, rfl, by rw [gvs_length]; exact hO, HB.out⟩

/-! ### Reach -/
def GivesRe (o : Option (List (List Int))) (w : World) (en : Ending) (w' : World) : Prop :=
  ∃ v, en = .returned (.tuple #[v, .int .i64 (if o = none then 30 else 0)]) ∧ w'.ownsRow w.heap.size 41 1 v ((o.getD []).flatten).length (gvs (o.getD []).flatten) ∧ Below w.heap.size w w'
set_option maxRecDepth 100000 in
set_option maxHeartbeats 4000000 in
theorem reach_pl (root : Int) (size : Nat) (vg vu vf vc : Value) (p : Pl) (b n : Nat) (G : Int) (w : World) (hA : PA w b vg vu vf vc p) (hP : PK n G p) (h0 : 0 ≤ root) (h1 : root ≤ 18446744073709551615) (hs : size ≤ 256) :
    Calls Try.prog 23 #[.agg #[vg, vu, vf, vc], .agg #[.int .u64 root, .int .i64 size]] w (GivesRe (p.down (lvs size) [root]) w) := by
  have HA := Lib.hid hA
  have HP := Lib.hid hP
  clear hA hP
  obtain ⟨W, hW⟩ : ∃ W, W = (w.alloc (.cells #[vg, vu, vf, vc] 31)).alloc (.cells #[.int .u64 root, .int .i64 size] 43) := ⟨_, rfl⟩
  have HW : Hid (Below w.heap.size w W ∧ W.heap.size = w.heap.size + 2 ∧ W.heap[w.heap.size]? = some (.cells #[vg, vu, vf, vc] 31 (0, 0)) ∧ W.heap[w.heap.size + 1]? = some (.cells #[.int .u64 root, .int .i64 size] 43 (0, 0))) := Lib.hid (by
    subst hW
    refine ⟨((Below.refl _ w).alloc (Nat.le_refl _) _).alloc (by simp) _, by simp, ?_, heap_new1 _ _ _⟩
    rw [heap_alloc_old _ _ (by simp)]; exact heap_alloc_new w _)
  have HWE := Lib.hid hW
  clear hW
  obtain ⟨T, hT⟩ : ∃ T, p.down (lvs size) [root] = T := ⟨_, rfl⟩
  have HH := Lib.hid (fun W hA => handles_pl root size vg vu vf vc p b n G W hA HP.out h0 h1 hs)
  have HD : Hid (∀ ls, T = some ls → ls.length ≤ 4 ∧ (∀ r ∈ ls, r.length ≤ 256)) := Lib.hid (fun ls hls => by
    obtain ⟨ll, lrow, -, -⟩ := down_ok HP.out (hT.trans hls) (fun x hx => by simp at hx; subst hx; exact ⟨h0, h1⟩) (by
      have : 4 ^ lvs size ≤ 4 ^ 4 := Nat.pow_le_pow_right (by decide) (lvs_le size)
      simp; omega)
    exact ⟨by rw [ll]; exact lvs_le _, lrow⟩)
  rw [hT] at HH ⊢
  clear hT
  go_enter Try.func23, Try.ntmps23
  go_upto_region 1 with fail
  rw [← HWE.out]
  clear HWE
  obtain ⟨x0, x1, x2, x3, -⟩ := block4 HW.out.2.2.1
  obtain ⟨u0, u1⟩ := block2 HW.out.2.2.2
  go_wp2_with fail
  refine (HH.out W (HA.out.below HW.out.1)).mono ?_
  rintro e w1 ⟨⟨hd, rfl⟩ | ⟨ls, v1, hd, rfl, hrr⟩, hb1⟩
  · subst hd
    have HB : Hid (Below w.heap.size w w1) := Lib.hid (HW.out.1.trans (hb1.mono (by have := HW.out.2.1; omega)))
    clear hb1
    go_wp2_with fail
    refine (concat_pl [] (.slice none 0 0) 0 w1 ⟨[], World.ownsRow_nil _ _ _ _, fun i hi => by simp at hi⟩ (by simp) (fun r hr => by simp at hr)).mono ?_
    rintro e w2 ⟨v2, rfl, ho2, hb2⟩
    have HO2 := Lib.hid ho2
    have HB2 := Lib.hid hb2
    clear ho2 hb2
    go_wp2
    go_ret2
    exact ⟨_, rfl, own_drop HO2.out HB.out.size, HB.out.trans (HB2.out.mono HB.out.size)⟩
  · subst hd
    obtain ⟨hl4, hlr⟩ := HD.out ls rfl
    have HLR := Lib.hid hlr
    have HB : Hid (Below w.heap.size w w1) := Lib.hid (HW.out.1.trans (hb1.mono (by have := HW.out.2.1; omega)))
    have HRR := Lib.hid hrr
    obtain ⟨pr, cr, rfl, -, -⟩ := hrr.form
    clear hb1 hrr hlr
    go_wp2_with fail
    refine (concat_pl ls _ _ w1 HRR.out hl4 HLR.out).mono ?_
    rintro e w2 ⟨v2, rfl, ho2, hb2⟩
    rw [gvs_length] at ho2
    have HO2 := Lib.hid ho2
    have HB2 := Lib.hid hb2
    clear ho2 hb2
    go_wp2
    go_ret2
    exact ⟨_, rfl, own_drop HO2.out HB.out.size, HB.out.trans (HB2.out.mono HB.out.size)⟩
end Go.Proofs.Ytbldjlkofaiikaa
