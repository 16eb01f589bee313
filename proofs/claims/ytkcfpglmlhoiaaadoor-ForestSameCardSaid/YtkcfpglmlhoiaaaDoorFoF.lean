/-
  Whether the document has what it may; whether the way up from a node ends.
-/
import Derived.Test.YtkcfpglmlhoiaaaDoorFoE
import Derived.Deep.LoopGhost
namespace Go.Proofs.YtkcfpglmlhoiaaaDoor
open Go.ChangeShapes Go.WideShapes Go.ChangeAt Go.RowKit
set_option linter.unusedVariables false
set_option linter.unusedSimpArgs false

theorem kindOf_at {F : List Mn} {k : Nat} (h : k < F.length) : kindOf F k = F[k].kind := by simp [kindOf, List.getElem?_eq_getElem h]
theorem par_at {F : List Mn} {k : Nat} (h : k < F.length) : par F k = F[k].parent := by simp [par, List.getElem?_eq_getElem h]
theorem kidsOf_at {F : List Mn} {k : Nat} (h : k < F.length) : kidsOf F k = F[k].kids := by simp [kidsOf, List.getElem?_eq_getElem h]
def elB (F : List Mn) (k : Int) : Bool := decide (kindOf F k.toNat = 1)
set_option maxRecDepth 100000 in
set_option maxHeartbeats 4000000 in
theorem docHas_any (A : Option Addr) (F : List Mn) (c : Nat) (w : World) (hF : FR w A F) (hn : F.length ≤ 1000) (h0 : 0 < F.length) (hk : ∀ m ∈ F, m.kids.length ≤ 1000) (hB : ∀ k ∈ kidsOf F 0, isB F k = true) :
    Calls Tryd.prog 23 #[.slice A F.length c] w (GivesV (.bool (docB F)) w) := by
  have HF := Lib.hid hF
  obtain ⟨hfit, g, off, hA, hg, hnode⟩ := hF 0 F[0] (List.getElem?_eq_getElem h0)
  have HE : Hid (docB F = (F[0].kids.all (fun k => decide (kindOf F k.toNat ≠ 2)) && decide ((F[0].kids.filter (elB F)).length ≤ 1))) := Lib.hid (by rw [docB, kidsOf_at h0]; rfl)
  rw [kidsOf_at h0] at hB
  have HB0 := Lib.hid hB
  have hkl := hk F[0] (List.getElem_mem _)
  have c5 := hnode.c5
  have HI := Lib.hid hnode.ir
  generalize docB F = R at *
  generalize F[0] = m at *
  obtain ⟨n, hnn⟩ : ∃ n, F.length = n := ⟨_, rfl⟩
  obtain ⟨kl, hkk⟩ : ∃ kl, m.kids.length = kl := ⟨_, rfl⟩
  have HNN := Lib.hid hnn
  have HKK := Lib.hid hkk
  rw [hnn] at hn h0 ⊢
  rw [hkk] at c5 hkl
  subst hA
  clear hF hk hB hfit hnode hnn hkk
  generalize m.kA = kA at *
  have z0 : (0 : Int) < (n : Int) := by omega
  rw [show off + 0 * 6 + 5 = off + 5 by omega] at c5
  go_enter Tryd.func23, Tryd.ntmps23
  go_wp2_with fail
  go_loopw [3, 11] (fun e q wr => ∃ j : Nat, j ≤ kl ∧ q = .int .i64 j ∧ e = .int .i64 (((m.kids.take j).filter (elB F)).length : Nat) ∧ Hid ((m.kids.take j).all (fun k => decide (kindOf F k.toNat ≠ 2)) = true) ∧ w = wr) (fun _ q _ => kl - (intOf q).toNat)
  case atStart => exact ⟨0, Nat.zero_le _, rfl, rfl, Lib.hid rfl, rfl⟩
  case round =>
    obtain ⟨j, hj, rfl, rfl, HT, rfl⟩ := hrel
    by_cases hlt : j < kl
    · have k0 : (0 : Int) ≤ (j : Int) := by omega
      have k1 : (j : Int) < (kl : Int) := by omega
      have hjl : j < m.kids.length := by rw [HKK.out]; exact hlt
      obtain ⟨gk, ok, hAk, hgk, hck⟩ := HI.out j hjl
      have hmem : m.kids.getD j 0 ∈ m.kids := by rw [getD_at 0 hjl]; exact List.getElem_mem _
      have hisB := HB0.out _ hmem
      have HT2 : Hid ((m.kids.take (j + 1)).all (fun k => decide (kindOf F k.toNat ≠ 2)) = decide (kindOf F (m.kids.getD j 0).toNat ≠ 2)) := Lib.hid (by rw [take_more hjl, List.all_append, HT.out, getD_at 0 hjl]; simp)
      have HT3 : Hid (kindOf F (m.kids.getD j 0).toNat = 2 → R = false) := Lib.hid (fun h => by
        rw [HE.out, List.all_eq_false.2 ⟨_, hmem, by simpa using h⟩]; rfl)
      have HF2 : Hid (((m.kids.take (j + 1)).filter (elB F)).length = ((m.kids.take j).filter (elB F)).length + if elB F (m.kids.getD j 0) then 1 else 0) := Lib.hid (by
        rw [take_more hjl, List.filter_append, List.length_append, getD_at 0 hjl]
        cases h : elB F m.kids[j] <;> simp [List.filter_cons, h])
      have hle : ((m.kids.take j).filter (elB F)).length ≤ j := Nat.le_trans (List.length_filter_le _ _) (by rw [List.length_take]; omega)
      generalize m.kids.getD j 0 = y at *
      rw [isB, decide_eq_true_eq] at hisB
      obtain ⟨k, rfl⟩ := Int.eq_ofNat_of_zero_le hisB.1
      have hkF : k < F.length := by omega
      obtain ⟨hfk, g', off', hA', hg', hnk⟩ := HF.out k F[k] (List.getElem?_eq_getElem hkF)
      obtain ⟨rfl, rfl⟩ : g' = g ∧ off' = off := by cases hA'; exact ⟨rfl, rfl⟩
      have ck0 := hnk.c0
      have y0 : (0 : Int) ≤ (k : Int) := by omega
      have y1 : (k : Int) < (n : Int) := by rw [← HNN.out]; omega
      have hel : elB F (k : Int) = decide (F[k].kind = 1) := by rw [elB, Int.toNat_natCast, kindOf_at hkF]
      have hki : kindOf F ((k : Int)).toNat = F[k].kind := by rw [Int.toNat_natCast, kindOf_at hkF]
      rw [hki] at HT2 HT3
      rw [hel] at HF2
      clear hnk hfk hA' hel hki hisB hmem
      generalize F[k].kind = kd at *
      generalize ((m.kids.take j).filter (elB F)).length = el at *
      subst hAk
      by_cases h2 : kd = 2
      · subst h2
        have HR := Lib.hid (HT3.out rfl)
        go_wp2
        go_ret
        exact ⟨ret_bool HR.out.symm, Below.refl _ _⟩
      · have HT4 : Hid ((m.kids.take (j + 1)).all (fun k => decide (kindOf F k.toNat ≠ 2)) = true) := Lib.hid (by rw [HT2.out]; simpa using h2)
        by_cases h1 : kd = 1
        · subst h1
          go_wp2
          go_roundw
          case rel => exact ⟨j + 1, by omega, by go_num, by rw [HF2.out]; go_num, HT4, by first | trivial | rfl⟩
          case measure => simp [intOf] <;> omega
        · have hd1 : decide (kd = 1) = false := decide_eq_false h1
          go_wp2
          go_roundw
          case rel => exact ⟨j + 1, by omega, by go_num, by rw [HF2.out, hd1]; simp, HT4, by first | trivial | rfl⟩
          case measure => simp [intOf] <;> omega
    · obtain rfl : j = kl := by omega
      have e : m.kids.take j = m.kids := List.take_of_length_le (by rw [HKK.out]; exact Nat.le_refl _)
      rw [e] at HT
      rw [e]
      have hle : (m.kids.filter (elB F)).length ≤ 1000 := Nat.le_trans (List.length_filter_le _ _) (by rw [HKK.out]; exact hkl)
      have HE2 : Hid (R = decide (((m.kids.filter (elB F)).length : Int) ≤ 1)) := Lib.hid (by rw [HE.out, HT.out, Bool.true_and, decide_eq_decide]; omega)
      generalize (m.kids.filter (elB F)).length = el at *
      go_wp2
      go_ret
      exact ⟨ret_bool (by rw [HE2.out]), Below.refl _ _⟩

/-! ### the way up -/
def topF (ks kf : Nat) : Value := .func (.func 43) #[] #[.pointer (some ⟨ks, 0, none⟩), .pointer (some ⟨kf, 0, none⟩)]
set_option maxHeartbeats 1000000 in
theorem top_step (ks kf : Nat) (A : Option Addr) (n c s : Nat) (y : Int) (w : World) (hn : n ≤ 1000) (hs : s ≤ n) (hk : w.heap[ks]? = some (.cells #[.int .i64 s] 3 (0, 0))) (hf : w.cell? ⟨kf, 0, none⟩ = some (.slice A n c)) (hne : kf ≠ ks) :
    Calls Tryd.prog 43 #[.int .i64 y, .pointer (some ⟨ks, 0, none⟩), .pointer (some ⟨kf, 0, none⟩)] w fun e w' => e = .returned (.bool (decide (s < n))) ∧ w' = w.setCell ⟨ks, 0, none⟩ (.int .i64 ((s + 1 : Nat) : Int)) := by
  have x0 := block1 hk
  have fz : w.frozen? ⟨ks, 0, none⟩ = false := by simp [World.frozen?, hk]
  have hne' : ks ≠ kf := Ne.symm hne
  clear hk
  go_enter Tryd.func43, Tryd.ntmps43
  go_wp2
  go_ret
  refine ⟨ret_bool ?_, by simp⟩
  rw [decide_eq_decide]
  omega
/-- Where the parents of nodes are nodes, or none. -/
def Up (F : List Mn) : Prop := ∀ i, i < F.length → par F i = -1 ∨ isB F (par F i) = true
set_option maxRecDepth 100000 in
set_option maxHeartbeats 4000000 in
theorem climb_top (w0 : World) (A : Option Addr) (F : List Mn) (c : Nat) (hF : FR w0 A F) (hn : F.length ≤ 1000) (hU : Up F) (ks kf : Nat) (hks : w0.heap.size ≤ ks) (hne : kf ≠ ks) (x : Int) (hx : x = -1 ∨ isB F x = true) (w : World) (hb : Below w0.heap.size w0 w)
    (hk : w.heap[ks]? = some (.cells #[.int .i64 0] 3 (0, 0))) (hf : w.heap[kf]? = some (.cells #[.slice A F.length c] 23 (0, 0))) :
    Calls Tryd.prog 32 #[.slice A F.length c, .int .i64 x, topF ks kf] w fun e w' => e = .returned (.bool (endsB F F.length x)) ∧ Below w0.heap.size w0 w' := by
  have HF := Lib.hid hF
  have HU := Lib.hid hU
  have HX := Lib.hid hx
  have HB0 := Lib.hid hb
  have HK0 := Lib.hid hk
  have HF0 := Lib.hid hf
  obtain ⟨R, hR⟩ : ∃ R, endsB F F.length x = R := ⟨_, rfl⟩
  have HR := Lib.hid hR
  rw [hR]
  obtain ⟨n, hnn⟩ : ∃ n, F.length = n := ⟨_, rfl⟩
  have HNN := Lib.hid hnn
  rw [hnn] at hn HF0 HR ⊢
  clear hF hU hx hb hk hf hnn hR
  unfold topF
  go_enter Tryd.func32, Tryd.ntmps32
  go_wp2_with fail
  go_loopg [7] (n + 1) (fun g at' wr => ∃ (y : Int) (s : Nat), at' = .int .i64 y ∧ s + g = n + 1 ∧ s ≤ n ∧ Hid (y = -1 ∨ isB F y = true) ∧ Hid (endsB F (n - s) y = R) ∧ Hid (wr.heap[ks]? = some (.cells #[.int .i64 s] 3 (0, 0))) ∧ Hid (wr.heap[kf]? = some (.cells #[.slice A n c] 23 (0, 0))) ∧ Hid (Below w0.heap.size w0 wr))
  case atStart => exact ⟨x, 0, rfl, by omega, by omega, HX, HR, HK0, HF0, HB0⟩
  case round =>
    obtain ⟨y, s, rfl, hsg, hsn, HY, HE, HKs, HFk, HB⟩ := hrel
    by_cases hy : y = -1
    · subst hy
      have HRt : Hid (R = true) := Lib.hid (by rw [← HE.out]; cases n - s <;> simp [endsB])
      go_wp2
      go_ret
      exact ⟨ret_bool HRt.out.symm, HB.out⟩
    · have hyn : (y != -1) = true := by simpa using hy
      have hisB : isB F y = true := HY.out.resolve_left hy
      rw [isB, decide_eq_true_eq] at hisB
      obtain ⟨k, rfl⟩ := Int.eq_ofNat_of_zero_le hisB.1
      have hkF : k < F.length := by omega
      obtain ⟨hfk, g, off, rfl, hg, hnk⟩ := (HF.out.below HB.out) k F[k] (List.getElem?_eq_getElem hkF)
      have y0 : (0 : Int) ≤ (k : Int) := by omega
      have y1 : (k : Int) < (n : Int) := by rw [← HNN.out]; omega
      have HP := Lib.hid (par_at hkF)
      have HPu := Lib.hid (HU.out k hkF)
      have HNd : Hid (∀ W, Below w0.heap.size w0 W → W.cell? ⟨g, off + k * 6 + 4, none⟩ = some (.int .i64 F[k].parent)) := Lib.hid (fun W hW => by
        obtain ⟨-, g', off', hA', -, hn'⟩ := (HF.out.below hW) k F[k] (List.getElem?_eq_getElem hkF)
        obtain ⟨rfl, rfl⟩ : g' = g ∧ off' = off := by cases hA'; exact ⟨rfl, rfl⟩
        exact hn'.c4)
      rw [HP.out] at HPu
      clear hnk hfk
      generalize F[k].parent = pp at *
      have hfc := block1 HFk.out
      have HS := Lib.hid (top_step ks kf (some ⟨g, off, none⟩) n c s (k : Int) wr hn hsn HKs.out hfc hne)
      by_cases hsl : s < n
      · rw [decide_eq_true hsl] at HS
        obtain ⟨V, hV⟩ : ∃ V, V = wr.setCell ⟨ks, 0, none⟩ (.int .i64 ((s + 1 : Nat) : Int)) := ⟨_, rfl⟩
        have HVb : Hid (Below w0.heap.size w0 V) := Lib.hid (by rw [hV]; exact HB.out.setCell hks _)
        have HVk : Hid (V.heap[ks]? = some (.cells #[.int .i64 ((s + 1 : Nat) : Int)] 3 (0, 0))) := Lib.hid (by rw [hV]; have := HKs.out; simp [World.setCell, Array.getElem?_modify, this])
        have HVf : Hid (V.heap[kf]? = some (.cells #[.slice (some ⟨g, off, none⟩) n c] 23 (0, 0))) := Lib.hid (by rw [hV]; have := HFk.out; simp [World.setCell, Array.getElem?_modify, this, Ne.symm hne])
        rw [← hV] at HS
        have c4 := HNd.out V HVb.out
        have HE2 : Hid (endsB F (n - (s + 1)) pp = R) := Lib.hid (by
          have := HE.out
          rw [show n - s = (n - (s + 1)) + 1 by omega, endsB, Int.toNat_natCast, HP.out] at this
          simpa [hy] using this)
        clear hV hfc
        go_wp2_with fail
        refine HS.out.mono ?_
        rintro e w' ⟨rfl, rfl⟩
        go_wp2
        go_roundg (n - s)
        case measure => omega
        case rel => exact ⟨pp, s + 1, rfl, by omega, by omega, HPu, HE2, HVk, HVf, HVb⟩
      · rw [decide_eq_false hsl] at HS
        have HRf : Hid (R = false) := Lib.hid (by rw [← HE.out, show n - s = 0 by omega, endsB]; simp)
        go_wp2_with fail
        refine HS.out.mono ?_
        rintro e w' ⟨rfl, rfl⟩
        go_wp2
        go_ret
        exact ⟨ret_bool HRf.out.symm, HB.out.setCell hks _⟩
end Go.Proofs.YtkcfpglmlhoiaaaDoor
