/-
  Below: whether a node stands on the way up from another one.
-/
import Derived.Test.YtkcfpglmlhoiaaaDoorFoH
namespace Go.Proofs.YtkcfpglmlhoiaaaDoor
open Go.ChangeShapes Go.WideShapes Go.ChangeAt Go.RowKit
set_option linter.unusedVariables false
set_option linter.unusedSimpArgs false

/-- Whether top is on the way up from x, in so many steps. -/
def onWay (F : List Mn) (top : Int) : Nat → Int → Bool
  | 0, _ => false
  | n + 1, x => if x = -1 then false else decide (x = top) || onWay F top n (par F x.toNat)
def belowB (F : List Mn) (top x : Int) : Bool := mayB F && (isB F x && onWay F top F.length x)
def bel1F (k : Nat) : Value := .func (.func 33) #[] #[.pointer (some ⟨k, 0, none⟩)]
set_option maxHeartbeats 400000 in
theorem bel1_any (k : Nat) (top y : Int) (w : World) (hk : w.cell? ⟨k, 0, none⟩ = some (.int .i64 top)) :
    Calls Tryd.prog 33 #[.int .i64 y, .pointer (some ⟨k, 0, none⟩)] w fun e w' => e = .returned (.bool (y != top)) ∧ w' = w := by
  go_enter Tryd.func33, Tryd.ntmps33
  go_wp2
  go_ret
  exact ⟨rfl, rfl⟩
set_option maxRecDepth 100000 in
set_option maxHeartbeats 4000000 in
theorem climb_bel (A : Option Addr) (F : List Mn) (c : Nat) (w : World) (hF : FR w A F) (hn : F.length ≤ 1000) (hU : Up F) (k : Nat) (top x : Int) (hk : w.cell? ⟨k, 0, none⟩ = some (.int .i64 top)) (hx : x = -1 ∨ isB F x = true) (he : endsB F F.length x = true) :
    Calls Tryd.prog 32 #[.slice A F.length c, .int .i64 x, bel1F k] w fun e w' => e = .returned (.bool (!onWay F top F.length x)) ∧ w' = w := by
  have HF := Lib.hid hF
  have HU := Lib.hid hU
  have HX := Lib.hid hx
  have HE := Lib.hid he
  have HK := Lib.hid (fun y => bel1_any k top y w hk)
  obtain ⟨R, hR⟩ : ∃ R, onWay F top F.length x = R := ⟨_, rfl⟩
  have HR := Lib.hid hR
  rw [hR]
  obtain ⟨n, hnn⟩ : ∃ n, F.length = n := ⟨_, rfl⟩
  have HNN := Lib.hid hnn
  rw [hnn] at hn HE HR ⊢
  clear hF hU hx he hnn hR hk
  unfold bel1F
  go_enter Tryd.func32, Tryd.ntmps32
  go_wp2_with fail
  go_loopg [7] n (fun g at' wr => ∃ (y : Int), at' = .int .i64 y ∧ Hid (y = -1 ∨ isB F y = true) ∧ Hid (endsB F g y = true) ∧ Hid (onWay F top g y = R) ∧ w = wr)
  case atStart => exact ⟨x, rfl, HX, HE, HR, rfl⟩
  case round =>
    obtain ⟨y, rfl, HY, HEy, HRy, rfl⟩ := hrel
    by_cases hy : y = -1
    · subst hy
      have HRf : Hid (R = false) := Lib.hid (by rw [← HRy.out]; cases gk <;> simp [onWay])
      go_wp2
      go_ret
      exact ⟨ret_bool (by rw [HRf.out]; rfl), rfl⟩
    · have hyn : (y != -1) = true := by simpa using hy
      have hisB : isB F y = true := HY.out.resolve_left hy
      rw [isB, decide_eq_true_eq] at hisB
      cases gk with
      | zero => exact absurd (by simpa [endsB] using HEy.out) hy
      | succ gp =>
        obtain ⟨j, rfl⟩ := Int.eq_ofNat_of_zero_le hisB.1
        have hjF : j < F.length := by omega
        obtain ⟨hfk, g, off, rfl, hg, hnk⟩ := HF.out j F[j] (List.getElem?_eq_getElem hjF)
        have y0 : (0 : Int) ≤ (j : Int) := by omega
        have y1 : (j : Int) < (n : Int) := by rw [← HNN.out]; omega
        have c4 := hnk.c4
        have HPu := Lib.hid (HU.out j hjF)
        rw [par_at hjF] at HPu
        have HE2 : Hid (endsB F gp F[j].parent = true) := Lib.hid (by
          have := HEy.out
          rw [endsB, Int.toNat_natCast, par_at hjF] at this
          simpa [hy] using this)
        have HR2 : Hid ((decide ((j : Int) = top) || onWay F top gp F[j].parent) = R) := Lib.hid (by
          have := HRy.out
          rw [onWay, if_neg hy, Int.toNat_natCast, par_at hjF] at this
          exact this)
        clear hnk hfk
        generalize F[j].parent = pp at *
        have HS := Lib.hid (HK.out (j : Int))
        rcases Bool.eq_false_or_eq_true ((j : Int) != top) with ht | ht
        · rw [ht] at HS
          have HR3 : Hid (onWay F top gp pp = R) := Lib.hid (by
            have h := HR2.out
            rw [decide_eq_false (by simpa using ht)] at h
            exact h)
          go_wp2_with fail
          refine HS.out.mono ?_
          rintro e w' ⟨rfl, rfl⟩
          go_wp2
          go_roundg gp
          case measure => omega
          case rel => exact ⟨pp, rfl, HPu, HE2, HR3, by first | trivial | rfl⟩
        · rw [ht] at HS
          have HRt : Hid (R = true) := Lib.hid (by
            have h := HR2.out
            rw [decide_eq_true (by simpa using ht)] at h
            exact h.symm)
          go_wp2_with fail
          refine HS.out.mono ?_
          rintro e w' ⟨rfl, rfl⟩
          go_wp2
          go_ret
          exact ⟨ret_bool (by rw [HRt.out]; rfl), rfl⟩
theorem mayB_parts {F : List Mn} (h : mayB F = true) : 0 < F.length ∧ F.length ≤ 60 ∧ (List.range F.length).all (fun i => ((F[i]?).map (oneB F i)).getD false) = true ∧ docB F = true ∧ ∀ i, i < F.length → endsB F F.length i = true := by
  simp only [mayB, Bool.and_eq_true, decide_eq_true_eq] at h
  refine ⟨h.1.1, h.1.2, h.2.1, h.2.2.1, fun i hi => ?_⟩
  exact List.all_eq_true.1 h.2.2.2 i (List.mem_range.2 hi)
set_option maxRecDepth 100000 in
set_option maxHeartbeats 2000000 in
theorem below_any (A : Option Addr) (F : List Mn) (c : Nat) (top x : Int) (w : World) (hF : FR w A F) (hz : Sz F) :
    Calls Tryd.prog 11 #[.slice A F.length c, .int .i64 top, .int .i64 x] w (GivesV (.bool (belowB F top x)) w) := by
  have HF := Lib.hid hF
  have HZ := Lib.hid hz
  have hl := hz.len
  have HE : Hid (belowB F top x = (mayB F && (isB F x && onWay F top F.length x))) := Lib.hid rfl
  have HM := Lib.hid (fun (W : World) (hb : Below w.heap.size w W) => may_any A F c W (hF.below hb) hz)
  have HI := Lib.hid (fun (W : World) => isNode_any A F.length c x W hl)
  have HC : Hid (∀ (W : World), Below w.heap.size w W → W.cell? ⟨w.heap.size, 0, none⟩ = some (.int .i64 top) → mayB F = true → isB F x = true → Calls Tryd.prog 32 #[.slice A F.length c, .int .i64 x, bel1F w.heap.size] W fun e w' => e = .returned (.bool (!onWay F top F.length x)) ∧ w' = W) := Lib.hid (fun W hb hk hm hx => by
    obtain ⟨p1, p2, p3, p4, p5⟩ := mayB_parts hm
    refine climb_bel A F c W (hF.below hb) hl (up_of p3) w.heap.size top x hk (.inr hx) ?_
    rw [isB, decide_eq_true_eq] at hx
    obtain ⟨j, rfl⟩ := Int.eq_ofNat_of_zero_le hx.1
    exact p5 j (by omega))
  unfold bel1F at HC
  have HIs : Hid (isB F x = decide (0 ≤ x ∧ x < (F.length : Int))) := Lib.hid rfl
  rw [← HIs.out] at HI
  clear hF hz
  generalize belowB F top x = R at *
  generalize mayB F = MB at *
  generalize isB F x = IB at *
  generalize onWay F top F.length x = OW at *
  generalize F.length = n at *
  obtain ⟨W, hW⟩ : ∃ W, W = w.alloc (.cells #[.int .i64 top] 3) := ⟨_, rfl⟩
  have HWb : Hid (Below w.heap.size w W) := Lib.hid (by rw [hW]; exact (Below.refl _ _).alloc (Nat.le_refl _) _)
  have HWk : Hid (W.heap[w.heap.size]? = some (.cells #[.int .i64 top] 3 (0, 0))) := Lib.hid (by rw [hW]; exact heap_alloc_new _ _)
  have hlt := lt_of_block HWk.out
  go_enter Tryd.func11, Tryd.ntmps11
  go_upto_region 1 with fail
  rw [← hW]
  clear hW
  go_wp2_with fail
  refine (HM.out W HWb.out).mono ?_
  rintro e w1 ⟨rfl, hb⟩
  have HB1 := Lib.hid (HWb.out.trans (hb.mono HWb.out.size))
  have HK1 := Lib.hid ((hb.block _ hlt).trans HWk.out)
  clear hb
  cases MB with
  | false =>
    go_wp2
    go_ret
    exact ⟨ret_bool (by rw [HE.out]; rfl), HB1.out⟩
  | true =>
    cases IB with
    | false =>
      go_wp2_with fail
      refine (HI.out w1).mono ?_
      rintro e w' ⟨rfl, rfl⟩
      go_wp2
      go_ret
      exact ⟨ret_bool (by rw [HE.out]; rfl), HB1.out⟩
    | true =>
      go_wp2_with fail
      refine (HI.out w1).mono ?_
      rintro e w' ⟨rfl, rfl⟩
      go_wp2_with fail
      refine (HC.out _ HB1.out (block1 HK1.out) (by first | trivial | rfl) (by first | trivial | rfl)).mono ?_
      rintro e w' ⟨rfl, rfl⟩
      go_wp2
      go_ret
      exact ⟨ret_bool (by rw [HE.out]; simp), HB1.out⟩
end Go.Proofs.YtkcfpglmlhoiaaaDoor
