/-
  The law WalkBeside: who stands behind a node has it ahead; first and last have nobody there.
-/
import Derived.Test.YtboiekopdnnfbaaDoorG28
import Derived.Test.YtboiekopdnnfbaaDoorG18
namespace Go.Proofs.YtboiekopdnnfbaaDoor
open Go.ChangeShapes Go.WideShapes Go.ChangeAt Go.RowKit
set_option linter.unusedVariables false
set_option linter.unusedSimpArgs false

theorem u8_wf8 {n : Int} (h : (Lit.int .u8 n).wf = true) : 0 ≤ n ∧ n ≤ 255 := by
  simp [Lit.wf, IntKind.min, IntKind.max, IntKind.signed, IntKind.bits] at h
  omega
theorem own_ir8 {w : World} {base : Nat} {v : Value} {l : List Int} (h : w.ownsRow base 3 1 v l.length (ivs l)) : ∃ p cap, v = .slice p l.length cap ∧ IR w p l := by
  obtain ⟨p, cap, rfl, -⟩ := own_form2 h
  exact ⟨p, cap, rfl, own_ir2 h⟩
set_option maxRecDepth 100000 in
set_option maxHeartbeats 8000000 in
theorem beside_law (A : Option Addr) (l : List Ops.Po) (c : Nat) (by_ : Int) (hb0 : 0 ≤ by_) (hb1 : by_ ≤ 255) (w : World) (hL : Ops.OL w A l) (hl : l.length ≤ 9223372036854775807) (hK : Ops.KT w) :
    Calls Tryd.prog 4 #[.slice A l.length c, .int .u8 by_] w (GivesV (.bool true) w) := by
  have HB0 := Lib.hid (bounded8 A l c w hL hl)
  have HS := Lib.hid (fun (V : World) (hb : Below w.heap.size w V) => shown8 V (hK.below hb))
  have HG := Lib.hid (fun (V : World) (hb : Below w.heap.size w V) (h : l.length ≤ 150) => grown_any A l c V (hL.below hb) (by omega) (hK.below hb))
  have HLE : Hid (bdO l = true → l.length ≤ 150) := Lib.hid (fun h => by
    unfold bdO at h
    rw [Bool.and_eq_true, decide_eq_true_eq] at h
    exact h.2)
  obtain ⟨nl, hnn⟩ : ∃ n, l.length = n := ⟨_, rfl⟩
  rw [hnn] at HB0 HG HLE hl ⊢
  clear hL hK hnn
  generalize bdO l = BL at *
  have htm : by_.tmod 5 = by_ % 5 := Int.tmod_eq_emod_of_nonneg hb0
  obtain ⟨m, hme⟩ : ∃ m : Nat, by_.tmod 5 = m := ⟨(by_.tmod 5).toNat, by omega⟩
  have hm5 : m < 5 := by omega
  clear htm
  have hw1 : IntKind.i64.wrap by_ = by_ := by rw [IntKind.wrap_i64]; omega
  have hw2 : IntKind.i64.wrap (m : Int) = (m : Int) := by rw [IntKind.wrap_i64]; omega
  have hw3 : IntKind.i64.wrap (-(m : Int)) = -(m : Int) := by rw [IntKind.wrap_i64]; omega
  go_enter Tryd.func4, Tryd.ntmps4
  go_wp2_with fail
  refine HB0.out.mono ?_
  rintro e w' ⟨rfl, hw⟩
  obtain rfl := hw.symm
  cases BL with
  | false =>
    go_wp2_with fail
    refine (HS.out w (Below.refl _ _)).mono ?_
    rintro e w1 ⟨rfl, hb⟩
    have HB := Lib.hid hb
    clear hb
    go_wp2
    go_ret
    exact ⟨rfl, HB.out⟩
  | true =>
  have hln := HLE.out rfl
  go_wp2_with fail
  refine (HS.out w (Below.refl _ _)).mono ?_
  rintro e w1 ⟨rfl, hb⟩
  have HB1 := Lib.hid hb
  clear hb
  go_wp2_with fail
  refine (HG.out w1 HB1.out hln).mono ?_
  rintro e w2 ⟨Af, G, cf, rfl, hF, hm, hlk, hb⟩
  have HB2 := Lib.hid (HB1.out.trans (hb.mono HB1.out.size))
  clear hb hlk HS HG HLE HB0
  have hn60 := (may_sz hm).1
  have HU := Lib.hid (fun (V : World) (x : Int) (hb : Below w2.heap.size w2 V) => wparent_any Af G cf x V (hF.below hb) hm)
  have HBs := Lib.hid (fun (V : World) (x y : Int) (hb : Below w2.heap.size w2 V) (hy : I64 y) => wbeside_any Af G cf x y V (hF.below hb) hm hy)
  have HKs := Lib.hid (fun (V : World) (i : Nat) (hb : Below w2.heap.size w2 V) (hi : i < G.length) => wkids_any Af G cf i V (hF.below hb) hm hi)
  have HBB := Lib.hid (fun (i : Nat) (hi : i < G.length) (he : (besP G i (m : Int)).2 = 0) => beside_back hm hi he)
  have HBE := Lib.hid (fun (i : Nat) (hi : i < G.length) (hk : 0 < (kidsOf G i).length) => beside_ends hm hi hk)
  have HKl := Lib.hid (fun (i : Nat) (hi : i < G.length) => may_kids hm G[i] (List.getElem_mem hi))
  have h0n := (mayB_parts hm).1
  obtain ⟨n, hn⟩ : ∃ n, G.length = n := ⟨_, rfl⟩
  have HNN := Lib.hid hn
  rw [hn] at HU HBs HKs HBB HBE hn60 h0n ⊢
  clear hF hm hn
  go_wp2_with fail
  go_loopw [7] (fun q wr => ∃ k : Nat, k ≤ n ∧ q = .int .i64 k ∧ Hid (Below w2.heap.size w2 wr)) (fun q _ => n - (intOf q).toNat)
  case atStart => exact ⟨0, Nat.zero_le _, rfl, Lib.hid (Below.refl _ _)⟩
  case round =>
    obtain ⟨i, hi, rfl, HR⟩ := hrel
    by_cases hlt : i < n
    · have k0 : (0 : Int) ≤ (i : Int) := by omega
      have k1 : (i : Int) < (n : Int) := by omega
      have HB1 := Lib.hid (HBs.out wr i (m : Int) HR.out (by unfold I64; omega))
      by_cases he : (besP G (i : Int) (m : Int)).2 = 0
      · obtain ⟨j, u, e1, hj, e2, e3, e4, e5⟩ := HBB.out i hlt he
        rw [he, e1] at HB1
        have HB2' := Lib.hid (fun (V : World) (hb : Below w2.heap.size w2 V) => by have := HBs.out V j (-(m : Int)) hb (by unfold I64; omega); rw [e2] at this; exact this)
        have HU1 := Lib.hid (fun (V : World) (hb : Below w2.heap.size w2 V) => by have := HU.out V i hb; rw [e3] at this; exact this)
        have HU2 := Lib.hid (fun (V : World) (hb : Below w2.heap.size w2 V) => by have := HU.out V j hb; rw [e4] at this; exact this)
        have HE5 := Lib.hid e5
        clear he e1 e2 e3 e4 e5
        go_wp2_with fail
        refine HB1.out.mono ?_
        rintro e w3 ⟨rfl, hb⟩
        have HR3 := Lib.hid (HR.out.trans (hb.mono HR.out.size))
        clear hb
        go_wp2_with fail
        refine (HB2'.out w3 HR3.out).mono ?_
        rintro e w4 ⟨rfl, hb⟩
        have HR4 := Lib.hid (HR3.out.trans (hb.mono HR3.out.size))
        clear hb
        go_wp2_with fail
        refine (HU1.out w4 HR4.out).mono ?_
        rintro e w5 ⟨rfl, hb⟩
        have HR5 := Lib.hid (HR4.out.trans (hb.mono HR4.out.size))
        clear hb
        go_wp2_with fail
        refine (HU2.out w5 HR5.out).mono ?_
        rintro e w6 ⟨rfl, hb⟩
        have HR6 := Lib.hid (HR5.out.trans (hb.mono HR5.out.size))
        clear hb
        by_cases hm0 : m = 0
        · have hji := HE5.out.1 hm0
          have q1 : ((m : Int) == 0) = true := by simp [hm0]
          have q2 : ((j : Int) == (i : Int)) = true := by simp [hji]
          clear hji hm0
          go_wp2
          go_roundw
          case rel => exact ⟨i + 1, by omega, by go_num, HR6⟩
          case measure => simp [intOf] <;> omega
        · have hji : ¬ j = i := fun e => hm0 (HE5.out.2 e)
          have q1 : ((m : Int) == 0) = false := by simp; omega
          have q2 : ((j : Int) == (i : Int)) = false := by simp; omega
          clear hji hm0
          go_wp2
          go_roundw
          case rel => exact ⟨i + 1, by omega, by go_num, HR6⟩
          case measure => simp [intOf] <;> omega
      · obtain ⟨e0, he0⟩ : ∃ e0, (besP G (i : Int) (m : Int)).2 = e0 := ⟨_, rfl⟩
        rw [he0] at HB1 he
        have q1 : (e0 != 0) = true := by simpa using he
        clear he he0
        generalize (besP G (i : Int) (m : Int)).1 = k' at *
        go_wp2_with fail
        refine HB1.out.mono ?_
        rintro e w3 ⟨rfl, hb⟩
        have HR3 := Lib.hid (HR.out.trans (hb.mono HR.out.size))
        clear hb
        go_wp2
        go_roundw
        case rel => exact ⟨i + 1, by omega, by go_num, HR3⟩
        case measure => simp [intOf] <;> omega
    · obtain rfl : i = n := by omega
      go_wp2_with fail
      go_loopw [16] (fun q wv => ∃ (wx : World) (k : Nat), wx = wv ∧ k ≤ i ∧ q = .int .i64 k ∧ Hid (Below w2.heap.size w2 wx)) (fun q _ => i - (intOf q).toNat)
      case atStart => exact ⟨_, 0, rfl, Nat.zero_le _, rfl, HR⟩
      case round =>
        obtain ⟨wx, k, rfl, hk, rfl, HX⟩ := hrel
        by_cases hkl : k < i
        · have k0 : (0 : Int) ≤ (k : Int) := by omega
          have k1 : (k : Int) < (i : Int) := by omega
          have HK1 := Lib.hid (HKs.out wx k HX.out hkl)
          have hkk := HKl.out k (by rw [HNN.out]; exact hkl)
          rw [← kidsOf_at (by rw [HNN.out]; exact hkl)] at hkk
          have HBk := Lib.hid (HBE.out k hkl)
          generalize kidsOf G k = ks at *
          go_wp2_with fail
          refine HK1.out.mono ?_
          rintro e w3 ⟨v, rfl, hv, hb⟩
          obtain ⟨p, cap, rfl, hI⟩ := own_ir8 hv
          have HI := Lib.hid hI
          have HX3 := Lib.hid (HX.out.trans (hb.mono HX.out.size))
          clear hb hv hI
          obtain ⟨kl, hkle⟩ : ∃ kl, ks.length = kl := ⟨_, rfl⟩
          have HKL := Lib.hid hkle
          rw [hkle] at HBk hkk ⊢
          clear hkle
          by_cases h0 : 0 < kl
          · have q0 : decide ((0 : Int) < (kl : Int)) = true := by simp; omega
            obtain ⟨b1, b2⟩ := HBk.out h0
            have HB1 := Lib.hid (fun (V : World) (hb : Below w2.heap.size w2 V) => by have := HBs.out V (ks.getD 0 0) (-1) hb (by unfold I64; omega); rw [b1] at this; exact this)
            have HB2' := Lib.hid (fun (V : World) (hb : Below w2.heap.size w2 V) => by have := HBs.out V (ks.getD (kl - 1) 0) 1 hb (by unfold I64; omega); rw [b2] at this; exact this)
            obtain ⟨g, off, rfl, hg, c0⟩ := HI.out 0 (by rw [HKL.out]; exact h0)
            rw [Nat.add_zero] at c0
            obtain ⟨g', off', hA', hg', c1⟩ := HI.out (kl - 1) (by rw [HKL.out]; omega)
            cases hA'
            have hw4 : IntKind.i64.wrap ((kl : Int) - 1) = ((kl - 1 : Nat) : Int) := by rw [IntKind.wrap_i64]; omega
            have z0 : (0 : Int) ≤ ((kl - 1 : Nat) : Int) := by omega
            have z1 : ((kl - 1 : Nat) : Int) < (kl : Int) := by omega
            clear b1 b2 HBk
            generalize ks.getD 0 0 = y0 at *
            obtain ⟨k2, hk2⟩ : ∃ k2, kl - 1 = k2 := ⟨_, rfl⟩
            rw [hk2] at c1 hw4 z0 z1 HB2'
            clear hk2
            generalize ks.getD k2 0 = y1 at *
            go_wp2_with fail
            refine (HB1.out w3 HX3.out).mono ?_
            rintro e w4 ⟨rfl, hb⟩
            have HX4 := Lib.hid (HX3.out.trans (hb.mono HX3.out.size))
            have c1' := (hb.cell (p := ⟨g, off + k2, none⟩) hg).trans c1
            clear hb c0 c1
            go_wp2_with fail
            refine (HB2'.out w4 HX4.out).mono ?_
            rintro e w5 ⟨rfl, hb⟩
            have HX5 := Lib.hid (HX4.out.trans (hb.mono HX4.out.size))
            clear hb c1'
            go_wp2
            go_roundw
            case rel => exact ⟨_, k + 1, rfl, by omega, by go_num, HX5⟩
            case measure => simp [intOf] <;> omega
          · have q0 : decide ((0 : Int) < (kl : Int)) = false := by simp; omega
            go_wp2
            go_roundw
            case rel => exact ⟨_, k + 1, rfl, by omega, by go_num, HX3⟩
            case measure => simp [intOf] <;> omega
        · obtain rfl : k = i := by omega
          have hq : decide ((0 : Int) < (k : Int)) = true := by simp; omega
          go_wp2
          go_ret
          exact ⟨rfl, HB2.out.trans (HX.out.mono HB2.out.size)⟩
set_option maxRecDepth 100000 in
/-- The law, of what came in. -/
theorem beside_true {H : Type} {enc : TypeId × Value → H} {W : World} {base : Nat} {v0 : Value} {d0 : DataW H} {p0 : List MemPlace} {v1 : Value} {d1 : DataW H} {p1 : List MemPlace} (hK : Ops.KT W) (o0 : Value.okWide Tryd.prog W .any base 22 v0) (o1 : Value.okWide Tryd.prog W .any base 5 v1)
    (h0 : DataW.Trod enc Tryd.prog W 0 (fun _ => true) true 22 v0 d0 p0) (h1 : DataW.Trod enc Tryd.prog W 0 (fun _ => true) true 5 v1 d1 p1) (l0 : ∀ x ∈ p0, x.block < W.heap.size) (l1 : ∀ x ∈ p1, x.block < W.heap.size) :
    Calls Tryd.prog 4 #[v0, v1] W fun e W' => e = .returned (.bool true) ∧ Below W.heap.size W W' := by
  obtain ⟨A, cap, l, rfl, e1, e2, hL, -⟩ := Ops.ol_open o0 h0 l0
  obtain ⟨by_, rfl, rfl, rfl, w0⟩ := open_int Tryd.underlying5 o1 h1
  obtain ⟨f0, f1⟩ := u8_wf8 w0
  exact beside_law A l cap by_ f0 f1 W hL (Nat.le_trans e1 e2) hK
end Go.Proofs.YtboiekopdnnfbaaDoor
