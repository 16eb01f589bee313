/-
  The law SelBack: what is parsed is printed, and that is parsed to the same, and printed to the same.
-/
import Derived.Test.YtlehbdjdifejeaaSelLa
namespace Go.Proofs.Ytlehbdjdifejeaa
open Go.ChangeShapes Go.WideShapes Go.ChangeAt Go.RowKit
open Go.PlainAid (bt)
set_option linter.unusedVariables false
set_option linter.unusedSimpArgs false

set_option maxRecDepth 100000 in
set_option maxHeartbeats 8000000 in
theorem back_law (s : ByteArray) (w : World) (hs : s.size ≤ 9223372036854775807) : Calls Try.prog 5 #[.string s] w (GivesV (.bool true) w) := by
  have HS := Lib.hid (fun (V : World) => shown_any V)
  by_cases h300 : s.size ≤ 300
  case neg =>
    have q0 : decide ((300 : Int) < (s.size : Int)) = true := by simp; omega
    clear h300
    go_enter Try.func5, Try.ntmps5
    go_wp2_with fail
    refine (HS.out w).mono ?_
    rintro e w1 ⟨rfl, hb⟩
    have HB := Lib.hid hb
    clear hb
    go_wp2
    go_ret
    exact ⟨rfl, HB.out⟩
  have q0 : decide ((300 : Int) < (s.size : Int)) = false := by simp; omega
  cases hp : Sl.parse (ls s) with
  | error k =>
    have HP := Lib.hid (fun (V : World) => parse_bad (by omega) hp V)
    clear hp h300
    go_enter Try.func5, Try.ntmps5
    go_wp2_with fail
    refine (HS.out w).mono ?_
    rintro e w1 ⟨rfl, hb⟩
    have HB := Lib.hid hb
    clear hb
    go_wp2_with fail
    refine (HP.out w1).mono ?_
    rintro e w2 ⟨rfl, hb⟩
    have HB2 := Lib.hid (HB.out.trans (hb.mono HB.out.size))
    clear hb
    go_wp2
    go_ret
    exact ⟨rfl, HB2.out⟩
  | ok X =>
    have hok := Sl.parse_ok hp
    have hwx := Sl.parse_wx hp
    rw [ls_len] at hwx
    have hpr := Sl.parse_printS hok
    have hlen := Nat.le_trans (Sl.printS_le X) hwx
    have HP := Lib.hid (fun (V : World) => parse_good (by omega) hp V)
    have HP2 := Lib.hid (fun (V : World) => parse_good (t := ba (Sl.printS X)) (by rw [ba_size]; omega) (by rw [ba_ls]; exact hpr) V)
    have HPr := Lib.hid (fun (A : Option Addr) (x : List Mr) (c : Nat) (V : World) (hX : XR V A x) (hx : rws x = X) => show Calls Try.prog 16 #[.slice A x.length c] V fun e w' => e = .returned (.tuple #[.string (ba (Sl.printS X)), .int .i64 0]) ∧ Below V.heap.size V w' from by
      have := print_good (c := c) hX (by rw [hx]; omega) (by rw [hx]; exact hok)
      rwa [hx] at this)
    have HI := Lib.hid (fun (A : Option Addr) (x : List Mr) (c : Nat) (V : World) (hX : XR V A x) (hx : rws x = X) => its_good (c := c) hX (by rw [hx]; omega))
    have HSa := Lib.hid (fun (A B : Option Addr) (x y : List Mr) (c d : Nat) (V : World) (hX : XR V A x) (hY : XR V B y) (hx : rws x = X) (hy : rws y = X) => same_good (c := c) (d := d) hX hY (by rw [hx, hy]) (by rw [hy]; omega))
    generalize ba (Sl.printS X) = S at *
    clear hp h300 hok hwx hpr hlen
    go_enter Try.func5, Try.ntmps5
    go_wp2_with fail
    refine (HS.out w).mono ?_
    rintro e w1 ⟨rfl, hb⟩
    have HB1 := Lib.hid hb
    clear hb
    go_wp2_with fail
    refine (HP.out w1).mono ?_
    rintro e w2 ⟨⟨x, A, c, rfl, hX, hx⟩, hb⟩
    have HB2 := Lib.hid (HB1.out.trans (hb.mono HB1.out.size))
    have HX2 := Lib.hid hX
    have HXX := Lib.hid hx
    have HPr2 := Lib.hid (HPr.out A x c w2 hX hx)
    have HIa := Lib.hid (fun (V : World) (hV : XR V A x) => HI.out A x c V hV HXX.out)
    clear hb hX hx
    obtain ⟨nx, hnx⟩ : ∃ nx, x.length = nx := ⟨_, rfl⟩
    rw [hnx] at HPr2 HIa ⊢
    clear hnx
    go_wp2_with fail
    refine HPr2.out.mono ?_
    rintro e w3 ⟨rfl, hb⟩
    have HB3 := Lib.hid (HB2.out.trans (hb.mono HB2.out.size))
    have HX3 := Lib.hid (HX2.out.below hb)
    clear hb
    go_wp2_with fail
    refine (HP2.out w3).mono ?_
    rintro e w4 ⟨⟨y, B, d, rfl, hY, hy⟩, hb⟩
    have HB4 := Lib.hid (HB3.out.trans (hb.mono HB3.out.size))
    have HX4 := Lib.hid (HX3.out.below hb)
    have HY4 := Lib.hid hY
    have HYY := Lib.hid hy
    have HPr4 := Lib.hid (HPr.out B y d w4 hY hy)
    have HIb := Lib.hid (fun (V : World) (hV : XR V B y) => HI.out B y d V hV HYY.out)
    clear hb hY hy
    obtain ⟨ny, hny⟩ : ∃ ny, y.length = ny := ⟨_, rfl⟩
    rw [hny] at HPr4 HIb ⊢
    clear hny
    go_wp2_with fail
    refine HPr4.out.mono ?_
    rintro e w5 ⟨rfl, hb⟩
    have HB5 := Lib.hid (HB4.out.trans (hb.mono HB4.out.size))
    have HX5 := Lib.hid (HX4.out.below hb)
    have HY5 := Lib.hid (HY4.out.below hb)
    clear hb
    go_wp2_with fail
    refine (HIa.out w5 HX5.out).mono ?_
    rintro e w6 ⟨⟨x6, A6, c6, rfl, -, hX6, hx6⟩, hb⟩
    have HB6 := Lib.hid (HB5.out.trans (hb.mono HB5.out.size))
    have HY6 := Lib.hid (HY5.out.below hb)
    have HX6 := Lib.hid hX6
    have HXX6 := Lib.hid hx6
    clear hb hX6 hx6
    obtain ⟨n6, hn6⟩ : ∃ n6, x6.length = n6 := ⟨_, rfl⟩
    have HN6 := Lib.hid hn6
    rw [hn6]
    clear hn6
    go_wp2_with fail
    refine (HIb.out w6 HY6.out).mono ?_
    rintro e w7 ⟨⟨x7, A7, c7, rfl, -, hX7, hx7⟩, hb⟩
    have HB7 := Lib.hid (HB6.out.trans (hb.mono HB6.out.size))
    have HS7 := Lib.hid (HSa.out A6 A7 x6 x7 c6 c7 w7 (HX6.out.below hb) hX7 (HXX6.out.trans HXX.out) (hx7.trans HYY.out))
    rw [HN6.out] at HS7
    clear hb hX7 hx7
    obtain ⟨n7, hn7⟩ : ∃ n7, x7.length = n7 := ⟨_, rfl⟩
    rw [hn7] at HS7 ⊢
    clear hn7
    go_wp2_with fail
    refine HS7.out.mono ?_
    rintro e w8 ⟨rfl, hb⟩
    have HB8 := Lib.hid (HB7.out.trans (hb.mono HB7.out.size))
    have hq : (S.toList == S.toList) = true := by simp
    clear hb
    go_wp2
    go_ret
    exact ⟨rfl, HB8.out⟩
/-- The law, of what came in. -/
theorem back_true {H : Type} {enc : TypeId × Value → H} {W : World} {base : Nat} {v0 : Value} {d0 : DataW H} {p0 : List MemPlace} (o0 : Value.okWide Try.prog W .any base 9 v0)
    (h0 : DataW.Trod enc Try.prog W 0 (fun _ => true) true 9 v0 d0 p0) (l0 : ∀ x ∈ p0, x.block < W.heap.size) :
    Calls Try.prog 5 #[v0] W fun e W' => e = .returned (.bool true) ∧ Below W.heap.size W W' := by
  obtain ⟨t, rfl, rfl, rfl, w0⟩ := Go.ChangeMaps.open_string Try.underlying9 o0 h0
  exact back_law t W (by have := w0; simp only [maxLen] at this; omega)
end Go.Proofs.Ytlehbdjdifejeaa
