/-
  The law SelParses: the selector of any text, or the place of what is wrong, is the document's.
-/
import Derived.Test.YtfbpfhdkkcnacaaSelLa
import Derived.Test.YtfbpfhdkkcnacaaSelRh
namespace Go.Proofs.Ytfbpfhdkkcnacaa
open Go.ChangeShapes Go.WideShapes Go.ChangeAt Go.RowKit
open Go.PlainAid (bt)
set_option linter.unusedVariables false
set_option linter.unusedSimpArgs false

theorem rparse_good {t : ByteArray} (ht : t.size ≤ 4000000) {X : List (List Sl.Stp)} (h : Sl.parse (ls t) = .ok X) (V : World) : Calls Try.prog 7 #[.string t] V fun e w' => (∃ (x : List Mr) (A : Option Addr) (c : Nat), e = .returned (.tuple #[.slice A x.length c, .int .i64 0, .int .i64 0]) ∧ XR w' A x ∧ rws x = X) ∧ Below V.heap.size V w' :=
  (rparse_any t V ht).mono (fun e w' hc => by
    obtain ⟨hc, hb⟩ := hc
    rw [h] at hc
    rcases hc with ⟨x, v, he, hS, hx⟩ | ⟨k, -, hx⟩
    · obtain ⟨A, c, rfl, hX⟩ := xr_ofR hS
      simp only [Except.ok.injEq] at hx
      exact ⟨⟨x, A, c, he, hX, hx.symm⟩, hb⟩
    · cases hx)
theorem rparse_bad {t : ByteArray} (ht : t.size ≤ 4000000) {k : Nat} (h : Sl.parse (ls t) = .error k) (V : World) : Calls Try.prog 7 #[.string t] V fun e w' => e = .returned (.tuple #[.slice none 0 0, .int .i64 k, .int .i64 90]) ∧ Below V.heap.size V w' :=
  (rparse_any t V ht).mono (fun e w' hc => by
    obtain ⟨hc, hb⟩ := hc
    rw [h] at hc
    rcases hc with ⟨x, v, -, -, hx⟩ | ⟨k', he, hx⟩
    · cases hx
    · cases hx
      exact ⟨he, hb⟩)
theorem its_none (V : World) : Calls Try.prog 9 #[.slice none 0 0] V fun e w' => (∃ (B : Option Addr) (d : Nat), e = .returned (.slice B 0 d)) ∧ Below V.heap.size V w' :=
  (its_any none [] 0 V (fun i m h => by simp at h) (by decide)).mono (fun e w' hc => by
    obtain ⟨y, v, he, hS, hc, hb⟩ := hc
    obtain ⟨B, d, rfl, hY⟩ := xr_ofR hS
    have hy : y = [] := by cases y with
      | nil => rfl
      | cons a l => simp [cx] at hc
    subst hy
    exact ⟨⟨B, d, he⟩, hb⟩)
theorem same_none (B : Option Addr) (d : Nat) (V : World) : Calls Try.prog 8 #[.slice B 0 d, .slice none 0 0] V (GivesV (.bool true) V) :=
  rsame_any B none [] [] d 0 V (fun i m h => by simp at h) (fun i m h => by simp at h) (by simp [smallX]) (by simp [smallX])
theorem parse_at {l : List UInt8} {k : Nat} (h : Sl.parse l = .error k) : k ≤ l.length := by
  unfold Sl.parse at h
  cases hr : Sl.run Sl.start 0 l with
  | error j =>
    rw [hr] at h
    cases h
    have := (Sl.run_le hr).2
    omega
  | ok st =>
    rw [hr] at h
    simp only [Sl.ends] at h
    cases hf : Sl.fin st with
    | none => rw [hf] at h; cases h; exact Nat.le_refl _
    | some x => rw [hf] at h; cases h
set_option maxRecDepth 100000 in
set_option maxHeartbeats 8000000 in
theorem parses_law (s : ByteArray) (w : World) (hs : s.size ≤ 9223372036854775807) : Calls Try.prog 3 #[.string s] w (GivesV (.bool true) w) := by
  have HS := Lib.hid (fun (V : World) => shown_any V)
  by_cases h300 : s.size ≤ 300
  case neg =>
    have q0 : decide ((300 : Int) < (s.size : Int)) = true := by simp; omega
    clear h300
    go_enter Try.func3, Try.ntmps3
    go_wp2_with fail
    refine (HS.out w).mono ?_
    rintro e w1 ⟨rfl, hb⟩
    have HB := Lib.hid hb
    clear hb
    go_wp2
    go_ret
    exact ⟨rfl, HB.out⟩
  have q0 : decide ((300 : Int) < (s.size : Int)) = false := by simp; omega
  cases hp : Sl.parse (ls s) with
  | error k =>
    have hk := parse_at hp
    rw [ls_len] at hk
    have HP := Lib.hid (fun (V : World) => parse_bad (by omega) hp V)
    have HR := Lib.hid (fun (V : World) => rparse_bad (by omega) hp V)
    have HI := Lib.hid (fun (V : World) => its_none V)
    have HSm := Lib.hid (fun (B : Option Addr) (d : Nat) (V : World) => same_none B d V)
    have k1 : decide ((0 : Int) ≤ (k : Int)) = true := by simp
    have k2 : decide ((k : Int) ≤ (s.size : Int)) = true := by simp; omega
    have K3 : Hid (decide (k ≤ s.size) = true) := Lib.hid (by simp; omega)
    clear hp h300 hk
    go_enter Try.func3, Try.ntmps3
    go_wp2_with fail
    refine (HS.out w).mono ?_
    rintro e w1 ⟨rfl, hb⟩
    have HB := Lib.hid hb
    clear hb
    go_wp2_with fail
    refine (HP.out w1).mono ?_
    rintro e w2 ⟨rfl, hb⟩
    have HB2 := Lib.hid (HB.out.trans (hb.mono HB.out.size))
    clear hb
    go_wp2_with fail
    refine (HR.out w2).mono ?_
    rintro e w3 ⟨rfl, hb⟩
    have HB3 := Lib.hid (HB2.out.trans (hb.mono HB2.out.size))
    clear hb
    go_wp2_with fail
    refine (HI.out w3).mono ?_
    rintro e w4 ⟨⟨B, d, rfl⟩, hb⟩
    have HB4 := Lib.hid (HB3.out.trans (hb.mono HB3.out.size))
    clear hb
    go_wp2_with fail
    refine (HSm.out B d w4).mono ?_
    rintro e w5 ⟨rfl, hb⟩
    have HB5 := Lib.hid (HB4.out.trans (hb.mono HB4.out.size))
    clear hb
    go_wp2
    go_ret
    exact ⟨ret_bool K3.out, HB5.out⟩
  | ok X =>
    have hwx := Sl.parse_wx hp
    rw [ls_len] at hwx
    have HP := Lib.hid (fun (V : World) => parse_good (by omega) hp V)
    have HR := Lib.hid (fun (V : World) => rparse_good (by omega) hp V)
    have HI := Lib.hid (fun (A : Option Addr) (x : List Mr) (c : Nat) (V : World) (hX : XR V A x) (hx : rws x = X) => its_good (c := c) hX (by rw [hx]; omega))
    have HSa := Lib.hid (fun (A B : Option Addr) (x y : List Mr) (c d : Nat) (V : World) (hX : XR V A x) (hY : XR V B y) (hx : rws x = X) (hy : rws y = X) => same_good (c := c) (d := d) hX hY (by rw [hx, hy]) (by rw [hy]; omega))
    have k2 : decide ((0 : Int) ≤ (s.size : Int)) = true := by simp
    clear hp h300 hwx
    go_enter Try.func3, Try.ntmps3
    go_wp2_with fail
    refine (HS.out w).mono ?_
    rintro e w1 ⟨rfl, hb⟩
    have HB1 := Lib.hid hb
    clear hb
    go_wp2_with fail
    refine (HP.out w1).mono ?_
    rintro e w2 ⟨⟨x, A, c, rfl, hX, hx⟩, hb⟩
    have HB2 := Lib.hid (HB1.out.trans (hb.mono HB1.out.size))
    have HX2 := Lib.hid hX
    have HXX := Lib.hid hx
    have HIa := Lib.hid (fun (V : World) (hV : XR V A x) => HI.out A x c V hV HXX.out)
    clear hb hX hx
    obtain ⟨nx, hnx⟩ : ∃ nx, x.length = nx := ⟨_, rfl⟩
    rw [hnx] at HIa ⊢
    clear hnx
    go_wp2_with fail
    refine (HR.out w2).mono ?_
    rintro e w3 ⟨⟨y, B, d, rfl, hY, hy⟩, hb⟩
    have HB3 := Lib.hid (HB2.out.trans (hb.mono HB2.out.size))
    have HX3 := Lib.hid (HX2.out.below hb)
    have HY3 := Lib.hid hY
    have HYY := Lib.hid hy
    clear hb hY hy
    obtain ⟨ny, hny⟩ : ∃ ny, y.length = ny := ⟨_, rfl⟩
    have HNY := Lib.hid hny
    rw [hny]
    clear hny
    go_wp2_with fail
    refine (HIa.out w3 HX3.out).mono ?_
    rintro e w6 ⟨⟨x6, A6, c6, rfl, -, hX6, hx6⟩, hb⟩
    have HB6 := Lib.hid (HB3.out.trans (hb.mono HB3.out.size))
    have HS7 := Lib.hid (HSa.out A6 B x6 y c6 d w6 hX6 (HY3.out.below hb) (hx6.trans HXX.out) HYY.out)
    rw [HNY.out] at HS7
    clear hb hX6 hx6
    obtain ⟨n6, hn6⟩ : ∃ n6, x6.length = n6 := ⟨_, rfl⟩
    rw [hn6] at HS7 ⊢
    clear hn6
    go_wp2_with fail
    refine HS7.out.mono ?_
    rintro e w8 ⟨rfl, hb⟩
    have HB8 := Lib.hid (HB6.out.trans (hb.mono HB6.out.size))
    clear hb
    go_wp2
    go_ret
    exact ⟨rfl, HB8.out⟩
/-- The law, of what came in. -/
theorem parses_true {H : Type} {enc : TypeId × Value → H} {W : World} {base : Nat} {v0 : Value} {d0 : DataW H} {p0 : List MemPlace} (o0 : Value.okWide Try.prog W .any base 9 v0)
    (h0 : DataW.Trod enc Try.prog W 0 (fun _ => true) true 9 v0 d0 p0) (l0 : ∀ x ∈ p0, x.block < W.heap.size) :
    Calls Try.prog 3 #[v0] W fun e W' => e = .returned (.bool true) ∧ Below W.heap.size W W' := by
  obtain ⟨t, rfl, rfl, rfl, w0⟩ := Go.ChangeMaps.open_string Try.underlying9 o0 h0
  exact parses_law t W (by have := w0; simp only [maxLen] at this; omega)
end Go.Proofs.Ytfbpfhdkkcnacaa
