/-
  The law SelPrints: the text of any selector, or that it has none, is the document's.
-/
import Derived.Test.YtcfkcifbojckcaaRows
import Derived.Test.YtcfkcifbojckcaaSelPb
import Derived.Test.YtcfkcifbojckcaaSelCo
import Derived.Test.YtcfkcifbojckcaaSelLa
namespace Go.Proofs.Ytcfkcifbojckcaa
open Go.ChangeShapes Go.WideShapes Go.ChangeAt Go.RowKit
open Go.PlainAid (bt)
set_option linter.unusedVariables false
set_option linter.unusedSimpArgs false

set_option maxRecDepth 100000 in
set_option maxHeartbeats 8000000 in
theorem prints_law (A : Option Addr) (x : List Mr) (c : Nat) (w : World) (hX : XR w A x) (hC : cX x ≤ 4000000) :
    Calls Try.prog 3 #[.slice A x.length c] w (GivesV (.bool true) w) := by
  have HS := Lib.hid (fun (V : World) => shown_any V)
  have HB0 := Lib.hid (bounded_cnt A x c w hX hC)
  have HPr := Lib.hid (fun (V : World) (hb : Below w.heap.size w V) (hs : Sl.wx (rws x) ≤ 20000) => sel_print A x c V (hX.below hb) (by omega))
  have HI := Lib.hid (fun (V : World) (hb : Below w.heap.size w V) (hs : Sl.wx (rws x) ≤ 20000) => its_good (c := c) (hX.below hb) (by omega))
  have HD := Lib.hid (fun (B : Option Addr) (y : List Mr) (d : Nat) (V : World) (hY : XR V B y) (hs : Sl.wx (rws y) ≤ 20000) => rprint9_any B y d V hY hs)
  obtain ⟨n, hn⟩ : ∃ n, x.length = n := ⟨_, rfl⟩
  rw [hn] at HB0 HPr HI ⊢
  clear hn hX hC
  go_enter Try.func3, Try.ntmps3
  go_wp2_with fail
  refine HB0.out.mono ?_
  rintro e w1 ⟨⟨b, rfl, hb1⟩, hb⟩
  have HB1 := Lib.hid hb
  clear hb
  cases b with
  | false =>
    clear hb1
    go_wp2_with fail
    refine (HS.out w1).mono ?_
    rintro e w2 ⟨rfl, hb⟩
    have HB2 := Lib.hid (HB1.out.trans (hb.mono HB1.out.size))
    clear hb
    go_wp2
    go_ret
    exact ⟨rfl, HB2.out⟩
  | true =>
    have HSm : Hid (Sl.wx (rws x) ≤ 20000) := Lib.hid (by
      obtain ⟨h1, h2⟩ := hb1 rfl
      have := small_wx9 h1
      omega)
    clear hb1
    go_wp2_with fail
    refine (HS.out w1).mono ?_
    rintro e w2 ⟨rfl, hb⟩
    have HB2 := Lib.hid (HB1.out.trans (hb.mono HB1.out.size))
    clear hb
    go_wp2_with fail
    refine (HPr.out w2 HB2.out HSm.out).mono ?_
    rintro e w3 ⟨hq, hb⟩
    have HB3 := Lib.hid (HB2.out.trans (hb.mono HB2.out.size))
    clear hb
    rcases hq with ⟨rfl, hp⟩ | ⟨rfl, hp⟩
    · have HPq := Lib.hid hp
      clear hp
      go_wp2_with fail
      refine (HI.out w3 HB3.out HSm.out).mono ?_
      rintro e w4 ⟨⟨y, B, d, rfl, -, hY, hy⟩, hb⟩
      have HB4 := Lib.hid (HB3.out.trans (hb.mono HB3.out.size))
      have HD1 := Lib.hid (HD.out B y d w4 hY (by rw [hy]; exact HSm.out))
      rw [hy] at HD1
      clear hb hY hy
      generalize y.length = ny at HD1 ⊢
      go_wp2_with fail
      refine HD1.out.mono ?_
      rintro e w5 ⟨hq, hb⟩
      have HB5 := Lib.hid (HB4.out.trans (hb.mono HB4.out.size))
      clear hb
      rcases hq with ⟨rfl, -⟩ | ⟨-, hne⟩
      · generalize ba (Sl.printS (rws x)) = T
        go_wp2
        go_ret
        exact ⟨rfl, HB5.out⟩
      · exact absurd HPq.out hne
    · have HPq := Lib.hid hp
      clear hp
      go_wp2_with fail
      refine (HI.out w3 HB3.out HSm.out).mono ?_
      rintro e w4 ⟨⟨y, B, d, rfl, -, hY, hy⟩, hb⟩
      have HB4 := Lib.hid (HB3.out.trans (hb.mono HB3.out.size))
      have HD1 := Lib.hid (HD.out B y d w4 hY (by rw [hy]; exact HSm.out))
      rw [hy] at HD1
      clear hb hY hy
      generalize y.length = ny at HD1 ⊢
      go_wp2_with fail
      refine HD1.out.mono ?_
      rintro e w5 ⟨hq, hb⟩
      have HB5 := Lib.hid (HB4.out.trans (hb.mono HB4.out.size))
      clear hb
      rcases hq with ⟨-, he⟩ | ⟨rfl, -⟩
      · exact absurd he HPq.out
      · go_wp2
        go_ret
        exact ⟨rfl, HB5.out⟩
theorem prints_true {H : Type} {enc : TypeId × Value → H} {W : World} {base : Nat} {v0 : Value} {d0 : DataW H} {p0 : List MemPlace} (hk : Rows.uptoSmall H [d0] = true) (o0 : Value.okWide Try.prog W .any base 23 v0)
    (h0 : DataW.Trod enc Try.prog W 0 (fun _ => true) true 23 v0 d0 p0) (l0 : ∀ x ∈ p0, x.block < W.heap.size) :
    Calls Try.prog 3 #[v0] W fun e W' => e = .returned (.bool true) ∧ Below W.heap.size W W' := by
  obtain ⟨A, cap, x, rfl, -, -, hX, -, hC⟩ := sel_openc o0 h0 l0
  have hs : Rows.uptoBulkAll [d0] ≤ 1048576 := by simpa [Rows.uptoSmall] using hk
  simp only [Rows.uptoBulkAll] at hs
  exact prints_law A x cap W hX (by omega)
end Go.Proofs.Ytcfkcifbojckcaa
