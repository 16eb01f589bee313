/-
  shown: the small case that must go well.
-/
import Derived.Test.YtcfkcifbojckcaaSelV
namespace Go.Proofs.Ytcfkcifbojckcaa
open Go.ChangeShapes Go.WideShapes Go.ChangeAt Go.RowKit
open Go.PlainAid (bt)
set_option linter.unusedVariables false
set_option linter.unusedSimpArgs false

def l1 : List UInt8 := [32, 100, 105, 118, 62, 46, 97, 32, 44, 35, 98, 91, 99, 32, 61, 32, 39, 120, 39]
def l2 : List UInt8 := [100, 105, 118, 32, 62, 32, 46, 97, 44, 32, 35, 98, 91, 99, 61, 34, 100, 32, 101, 34, 93]
def X2 : List (List Sl.Stp) := [[⟨[⟨1, [100, 105, 118], []⟩], false⟩, ⟨[⟨3, [97], []⟩], true⟩], [⟨[⟨2, [98], []⟩, ⟨5, [99], [100, 32, 101]⟩], false⟩]]
theorem parse_l1 : Sl.parse l1 = .error 16 := by kernel_rfl
theorem parse_l2 : Sl.parse l2 = .ok X2 := by kernel_rfl
theorem print_X2 : Sl.printS X2 = l2 := by kernel_rfl
set_option maxRecDepth 100000 in
set_option maxHeartbeats 4000000 in
theorem shown_any (w : World) : Calls Try.prog 5 #[] w (GivesV (.bool true) w) := by
  have HP1 : Hid (∀ V : World, Calls Try.prog 9 #[.string ⟨#[32, 100, 105, 118, 62, 46, 97, 32, 44, 35, 98, 91, 99, 32, 61, 32, 39, 120, 39]⟩] V fun e w' => e = .returned (.tuple #[.slice none 0 0, .int .i64 16, .int .i64 90]) ∧ Below V.heap.size V w') := Lib.hid (fun V => (sel_parse (ba l1) V (by decide)).mono (fun e w' h => by
    obtain ⟨hc, hb⟩ := h
    rw [ba_ls, parse_l1] at hc
    rcases hc with ⟨x, v, -, -, h⟩ | ⟨k, he, h⟩
    · cases h
    · cases h
      exact ⟨he, hb⟩))
  have HP2 : Hid (∀ V : World, Calls Try.prog 9 #[.string ⟨#[100, 105, 118, 32, 62, 32, 46, 97, 44, 32, 35, 98, 91, 99, 61, 34, 100, 32, 101, 34, 93]⟩] V fun e w' => (∃ (x : List Mr) (A : Option Addr) (c : Nat), e = .returned (.tuple #[.slice A x.length c, .int .i64 0, .int .i64 0]) ∧ XR w' A x ∧ rws x = X2) ∧ Below V.heap.size V w') := Lib.hid (fun V => (sel_parse (ba l2) V (by decide)).mono (fun e w' h => by
    obtain ⟨hc, hb⟩ := h
    rw [ba_ls, parse_l2] at hc
    rcases hc with ⟨x, v, he, hS, h⟩ | ⟨k, -, h⟩
    · obtain ⟨A, c, rfl, hX⟩ := xr_of hS
      simp only [Except.ok.injEq] at h
      exact ⟨⟨x, A, c, he, hX, h.symm⟩, hb⟩
    · cases h))
  have HPr : Hid (∀ (V : World) (x : List Mr) (A : Option Addr) (c : Nat), XR V A x → rws x = X2 → Calls Try.prog 6 #[.slice A x.length c] V fun e w' => e = .returned (.tuple #[.string ⟨#[100, 105, 118, 32, 62, 32, 46, 97, 44, 32, 35, 98, 91, 99, 61, 34, 100, 32, 101, 34, 93]⟩, .int .i64 0]) ∧ Below V.heap.size V w') := Lib.hid (fun V x A c hX hx => (sel_print A x c V hX (by rw [hx]; decide)).mono (fun e w' h => by
    obtain ⟨hc, hb⟩ := h
    rw [hx, print_X2] at hc
    rcases hc with ⟨he, -⟩ | ⟨-, h⟩
    · exact ⟨he, hb⟩
    · exact absurd parse_l2 h))
  go_enter Try.func5, Try.ntmps5
  go_wp2_with fail
  refine (HP1.out w).mono ?_
  rintro e w1 ⟨rfl, hb⟩
  have HB1 := Lib.hid hb
  clear hb
  go_wp2_with fail
  refine (HP2.out w1).mono ?_
  rintro e w2 ⟨⟨x, A, c, rfl, hX, hx⟩, hb⟩
  have HB2 := Lib.hid (HB1.out.trans (hb.mono HB1.out.size))
  have HX := Lib.hid hX
  have HE := Lib.hid hx
  have HPr2 := Lib.hid (HPr.out w2 x A c hX hx)
  have hl : x.length = 2 := by
    have := congrArg List.length hx
    rw [rws, List.length_map] at this
    exact this
  have HL := Lib.hid hl
  rw [hl] at HPr2 ⊢
  clear hb hX hx hl
  go_wp2_with fail
  refine HPr2.out.mono ?_
  rintro e w3 ⟨rfl, hb⟩
  have HB3 := Lib.hid (HB2.out.trans (hb.mono HB2.out.size))
  have HX3 := Lib.hid (HX.out.below hb)
  clear hb
  have hx0 : 0 < x.length := by rw [HL.out]; decide
  obtain ⟨g, off, rfl, hg, c0, hM⟩ := HX3.out 0 x[0] (List.getElem?_eq_getElem hx0)
  have hs1 : (x[0].2.map stp) = [⟨[⟨1, [100, 105, 118], []⟩], false⟩, ⟨[⟨3, [97], []⟩], true⟩] := by
    have e1 : (rws x)[0]? = some (x[0].2.map stp) := by rw [rws, List.getElem?_map, List.getElem?_eq_getElem hx0]; rfl
    rw [HE.out] at e1
    exact (Option.some.inj e1).symm
  have hl2 : x[0].2.length = 2 := by
    have := congrArg List.length hs1
    rwa [List.length_map] at this
  have hx1 : 1 < x[0].2.length := by rw [hl2]; decide
  obtain ⟨g', off', hA', hg', d0, d1, -⟩ := hM 1 x[0].2[1] (List.getElem?_eq_getElem hx1)
  have hch : x[0].2[1].2.2 = true := by
    have e1 : (x[0].2.map stp)[1]? = some (stp x[0].2[1]) := by rw [List.getElem?_map, List.getElem?_eq_getElem hx1]; rfl
    rw [hs1] at e1
    have := Option.some.inj e1
    exact (congrArg Sl.Stp.child this).symm
  rw [hch] at d1
  unfold r1 at c0
  rw [hl2, hA'] at c0
  rw [Nat.add_zero] at c0
  simp only [Nat.one_mul, Nat.add_assoc, Nat.reduceAdd] at d1
  generalize x[0].1.2 = cc at *
  clear hM hs1 hl2 hx1 d0 hch hA' hx0
  go_wp2
  go_ret
  exact ⟨rfl, HB3.out⟩
end Go.Proofs.Ytcfkcifbojckcaa
