/-
  Print: the walk.
-/
import Derived.Test.YtcfkcifbojckcaaSelU
namespace Go.Proofs.Ytcfkcifbojckcaa
open Go.ChangeShapes Go.WideShapes Go.ChangeAt Go.RowKit
open Go.PlainAid (bt)
set_option linter.unusedVariables false
set_option linter.unusedSimpArgs false

/-- What Print tells. -/
def QRes (X : List (List Sl.Stp)) (w : World) (e : Ending) (w' : World) : Prop :=
  ((e = .returned (.tuple #[.string (ba (Sl.printS X)), .int .i64 0]) ∧ Sl.parse (Sl.printS X) = .ok X) ∨ (e = .returned (.tuple #[.string ⟨#[]⟩, .int .i64 1]) ∧ Sl.parse (Sl.printS X) ≠ .ok X)) ∧ Below w.heap.size w w'
def prowS (m : Mr) : ByteArray := ba (Sl.prow gG (m.2.map stp))
set_option maxRecDepth 100000 in
set_option maxHeartbeats 4000000 in
theorem sel_print (A : Option Addr) (x : List Mr) (c : Nat) (w : World) (hX : XR w A x) (hw : Sl.wx (rws x) ≤ 300000) :
    Calls Try.prog 6 #[.slice A x.length c] w (QRes (rws x) w) := by
  have HX := Lib.hid hX
  have HR := Lib.hid (fun (m : Mr) (hm : m ∈ x) (V : World) (hV : MR V m.1.1 m.2) => sel_printRow m.1.1 m.2 m.1.2 V hV (by
    have := Sl.wx_row (List.mem_map_of_mem (f := fun m : Mr => m.2.map stp) hm)
    unfold Sl.wr at this
    rw [rws] at hw
    omega))
  have hS : (Sl.printS (rws x)).length ≤ 300000 := Nat.le_trans (Sl.printS_le _) hw
  have hxl : x.length ≤ 300000 := by
    have := Sl.wx_len (rws x)
    rw [rws, List.length_map] at this
    rw [rws] at hw
    omega
  have HJ := Lib.hid (fun (p : Option Addr) (cap : Nat) (V : World) (h : V.ownsRow w.heap.size 9 1 (.slice p (x.map prowS).length cap) (x.map prowS).length ((x.map prowS).map Value.string)) => show Calls Try.prog 11 #[.slice p (x.map prowS).length cap, .string ⟨#[44, 32]⟩] V (GivesV (.string (ba (Sl.printS (rws x)))) V) from by
    have e : Lib.join ((x.map prowS).map ls) [44, 32] = Sl.printS (rws x) := by
      rw [← join_psel, rws, List.map_map, List.map_map]
      rfl
    have := join_any p cap (x.map prowS) V w.heap.size h (by rw [e]; omega) (by rw [List.length_map]; omega)
    rw [e] at this
    exact this)
  have HP := Lib.hid (fun (V : World) => sel_parse (ba (Sl.printS (rws x))) V (by rw [ba_size]; omega))
  have HSm := Lib.hid (small_wx (x := x) (by omega))
  have HSame := Lib.hid (fun (B : Option Addr) (y : List Mr) (d : Nat) (V : World) (hb : Below w.heap.size w V) (hY : XR V B y) (hs : smallX y) => sel_same B A y x d c V hY (hX.below hb) hs (small_wx (by omega)))
  have HPS : Hid (∀ y : List Mr, Sl.parse (ls (ba (Sl.printS (rws x)))) = .ok (rws y) → smallX y) := Lib.hid (fun y hy => small_wx (by
    have := Sl.parse_wx hy
    rw [ba_ls] at this
    omega))
  obtain ⟨i0, hi0, hz0, hz1, hz2⟩ := info_parts info_str
  have HI := Lib.hid (And.intro hi0 (And.intro hz0 (And.intro hz1 hz2)))
  obtain ⟨n, hn⟩ : ∃ n, x.length = n := ⟨_, rfl⟩
  have HN := Lib.hid hn
  have hml : (x.map prowS).length = n := by rw [List.length_map, hn]
  rw [hml] at HJ
  rw [hn] at hxl HSame ⊢
  clear hX hw hn hi0 hz0 hz1 hz2 hml
  go_enter Try.func6, Try.ntmps6
  go_wp2_with fail
  go_loopw [4, 13] (fun q4 q13 wr => ∃ (V : World) (k : Nat) (p : Option Addr) (cap : Nat), V = wr ∧ k ≤ n ∧ q4 = .slice p k cap ∧ q13 = .int .i64 k ∧ Hid (V.ownsRow w.heap.size 9 1 (.slice p k cap) k (((x.take k).map prowS).map Value.string)) ∧ Hid (Below w.heap.size w V)) (fun _ q13 _ => n - (intOf q13).toNat)
  case atStart => exact ⟨_, 0, none, 0, rfl, Nat.zero_le _, rfl, rfl, Lib.hid (World.ownsRow_nil _ _ _ _), Lib.hid (Below.refl _ _)⟩
  case round =>
    obtain ⟨V, k, p, cap, rfl, hk, rfl, rfl, HO, HB⟩ := hrel
    by_cases hlt : k < n
    · have k0 : (0 : Int) ≤ (k : Int) := by omega
      have k1 : (k : Int) < (n : Int) := by omega
      have hkx : k < x.length := by rw [HN.out]; exact hlt
      obtain ⟨g, off, rfl, hg, c0, hM⟩ := (HX.out.below HB.out) k x[k] (List.getElem?_eq_getElem hkx)
      have HRk := Lib.hid (HR.out x[k] (List.getElem_mem hkx) V hM)
      have HT2 : Hid ((((x.take (k + 1)).map prowS).map Value.string) = ((x.take k).map prowS).map Value.string ++ [.string (prowS x[k])]) := Lib.hid (by rw [take_more hkx, List.map_append, List.map_append]; rfl)
      have HPR : Hid (ba (Sl.prow gG (x[k].2.map stp)) = prowS x[k]) := Lib.hid rfl
      rw [HPR.out] at HRk
      clear HPR hM
      unfold r1 at c0
      generalize x[k] = m at *
      generalize prowS m = S at *
      generalize ((x.take k).map prowS).map Value.string = xs at *
      go_wp2_with fail
      refine HRk.out.mono ?_
      rintro e w5 ⟨rfl, hb⟩
      have HB5 := Lib.hid (HB.out.trans (hb.mono HB.out.size))
      have HO5 := Lib.hid (own_below HO.out hb)
      clear hb c0
      have HXB : Hid (Below w5.heap.size w5 (w5.alloc (.cells #[.string S] 9))) := Lib.hid ((Below.refl _ _).alloc (Nat.le_refl _) _)
      have HX5 := Lib.hid (own_below HO5.out HXB.out)
      have HXC := Lib.hid (cells1 _ _ _ _ (heap_alloc_new w5 (.cells #[.string S] 9)))
      have HXS := Lib.hid (Nat.le_trans HB5.out.size HXB.out.size)
      go_wp2_with (at_builtin; refine wpList_append_own_at _ rfl _ _ 42 rfl w.heap.size 9 i0 (.string ⟨#[]⟩) 1 16 Try.underlying42 HI.out.1 HI.out.2.1 HI.out.2.2.1 HI.out.2.2.2 rfl (by decide) _ _ _ rfl HX5.out ⟨w5.heap.size, 0, none⟩ 1 1 [.string S] rfl rfl HXC.out (by intro u hu; simp only [List.mem_cons, List.not_mem_nil, or_false] at hu; subst hu; rfl) (by unfold maxLen; omega) (by omega) HXS.out ?_; intro v' V' hown' hgrow _ hat; have HO' := Lib.hid hown'; have HGR := Lib.hid hgrow; clear hown' hgrow hat)
      obtain ⟨p', cap', rfl, -⟩ := own_form2 HO'.out
      have HB9 : Hid (Below w.heap.size w V') := Lib.hid ((HB5.out.trans (HXB.out.mono HB5.out.size)).grown HGR.out HXS.out (fun q e => (HX5.out.lt q e).1))
      go_roundw
      case rel => exact ⟨V', k + 1, p', cap', rfl, by omega, rfl, by go_num, Lib.hid (by rw [HT2.out]; exact HO'.out), HB9⟩
      case measure => simp [intOf] <;> omega
    · obtain rfl : k = n := by omega
      have e : x.take k = x := List.take_of_length_le (by rw [HN.out]; exact Nat.le_refl _)
      rw [e] at HO
      have HJ1 := Lib.hid (HJ.out p cap V HO.out)
      generalize hSS : ba (Sl.printS (rws x)) = S at *
      have HSS := Lib.hid hSS
      clear e hSS
      go_wp2_with fail
      refine HJ1.out.mono ?_
      rintro e w5 ⟨rfl, hb⟩
      have HB5 := Lib.hid (HB.out.trans (hb.mono HB.out.size))
      clear hb
      go_wp2_with fail
      refine (HP.out w5).mono ?_
      rintro e w6 ⟨hcs, hb⟩
      have HB6 := Lib.hid (HB5.out.trans (hb.mono HB5.out.size))
      have hb6 := HB6.out.size
      clear hb
      rcases hcs with ⟨y, v, rfl, hS, hp⟩ | ⟨k', rfl, hp⟩
      · obtain ⟨B, d, rfl, hY⟩ := xr_of hS
        have HSm1 := Lib.hid (HSame.out B y d w6 HB6.out hY (HPS.out y hp))
        have HPP := Lib.hid hp
        clear hS hY hp
        obtain ⟨ny, hny⟩ : ∃ ny, y.length = ny := ⟨_, rfl⟩
        rw [hny] at HSm1 ⊢
        clear hny
        rcases Decidable.em (cx y = cx x) with hq | hq
        · have HQ : Hid (Sl.parse (Sl.printS (rws x)) = .ok (rws x)) := Lib.hid (by
            have := HPP.out
            rw [← HSS.out, ba_ls, cx_iff.1 hq] at this
            exact this)
          rw [decide_eq_true hq] at HSm1
          clear hq
          go_wp2_with fail
          refine HSm1.out.mono ?_
          rintro e w7 ⟨rfl, hb⟩
          have HB7 := Lib.hid (HB6.out.trans (hb.mono HB6.out.size))
          clear hb
          go_wp2
          go_ret2
          exact ⟨.inl ⟨by rw [HSS.out]; rfl, HQ.out⟩, HB7.out⟩
        · have HQ : Hid (Sl.parse (Sl.printS (rws x)) ≠ .ok (rws x)) := Lib.hid (fun h => by
            have := HPP.out
            rw [← HSS.out, ba_ls, h] at this
            simp only [Except.ok.injEq] at this
            exact hq (cx_iff.2 this.symm))
          rw [decide_eq_false hq] at HSm1
          clear hq
          go_wp2_with fail
          refine HSm1.out.mono ?_
          rintro e w7 ⟨rfl, hb⟩
          have HB7 := Lib.hid (HB6.out.trans (hb.mono HB6.out.size))
          clear hb
          go_wp2
          go_ret2
          exact ⟨.inr ⟨rfl, HQ.out⟩, HB7.out⟩
      · have HQ : Hid (Sl.parse (Sl.printS (rws x)) ≠ .ok (rws x)) := Lib.hid (fun h => by
          have := hp
          rw [← HSS.out, ba_ls, h] at this
          cases this)
        clear hp
        go_wp2
        go_ret2
        exact ⟨.inr ⟨rfl, HQ.out⟩, HB6.out⟩
end Go.Proofs.Ytcfkcifbojckcaa
