/-
  The law WalkIds: who is found by an id has it, is below the document, and nobody ahead of it has.
-/
import Derived.Test.YtboiekopdnnfbaaGreatDoorG28
import Derived.Test.YtboiekopdnnfbaaGreatDoorG18
import Derived.Test.YtboiekopdnnfbaaGreatDoorG29
namespace Go.Proofs.YtboiekopdnnfbaaGreatDoor
open Go.ChangeShapes Go.WideShapes Go.ChangeAt Go.RowKit
set_option linter.unusedVariables false
set_option linter.unusedSimpArgs false

theorem own_ir8 {w : World} {base : Nat} {v : Value} {l : List Int} (h : w.ownsRow base 3 1 v l.length (ivs l)) : ∃ p cap, v = .slice p l.length cap ∧ IR w p l := by
  obtain ⟨p, cap, rfl, -⟩ := own_form2 h
  exact ⟨p, cap, rfl, own_ir2 h⟩
theorem by_at {F : List Mn} {t : ByteArray} (ht : ¬ t.size = 0) {k : Nat} (hk : k < (ord F 0).length) (h : ∀ y ∈ (ord F 0).take k, hasId F t y = false) (hx : hasId F t (ord F 0)[k] = true) : byP F t = (((ord F 0)[k] : Int), 0) :=
  by_hit ht ⟨(ord F 0).drop (k + 1), by rw [← take_more hk, List.take_append_drop]⟩ h hx
set_option maxRecDepth 100000 in
set_option maxHeartbeats 8000000 in
theorem ids_law (A : Option Addr) (l : List Ops.Po) (c : Nat) (t : ByteArray) (w : World) (hL : Ops.OL w A l) (hl : l.length ≤ 9223372036854775807) (hK : Ops.KT w) :
    Calls Tryz.prog 6 #[.slice A l.length c, .string t] w (GivesV (.bool true) w) := by
  have HB0 := Lib.hid (bounded8 A l c w hL hl)
  have HS := Lib.hid (fun (V : World) (hb : Below w.heap.size w V) => shown8 V (hK.below hb))
  have HG := Lib.hid (fun (V : World) (hb : Below w.heap.size w V) (h : l.length ≤ 150) => grown_any A l c V (hL.below hb) (by omega) (hK.below hb))
  have HLE : Hid (bdO l = true → l.length ≤ 150) := Lib.hid (fun h => by
    unfold bdO at h
    rw [Bool.and_eq_true, decide_eq_true_eq] at h
    exact h.2)
  obtain ⟨nl, hnn⟩ : ∃ n, l.length = n := ⟨_, rfl⟩
  rw [hnn] at HB0 HG HLE hl ⊢
  clear hL hK hnn
  generalize bdO l = BL at *
  go_enter Tryz.func6, Tryz.ntmps6
  go_wp2_with fail
  refine HB0.out.mono ?_
  rintro e w' ⟨rfl, hw⟩
  obtain rfl := hw.symm
  cases BL with
  | false =>
    go_wp2_with fail
    refine (HS.out w (Below.refl _ _)).mono ?_
    rintro e w1 ⟨rfl, hb⟩
    have HB := Lib.hid hb
    clear hb
    go_wp2
    go_ret
    exact ⟨rfl, HB.out⟩
  | true =>
  have hln := HLE.out rfl
  by_cases ht3 : t.size ≤ 300
  case neg =>
    have dt : decide ((300 : Int) < (t.size : Int)) = true := by simp; omega
    go_wp2_with fail
    refine (HS.out w (Below.refl _ _)).mono ?_
    rintro e w1 ⟨rfl, hb⟩
    have HB := Lib.hid hb
    clear hb
    go_wp2
    go_ret
    exact ⟨rfl, HB.out⟩
  have dt : decide ((300 : Int) < (t.size : Int)) = false := by simp; omega
  go_wp2_with fail
  refine (HS.out w (Below.refl _ _)).mono ?_
  rintro e w1 ⟨rfl, hb⟩
  have HB1 := Lib.hid hb
  clear hb
  go_wp2_with fail
  refine (HG.out w1 HB1.out hln).mono ?_
  rintro e w2 ⟨Af, G, cf, rfl, hF, hm, hlk, hb⟩
  have HB2 := Lib.hid (HB1.out.trans (hb.mono HB1.out.size))
  clear hb hlk HS HG HLE HB0
  have hn60 := (may_sz hm).1
  have h0 := (mayB_parts hm).1
  have HBy := Lib.hid (fun (V : World) (hb : Below w2.heap.size w2 V) => wbyid_any Af G cf t V (hF.below hb) hm)
  have HOr : Hid (∀ (V : World) (hb : Below w2.heap.size w2 V), Calls Tryz.prog 32 #[.slice Af G.length cf, .int .i64 0] V fun e w' => ∃ v, e = .returned (.tuple #[v, .int .i64 0]) ∧ w'.ownsRow V.heap.size 3 1 v (ord G 0).length (ivN (ord G 0)) ∧ Below V.heap.size V w') := Lib.hid (fun V hb => worder_any Af G cf 0 V (hF.below hb) hm h0)
  have HAt : Hid (∀ (V : World) (i : Nat) (hb : Below w2.heap.size w2 V) (hi : i < G.length), Calls Tryz.prog 36 #[.slice Af G.length cf, .int .i64 i, .string idS] V fun e w' => e = .returned (.tuple #[.string (attrP G i idS).1, .int .i64 (attrP G i idS).2]) ∧ Below V.heap.size V w') := Lib.hid (fun V i hb hi => by
    rw [attrP_at hi]
    exact wattr_any Af G cf i idS V (hF.below hb) hm hi)
  have HAH : Hid (∀ (i : Nat) (hi : i < G.length), (attrP G i idS).2 = 0 ∧ (attrP G i idS).1 = t ↔ hasId G t i = true) := Lib.hid (fun i hi => by
    rw [attrP_at hi]
    exact attr_hit hm hi t)
  have HBA := Lib.hid (fun (ht : ¬ t.size = 0) (k : Nat) (hk : k < (ord G 0).length) (h : ∀ y ∈ (ord G 0).take k, hasId G t y = false) (hx : hasId G t (ord G 0)[k] = true) => by_at ht hk h hx)
  have HBM : Hid ((t.size = 0 ∨ ∀ y ∈ ord G 0, hasId G t y = false) → byP G t = (0, 3)) := Lib.hid (fun h => by
    rcases h with h | h
    · unfold byP; rw [if_pos h]
    · exact by_miss h)
  have HOl : Hid (∀ y ∈ ord G 0, y < G.length) := Lib.hid (fun y hy => ord_lt hm h0 hy)
  have hol := ord_len hm h0
  obtain ⟨n, hn⟩ : ∃ n, G.length = n := ⟨_, rfl⟩
  have HNN := Lib.hid hn
  rw [hn] at HBy HOr HAt hn60 hol ⊢
  clear hF hm hn h0
  generalize byP G t = R at *
  go_wp2_with fail
  refine (HBy.out w2 (Below.refl _ _)).mono ?_
  rintro e w3 ⟨rfl, hb⟩
  have HR3 := Lib.hid hb
  clear hb
  go_wp2_with fail
  refine (HOr.out w3 HR3.out).mono ?_
  rintro e w4 ⟨v, rfl, hv, hb⟩
  have hv2 : w4.ownsRow w3.heap.size 3 1 v ((ord G 0).map Int.ofNat).length (ivs ((ord G 0).map Int.ofNat)) := by rw [List.length_map]; exact hv
  obtain ⟨p, cap, rfl, hI⟩ := own_ir8 hv2
  have HI : Hid (∀ k (hk : k < (ord G 0).length), ∃ g off, p = some ⟨g, off, none⟩ ∧ g < w4.heap.size ∧ w4.cell? ⟨g, off + k, none⟩ = some (.int .i64 ((ord G 0)[k] : Nat))) := Lib.hid (fun k hk => by
    obtain ⟨g, off, h1, h2, h3⟩ := hI k (by rw [List.length_map]; exact hk)
    refine ⟨g, off, h1, h2, ?_⟩
    rw [h3, getD_at 0 (by rw [List.length_map]; exact hk), List.getElem_map]
    rfl)
  have HR4 := Lib.hid (HR3.out.trans (hb.mono HR3.out.size))
  rw [List.length_map]
  clear hb hv hv2 hI
  generalize ord G 0 = os at *
  obtain ⟨lo, hlo⟩ : ∃ lo, os.length = lo := ⟨_, rfl⟩
  have HLO := Lib.hid hlo
  rw [hlo] at hol ⊢
  clear hlo
  go_wp2_with fail
  go_loopw [10] (fun q wr => ∃ k : Nat, k ≤ lo ∧ q = .int .i64 k ∧ Hid (t.size = 0 ∨ ∀ y ∈ os.take k, hasId G t y = false) ∧ Hid (Below w4.heap.size w4 wr)) (fun q _ => lo - (intOf q).toNat)
  case atStart => exact ⟨0, Nat.zero_le _, rfl, Lib.hid (.inr (by simp)), Lib.hid (Below.refl _ _)⟩
  case round =>
    obtain ⟨k, hk, rfl, HT, HX⟩ := hrel
    have HX2 := Lib.hid (HR4.out.trans (HX.out.mono HR4.out.size))
    by_cases hlt : k < lo
    · have k0 : (0 : Int) ≤ (k : Int) := by omega
      have k1 : (k : Int) < (lo : Int) := by omega
      have hkl : k < os.length := by rw [HLO.out]; exact hlt
      obtain ⟨g, off, rfl, hg, c0⟩ := HI.out k hkl
      have c0' := (HX.out.cell (p := ⟨g, off + k, none⟩) hg).trans c0
      have hxn := HOl.out os[k] (List.getElem_mem hkl)
      have hxn' : os[k] < n := by rw [← HNN.out]; exact hxn
      have HAx := Lib.hid (HAt.out wr os[k] HX2.out hxn')
      have HHx := Lib.hid (HAH.out os[k] hxn)
      have HT2 : Hid (hasId G t os[k] = false → t.size = 0 ∨ ∀ y ∈ os.take (k + 1), hasId G t y = false) := Lib.hid (fun h => by
        refine HT.out.imp id (fun h2 y hy => ?_)
        rw [take_more hkl] at hy
        exact (List.mem_append.1 hy).elim (h2 y) (fun e => by rw [List.mem_singleton] at e; rw [e]; exact h))
      have HBk : Hid (¬ t.size = 0 → hasId G t os[k] = true → R = ((os[k] : Int), 0)) := Lib.hid (fun ht hx => HBA.out ht k hkl (HT.out.resolve_left ht) hx)
      clear c0 hxn hxn'
      generalize attrP G os[k] idS = AR' at *
      generalize os[k] = x at *
      obtain ⟨av, ae⟩ := AR'
      simp only [] at HAx HHx
      go_wp2_with fail
      refine HAx.out.mono ?_
      rintro e w5 ⟨rfl, hb⟩
      have HX5 := Lib.hid (HX.out.trans (hb.mono HX.out.size))
      have c0 := (hb.cell (p := ⟨g, off + k, none⟩) (Nat.lt_of_lt_of_le hg HX.out.size)).trans c0'
      clear hb c0'
      by_cases h1 : ae = 0
      · have q1 : (ae == 0) = true := by simpa using h1
        by_cases h2 : av = t
        · have q2 : (av.toList == t.toList) = true := by simpa using congrArg ByteArray.toList h2
          have hhx := HHx.out.1 ⟨h1, h2⟩
          by_cases h3 : t.size = 0
          · have q3 : t.toList.isEmpty = true := by rw [Lib.toList_data, List.isEmpty_iff]; exact List.eq_nil_of_length_eq_zero (by rw [← Lib.size_eq]; exact h3)
            have HT3 : Hid (t.size = 0 ∨ ∀ y ∈ os.take (k + 1), hasId G t y = false) := Lib.hid (.inl h3)
            clear h1 h2 h3 hhx
            go_wp2
            go_roundw
            case rel => exact ⟨k + 1, by omega, by go_num, HT3, HX5⟩
            case measure => simp [intOf] <;> omega
          · have q3 : t.toList.isEmpty = false := by
              rw [Lib.toList_data]
              cases h : t.data.toList with
              | nil => exact absurd (by rw [Lib.size_eq, h]; rfl) h3
              | cons a l => rfl
            have HRx := Lib.hid (HBk.out h3 hhx)
            have q4 : (R.2 == 0) = true := by rw [HRx.out]; rfl
            have q5 : (R.1 == (x : Int)) = true := by rw [HRx.out]; simp
            clear h1 h2 h3 hhx
            go_wp2
            go_ret
            exact ⟨rfl, HB2.out.trans ((HR4.out.trans (HX5.out.mono HR4.out.size)).mono HB2.out.size)⟩
        · have q2 : (av.toList == t.toList) = false := by simpa [toList_inj] using h2
          have hhx : hasId G t x = false := by
            rcases Bool.eq_false_or_eq_true (hasId G t x) with h | h
            · exact absurd (HHx.out.2 h).2 h2
            · exact h
          have HT3 := Lib.hid (HT2.out hhx)
          clear h1 h2 hhx
          go_wp2
          go_roundw
          case rel => exact ⟨k + 1, by omega, by go_num, HT3, HX5⟩
          case measure => simp [intOf] <;> omega
      · have q1 : (ae == 0) = false := by simpa using h1
        have hhx : hasId G t x = false := by
          rcases Bool.eq_false_or_eq_true (hasId G t x) with h | h
          · exact absurd (HHx.out.2 h).1 h1
          · exact h
        have HT3 := Lib.hid (HT2.out hhx)
        clear h1 hhx
        go_wp2
        go_roundw
        case rel => exact ⟨k + 1, by omega, by go_num, HT3, HX5⟩
        case measure => simp [intOf] <;> omega
    · obtain rfl : k = lo := by omega
      have et : os.take k = os := List.take_of_length_le (by rw [HLO.out]; exact Nat.le_refl _)
      rw [et] at HT
      have HRx := Lib.hid (HBM.out HT.out)
      have q4 : (R.2 == 3) = true := by rw [HRx.out]; rfl
      clear et
      go_wp2
      go_ret
      exact ⟨rfl, HB2.out.trans (HX2.out.mono HB2.out.size)⟩
set_option maxRecDepth 100000 in
/-- The law, of what came in. -/
theorem ids_true {H : Type} {enc : TypeId × Value → H} {W : World} {base : Nat} {v0 : Value} {d0 : DataW H} {p0 : List MemPlace} {v1 : Value} {d1 : DataW H} {p1 : List MemPlace} (hm : ∃ mx, W.cell? ⟨1, 0, none⟩ = some (.int .i64 mx)) (hK : Ops.KT W) (o0 : Value.okWide Tryz.prog W .any base 22 v0) (o1 : Value.okWide Tryz.prog W .any base 9 v1)
    (h0 : DataW.Trod enc Tryz.prog W 0 (fun _ => true) true 22 v0 d0 p0) (h1 : DataW.Trod enc Tryz.prog W 0 (fun _ => true) true 9 v1 d1 p1) (l0 : ∀ x ∈ p0, x.block < W.heap.size) (l1 : ∀ x ∈ p1, x.block < W.heap.size) :
    Calls Tryz.prog 6 #[v0, v1] W fun e W' => e = .returned (.bool true) ∧ Below W.heap.size W W' := by
  obtain ⟨A, cap, l, rfl, e1, e2, hL, -⟩ := Ops.ol_open o0 h0 l0
  obtain ⟨t, rfl, rfl, rfl, w0⟩ := Go.ChangeMaps.open_string Tryz.underlying9 o1 h1
  exact ids_law A l cap t W hL (Nat.le_trans e1 e2) hK
end Go.Proofs.YtboiekopdnnfbaaGreatDoor
