/-
  The reference's encode of any operation that may be, and its Encode.
-/
import Derived.Test.YtdjhnjokmmbafaaDoorOpSeA
import Derived.Test.YtdjhnjokmmbafaaDoorOpSeB
import Derived.Test.YtdjhnjokmmbafaaDoorOpSeC
import Derived.Test.YtdjhnjokmmbafaaDoorOpX
namespace Go.Proofs.YtdjhnjokmmbafaaDoor
open Go.ChangeShapes Go.WideShapes Go.ChangeAt Go.RowKit
set_option linter.unusedVariables false
set_option linter.unusedSimpArgs false

theorem renc_any (o : Po) (w : World) (hf : Fit o) (hm : mayO o = true) : Calls Tryd.prog 38 #[opv o] w (GivesV (.string (ba (enc o))) w) := by
  obtain ⟨k, i, t, a, n, x⟩ := o
  obtain ⟨m1, -, -, -, -, -, m7, m8⟩ := mayO_parts hm
  have : k = 1 ∨ k = 2 ∨ k = 3 ∨ k = 4 ∨ k = 5 ∨ k = 6 ∨ k = 7 ∨ k = 8 := by
    have := isK_iff.1 m1
    simp only [] at this
    omega
  rcases this with rfl | rfl | rfl | rfl | rfl | rfl | rfl | rfl
  · exact ren1 i t a n x w hf.i hf.t hf.a m7 m8
  · exact ren2 i t a n x w hf.i hf.t hf.a m7 m8
  · exact ren3 i t a n x w hf.i hf.t hf.a m7 m8
  · exact ren4 i t a n x w hf.i hf.t hf.a m7 m8
  · exact ren5 i t a n x w hf.i hf.t hf.a m7 m8
  · exact ren6 i t a n x w hf.i hf.t hf.a m7 m8
  · exact ren7 i t a n x w hf.i hf.t hf.a m7 m8
  · exact ren8 i t a n x w hf.i hf.t hf.a m7 m8
set_option maxRecDepth 100000 in
set_option maxHeartbeats 4000000 in
theorem rencode_any (A : Option Addr) (l : List Po) (c : Nat) (w : World) (hA : OL w A l) (hn : l.length ≤ 9223372036854775807) :
    Calls Tryd.prog 16 #[.slice A l.length c] w (GivesV (.tuple #[.string (ba (encR l).1), .int .i64 (encR l).2]) w) := by
  have HA := Lib.hid hA
  clear hA
  by_cases h20 : 20 < l.length
  · have : encR l = ([], 2) := by rw [encR, if_pos h20]
    rw [this]
    have h20' : (20 : Int) < (l.length : Int) := by omega
    go_enter Tryd.func16, Tryd.ntmps16
    go_wp2
    go_ret2
    exact ⟨rfl, Below.refl _ _⟩
  · have h20' : ¬ (20 : Int) < (l.length : Int) := by omega
    have HE : Hid (encR l = if l.all mayO then (encL l, 0) else ([], 1)) := Lib.hid (by rw [encR, if_neg h20])
    generalize encR l = R at *
    obtain ⟨n, hnn⟩ : ∃ n, l.length = n := ⟨_, rfl⟩
    have HNN := Lib.hid hnn
    rw [hnn] at hn h20 h20' ⊢
    clear hnn
    go_enter Tryd.func16, Tryd.ntmps16
    go_wp2_with fail
    go_loopw [4, 5] (fun q4 q5 wv => ∃ (V : World) (j : Nat) (S : ByteArray), V = wv ∧ j ≤ n ∧ q4 = .string S ∧ q5 = .int .i64 j ∧ Hid (S = ba (encL (l.take j))) ∧ Hid ((l.take j).all mayO = true) ∧ Hid (Below w.heap.size w V) ∧ S.size ≤ 1000 * j) (fun _ q5 _ => n - (intOf q5).toNat)
    case atStart => exact ⟨_, 0, ⟨#[]⟩, rfl, Nat.zero_le _, rfl, rfl, Lib.hid rfl, Lib.hid rfl, Lib.hid (Below.refl _ _), Nat.zero_le _⟩
    case round =>
      obtain ⟨V, j, S, rfl, hj, rfl, rfl, HS, HAll, HBe, hSz⟩ := hrel
      by_cases hlt : j < n
      · have k0 : (0 : Int) ≤ (j : Int) := by omega
        have k1 : (j : Int) < (n : Int) := by omega
        have hjl : j < l.length := by rw [HNN.out]; exact hlt
        obtain ⟨hfo, g, off, rfl, hg, c0, c1, c2, c3, c4, c5⟩ := HA.out.below HBe.out j l[j] (List.getElem?_eq_getElem hjl)
        have HAll2 : Hid ((l.take (j + 1)).all mayO = mayO l[j]) := Lib.hid (by rw [List.take_add_one, List.getElem?_eq_getElem hjl, List.all_append, HAll.out]; simp)
        have HEn : Hid (encL (l.take (j + 1)) = encL (l.take j) ++ enc l[j]) := Lib.hid (by rw [List.take_add_one, List.getElem?_eq_getElem hjl, encL, List.flatMap_append]; simp [encL])
        have HNo : Hid (mayO l[j] = false → l.all mayO = false) := Lib.hid (fun h => List.all_eq_false.2 ⟨_, List.getElem_mem hjl, by rw [h]; simp⟩)
        have HFo := Lib.hid hfo
        clear hfo
        generalize l[j] = o at *
        have HM := Lib.hid (fun V => rmay_any o V)
        unfold opv at HM
        go_wp2_with fail
        refine (HM.out _).mono ?_
        rintro e w2 ⟨rfl, hb2⟩
        have HB2 : Hid (Below w.heap.size w w2) := Lib.hid (HBe.out.trans (hb2.mono HBe.out.size))
        have hgV := hg
        have key : ∀ j' v, V.cell? ⟨g, j', none⟩ = some v → w2.cell? ⟨g, j', none⟩ = some v := fun j' v hv => (hb2.cell (p := ⟨g, j', none⟩) hg).trans hv
        have d0 := key _ _ c0
        have d1 := key _ _ c1
        have d2 := key _ _ c2
        have d3 := key _ _ c3
        have d4 := key _ _ c4
        have d5 := key _ _ c5
        clear key hb2 c0 c1 c2 c3 c4 c5
        cases hmo : mayO o with
        | false =>
          have HR : Hid (R = ([], 1)) := Lib.hid (by rw [HE.out, HNo.out hmo]; rfl)
          clear hmo
          go_wp2
          go_ret2
          rw [HR.out]
          exact ⟨rfl, HB2.out⟩
        | true =>
          have HEo := Lib.hid (fun V => renc_any o V HFo.out hmo)
          have hlen := fit_len o HFo.out hmo
          have HA2 : Hid ((l.take (j + 1)).all mayO = true) := Lib.hid (by rw [HAll2.out, hmo])
          obtain ⟨T, hT⟩ : ∃ T, T = ba (enc o) := ⟨_, rfl⟩
          have hTs : T.size ≤ 1000 := by rw [hT, ba_size]; exact hlen
          have HS2 : Hid (S ++ T = ba (encL (l.take (j + 1)))) := Lib.hid (by rw [HEn.out, HS.out, hT]; exact ByteArray.ext (by simp [ba, ByteArray.data_append]))
          have hST : (S ++ T).size ≤ 1000 * (j + 1) := by rw [ByteArray.size_append]; omega
          have hA' : ∀ W, (Op.stringOp .add S T).run Tryd.prog W = .ok (.string (S ++ T)) W := fun W => run_string_add_sum W _ _ (by omega)
          rw [← hT] at HEo
          unfold opv at HEo
          clear hmo hT hlen
          go_wp2_with fail
          refine (HEo.out _).mono ?_
          rintro e w3 ⟨rfl, hb3⟩
          have HB3 : Hid (Below w.heap.size w w3) := Lib.hid (HB2.out.trans (hb3.mono HB2.out.size))
          clear hb3 d0 d1 d2 d3 d4 d5
          go_wp2
          go_roundw
          case rel => exact ⟨_, j + 1, S ++ T, rfl, by omega, rfl, by go_num, HS2, HA2, HB3, hST⟩
          case measure => simp [intOf] <;> omega
      · obtain rfl : j = n := by omega
        have e : l.take j = l := List.take_of_length_le (by rw [HNN.out]; exact Nat.le_refl _)
        rw [e] at HAll HS
        have HR : Hid (R = (encL l, 0)) := Lib.hid (by rw [HE.out, HAll.out]; rfl)
        have HSS : Hid (S = ba R.1) := Lib.hid (by rw [HS.out, HR.out])
        go_wp2
        go_ret2
        refine ⟨?_, HBe.out⟩
        rw [← HSS.out, HR.out]
        rfl
end Go.Proofs.YtdjhnjokmmbafaaDoor
