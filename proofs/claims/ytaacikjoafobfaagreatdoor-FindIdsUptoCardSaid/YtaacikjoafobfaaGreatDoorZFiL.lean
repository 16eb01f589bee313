/-
  What the laws of layer 10 share: their bound; the forest that operations made.
-/
import Derived.Test.YtaacikjoafobfaaGreatDoorG16
import Derived.Test.YtaacikjoafobfaaGreatDoorG25
import Derived.Test.YtaacikjoafobfaaGreatDoorG28
namespace Go.Proofs.YtaacikjoafobfaaGreatDoor.Fi
open Go.ChangeShapes Go.WideShapes Go.ChangeAt Go.RowKit
set_option linter.unusedVariables false
set_option linter.unusedSimpArgs false

set_option maxRecDepth 100000 in
set_option maxHeartbeats 4000000 in
theorem bounded10 (A : Option Addr) (l : List Ops.Po) (c : Nat) (w : World) (hL : Ops.OL w A l) (hn : l.length ≤ 9223372036854775807) :
    Calls Tryz.prog 11 #[.slice A l.length c] w fun e w' => e = .returned (.bool (bdO l)) ∧ w' = w := by
  have HL := Lib.hid hL
  have HE : Hid (bdO l = (l.all opBd && decide (l.length ≤ 150))) := Lib.hid rfl
  generalize bdO l = R at *
  obtain ⟨n, hnn⟩ : ∃ n, l.length = n := ⟨_, rfl⟩
  have HNN := Lib.hid hnn
  rw [hnn] at hn HE ⊢
  clear hL hnn
  go_enter Tryz.func11, Tryz.ntmps11
  go_wp2
  go_loopw [3] (fun q wr => ∃ k : Nat, k ≤ n ∧ q = .int .i64 k ∧ Hid ((l.take k).all opBd = true) ∧ w = wr) (fun q _ => n - (intOf q).toNat)
  case atStart => exact ⟨0, Nat.zero_le _, rfl, Lib.hid rfl, rfl⟩
  case round =>
    obtain ⟨k, hk, rfl, HT, rfl⟩ := hrel
    by_cases hlt : k < n
    · have k0 : (0 : Int) ≤ (k : Int) := by omega
      have k1 : (k : Int) < (n : Int) := by omega
      have hkl : k < l.length := by rw [HNN.out]; exact hlt
      obtain ⟨-, gl, off, rfl, hgl, a0, a1, a2, a3, a4, a5⟩ := HL.out k l[k] (List.getElem?_eq_getElem hkl)
      have HT2 : Hid (opBd l[k] = true → (l.take (k + 1)).all opBd = true) := Lib.hid (fun h => by rw [all_more hkl HT.out, h])
      have HT3 : Hid (opBd l[k] = false → l.all opBd = false) := Lib.hid (fun h => all_no7 (List.getElem_mem hkl) h)
      generalize l[k] = o at *
      obtain ⟨kd, id, dst, ps, nm0, tx⟩ := o
      simp only [] at a4 a5
      clear a0 a1 a2 a3 hkl
      by_cases h1 : nm0.size ≤ 300
      · by_cases h2 : tx.size ≤ 300
        · have HT4 := Lib.hid (HT2.out (by simp [opBd, h1, h2]))
          have b1 : decide ((300 : Int) < (nm0.size : Int)) = false := by simp; omega
          have b2 : decide ((300 : Int) < (tx.size : Int)) = false := by simp; omega
          go_wp2
          go_roundw
          case rel => exact ⟨k + 1, by omega, by go_num, HT4, by first | trivial | rfl⟩
          case measure => simp [intOf] <;> omega
        · have HR : Hid (R = false) := Lib.hid (by rw [HE.out, HT3.out (by simp [opBd, h1, h2])]; rfl)
          have b1 : decide ((300 : Int) < (nm0.size : Int)) = false := by simp; omega
          have b2 : decide ((300 : Int) < (tx.size : Int)) = true := by simp; omega
          go_wp2
          go_ret
          exact ⟨by rw [HR.out]; rfl, rfl⟩
      · have HR : Hid (R = false) := Lib.hid (by rw [HE.out, HT3.out (by simp [opBd, h1])]; rfl)
        have b1 : decide ((300 : Int) < (nm0.size : Int)) = true := by simp; omega
        go_wp2
        go_ret
        exact ⟨by rw [HR.out]; rfl, rfl⟩
    · obtain rfl : k = n := by omega
      have e : l.take k = l := List.take_of_length_le (by rw [HNN.out]; exact Nat.le_refl _)
      rw [e] at HT
      clear e
      go_wp2
      go_ret
      refine ⟨?_, rfl⟩
      rw [HE.out, HT.out, Bool.true_and]
      exact ret_bool (by rw [decide_eq_decide]; omega)
set_option maxRecDepth 100000 in
set_option maxHeartbeats 4000000 in
theorem grown10 (A : Option Addr) (l : List Ops.Po) (c : Nat) (w : World) (hL : Ops.OL w A l) (hn : l.length ≤ 1000000) (hK : Ops.KT w) :
    Calls Tryz.prog 14 #[.slice A l.length c] w (GrownRes l w) := by
  have HL := Lib.hid hL
  have HK := Lib.hid hK
  have HON := Lib.hid (fun (V : World) (k : Nat) (A' : Option Addr) (G : List Mn) (c' : Nat) (o' : Ops.Po) (hb : Below w.heap.size w V) (h : OneAt V l k A' G) (hf : Ops.Fit o') => one_at h c' o' hf (hK.below hb))
  have HM := Lib.hid (fun (V : World) (A' : Option Addr) (G : List Mn) (c' : Nat) (h : OneAt V l l.length A' G) => may_any A' G c' V h.fr (may_sz1 h.may))
  obtain ⟨n, hnn⟩ : ∃ n, l.length = n := ⟨_, rfl⟩
  have HNN := Lib.hid hnn
  rw [hnn] at hn HM ⊢
  clear hL hK hnn
  go_enter Tryz.func14, Tryz.ntmps14
  go_wp2_with fail
  refine (new_any w).mono ?_
  rintro e w1 ⟨A0, rfl, hA, hb⟩
  have HST := Lib.hid (OneAt.start l hA)
  have HB1 := Lib.hid hb
  clear hA hb
  go_wp2_with fail
  go_loopw [3, 4] (fun q2 q3 wr => ∃ (k : Nat) (Af : Option Addr) (G : List Mn) (cf : Nat), q2 = .slice Af G.length cf ∧ q3 = .int .i64 k ∧ k ≤ n ∧ Hid (OneAt wr l k Af G) ∧ Hid (Below w.heap.size w wr)) (fun _ q3 _ => n - (intOf q3).toNat)
  case atStart => exact ⟨0, A0, [newM], 1, rfl, rfl, Nat.zero_le _, HST, HB1⟩
  case round =>
    obtain ⟨k, Af, G, cf, rfl, rfl, hk, HG, HBr⟩ := hrel
    by_cases hlt : k < n
    · have k0 : (0 : Int) ≤ (k : Int) := by omega
      have k1 : (k : Int) < (n : Int) := by omega
      have hkl : k < l.length := by rw [HNN.out]; exact hlt
      obtain ⟨hfk, gl, off, rfl, hgl, a0, a1, a2, a3, a4, a5⟩ := (HL.out.below HBr.out) k l[k] (List.getElem?_eq_getElem hkl)
      have HOK := Lib.hid (HON.out wr k Af G cf l[k] HBr.out HG.out hfk)
      have HNX := Lib.hid (fun (w' : World) (base g cap : Nat) (G' : List Mn) (h : OF w' base (.slice (some ⟨g, 0, none⟩) G'.length cap) G') (hc : G'.map core = (oneP G l[k]).1.map core) => HG.out.step hkl h hc)
      generalize l[k] = p at *
      go_wp2_with fail
      refine HOK.out.mono ?_
      rintro e w3 ⟨g, cap, G', rfl, hO, hc, hb⟩
      have HG2 := Lib.hid (HNX.out w3 _ g cap G' hO hc)
      have HB3 := Lib.hid (HBr.out.trans (hb.mono HBr.out.size))
      clear hO hc hb a0 a1 a2 a3 a4 a5 hfk hkl
      generalize errP G p = er at *
      go_wp2
      go_roundw
      case rel => exact ⟨k + 1, _, G', cap, rfl, by go_num, by omega, HG2, HB3⟩
      case measure => simp [intOf] <;> omega
    · obtain rfl : k = n := by omega
      have HM2 := Lib.hid (HM.out wr Af G cf HG.out)
      have HGm := Lib.hid HG.out.may
      have HGl : Hid (G.map core = (onesP [newM] l).map core) := Lib.hid (by have := HG.out.like; rwa [List.take_of_length_le (by rw [HNN.out]; exact Nat.le_refl _)] at this)
      rw [HGm.out] at HM2
      have HGf := Lib.hid HG.out.fr
      clear HG HNN HL HON HM
      go_wp2_with fail
      refine HM2.out.mono ?_
      rintro e w4 ⟨rfl, hb⟩
      have HB4 := Lib.hid (HBr.out.trans (hb.mono HBr.out.size))
      have HF4 := Lib.hid (HGf.out.below hb)
      clear hb
      go_wp2
      go_ret
      exact ⟨Af, G, cf, rfl, HF4.out, HGm.out, HGl.out, HB4.out⟩
end Go.Proofs.YtaacikjoafobfaaGreatDoor.Fi
