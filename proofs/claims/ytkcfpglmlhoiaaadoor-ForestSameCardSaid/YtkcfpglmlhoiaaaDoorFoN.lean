/-
  An element's tag.
-/
import Derived.Test.YtkcfpglmlhoiaaaDoorFoL
namespace Go.Proofs.YtkcfpglmlhoiaaaDoor
open Go.ChangeShapes Go.WideShapes Go.ChangeAt Go.RowKit
set_option linter.unusedVariables false
set_option linter.unusedSimpArgs false

def escq (l : List UInt8) : List UInt8 := Lib.replaceAll (esc l) [34] [38, 113, 117, 111, 116, 59]
def attrL (a : ByteArray × ByteArray) : List UInt8 := [32] ++ a.1.data.toList ++ [61, 34] ++ escq a.2.data.toList ++ [34]
def openL (m : Mn) : List UInt8 := [60] ++ m.name.data.toList ++ m.attrs.flatMap attrL ++ [62]
theorem esc_length (s : ByteArray) : (esc s.data.toList).length ≤ 30 * s.size := by
  have h1 := replaceAll_length s ⟨#[38]⟩ ⟨#[38, 97, 109, 112, 59]⟩ (by decide) (by decide)
  obtain ⟨t, ht⟩ : ∃ t : ByteArray, t = ⟨(Lib.replaceAll s.data.toList [38] [38, 97, 109, 112, 59]).toArray⟩ := ⟨_, rfl⟩
  have htl : t.data.toList = Lib.replaceAll s.data.toList [38] [38, 97, 109, 112, 59] := by rw [ht]
  have h2 := replaceAll_length t ⟨#[60]⟩ ⟨#[38, 108, 116, 59]⟩ (by decide) (by decide)
  have e : (esc s.data.toList) = Lib.replaceAll t.data.toList [60] [38, 108, 116, 59] := by rw [htl]; rfl
  rw [e]
  refine Nat.le_trans h2 ?_
  show t.size + t.size * 4 ≤ _
  have h3 : t.size ≤ s.size + s.size * 5 := by rw [Lib.size_eq, htl]; exact h1
  omega
theorem escq_length (s : ByteArray) : (escq s.data.toList).length ≤ 210 * s.size := by
  obtain ⟨t, ht⟩ : ∃ t : ByteArray, t = ⟨(esc s.data.toList).toArray⟩ := ⟨_, rfl⟩
  have htl : t.data.toList = esc s.data.toList := by rw [ht]
  have h2 := replaceAll_length t ⟨#[34]⟩ ⟨#[38, 113, 117, 111, 116, 59]⟩ (by decide) (by decide)
  have e : (escq s.data.toList) = Lib.replaceAll t.data.toList [34] [38, 113, 117, 111, 116, 59] := by rw [htl]; rfl
  rw [e]
  refine Nat.le_trans h2 ?_
  show t.size + t.size * 6 ≤ _
  have h3 : t.size ≤ 30 * s.size := by rw [Lib.size_eq, htl]; exact esc_length s
  omega
theorem attrL_length (a : ByteArray × ByteArray) (h : a.1.size ≤ 1000 ∧ a.2.size ≤ 1000) : (attrL a).length ≤ 212004 := by
  have := escq_length a.2
  have h1 := Lib.size_eq a.1
  simp only [attrL, List.length_append, List.length_cons, List.length_nil]
  omega
theorem app_list (a b : ByteArray) : (a ++ b).data.toList = a.data.toList ++ b.data.toList := by simp [ByteArray.data_append]
theorem mk_list (l : List UInt8) : (⟨l.toArray⟩ : ByteArray).data.toList = l := rfl
theorem size_list (a : ByteArray) : a.size = a.data.toList.length := Lib.size_eq a
theorem bd_below {w w' : World} {b : Nat} {l : List UInt8} (h : Bd w b l) (hb : Below w.heap.size w w') : Bd w' b l := by
  have key : ∀ p, Lib.BuilderAtF 57 5 b b p (Lib.byteCells l) w → Lib.BuilderAtF 57 5 b b p (Lib.byteCells l) w' := by
    rintro p ⟨h1, v, h2, h3, h4⟩
    refine ⟨h1, v, (hb.block b (lt_of_block h2)).trans h2, ?_, h4⟩
    refine ⟨h3.1, ?_⟩
    rcases h3.2 with h' | ⟨g, cap, cur, fz, k1, k2, k3, k4⟩
    · exact .inl h'
    · exact .inr ⟨g, cap, cur, fz, k1, k2, (hb.block g (lt_of_block k3)).trans k3, k4⟩
  rcases h with h | h
  · exact Or.inl (key _ h)
  · exact Or.inr (key _ h)
set_option maxRecDepth 100000 in
set_option maxHeartbeats 4000000 in
theorem opening_any (m : Mn) (mx : Int) (w : World) (hm : w.cell? ⟨0, 0, none⟩ = some (.int .i64 mx)) (hA : AR w m.aA m.attrs) (hn : m.name.size ≤ 1000) (hl : m.attrs.length ≤ 100) (hs : ∀ a ∈ m.attrs, a.1.size ≤ 1000 ∧ a.2.size ≤ 1000) :
    Calls Tryd.prog 30 #[nval m] w (GivesV (.string ⟨(openL m).toArray⟩) w) := by
  have HA := Lib.hid hA
  have HM := Lib.hid hm
  have HS := Lib.hid hs
  have hg0 : 0 < w.heap.size := World.block_lt_of_cell? _ _ hm
  have HO : Hid (openL m = [60] ++ m.name.data.toList ++ m.attrs.flatMap attrL ++ [62]) := Lib.hid rfl
  generalize openL m = R at *
  obtain ⟨al, hal⟩ : ∃ al, m.attrs.length = al := ⟨_, rfl⟩
  have HAL := Lib.hid hal
  rw [hal] at hl
  clear hA hm hs
  unfold nval
  rw [hal]
  clear hal
  obtain ⟨W, hW⟩ : ∃ W, W = (w.alloc (.cells #[.int .i64 m.kind, .string m.name, .string m.text, .slice m.aA al m.aC, .int .i64 m.parent, .slice m.kA m.kids.length m.kC] 34)).alloc (.cells #[.pointer none, .slice none 0 0] 57) := ⟨_, rfl⟩
  have HWb : Hid (Below w.heap.size w W) := Lib.hid (by rw [hW]; exact ((Below.refl _ _).alloc (Nat.le_refl _) _).alloc (by simp) _)
  have HWk : Hid (W.heap[w.heap.size]? = some (.cells #[.int .i64 m.kind, .string m.name, .string m.text, .slice m.aA al m.aC, .int .i64 m.parent, .slice m.kA m.kids.length m.kC] 34 (0, 0))) := Lib.hid (by rw [hW, heap_alloc_old _ _ (by simp)]; exact heap_alloc_new _ _)
  have HWs : Hid (W.heap.size = w.heap.size + 2) := Lib.hid (by rw [hW]; simp)
  have HBd : Hid (Bd W (w.heap.size + 1) []) := Lib.hid (by
    have := bd_new (w.alloc (.cells #[.int .i64 m.kind, .string m.name, .string m.text, .slice m.aA al m.aC, .int .i64 m.parent, .slice m.kA m.kids.length m.kC] 34))
    rw [hW]
    simpa using this)
  obtain ⟨x0, x1, x2, x3, x4, x5⟩ := block6 HWk.out
  obtain ⟨s1, hs1⟩ : ∃ s1 : ByteArray, s1 = ⟨#[60]⟩ ++ m.name := ⟨_, rfl⟩
  have HS1 : Hid (s1.data.toList = [60] ++ m.name.data.toList) := Lib.hid (by rw [hs1, app_list])
  have hsz1 : s1.size ≤ 1001 := by
    rw [size_list, HS1.out, List.length_append, ← size_list]
    simp
    omega
  have HW1 := Lib.hid (ws_any (w.heap.size + 1) [] s1 W HBd.out (by have := HWs.out; omega) (by simp; omega))
  go_enter Tryd.func30, Tryd.ntmps30
  go_upto_region 2 with fail
  rw [← hW]
  clear hW
  go_wp2_with fail
  rw [← hs1]
  refine HW1.out.mono ?_
  rintro e w1 ⟨rfl, hbd, hb, hot⟩
  rw [HS1.out, List.nil_append] at hbd
  have HB1 := Lib.hid (HWb.out.trans (hb.mono (by omega)))
  have HBd1 := Lib.hid hbd
  have HK1 := Lib.hid ((hb.block w.heap.size (by omega)).trans HWk.out)
  have HZ1 : Hid (w.heap.size + 2 ≤ w1.heap.size) := Lib.hid (by have := hb.size; have := HWs.out; omega)
  clear hbd hb hot x0 x1 x2 x3 x4 x5 HW1 hs1
  obtain ⟨x0, x1, x2, x3, x4, x5⟩ := block6 HK1.out
  go_wp2_with fail
  clear x0 x1 x2 x3 x4 x5
  go_loopw [13] (fun q wr => ∃ j : Nat, j ≤ al ∧ q = .int .i64 j ∧ Hid (Bd wr (w.heap.size + 1) ([60] ++ m.name.data.toList ++ (m.attrs.take j).flatMap attrL)) ∧ Hid (((m.attrs.take j).flatMap attrL).length ≤ j * 212004) ∧ Hid (Below w.heap.size w wr) ∧ Hid (w.heap.size + 2 ≤ wr.heap.size)) (fun q _ => al - (intOf q).toNat)
  case atStart => exact ⟨0, Nat.zero_le _, rfl, Lib.hid (by simpa using HBd1.out), Lib.hid (by simp), HB1, HZ1⟩
  case round =>
    obtain ⟨j, hj, rfl, HBr, HLr, HB, HZ⟩ := hrel
    by_cases hlt : j < al
    · have k0 : (0 : Int) ≤ (j : Int) := by omega
      have k1 : (j : Int) < (al : Int) := by omega
      have hjl : j < m.attrs.length := by rw [HAL.out]; exact hlt
      obtain ⟨g, off, hAA, hg, hca, hcb⟩ := (HA.out.below HB.out) j hjl
      obtain ⟨hz1, hz2⟩ := HS.out (m.attrs.getD j default) (by rw [getD_at default hjl]; exact List.getElem_mem _)
      have HF2 : Hid ((m.attrs.take (j + 1)).flatMap attrL = (m.attrs.take j).flatMap attrL ++ attrL (m.attrs.getD j default)) := Lib.hid (by rw [take_more hjl, List.flatMap_append, getD_at default hjl]; simp)
      have HAl := Lib.hid (attrL_length (m.attrs.getD j default) ⟨hz1, hz2⟩)
      have HAe : Hid (attrL (m.attrs.getD j default) = [32] ++ (m.attrs.getD j default).1.data.toList ++ [61, 34] ++ escq (m.attrs.getD j default).2.data.toList ++ [34]) := Lib.hid rfl
      generalize m.attrs.getD j default = a at *
      obtain ⟨ax, ay⟩ := a
      simp only [] at *
      generalize m.aA = aA at *
      subst hAA
      go_upto_region 6 with fail
      obtain ⟨V, hV⟩ : ∃ V, V = wr.alloc (.cells #[.string ax, .string ay] 36) := ⟨_, rfl⟩
      rw [← hV]
      have hbV : Below wr.heap.size wr V := by rw [hV]; exact (Below.refl _ _).alloc (Nat.le_refl _) _
      have HVk : Hid (V.heap[wr.heap.size]? = some (.cells #[.string ax, .string ay] 36 (0, 0))) := Lib.hid (by rw [hV]; exact heap_alloc_new _ _)
      have HVb : Hid (Below w.heap.size w V) := Lib.hid (HB.out.trans (hbV.mono HB.out.size))
      have HVd : Hid (Bd V (w.heap.size + 1) ([60] ++ m.name.data.toList ++ (m.attrs.take j).flatMap attrL)) := Lib.hid (bd_below HBr.out hbV)
      have hsV := lt_of_block HVk.out
      have hzr := HZ.out
      clear hV hbV hca hcb
      have HCV : Hid (∀ w' : World, w'.heap[wr.heap.size]? = some (.cells #[.string ax, .string ay] 36 (0, 0)) → w'.cell? ⟨wr.heap.size, 0, none⟩ = some (.string ax) ∧ w'.cell? ⟨wr.heap.size, 1, none⟩ = some (.string ay)) := Lib.hid (fun w' h => block2 h)
      have HVkd : Hid (V.drew.heap[wr.heap.size]? = some (.cells #[.string ax, .string ay] 36 (0, 0))) := Lib.hid HVk.out
      obtain ⟨q1, hq1⟩ : ∃ q1 : ByteArray, q1 = ⟨(esc ay.data.toList).toArray⟩ := ⟨_, rfl⟩
      have hq1s : q1.size ≤ 30000 := by have := esc_length ay; rw [size_list, hq1]; show (esc ay.data.toList).length ≤ _; omega
      obtain ⟨q2, hq2⟩ : ∃ q2 : ByteArray, q2 = ⟨(escq ay.data.toList).toArray⟩ := ⟨_, rfl⟩
      have hc3 := count_le (s := q1) (old := ⟨#[34]⟩) (by decide)
      have HEs := Lib.hid (fun (X : World) (hX : X.cell? ⟨0, 0, none⟩ = some (.int .i64 mx)) => escaped_any ay mx X hX (by omega))
      rw [← hq1] at HEs
      have HRp : Hid (∀ (X : World), X.cell? ⟨0, 0, none⟩ = some (.int .i64 mx) → Calls Tryd.prog 45 #[.string q1, .string ⟨#[34]⟩, .string ⟨#[38, 113, 117, 111, 116, 59]⟩] X fun e w' => e = .returned (.string q2) ∧ Below X.heap.size X w') := Lib.hid (fun X hX => by
        have := Tryd.strings_ReplaceAll q1 ⟨#[34]⟩ ⟨#[38, 113, 117, 111, 116, 59]⟩ mx X (by omega) hX (by decide) (by show q1.size + Lib.countB q1 ⟨#[34]⟩ * 6 ≤ _; omega)
        rw [hq2, show escq ay.data.toList = Lib.replaceAll q1.data.toList [34] [38, 113, 117, 111, 116, 59] by rw [hq1]; rfl]
        exact this)
      obtain ⟨s3, hs3⟩ : ∃ s3 : ByteArray, s3 = (⟨#[32]⟩ ++ ax ++ ⟨#[61, 34]⟩ ++ q2 ++ ⟨#[34]⟩ : ByteArray) := ⟨_, rfl⟩
      have HS3 : Hid (s3.data.toList = attrL (ax, ay)) := Lib.hid (by rw [hs3, HAe.out, app_list, app_list, app_list, app_list, hq2])
      have hs3s : s3.size ≤ 212004 := by rw [size_list, HS3.out]; exact HAl.out
      have hLr := HLr.out
      have HWs3 := Lib.hid (fun (X : World) (h : Bd X (w.heap.size + 1) ([60] ++ m.name.data.toList ++ (m.attrs.take j).flatMap attrL)) (hX : w.heap.size + 1 ≤ X.heap.size) => ws_any (w.heap.size + 1) _ s3 X h hX (by
        rw [List.length_append, List.length_append, ← size_list]
        have h2 : j * 212004 ≤ 100 * 212004 := Nat.mul_le_mul_right _ (by omega)
        simp only [List.length_cons, List.length_nil]
        omega))
      have HMx : Hid (∀ X, Below w.heap.size w X → X.cell? ⟨0, 0, none⟩ = some (.int .i64 mx)) := Lib.hid (fun X hX => (hX.cell (p := ⟨0, 0, none⟩) hg0).trans HM.out)
      have HLn : Hid (((m.attrs.take (j + 1)).flatMap attrL).length ≤ (j + 1) * 212004) := Lib.hid (by
        rw [HF2.out, List.length_append, Nat.succ_mul]
        have := HAl.out
        omega)
      have hq2s : q2.size ≤ 210000 := by have := escq_length ay; rw [size_list, hq2]; show (escq ay.data.toList).length ≤ _; omega
      have hA1 : ∀ W, (Op.stringOp .add ⟨#[32]⟩ ax).run Tryd.prog W = .ok (.string (⟨#[32]⟩ ++ ax)) W := fun W => run_string_add_sum W _ _ (by show 1 + ax.size ≤ _; omega)
      have hA2 : ∀ W, (Op.stringOp .add (⟨#[32]⟩ ++ ax) ⟨#[61, 34]⟩).run Tryd.prog W = .ok (.string (⟨#[32]⟩ ++ ax ++ ⟨#[61, 34]⟩)) W := fun W => run_string_add_sum W _ _ (by rw [ByteArray.size_append]; show 1 + ax.size + 2 ≤ _; omega)
      have hA3 : ∀ W, (Op.stringOp .add (⟨#[32]⟩ ++ ax ++ ⟨#[61, 34]⟩) q2).run Tryd.prog W = .ok (.string (⟨#[32]⟩ ++ ax ++ ⟨#[61, 34]⟩ ++ q2)) W := fun W => run_string_add_sum W _ _ (by rw [ByteArray.size_append, ByteArray.size_append]; show 1 + ax.size + 2 + q2.size ≤ _; omega)
      have hA4 : ∀ W, (Op.stringOp .add (⟨#[32]⟩ ++ ax ++ ⟨#[61, 34]⟩ ++ q2) ⟨#[34]⟩).run Tryd.prog W = .ok (.string (⟨#[32]⟩ ++ ax ++ ⟨#[61, 34]⟩ ++ q2 ++ ⟨#[34]⟩)) W := fun W => run_string_add_sum W _ _ (by rw [ByteArray.size_append, ByteArray.size_append, ByteArray.size_append]; show 1 + ax.size + 2 + q2.size + 1 ≤ _; omega)
      have e1 : ¬ (9223372036854775807 < 1 + ax.size) := by omega
      have e2 : ¬ (9223372036854775807 < 1 + ax.size + 2) := by omega
      have e3 : ¬ (9223372036854775807 < 1 + ax.size + 2 + q2.size) := by omega
      have e4 : ¬ (9223372036854775807 < 1 + ax.size + 2 + q2.size + 1) := by omega
      clear hLr hc3 hq1 hq2
      go_region_held3 (fun w' => w'.cell? ⟨wr.heap.size, 0, none⟩ = some (.string ax) ∧ w'.cell? ⟨wr.heap.size, 1, none⟩ = some (.string ay))
        (first
          | with_reducible exact HCV.out _ HVkd.out
          | with_reducible exact HCV.out _ HK3.out
          | with_reducible exact HCV.out _ HK4.out
          | with_reducible exact HCV.out _ HK5.out)
        (first
          | (go_at_call 29
             refine (HEs.out V.drew (HMx.out _ HVb.out.drew)).mono ?_
             rintro e w3 ⟨rfl, hb3⟩
             have HB3 : Hid (Below w.heap.size w w3) := Lib.hid (HVb.out.drew.trans (hb3.mono HVb.out.size))
             have HK3 : Hid (w3.heap[wr.heap.size]? = some (.cells #[.string ax, .string ay] 36 (0, 0))) := Lib.hid ((hb3.block _ hsV).trans HVk.out)
             have HD3 := Lib.hid (bd_below HVd.out (((Below.refl _ _).drew).trans hb3))
             have hsz3 : V.heap.size ≤ w3.heap.size := hb3.size
             clear hb3)
          | (go_at_call 45
             refine (HRp.out w3 (HMx.out _ HB3.out)).mono ?_
             rintro e w4 ⟨rfl, hb4⟩
             have HB4 : Hid (Below w.heap.size w w4) := Lib.hid (HB3.out.trans (hb4.mono HB3.out.size))
             have HK4 : Hid (w4.heap[wr.heap.size]? = some (.cells #[.string ax, .string ay] 36 (0, 0))) := Lib.hid ((hb4.block _ (by omega)).trans HK3.out)
             have HD4 := Lib.hid (bd_below HD3.out hb4)
             have hsz4 : w3.heap.size ≤ w4.heap.size := hb4.size
             clear hb4)
          | (go_at_call 28
             rw [← hs3]
             refine (HWs3.out w4 HD4.out (by omega)).mono ?_
             rintro e w5 ⟨rfl, hbd, hb5, hot⟩
             have HB5 : Hid (Below w.heap.size w w5) := Lib.hid (HB4.out.trans (hb5.mono (by omega)))
             have HK5 : Hid (w5.heap[wr.heap.size]? = some (.cells #[.string ax, .string ay] 36 (0, 0))) := Lib.hid (hot _ _ HK4.out (by simp; omega) (fun c fz e => by cases e))
             have HD5 : Hid (Bd w5 (w.heap.size + 1) ([60] ++ m.name.data.toList ++ (m.attrs.take (j + 1)).flatMap attrL)) := Lib.hid (by rw [HS3.out, List.append_assoc, ← HF2.out] at hbd; exact hbd)
             have HZ5 : Hid (w.heap.size + 2 ≤ w5.heap.size) := Lib.hid (by have := hb5.size; omega)
             clear hbd hb5 hot))
      go_wp2
      go_roundw
      case rel => exact ⟨j + 1, by omega, by go_num, HD5, HLn, HB5, HZ5⟩
      case measure => simp [intOf] <;> omega
    · obtain rfl : j = al := by omega
      have et : m.attrs.take j = m.attrs := List.take_of_length_le (by rw [HAL.out]; exact Nat.le_refl _)
      rw [et] at HBr HLr
      have hLr := HLr.out
      have hzr := HZ.out
      have HWe := Lib.hid (ws_any (w.heap.size + 1) _ ⟨#[62]⟩ wr HBr.out (by omega) (by
        rw [List.length_append, List.length_append, ← size_list]
        have h2 : j * 212004 ≤ 100 * 212004 := Nat.mul_le_mul_right _ (by omega)
        show _ + 1 ≤ _
        simp only [List.length_cons, List.length_nil]
        omega))
      clear hLr
      go_wp2_with fail
      refine HWe.out.mono ?_
      rintro e w5 ⟨rfl, hbd, hb5, hot⟩
      have HB5 : Hid (Below w.heap.size w w5) := Lib.hid (HB.out.trans (hb5.mono (by omega)))
      have HSt := Lib.hid (str_any (w.heap.size + 1) _ w5 hbd (by have := hb5.size; omega))
      have HRe : Hid ((⟨([60] ++ m.name.data.toList ++ m.attrs.flatMap attrL ++ (⟨#[62]⟩ : ByteArray).data.toList).toArray⟩ : ByteArray) = ⟨R.toArray⟩) := Lib.hid (by rw [HO.out])
      rw [HRe.out] at HSt
      clear hbd hb5 hot HRe
      go_wp2_with fail
      refine HSt.out.mono ?_
      rintro e w6 ⟨rfl, hb6, -⟩
      have HB6 : Hid (Below w.heap.size w w6) := Lib.hid (HB5.out.trans (hb6.mono (by omega)))
      clear hb6
      go_wp2
      go_ret
      exact ⟨rfl, HB6.out⟩
end Go.Proofs.YtkcfpglmlhoiaaaDoor
