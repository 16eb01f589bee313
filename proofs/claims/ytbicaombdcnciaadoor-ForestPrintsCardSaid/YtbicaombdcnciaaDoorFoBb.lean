/-
  The law ForestPrints: the document's print is that of its kids, one behind the other; an element's begins and ends by its name.
-/
import Derived.Test.YtbicaombdcnciaaDoorFoV
import Derived.Test.YtbicaombdcnciaaDoorFoAc
import Derived.Test.YtbicaombdcnciaaDoorFoP
namespace Go.Proofs.YtbicaombdcnciaaDoor
open Go.ChangeShapes Go.WideShapes Go.ChangeAt Go.RowKit
set_option linter.unusedVariables false
set_option linter.unusedSimpArgs false

def ba (l : List UInt8) : ByteArray := ⟨l.toArray⟩
theorem ba_size (l : List UInt8) : (ba l).size = l.length := rfl
theorem ba_app (a b : List UInt8) : ba a ++ ba b = ba (a ++ b) := ByteArray.ext (by simp [ba, ByteArray.data_append])
theorem ba_data (s : ByteArray) : ba s.data.toList = s := rfl
theorem flat_take_succ {α β : Type} {l : List α} {d : α} {f : α → List β} {k : Nat} (hk : k < l.length) : (l.take (k + 1)).flatMap f = (l.take k).flatMap f ++ f (l.getD k d) := by
  have e : l.take (k + 1) = l.take k ++ [l.getD k d] := by
    rw [List.take_add_one, List.getElem?_eq_getElem hk, List.getD_eq_getElem?_getD, List.getElem?_eq_getElem hk]; rfl
  rw [e, List.flatMap_append]
  simp
theorem ext_left (a b : List UInt8) : (ba (a ++ b)).extract 0 a.length = ba a := by
  apply ByteArray.ext
  simp [ba, ByteArray.data_extract]
theorem ext_right (a b : List UInt8) : (ba (a ++ b)).extract a.length (a ++ b).length = ba b := by
  apply ByteArray.ext
  simp [ba, ByteArray.data_extract]
theorem printB_le {F : List Mn} (h : bdB F = true) (x : Int) : (printB F F.length x).length ≤ 21000000 := by
  rw [printB]
  split
  · rename_i e
    rw [Bool.and_eq_true, isB, decide_eq_true_eq] at e
    exact bd_pr h e.1 _ (by omega)
  · simp

set_option maxRecDepth 100000 in
set_option maxHeartbeats 8000000 in
theorem prints_law (A : Option Addr) (F : List Mn) (c : Nat) (mx : Int) (w : World) (hF : FR w A F) (hn : F.length ≤ 9223372036854775807) (hm : w.cell? ⟨0, 0, none⟩ = some (.int .i64 mx)) :
    Calls Tryd.prog 5 #[.slice A F.length c] w (GivesV (.bool true) w) := by
  have hg0 : 0 < w.heap.size := World.block_lt_of_cell? _ _ hm
  have HF := Lib.hid hF
  have HB := Lib.hid (bounded_any A F c w hF hn)
  have HS := Lib.hid (fun (V : World) (hb : Below w.heap.size w V) => shown_true mx V ((hb.cell (p := ⟨0, 0, none⟩) hg0).trans hm))
  have HM := Lib.hid (fun (V : World) (hb : Below w.heap.size w V) (h : bdB F = true) => may_any A F c V (hF.below hb) (bd_sz h))
  have HP : Hid (∀ (V : World) (hb : Below w.heap.size w V) (h : bdB F = true) (x : Int), Calls Tryd.prog 15 #[.slice A F.length c, .int .i64 x] V (GivesV (.string (ba (printB F F.length x))) V)) := Lib.hid (fun V hb h x => print_bd A F c x mx V (hF.below hb) h ((hb.cell (p := ⟨0, 0, none⟩) hg0).trans hm))
  have HPl := Lib.hid (fun (h : bdB F = true) (x : Int) => printB_le h x)
  have HPo := Lib.hid (fun (h : mayB F = true) (i : Nat) (hi : i < F.length) => print_open h hi)
  have HL : Hid (bdB F = true → F.length ≤ 70) := Lib.hid (fun h => bd_len h)
  have HNd := Lib.hid (fun (h : bdB F = true) (i : Nat) (hi : i < F.length) => bd_node h (List.getElem_mem hi))
  clear hF hm
  generalize printB F F.length = P at *
  generalize bdB F = BD at *
  generalize mayB F = MB at *
  obtain ⟨n, hnn⟩ : ∃ n, F.length = n := ⟨_, rfl⟩
  have HNN := Lib.hid hnn
  rw [hnn] at hn HB HM HP HL ⊢
  clear hnn
  go_enter Tryd.func5, Tryd.ntmps5
  go_wp2_with fail
  refine HB.out.mono ?_
  rintro e w' ⟨rfl, rfl⟩
  cases BD with
  | false =>
    go_wp2_with fail
    refine (HS.out w' (Below.refl _ _)).mono ?_
    rintro e w1 ⟨rfl, hb⟩
    have HB1 := Lib.hid hb
    clear hb
    go_wp2
    go_ret
    exact ⟨rfl, HB1.out⟩
  | true =>
  have hn70 := HL.out rfl
  go_wp2_with fail
  refine (HM.out w' (Below.refl _ _) (by first | rfl | trivial)).mono ?_
  rintro e w1 ⟨rfl, hb⟩
  have HB1 := Lib.hid hb
  clear hb
  cases MB with
  | false =>
    go_wp2_with fail
    refine (HS.out w1 HB1.out).mono ?_
    rintro e w2 ⟨rfl, hb⟩
    have HB2 := Lib.hid (HB1.out.trans (hb.mono HB1.out.size))
    clear hb
    go_wp2
    go_ret
    exact ⟨rfl, HB2.out⟩
  | true =>
  go_wp2_with fail
  refine (HS.out w1 HB1.out).mono ?_
  rintro e w2 ⟨rfl, hb⟩
  have HB2 := Lib.hid (HB1.out.trans (hb.mono HB1.out.size))
  clear hb
  go_wp2_with fail
  go_loopw [3] (fun q wr => ∃ j : Nat, j ≤ n ∧ q = .int .i64 j ∧ Hid (Below w2.heap.size w2 wr)) (fun q _ => n - (intOf q).toNat)
  case atStart => exact ⟨0, Nat.zero_le _, rfl, Lib.hid (Below.refl _ _)⟩
  case round =>
    obtain ⟨j, hj, rfl, HR⟩ := hrel
    by_cases hlt : j < n
    · have k0 : (0 : Int) ≤ (j : Int) := by omega
      have k1 : (j : Int) < (n : Int) := by omega
      have hjF : j < F.length := by rw [HNN.out]; exact hlt
      obtain ⟨hfj, g, off, rfl, hg, hnd⟩ := HF.out j F[j] (List.getElem?_eq_getElem hjF)
      have HNA := Lib.hid hnd
      have HNB := Lib.hid (HNd.out (by first | rfl | trivial) j hjF)
      have HOp := Lib.hid (HPo.out (by first | rfl | trivial) j hjF)
      clear hnd hfj
      generalize F[j] = m at *
      have hkl80 := HNB.out.2.2.2.1
      have hnm := HNB.out.1
      obtain ⟨kl, hkl⟩ : ∃ kl, m.kids.length = kl := ⟨_, rfl⟩
      have HKL := Lib.hid hkl
      rw [hkl] at hkl80
      clear hkl
      go_wp2_with fail
      go_loopw [4, 5] (fun q4 q5 wv => ∃ (wx : World) (i : Nat) (S : ByteArray), wx = wv ∧ i ≤ kl ∧ q4 = .string S ∧ q5 = .int .i64 i ∧ Hid (S = ba ((m.kids.take i).flatMap P)) ∧ Hid (Below w2.heap.size w2 wx)) (fun _ q5 _ => kl - (intOf q5).toNat)
      case atStart => exact ⟨_, 0, ⟨#[]⟩, rfl, Nat.zero_le _, rfl, rfl, Lib.hid rfl, HR⟩
      case round =>
        obtain ⟨wx, i, S, rfl, hi, rfl, rfl, HSS, HX⟩ := hrel
        have HBx := Lib.hid (HB2.out.trans (HX.out.mono HB2.out.size))
        have hnx := HNA.out.below hg HBx.out
        have c0 := hnx.c0
        have c1 := hnx.c1
        have c5 := hnx.c5
        rw [HKL.out] at c5
        have HIR := Lib.hid hnx.ir
        have hSz : S.size ≤ 21000000 * i := by
          rw [HSS.out, ba_size]
          have h1 := flat_le (C := 21000000) (f := P) (m.kids.take i) (fun x hx => HPl.out (by first | rfl | trivial) x)
          have h2 : (m.kids.take i).length ≤ i := by rw [List.length_take]; omega
          exact Nat.le_trans h1 (Nat.mul_le_mul_left _ h2)
        clear hnx
        by_cases hil : i < kl
        · have i0 : (0 : Int) ≤ (i : Int) := by omega
          have i1 : (i : Int) < (kl : Int) := by omega
          have hiK : i < m.kids.length := by rw [HKL.out]; exact hil
          obtain ⟨gk, ok, hkA, hgk, hck⟩ := HIR.out i hiK
          rw [hkA] at c5
          have HFl := Lib.hid (flat_take_succ (d := 0) (f := P) hiK)
          have HC := Lib.hid (HP.out wx HBx.out (by first | rfl | trivial) (m.kids.getD i 0))
          have HT1 := HPl.out (by first | rfl | trivial) (m.kids.getD i 0)
          generalize m.kids.getD i 0 = x at *
          obtain ⟨T, hT⟩ : ∃ T, T = ba (P x) := ⟨_, rfl⟩
          rw [← hT] at HC
          rw [← ba_size, ← hT] at HT1
          have HTT := Lib.hid hT
          clear hT hkA
          have hA : ∀ W, (Op.stringOp .add S T).run Tryd.prog W = .ok (.string (S ++ T)) W := fun W => run_string_add_sum W _ _ (by omega)
          go_wp2_with fail
          refine HC.out.mono ?_
          rintro e w4 ⟨rfl, hb⟩
          have HX4 := Lib.hid (HX.out.trans (hb.mono HX.out.size))
          clear hb
          have HS2 : Hid (S ++ T = ba ((m.kids.take (i + 1)).flatMap P)) := Lib.hid (by rw [HFl.out, HSS.out, HTT.out, ba_app])
          go_wp2
          go_roundw
          case rel => exact ⟨_, i + 1, S ++ T, rfl, by omega, rfl, by go_num, HS2, HX4⟩
          case measure => simp [intOf] <;> omega
        · obtain rfl : i = kl := by omega
          have e : m.kids.take i = m.kids := List.take_of_length_le (by rw [HKL.out]; exact Nat.le_refl _)
          rw [e] at HSS
          clear e
          have HC := Lib.hid (HP.out wx HBx.out (by first | rfl | trivial) j)
          obtain ⟨T, hT⟩ : ∃ T, T = ba (P j) := ⟨_, rfl⟩
          rw [← hT] at HC
          have HTT := Lib.hid (hT.trans (congrArg ba HOp.out))
          have hTl : T.size ≤ 21000000 := by rw [hT, ba_size]; exact HPl.out (by first | rfl | trivial) _
          clear hT
          go_wp2_with fail
          refine HC.out.mono ?_
          rintro e w4 ⟨rfl, hb⟩
          have HX4 := Lib.hid (HX.out.trans (hb.mono HX.out.size))
          have d0 := (hb.cell (p := ⟨g, off + j * 6, none⟩) (Nat.lt_of_lt_of_le hg HBx.out.size)).trans c0
          have d1 := (hb.cell (p := ⟨g, off + j * 6 + 1, none⟩) (Nat.lt_of_lt_of_le hg HBx.out.size)).trans c1
          clear hb c0 c1 c5
          by_cases hk0 : m.kind = 0
          · have hTS : T = S := by rw [HTT.out, HSS.out, hk0]; rfl
            subst hTS
            rw [hk0] at d0
            go_wp2
            go_roundw
            case rel => exact ⟨j + 1, by omega, by go_num, HX4⟩
            case measure => simp [intOf] <;> omega
          · by_cases hk1 : m.kind = 1
            · rw [hk1] at d0
              have hTS : T = ba (openL m ++ (m.kids.flatMap P ++ ([60, 47] ++ m.name.data.toList ++ [62]))) := by
                rw [HTT.out, hk1]
                show ba (openL m ++ m.kids.flatMap P ++ ([60, 47] ++ m.name.data.toList ++ [62])) = _
                rw [List.append_assoc]
              obtain ⟨E, hE⟩ : ∃ E, E = S ++ ⟨#[60, 47]⟩ ++ m.name ++ ⟨#[62]⟩ := ⟨_, rfl⟩
              have hEb : E = ba (m.kids.flatMap P ++ ([60, 47] ++ m.name.data.toList ++ [62])) := by
                rw [hE, HSS.out, ← ba_data m.name, show (⟨#[60, 47]⟩ : ByteArray) = ba [60, 47] from rfl, show (⟨#[62]⟩ : ByteArray) = ba [62] from rfl, ba_app, ba_app, ba_app]
                simp [ba_data]
              have hsz : T.size = (openL m).length + E.size := by rw [hTS, hEb, ba_size, ba_size, List.length_append]
              have hns : m.name.size = m.name.data.toList.length := size_list _
              have hol : m.name.size + 2 ≤ (openL m).length := by
                simp only [openL, List.length_append, List.length_cons, List.length_nil, hns]
                omega
              have hx1 : T.extract 0 (m.name.size + 1) = ⟨#[60]⟩ ++ m.name := by
                have e1 : openL m ++ (m.kids.flatMap P ++ ([60, 47] ++ m.name.data.toList ++ [62])) = ([60] ++ m.name.data.toList) ++ ((m.attrs.flatMap attrL ++ [62]) ++ (m.kids.flatMap P ++ ([60, 47] ++ m.name.data.toList ++ [62]))) := by
                  simp only [openL, List.append_assoc]
                have e2 := ext_left ([60] ++ m.name.data.toList) ((m.attrs.flatMap attrL ++ [62]) ++ (m.kids.flatMap P ++ ([60, 47] ++ m.name.data.toList ++ [62])))
                rw [← e1, ← hTS] at e2
                have e3 : ([60] ++ m.name.data.toList).length = m.name.size + 1 := by simp
                rw [e3] at e2
                rw [e2, ← ba_app]
                rfl
              have hx2 : T.extract (T.size - E.size) T.size = E := by
                have e2 : (ba (openL m ++ (m.kids.flatMap P ++ ([60, 47] ++ m.name.data.toList ++ [62])))).extract (openL m).length (ba (openL m ++ (m.kids.flatMap P ++ ([60, 47] ++ m.name.data.toList ++ [62])))).size = ba (m.kids.flatMap P ++ ([60, 47] ++ m.name.data.toList ++ [62])) := ext_right _ _
                rw [← hTS, ← hEb] at e2
                have e4 : (openL m).length = T.size - E.size := by omega
                rw [e4] at e2
                exact e2
              have HEb := Lib.hid hEb
              have HEq := Lib.hid hE
              clear hTS hEb hE HTT
              have hA : ∀ W, (Op.stringOp .add ⟨#[60]⟩ m.name).run Tryd.prog W = .ok (.string (⟨#[60]⟩ ++ m.name)) W := fun W => run_string_add_sum W _ _ (by show 1 + m.name.size ≤ _; omega)
              have hA1 : ∀ W, (Op.stringOp .add S ⟨#[60, 47]⟩).run Tryd.prog W = .ok (.string (S ++ ⟨#[60, 47]⟩)) W := fun W => run_string_add_sum W _ _ (by show S.size + 2 ≤ _; omega)
              have hA2 : ∀ W, (Op.stringOp .add (S ++ ⟨#[60, 47]⟩) m.name).run Tryd.prog W = .ok (.string (S ++ ⟨#[60, 47]⟩ ++ m.name)) W := fun W => run_string_add_sum W _ _ (by rw [ByteArray.size_append]; show S.size + 2 + m.name.size ≤ _; omega)
              have hA3 : ∀ W, (Op.stringOp .add (S ++ ⟨#[60, 47]⟩ ++ m.name) ⟨#[62]⟩).run Tryd.prog W = .ok (.string E) W := fun W => by rw [HEq.out]; exact run_string_add_sum W _ _ (by rw [ByteArray.size_append, ByteArray.size_append]; show S.size + 2 + m.name.size + 1 ≤ _; omega)
              generalize (openL m).length = ol at *
              have u1 : IntKind.i64.wrap ((m.name.size : Int) + 1) = (m.name.size : Int) + 1 := IntWalk.i64_in _ (by omega)
              have u2 : IntKind.i64.wrap ((m.name.size : Int) + 1 + (E.size : Int)) = (m.name.size : Int) + 1 + (E.size : Int) := IntWalk.i64_in _ (by omega)
              have u3 : IntKind.i64.wrap ((T.size : Int) - (E.size : Int)) = (T.size : Int) - (E.size : Int) := IntWalk.i64_in _ (by omega)
              have dd : decide ((T.size : Int) < (m.name.size : Int) + 1 + (E.size : Int)) = false := decide_eq_false (by omega)
              have hs1 : ∀ W, Sem.run Tryd.prog (Instr.slice 9 (.string T) none (some (.int .i64 ((m.name.size : Int) + 1))) none) W = .ok (.string (⟨#[60]⟩ ++ m.name)) W := fun W => by
                have := run_slice_string_h (P := Tryd.prog) (w := W) (t := 9) (s := T) Tryd.underlying9 .i64 ((m.name.size : Int) + 1) (by omega) (by omega)
                rw [show ((m.name.size : Int) + 1).toNat = m.name.size + 1 by omega, hx1] at this
                exact this
              have hs2 : ∀ W, Sem.run Tryd.prog (Instr.slice 9 (.string T) (some (.int .i64 ((T.size : Int) - (E.size : Int)))) none none) W = .ok (.string E) W := fun W => by
                have := run_slice_string_l (P := Tryd.prog) (w := W) (t := 9) (s := T) Tryd.underlying9 .i64 ((T.size : Int) - (E.size : Int)) (by omega) (by omega)
                rw [show ((T.size : Int) - (E.size : Int)).toNat = T.size - E.size by omega, hx2] at this
                exact this
              have HSZ := Lib.hid hsz
              clear hsz hns hol hx1 hx2 hk0 hk1 hSz hTl
              go_wp2_with fail
              go_quiet (fail)
              go_wp2
              go_roundw
              case rel => exact ⟨j + 1, by omega, by go_num, Lib.hid (below_drewN HX4.out _)⟩
              case measure => simp [intOf] <;> omega
            · go_wp2
              go_roundw
              case rel => exact ⟨j + 1, by omega, by go_num, HX4⟩
              case measure => simp [intOf] <;> omega
    · obtain rfl : j = n := by omega
      have HBe := Lib.hid (HB2.out.trans (HR.out.mono HB2.out.size))
      go_wp2
      go_ret
      exact ⟨rfl, HBe.out⟩

/-- The law, of what came in. -/
theorem prints_true {H : Type} {enc : TypeId × Value → H} {W : World} {base : Nat} {v0 : Value} {d0 : DataW H} {p0 : List MemPlace} (hm : ∃ mx, W.cell? ⟨0, 0, none⟩ = some (.int .i64 mx)) (o0 : Value.okWide Tryd.prog W .any base 23 v0)
    (h0 : DataW.Trod enc Tryd.prog W 0 (fun _ => true) true 23 v0 d0 p0) (l0 : ∀ x ∈ p0, x.block < W.heap.size) :
    Calls Tryd.prog 5 #[v0] W fun e w' => e = .returned (.bool true) ∧ Below W.heap.size W w' := by
  obtain ⟨mx, hm⟩ := hm
  obtain ⟨A, cap, F, rfl, h1, h2, hF⟩ := forest_open o0 h0 l0
  exact prints_law A F cap mx W hF (Nat.le_trans h1 h2) hm
end Go.Proofs.YtbicaombdcnciaaDoor
