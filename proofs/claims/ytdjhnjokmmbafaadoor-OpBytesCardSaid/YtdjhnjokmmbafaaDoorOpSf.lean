/-
  The reference's Decode.
-/
import Derived.Test.YtdjhnjokmmbafaaDoorOpSd
import Derived.Test.YtdjhnjokmmbafaaDoorOpZ
namespace Go.Proofs.YtdjhnjokmmbafaaDoor
open Go.ChangeShapes Go.WideShapes Go.ChangeAt Go.RowKit
set_option linter.unusedVariables false
set_option linter.unusedSimpArgs false

def lenOf : Value → Nat
  | .slice _ n _ => n
  | _ => 0
def oarr (o : Po) : Array Value := #[.int .i64 o.kind, .int .i64 o.id, .int .i64 o.dst, .int .i64 o.pos, .string o.name, .string o.text]
theorem set6 {U : World} {k : Nat} {cs : Array Value} {t : TypeId} (h : U.heap[k]? = some (.cells cs t (0, 0))) (f : Nat) (v : Value) : (U.setCell ⟨k, f, none⟩ v).heap[k]? = some (.cells (cs.setIfInBounds f v) t (0, 0)) := by
  simp [World.setCell, Array.getElem?_modify, h]
theorem set6_below {U : World} {k : Nat} (f : Nat) (v : Value) : Below k U (U.setCell ⟨k, f, none⟩ v) :=
  ⟨rfl, rfl, rfl, by simp [World.setCell], fun i hi => by simp [World.setCell, Array.getElem?_modify, show k ≠ i by omega]⟩
set_option maxRecDepth 100000 in
set_option maxHeartbeats 4000000 in
theorem rdecode_any (s : List UInt8) (w : World) (hl : s.length ≤ 400) :
    Calls Tryd.prog 19 #[.string (ba s)] w (DecT (decL 20 s) w) := by
  obtain ⟨i0, hI1, hI2, hI3, hI4⟩ := info_parts info_ro
  have HI1 := Lib.hid hI1
  have HI2 := Lib.hid hI2
  have HI3 := Lib.hid hI3
  have HI4 := Lib.hid hI4
  have hO : (w.alloc (.cells #[] 29)).ownsRow w.heap.size 29 6 (.slice (some ⟨w.heap.size, 0, none⟩) 0 0) 0 [] := World.ownsRow_made w #[] 0 (Nat.le_refl _) (by simp [maxLen]) rfl
  have HO := Lib.hid hO
  have HB0 : Hid (Below w.heap.size w (w.alloc (.cells #[] 29))) := Lib.hid ((Below.refl _ _).alloc (Nat.le_refl _) _)
  have HG0 : Hid (Goes s [] s) := Lib.hid (goes_start s)
  clear hO hI1 hI2 hI3 hI4
  go_enter Tryd.func19, Tryd.ntmps19
  go_wp2_with fail
  go_loopw [4, 5] (fun q4 q5 wv => ∃ (V : World) (l : List Po) (r : List UInt8) (R : ByteArray) (k : Nat), V = wv ∧ Hid (l.length = k) ∧ Hid (R = ba r) ∧ (∃ p cap, q4 = .slice p k cap ∧ Hid (V.ownsRow w.heap.size 29 6 (.slice p k cap) k (lcells l))) ∧ q5 = .string R ∧ k ≤ 21 ∧ Hid (Goes s l r) ∧ Hid (∀ o ∈ l, Fit o) ∧ r.length ≤ 400 ∧ Hid (Below w.heap.size w V)) (fun q4 _ _ => 22 - lenOf q4)
  case atStart => exact ⟨_, [], s, ba s, 0, rfl, Lib.hid rfl, Lib.hid rfl, ⟨_, _, rfl, HO⟩, rfl, by omega, HG0, Lib.hid (by simp), hl, HB0⟩
  case round =>
    obtain ⟨V, l, r, R, k, rfl, HLk, HRr, ⟨p, cap, rfl, HOw⟩, rfl, hk, HG, HFi, hr, HB⟩ := hrel
    cases r with
    | nil =>
      have e0 : R = ⟨#[]⟩ := HRr.out
      subst e0
      go_wp2_with fail
      have hol := own_ol (size := 6) (l := l) (by rw [HLk.out]; exact HOw.out) HFi.out
      obtain ⟨p2, cap2, hv, -, -, hol⟩ := hol
      have hpp : p2 = p ∧ cap2 = cap := by rw [HLk.out] at hv; injection hv with a1 a2 a3; exact ⟨a1.symm, a3.symm⟩
      obtain ⟨rfl, rfl⟩ := hpp
      have HE := rencode_any p2 l cap2 V hol (by rw [HLk.out]; omega)
      have HEnd : Hid (decL 20 s = if (encR l).2 = 0 ∧ (encR l).1 = s then some l else none) := Lib.hid (goes_end HG.out (.inl rfl) HFi.out)
      have HOL := Lib.hid hol
      have HMay := Lib.hid (fun h : (encR l).2 = 0 => (encR_ok h).2.2)
      rw [HLk.out] at HE
      have HXX : Hid ((encR l).1 = s ↔ ba (encR l).1 = ba s) := Lib.hid ⟨fun h => by rw [h], fun h => by have := congrArg (fun x : ByteArray => x.data.toList) h; exact this⟩
      obtain ⟨X, hX⟩ : ∃ X, X = ba (encR l).1 := ⟨_, rfl⟩
      obtain ⟨Y, hY⟩ : ∃ Y, Y = (encR l).2 := ⟨_, rfl⟩
      obtain ⟨T, hT⟩ : ∃ T, T = ba s := ⟨_, rfl⟩
      rw [← hX, ← hT] at HXX
      rw [← hY] at HMay HEnd
      rw [← hX, ← hY] at HE
      rw [← hT]
      clear hol hv hX hY hT
      refine HE.mono ?_
      rintro e w2 ⟨rfl, hb⟩
      have HB2 : Hid (Below w.heap.size w w2) := Lib.hid (HB.out.trans (hb.mono HB.out.size))
      have HOL2 := Lib.hid (HOL.out.below hb)
      clear hb HE
      by_cases hY0 : Y = 0
      · have y1 : (Y != 0) = false := by simp [hY0]
        by_cases hXT : X = T
        · have x1 : (X.toList == T.toList) = true := str_same hXT
          have x2 : (X.toList != T.toList) = false := by simp [bne, x1]
          have HD : Hid (decL 20 s = some l) := Lib.hid (by rw [HEnd.out, if_pos ⟨hY0, HXX.out.2 hXT⟩])
          have HM2 := Lib.hid (HMay.out hY0)
          clear hY0 hXT
          go_wp2
          go_ret2
          unfold DecT
          rw [HD.out]
          exact ⟨⟨p2, cap2, by rw [HLk.out]; rfl, HOL2.out, HM2.out⟩, HB2.out⟩
        · have x1 : (X.toList == T.toList) = false := str_other hXT
          have x2 : (X.toList != T.toList) = true := by simp [bne, x1]
          have HD : Hid (decL 20 s = none) := Lib.hid (by rw [HEnd.out, if_neg (fun h => hXT (HXX.out.1 h.2))])
          clear hY0 hXT
          go_wp2
          go_ret2
          unfold DecT
          rw [HD.out]
          exact ⟨rfl, HB2.out⟩
      · have y1 : (Y != 0) = true := by simp [hY0]
        have HD : Hid (decL 20 s = none) := Lib.hid (by rw [HEnd.out, if_neg (fun h => hY0 h.1)])
        clear hY0
        go_wp2
        go_ret2
        unfold DecT
        rw [HD.out]
        exact ⟨rfl, HB2.out⟩
    | cons b t =>
      have hsz : 0 < R.size := by rw [HRr.out, ba_size, List.length_cons]; omega
      have hsz' : (0 : Int) < (R.size : Int) := by omega
      have hE := not_empty R hsz
      have hF := not_nil R hsz
      have hg := PlainAid.get_bt R
      have hbt : PlainAid.bt R 0 = (b.toNat : Int) := by rw [HRr.out]; exact bt_head b t
      by_cases h20 : k ≤ 20
      · have h20' : (k : Int) ≤ 20 := by omega
        obtain ⟨kd, hkd⟩ : ∃ kd : Int, kd = (b.toNat : Int) := ⟨_, rfl⟩
        have hkb : 0 ≤ kd ∧ kd ≤ 255 := by have := b.toNat_lt; omega
        obtain ⟨hk0, hk1⟩ := hkb
        obtain ⟨Rt, hRt⟩ : ∃ Rt, Rt = ba t := ⟨_, rfl⟩
        have hs2 : ∀ W, Sem.run Tryd.prog (Instr.slice 9 (.string R) (some (.int .i64 1)) none none) W = .ok (.string Rt) W := fun W => by
          have := run_slice_string_l (P := Tryd.prog) (w := W) (t := 9) (s := R) Tryd.underlying9 .i64 1 (by omega) (by omega)
          rw [HRr.out, ba_drop] at this
          rw [HRr.out, hRt]
          exact this
        have HKd := Lib.hid hkd
        have HRt := Lib.hid hRt
        rw [← hkd] at hbt
        clear hkd hRt
        have HH := Lib.hid (fun V => has_any kd V)
        go_wp2_with fail
        obtain ⟨W, hW⟩ : ∃ W, W = V.alloc (.cells #[.int .i64 kd, .int .i64 0, .int .i64 0, .int .i64 0, .string ⟨#[]⟩, .string ⟨#[]⟩] 29) := ⟨_, rfl⟩
        have HWB : Hid (Below V.heap.size V W) := Lib.hid (by rw [hW]; exact (Below.refl _ _).alloc (Nat.le_refl _) _)
        have HWk : Hid (W.heap[V.heap.size]? = some (.cells (oarr ⟨kd, 0, 0, 0, ba [], ba []⟩) 29 (0, 0))) := Lib.hid (by rw [hW]; exact heap_alloc_new _ _)
        rw [← hW]
        clear hW
        refine (HH.out W).mono ?_
        rintro e w' ⟨rfl, hw⟩
        obtain rfl := hw.symm
        obtain ⟨hs, hhs⟩ : ∃ hs, hs = hasS kd := ⟨_, rfl⟩
        obtain ⟨n, hn⟩ : ∃ n, n = hs.size := ⟨_, rfl⟩
        have HSn : Hid (n = (hasL kd).length) := Lib.hid (by rw [hn, hhs, hasL_size])
        have hn3 : n ≤ 3 := by rw [HSn.out]; exact hasL_three kd
        have HAt := Lib.hid (hasL_at kd)
        rw [← hhs] at HAt
        have hgs := PlainAid.get_bt hs
        have HR0 : Hid (lrun ((hasL kd).drop 0) ⟨kd, 0, 0, 0, ba [], ba []⟩ t = loose1 (b :: t)) := Lib.hid (by rw [loose_run, HKd.out]; rfl)
        rw [← hhs]
        clear hhs
        have hsi : (hs.size : Int) = (n : Int) := by omega
        have HSi := Lib.hid hsi
        have HN := Lib.hid hn
        clear hsi
        go_wp2_with fail
        go_loopw [5, 8] (fun q5 q8 wv => ∃ (U : World) (j : Nat) (o : Po) (r2 : List UInt8) (R2 : ByteArray), U = wv ∧ j ≤ hs.size ∧ q8 = .int .i64 j ∧ Hid (R2 = ba r2) ∧ q5 = .string R2 ∧ r2.length ≤ 400 ∧ Hid (U.heap[V.heap.size]? = some (.cells (oarr o) 29 (0, 0))) ∧ Hid (lrun ((hasL kd).drop j) o r2 = loose1 (b :: t)) ∧ Hid (Below V.heap.size V U)) (fun _ q8 _ => hs.size - (intOf q8).toNat)
        case atStart => exact ⟨_, 0, _, t, Rt, rfl, Nat.zero_le _, rfl, HRt, rfl, by simp at hr; omega, HWk, HR0, HWB⟩
        case round =>
          obtain ⟨U, j, o, r2, R2, rfl, hj, rfl, HR2, rfl, hr2, HBk, HRun, HBU⟩ := hrel
          by_cases hlt : j < hs.size
          · have j0 : (0 : Int) ≤ (j : Int) := by omega
            have j1 : (j : Int) < (hs.size : Int) := by omega
            have hjl : j < (hasL kd).length := by rw [← HSn.out]; omega
            obtain ⟨hbc, hc5⟩ := HAt.out j _ (List.getElem?_eq_getElem hjl)
            have HDr := Lib.hid (List.drop_eq_getElem_cons hjl)
            generalize (hasL kd)[j] = c at *
            cases hp : piece r2 with
            | none =>
              have HP := Lib.hid (rpiece_none r2 U hp (by omega))
              rw [← HR2.out] at HP
              have HD : Hid (decL 20 s = none) := Lib.hid (goes_short HG.out (by simp) (by rw [← HRun.out, HDr.out, lrun, hp]; rfl))
              clear hp
              go_wp2_with fail
              refine HP.out.mono ?_
              rintro e w2 ⟨rfl, hb⟩
              have HB2 : Hid (Below w.heap.size w w2) := Lib.hid ((HB.out.trans (HBU.out.mono HB.out.size)).trans (hb.mono (Nat.le_trans HB.out.size HBU.out.size)))
              clear hb
              go_wp2
              go_ret2
              unfold DecT
              rw [HD.out]
              exact ⟨rfl, HB2.out⟩
            | some x =>
              obtain ⟨p1, r3⟩ := x
              have HP := Lib.hid (rpiece_some r2 p1 r3 U hp (by omega))
              rw [← HR2.out] at HP
              obtain ⟨b1, q1, hp1, hq1, hsp⟩ := piece_some hp
              have hp1l : p1.length ≤ 256 ∧ 1 ≤ p1.length := by rw [hp1, List.length_cons]; have := b1.toNat_lt; omega
              have hr3 : r3.length ≤ 400 := by have := congrArg List.length hsp; rw [List.length_append] at this; omega
              have HRun2 : Hid (lrun ((hasL kd).drop (j + 1)) (setF c o p1) r3 = loose1 (b :: t)) := Lib.hid (by rw [← HRun.out, HDr.out, lrun, hp]; rfl)
              have HBack := Lib.hid (fun V => rback_p p1 V (by omega))
              have HZag : Hid (∀ V, Calls Tryd.prog 42 #[.int .u64 (if goodB p1 then uOf (ba p1) else 0)] V fun e w' => e = .returned (.int .i64 (numP p1)) ∧ V = w') := Lib.hid (fun V => by
                obtain ⟨z0, z1⟩ := uOf_bounds (ba p1)
                exact refzag_any _ V (by split <;> omega) (by split <;> omega))
              obtain ⟨P1, hP1⟩ : ∃ P, P = ba p1 := ⟨_, rfl⟩
              obtain ⟨Q1, hQ1⟩ : ∃ P, P = ba (p1.drop 1) := ⟨_, rfl⟩
              obtain ⟨R3, hR3⟩ : ∃ P, P = ba r3 := ⟨_, rfl⟩
              have hPs : 1 ≤ P1.size := by rw [hP1, ba_size]; omega
              have hs3 : ∀ W, Sem.run Tryd.prog (Instr.slice 9 (.string P1) (some (.int .i64 1)) none none) W = .ok (.string Q1) W := fun W => by
                have := run_slice_string_l (P := Tryd.prog) (w := W) (t := 9) (s := P1) Tryd.underlying9 .i64 1 (by omega) (by omega)
                rw [hP1, ba_drop] at this
                rw [hP1, hQ1]
                exact this
              rw [← hP1, ← hR3] at HP
              generalize (if goodB p1 then uOf (ba p1) else 0) = u1 at HBack HZag
              generalize goodB p1 = g1 at HBack
              rw [← hP1] at HBack
              have HR3 := Lib.hid hR3
              have HQ1 := Lib.hid hQ1
              obtain ⟨z1, hz1⟩ : ∃ z, z = numP p1 := ⟨_, rfl⟩
              rw [← hz1] at HZag
              have HZ1 := Lib.hid hz1
              clear hp hp1 hq1 hsp hP1 hQ1 hR3 hz1 hp1l
              go_wp2_with fail
              refine HP.out.mono ?_
              rintro e U1 ⟨rfl, hb⟩
              have HB1 : Hid (Below V.heap.size V U1) := Lib.hid (HBU.out.trans (hb.mono HBU.out.size))
              have HK1 : Hid (U1.heap[V.heap.size]? = some (.cells (oarr o) 29 (0, 0))) := Lib.hid ((hb.block _ (lt_of_block HBk.out)).trans HBk.out)
              clear hb
              go_wp2_with fail
              refine (HBack.out U1).mono ?_
              rintro e U2 ⟨rfl, hb⟩
              have HB2 : Hid (Below V.heap.size V U2) := Lib.hid (HB1.out.trans (hb.mono HB1.out.size))
              have HK2 : Hid (U2.heap[V.heap.size]? = some (.cells (oarr o) 29 (0, 0))) := Lib.hid ((hb.block _ (lt_of_block HK1.out)).trans HK1.out)
              clear hb
              go_wp2_with fail
              refine (HZag.out U2).mono ?_
              rintro e U3 ⟨rfl, hw⟩
              obtain rfl := hw
              obtain ⟨x0, x1, x2, x3, x4, x5⟩ := block6 HK2.out
              have fz : ∀ f, U2.frozen? ⟨V.heap.size, f, none⟩ = false := fun f => by simp [World.frozen?, HK2.out]
              rcases hc5 with rfl | rfl | rfl | rfl | rfl
              · have HN6 : Hid ((U2.setCell ⟨V.heap.size, 1, none⟩ (.int .i64 z1)).heap[V.heap.size]? = some (.cells (oarr (setF 105 o p1)) 29 (0, 0))) := Lib.hid (by have := set6 HK2.out 1 (.int .i64 z1); rw [HZ1.out] at this ⊢; exact this)
                have HNB : Hid (Below V.heap.size V (U2.setCell ⟨V.heap.size, 1, none⟩ (.int .i64 z1))) := Lib.hid (HB2.out.trans (set6_below 1 (.int .i64 z1)))
                have fz1 := fz 1
                clear fz
                go_wp2
                go_roundw
                case rel => exact ⟨_, j + 1, _, r3, R3, rfl, by omega, by go_num, HR3, rfl, hr3, HN6, HRun2, HNB⟩
                case measure => simp [intOf] <;> omega
              · have HN6 : Hid ((U2.setCell ⟨V.heap.size, 2, none⟩ (.int .i64 z1)).heap[V.heap.size]? = some (.cells (oarr (setF 116 o p1)) 29 (0, 0))) := Lib.hid (by have := set6 HK2.out 2 (.int .i64 z1); rw [HZ1.out] at this ⊢; exact this)
                have HNB : Hid (Below V.heap.size V (U2.setCell ⟨V.heap.size, 2, none⟩ (.int .i64 z1))) := Lib.hid (HB2.out.trans (set6_below 2 (.int .i64 z1)))
                have fz1 := fz 2
                clear fz
                go_wp2
                go_roundw
                case rel => exact ⟨_, j + 1, _, r3, R3, rfl, by omega, by go_num, HR3, rfl, hr3, HN6, HRun2, HNB⟩
                case measure => simp [intOf] <;> omega
              · have HN6 : Hid ((U2.setCell ⟨V.heap.size, 3, none⟩ (.int .i64 z1)).heap[V.heap.size]? = some (.cells (oarr (setF 97 o p1)) 29 (0, 0))) := Lib.hid (by have := set6 HK2.out 3 (.int .i64 z1); rw [HZ1.out] at this ⊢; exact this)
                have HNB : Hid (Below V.heap.size V (U2.setCell ⟨V.heap.size, 3, none⟩ (.int .i64 z1))) := Lib.hid (HB2.out.trans (set6_below 3 (.int .i64 z1)))
                have fz1 := fz 3
                clear fz
                go_wp2
                go_roundw
                case rel => exact ⟨_, j + 1, _, r3, R3, rfl, by omega, by go_num, HR3, rfl, hr3, HN6, HRun2, HNB⟩
                case measure => simp [intOf] <;> omega
              · have HN6 : Hid ((U2.setCell ⟨V.heap.size, 4, none⟩ (.string Q1)).heap[V.heap.size]? = some (.cells (oarr (setF 110 o p1)) 29 (0, 0))) := Lib.hid (by have := set6 HK2.out 4 (.string Q1); rw [HQ1.out] at this ⊢; exact this)
                have HNB : Hid (Below V.heap.size V (U2.setCell ⟨V.heap.size, 4, none⟩ (.string Q1))) := Lib.hid (HB2.out.trans (set6_below 4 (.string Q1)))
                have fz1 := fz 4
                clear fz
                go_wp2
                go_roundw
                case rel => exact ⟨_, j + 1, _, r3, R3, rfl, by omega, by go_num, HR3, rfl, hr3, HN6, HRun2, HNB⟩
                case measure => simp [intOf] <;> omega
              · have HN6 : Hid ((U2.setCell ⟨V.heap.size, 5, none⟩ (.string Q1)).heap[V.heap.size]? = some (.cells (oarr (setF 120 o p1)) 29 (0, 0))) := Lib.hid (by have := set6 HK2.out 5 (.string Q1); rw [HQ1.out] at this ⊢; exact this)
                have HNB : Hid (Below V.heap.size V (U2.setCell ⟨V.heap.size, 5, none⟩ (.string Q1))) := Lib.hid (HB2.out.trans (set6_below 5 (.string Q1)))
                have fz1 := fz 5
                clear fz
                go_wp2
                go_roundw
                case rel => exact ⟨_, j + 1, _, r3, R3, rfl, by omega, by go_num, HR3, rfl, hr3, HN6, HRun2, HNB⟩
                case measure => simp [intOf] <;> omega
          · have hje : j = (hasL kd).length := by rw [← HSn.out]; omega
            have HLo : Hid (loose1 (b :: t) = some (o, r2)) := Lib.hid (by rw [← HRun.out, hje, List.drop_length]; rfl)
            have HG2 : Hid (Goes s (l ++ [o]) r2) := Lib.hid (goes_next HG.out (by simp) HLo.out)
            have HF2 : Hid (∀ x ∈ l ++ [o], Fit x) := Lib.hid (fun x hx => by
              rcases List.mem_append.1 hx with h | h
              · exact HFi.out x h
              · rw [List.mem_singleton.1 h]; exact loose_fit HLo.out)
            have HL : Hid (lcells l ++ ocells o = lcells (l ++ [o])) := Lib.hid (by rw [lcells, lcells, List.flatMap_append]; simp)
            have HLk2 : Hid ((l ++ [o]).length = k + 1) := Lib.hid (by rw [List.length_append, HLk.out]; rfl)
            obtain ⟨x0, x1, x2, x3, x4, x5⟩ := block6 HBk.out
            have HOU := Lib.hid (own_below HOw.out HBU.out)
            have HBw : Hid (Below w.heap.size w U) := Lib.hid (HB.out.trans (HBU.out.mono HB.out.size))
            clear hje
            go_wp2_with (at_builtin; refine wpList_append_own_at _ rfl _ _ 36 rfl w.heap.size 29 i0 _ 6 64 Tryd.underlying36 HI1.out HI2.out HI3.out HI4.out rfl (by decide) _ _ _ rfl (HOU.out.alloc _) ⟨U.heap.size, 0, none⟩ 1 1 (ocells o) rfl rfl (six_new _ _ _) (fun u hu => lcells_one [o] u (by simpa [lcells] using hu)) (by unfold maxLen; omega) (by omega) (by have := HBw.out.size; simp; omega) ?_; intro v' w4 hown' hgrow _ hat; have HOx := Lib.hid hown'; have HGr := Lib.hid hgrow; clear hown' hgrow hat)
            have hOx := HOx.out
            rw [HL.out] at hOx
            obtain ⟨p', cap', rfl⟩ : ∃ p' cap', v' = .slice p' (k + 1) cap' := by
              rcases hOx.2 with ⟨-, h⟩ | ⟨g, cap', cur, h, -⟩
              · omega
              · exact ⟨_, _, h⟩
            refine ⟨⟨w4, l ++ [o], r2, R2, k + 1, rfl, HLk2, HR2, ⟨p', cap', rfl, Lib.hid hOx⟩, rfl, by omega, HG2, HF2, hr2, Lib.hid ?_⟩, ?_⟩
            · exact (HBw.out.alloc HBw.out.size _).grown HGr.out (by have := HBw.out.size; simp; omega) (own_base HOU.out)
            · simp [lenOf] <;> omega
      · have h20' : ¬ (k : Int) ≤ 20 := by omega
        go_wp2_with fail
        have hol := own_ol (size := 6) (l := l) (by rw [HLk.out]; exact HOw.out) HFi.out
        obtain ⟨p2, cap2, hv, -, -, hol⟩ := hol
        have hpp : p2 = p ∧ cap2 = cap := by rw [HLk.out] at hv; injection hv with a1 a2 a3; exact ⟨a1.symm, a3.symm⟩
        obtain ⟨rfl, rfl⟩ := hpp
        have HE := rencode_any p2 l cap2 V hol (by rw [HLk.out]; omega)
        have HEnd : Hid (decL 20 s = if (encR l).2 = 0 ∧ (encR l).1 = s then some l else none) := Lib.hid (goes_end HG.out (.inr (by rw [HLk.out]; omega)) HFi.out)
        have HOL := Lib.hid hol
        have HMay := Lib.hid (fun h : (encR l).2 = 0 => (encR_ok h).2.2)
        rw [HLk.out] at HE
        have HXX : Hid ((encR l).1 = s ↔ ba (encR l).1 = ba s) := Lib.hid ⟨fun h => by rw [h], fun h => by have := congrArg (fun x : ByteArray => x.data.toList) h; exact this⟩
        obtain ⟨X, hX⟩ : ∃ X, X = ba (encR l).1 := ⟨_, rfl⟩
        obtain ⟨Y, hY⟩ : ∃ Y, Y = (encR l).2 := ⟨_, rfl⟩
        obtain ⟨T, hT⟩ : ∃ T, T = ba s := ⟨_, rfl⟩
        rw [← hX, ← hT] at HXX
        rw [← hY] at HMay HEnd
        rw [← hX, ← hY] at HE
        rw [← hT]
        clear hol hv hX hY hT
        refine HE.mono ?_
        rintro e w2 ⟨rfl, hb⟩
        have HB2 : Hid (Below w.heap.size w w2) := Lib.hid (HB.out.trans (hb.mono HB.out.size))
        have HOL2 := Lib.hid (HOL.out.below hb)
        clear hb HE
        by_cases hY0 : Y = 0
        · have y1 : (Y != 0) = false := by simp [hY0]
          by_cases hXT : X = T
          · have x1 : (X.toList == T.toList) = true := str_same hXT
            have x2 : (X.toList != T.toList) = false := by simp [bne, x1]
            have HD : Hid (decL 20 s = some l) := Lib.hid (by rw [HEnd.out, if_pos ⟨hY0, HXX.out.2 hXT⟩])
            have HM2 := Lib.hid (HMay.out hY0)
            clear hY0 hXT
            go_wp2
            go_ret2
            unfold DecT
            rw [HD.out]
            exact ⟨⟨p2, cap2, by rw [HLk.out]; rfl, HOL2.out, HM2.out⟩, HB2.out⟩
          · have x1 : (X.toList == T.toList) = false := str_other hXT
            have x2 : (X.toList != T.toList) = true := by simp [bne, x1]
            have HD : Hid (decL 20 s = none) := Lib.hid (by rw [HEnd.out, if_neg (fun h => hXT (HXX.out.1 h.2))])
            clear hY0 hXT
            go_wp2
            go_ret2
            unfold DecT
            rw [HD.out]
            exact ⟨rfl, HB2.out⟩
        · have y1 : (Y != 0) = true := by simp [hY0]
          have HD : Hid (decL 20 s = none) := Lib.hid (by rw [HEnd.out, if_neg (fun h => hY0 h.1)])
          clear hY0
          go_wp2
          go_ret2
          unfold DecT
          rw [HD.out]
          exact ⟨rfl, HB2.out⟩
end Go.Proofs.YtdjhnjokmmbafaaDoor
