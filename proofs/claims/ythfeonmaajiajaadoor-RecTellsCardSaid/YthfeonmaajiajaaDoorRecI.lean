/-
  Lists of words compared; Text.
-/
import Derived.Test.YthfeonmaajiajaaDoorRecH
namespace Go.Proofs.YthfeonmaajiajaaDoor
open Go.ChangeShapes Go.WideShapes Go.ChangeAt Go.RowKit
open Rm
set_option linter.unusedVariables false
set_option linter.unusedSimpArgs false

/-- Numbers of 64 bits. -/
def U64 (l : List Int) : Prop := ∀ x ∈ l, 0 ≤ x ∧ x ≤ 18446744073709551615
theorem gat {w : World} {A : Option Addr} {l : List Int} (h : LV w A (gvs l)) {j : Nat} (hj : j < l.length) : ∃ g off, A = some ⟨g, off, none⟩ ∧ g < w.heap.size ∧ w.cell? ⟨g, off + j, none⟩ = some (.int .u64 l[j]) := by
  obtain ⟨g, off, e, hg, hc⟩ := h.at_ (j := j) (by rw [gvs_length]; exact hj)
  exact ⟨g, off, e, hg, by rw [hc, gvs_at hj]⟩
set_option maxHeartbeats 1000000 in
theorem equal_any (A B : Option Addr) (n m ca cb : Nat) (l k : List Int) (w : World) (hA : LV w A (gvs l)) (hB : LV w B (gvs k)) (hn : l.length = n) (hm : k.length = m) (hn1 : n ≤ 1000000) (hm1 : m ≤ 1000000) :
    Calls Tryd.prog 23 #[.slice A n ca, .slice B m cb] w fun e w' => e = .returned (.bool (decide (l = k))) ∧ Below w.heap.size w w' := by
  by_cases hnm : n = m
  · subst hnm
    have HA := Lib.hid hA
    have HB := Lib.hid hB
    have HN := Lib.hid hn
    have HM := Lib.hid hm
    clear hA hB hn hm
    have hne : ((n : Int) != (n : Int)) = false := by simp
    go_enter Tryd.func23, Tryd.ntmps23
    go_wp2
    go_loopw [13] (fun i wr => ∃ q : Nat, q ≤ n ∧ i = .int .i64 q ∧ Hid (l.take q = k.take q) ∧ Hid (∃ d, wr = w.drewN d)) (fun i _ => n - (intOf i).toNat)
    case atStart => exact ⟨0, Nat.zero_le _, rfl, Lib.hid (by simp), Lib.hid ⟨0, rfl⟩⟩
    case round =>
      obtain ⟨q, hq, rfl, HE, hd⟩ := hrel
      obtain ⟨d, rfl⟩ := hd.out
      by_cases hlt : q < n
      · have hl : q < l.length := by rw [HN.out]; exact hlt
        have hk : q < k.length := by rw [HM.out]; exact hlt
        obtain ⟨g, o, rfl, hg, hc⟩ := gat HA.out hl
        obtain ⟨g', o', rfl, hg', hc'⟩ := gat HB.out hk
        have HS1 := Lib.hid (List.take_succ_eq_append_getElem hl)
        have HS2 := Lib.hid (List.take_succ_eq_append_getElem hk)
        have HNE : Hid (l[q] ≠ k[q] → l ≠ k) := Lib.hid (fun h e => by subst e; exact h rfl)
        generalize l[q] = x at *
        generalize k[q] = y at *
        by_cases hx : x = y
        · subst hx
          have hb : (x != x) = false := by simp
          go_wp2
          go_quiet (fail)
          go_wp2
          go_roundw
          case rel => exact ⟨q + 1, by omega, by go_num, Lib.hid (by rw [HS1.out, HS2.out, HE.out]), Lib.hid ⟨d + nq, by simp⟩⟩
          case measure => simp [intOf]; omega
        · have hb : (x != y) = true := by simpa using hx
          have HX := Lib.hid hx
          clear hx
          go_wp2
          go_quiet (fail)
          go_wp2
          go_ret
          exact ⟨ret_bool (decide_eq_false (HNE.out HX.out)).symm, bdrewN (bdrewN (Below.refl _ _) d) nq⟩
      · go_wp2
        go_ret
        refine ⟨ret_bool (decide_eq_true ?_).symm, bdrewN (Below.refl _ _) d⟩
        have := HE.out
        rwa [List.take_of_length_le (by rw [HN.out]; omega), List.take_of_length_le (by rw [HM.out]; omega)] at this
  · have hne : ((n : Int) != (m : Int)) = true := by simp; omega
    have HN := Lib.hid hn
    have HM := Lib.hid hm
    clear hn hm
    go_enter Tryd.func23, Tryd.ntmps23
    go_wp2
    go_ret
    exact ⟨ret_bool (decide_eq_false (fun e => hnm (by rw [← HN.out, ← HM.out, e]))).symm, Below.refl _ _⟩

theorem sp_bb (x : Int) (j : Nat) (hj : j < 8) : sp bb x j = byt x j := by
  have : j = 0 ∨ j = 1 ∨ j = 2 ∨ j = 3 ∨ j = 4 ∨ j = 5 ∨ j = 6 ∨ j = 7 := by omega
  rcases this with rfl | rfl | rfl | rfl | rfl | rfl | rfl | rfl <;> simp [sp, S, bb, byt]
theorem conv_back (W : World) (g : Nat) (l : Wd) (cap : Nat) (h : CB W g l) : Sem.run Tryd.prog (convert 61 9 (.slice (some ⟨g, 0, none⟩) l.length cap)) W = .ok (.string (str l)) W :=
  run_convert_bytes_back (P := Tryd.prog) W 61 9 5 ⟨g, 0, none⟩ cap l Tryd.underlying61 Tryd.underlying5 Tryd.underlying9 (fun j hj => by
    rw [add_plain, Nat.zero_add]
    exact h j _ (List.getElem?_eq_getElem hj))
def wvs (l : Wd) : List Value := l.map fun x => Value.int .u8 (x.toNat : Int)
theorem wvs_length (l : Wd) : (wvs l).length = l.length := by simp [wvs]
theorem wvs_one (l : Wd) : ∀ u ∈ wvs l, u.oneCell' = true := by
  intro u hu; simp only [wvs, List.mem_map] at hu; obtain ⟨x, _, rfl⟩ := hu; rfl
theorem CB.of_own {w : World} {b g n cap : Nat} {l : Wd} (h : w.ownsRow b 5 1 (.slice (some ⟨g, 0, none⟩) n cap) n (wvs l)) : CB w g l := fun j x hx => by
  have := h.cells rfl j (.int .u8 (x.toNat : Int)) (by simp [wvs, hx])
  rwa [add_plain, Nat.zero_add] at this
theorem sizeOf_B (W : World) : (sizeOf 5).run Tryd.prog W = .ok 1 W := by
  obtain ⟨i0, hi, _, hz1, _⟩ := info_parts info_B
  simp [sizeOf, typeInfo, hi, hz1]
theorem slice_hi (p : Option Addr) (n cp m : Nat) (h : m ≤ cp) (hp : p = none ∨ ∃ g, p = some ⟨g, 0, none⟩) (W : World) : Sem.run Tryd.prog (Instr.slice 61 (.slice p n cp) none (some (.int .i64 (m : Int))) none) W = .ok (.slice p m cp) W := by
  rw [run_slice_h (P := Tryd.prog) W 61 p n cp Tryd.underlying61 .i64 (m : Int) (by omega) (by omega)]
  rw [show ((sizeOf (Tryd.prog.elem 61)).run Tryd.prog W) = .ok 1 W from sizeOf_B W]
  simp only [Result.andThen, sliced, Int.toNat_natCast, Nat.sub_zero]
  rcases hp with rfl | ⟨g, rfl⟩
  · split <;> rfl
  · split
    · rfl
    · simp [add_plain]
theorem conv_nil (W : World) (cp : Nat) : Sem.run Tryd.prog (convert 61 9 (.slice none 0 cp)) W = .ok (.string (str [])) W := by
  rw [run_convert_bytes_string W 61 9 5 none 0 cp Tryd.underlying61 Tryd.underlying5 Tryd.underlying9]
  first | rfl | (simp [Conv.bytesToString]; done) | (simp [Conv.bytesToString]; rfl)
/-- What Text tells. -/
def GivesT (o : Option Wd) (w : World) (e : Ending) (w' : World) : Prop := e = .returned (.tuple #[.string (str (o.getD [])), .bool o.isSome]) ∧ Below w.heap.size w w'
theorem givesT_none {o : Option Wd} {w w' : World} {e : Ending} (h : o = none) (he : e = .returned (.tuple #[.string ⟨#[]⟩, .bool false])) (hb : Below w.heap.size w w') : GivesT o w e w' := by
  subst h; exact ⟨he, hb⟩
theorem givesT_some {o : Option Wd} {w w' : World} {e : Ending} {x : Wd} (h : o = some x) (he : e = .returned (.tuple #[.string (str x), .bool true])) (hb : Below w.heap.size w w') : GivesT o w e w' := by
  subst h; exact ⟨he, hb⟩
set_option maxRecDepth 100000 in
set_option maxHeartbeats 4000000 in
theorem text_any (A : Option Addr) (n c : Nat) (l : List Int) (i : Int) (w : World) (hA : LV w A (gvs l)) (hl : l.length = n) (hn : n ≤ 1000) (hU : U64 l) (hT : BT w) :
    Calls Tryd.prog 15 #[.slice A n c, .int .i64 i] w (GivesT (txt l i) w) := by
  obtain ⟨i0, hi, hz0, hz1, hz2⟩ := info_parts info_B
  have hI := Lib.hid hi
  have hZ0 := Lib.hid hz0
  have hZ1 := Lib.hid hz1
  have hZ2 := Lib.hid hz2
  have HA := Lib.hid hA
  have HL := Lib.hid hl
  have HU := Lib.hid hU
  have HT := Lib.hid hT
  clear hi hz0 hz1 hz2 hA hl hU hT
  go_enter Tryd.func15, Tryd.ntmps15
  go_wp2
  go_loopw [6, 14] (fun b q wr => ∃ (k : Nat) (p : Option Addr) (cp : Nat), k ≤ n ∧ q = .int .i64 k ∧ b = .slice p (8 * k) cp ∧ Hid (wr.ownsRow w.heap.size 5 1 (.slice p (8 * k) cp) (8 * k) (wvs (B l (8 * k)))) ∧ Hid (Below w.heap.size w wr)) (fun _ q _ => n - (intOf q).toNat)
  case atStart => exact ⟨0, none, 0, Nat.zero_le _, rfl, rfl, Lib.hid (World.ownsRow_nil _ _ _ _), Lib.hid (Below.refl _ _)⟩
  case round =>
    obtain ⟨k, p, cp, hk, rfl, rfl, HO, HB⟩ := hrel
    have hBs := HB.out.size
    by_cases hlt : k < n
    · have hkl : k < l.length := by rw [HL.out]; exact hlt
      obtain ⟨g, o, rfl, hg, hc⟩ := gat HA.out hkl
      have hc2 := bcell HB.out hg hc
      obtain ⟨x0, x1⟩ := HU.out l[k] (List.getElem_mem hkl)
      obtain ⟨t0, t1, t2, t3, t4, t5, t6, t7⟩ := (HT.out.below HB.out).allB
      have HX : Hid (l.getD k 0 = l[k]) := Lib.hid (by rw [List.getD, List.getElem?_eq_getElem hkl]; rfl)
      generalize l[k] = x at *
      have HSp := Lib.hid (split_B x wr x0 x1)
      have HPx : Hid (∀ j, j < 8 → sp bb x j = byt x j) := Lib.hid (fun j hj => sp_bb x j hj)
      have HI8 := Lib.hid (fun (q : Nat) (W : World) (hq : q < 8) => run_index8 (sp bb x) q hq W)
      generalize sp bb x = f at *
      clear hc
      go_wp2_with fail
      refine HSp.out.mono ?_
      rintro e w1 ⟨rfl, hb1⟩
      have HB1 := Lib.hid (HB.out.trans (hb1.mono hBs))
      have HO1 := Lib.hid (own_below HO.out hb1)
      clear hb1 hc2 t0 t1 t2 t3 t4 t5 t6 t7
      go_wp2
      go_loopw [6, 21] (fun b q wr => ∃ (j : Nat) (p : Option Addr) (cp : Nat), j ≤ 8 ∧ q = .int .i64 j ∧ b = .slice p (8 * k + j) cp ∧ Hid (wr.ownsRow w.heap.size 5 1 (.slice p (8 * k + j) cp) (8 * k + j) (wvs (B l (8 * k + j)))) ∧ Hid (Below w.heap.size w wr)) (fun _ q _ => 8 - (intOf q).toNat)
      case atStart => exact ⟨0, p, cp, Nat.zero_le _, rfl, rfl, HO1, HB1⟩
      case round =>
        clear HO HB HO1 HB1 hBs
        obtain ⟨j, p, cp, hj, rfl, rfl, HO, HB⟩ := hrel
        have hBs := HB.out.size
        by_cases hj8 : j < 8
        · have hix : ∀ W, Sem.run Tryd.prog (Instr.index 63 (.agg (pArr f)) (.int .i64 (j : Int))) W = .ok (.int .i64 (f j)) W := fun W => HI8.out j W hj8
          have hf0 : 0 ≤ f j := by rw [HPx.out j hj8]; exact byt_nonneg _ _
          have hf1 : f j ≤ 255 := by rw [HPx.out j hj8]; have := byt_lt x j; omega
          have HB8 : Hid (B l (8 * k + (j + 1)) = B l (8 * k + j) ++ [bt8 l (8 * k + j)] ∧ ((bt8 l (8 * k + j)).toNat : Int) = f j) := Lib.hid ⟨B_succ _ _, by rw [bt8_toNat, show (8 * k + j) / 8 = k by omega, show (8 * k + j) % 8 = j by omega, HX.out, HPx.out j hj8]⟩
          generalize f j = z at *
          go_wp2_with (at_builtin; refine wpList_append_own _ rfl _ _ 61 rfl w.heap.size 5 i0 (.int .u8 0) 1 1 Tryd.underlying61 hI.out hZ0.out hZ1.out hZ2.out rfl (by decide) _ _ _ rfl (HO.out.alloc _) ⟨_, 0, none⟩ 1 1 [.int .u8 z] rfl rfl (cell_one_new _ _ _) (by simp [Value.oneCell']) (by unfold maxLen; omega) (by omega) (by simp; omega) ?_; intro v' w2 hown' hgrow _; obtain ⟨g', cap', rfl⟩ := ownsRow_succ hown'; have HO' := Lib.hid hown'; have HG := Lib.hid hgrow; clear hown' hgrow)
          go_roundw
          case rel =>
            refine ⟨j + 1, _, cap', by omega, by go_num, rfl, Lib.hid ?_, Lib.hid ?_⟩
            · rw [HB8.out.1]
              have e1 : wvs (B l (8 * k + j) ++ [bt8 l (8 * k + j)]) = wvs (B l (8 * k + j)) ++ [.int .u8 z] := by simp [wvs, HB8.out.2]
              rw [e1]
              exact HO'.out
            · exact (HB.out.alloc HB.out.size _).grown HG.out (HB.out.alloc HB.out.size _).size (fun q e => (HO.out.lt q e).1)
          case measure => simp [intOf] <;> omega
        · obtain rfl : j = 8 := by omega
          go_wp2
          go_roundw
          case rel => exact ⟨k + 1, p, cp, by omega, by go_num, rfl, HO, HB⟩
          case measure => simp [intOf] <;> omega
    · obtain rfl : k = n := by omega
      have HW := Lib.hid (fun W => within_any i 0 (8 * (k : Int)) W)
      by_cases hin : 0 ≤ i ∧ i ≤ 8 * (k : Int)
      · obtain ⟨m, rfl⟩ := Int.eq_ofNat_of_zero_le hin.1
        have hm8 : m ≤ 8 * k := by omega
        have hT1 : Hid (∀ W, Calls Tryd.prog 26 #[.int .i64 (m : Int), .int .i64 0, .int .i64 (8 * (k : Int))] W fun e w' => e = .returned (.bool true) ∧ W = w') := Lib.hid (fun W => by have := HW.out W; rwa [decide_eq_true hin] at this)
        have hlenm : (B l m).length = m := B_length _ _
        have HLm := Lib.hid hlenm
        have hsm : (B l m).length ≤ 100000 := by omega
        have hm0 : (0 : Int) ≤ (m : Int) := by omega
        have HWd := Lib.hid (words_any (B l m) wr hsm (HT.out.below HB.out))
        have HEq := Lib.hid (fun (W : World) (v : Value) (q : Nat) (hb : Below wr.heap.size wr W) (ho : W.ownsRow wr.heap.size 23 1 v (wds (B l m)).length (gvs (wds (B l m)))) => ho)
        have HWL : Hid ((wds (B l m)).length ≤ 1000) := Lib.hid (by rw [wds_length, hlenm]; unfold nw; omega)
        have hmc : ∃ p' cp', Sem.run Tryd.prog (Instr.slice 61 (.slice p (8 * k) cp) none (some (.int .i64 (m : Int))) none) wr = .ok (.slice p' m cp') wr ∧ Sem.run Tryd.prog (convert 61 9 (.slice p' m cp')) wr = .ok (.string (str (B l m))) wr := by
          obtain ⟨p2, c2, e2, hnc, -, -⟩ := own_form HO.out
          cases e2
          rcases Nat.eq_zero_or_pos k with hk0 | hk0
          · have hm0 : m = 0 := by omega
            subst hm0
            rcases HO.out.2 with ⟨e1, -⟩ | ⟨g, cap, cur, e1, -⟩
            · have ep : p = none := by injection e1
              subst ep
              exact ⟨none, cp, slice_hi none (8 * k) cp 0 (by omega) (.inl rfl) wr, conv_nil wr cp⟩
            · have ep : p = some ⟨g, 0, none⟩ := by injection e1
              subst ep
              exact ⟨_, cp, slice_hi _ (8 * k) cp 0 (by omega) (.inr ⟨g, rfl⟩) wr, conv_back wr g [] cp (fun j x hx => by simp at hx)⟩
          · obtain ⟨g, rfl, -, -⟩ := own_some HO.out (by omega)
            refine ⟨some ⟨g, 0, none⟩, cp, slice_hi _ (8 * k) cp m (by omega) (.inr ⟨g, rfl⟩) wr, ?_⟩
            · have hcb : CB wr g (B l m) := fun j x hx => CB.of_own HO.out j x (by
                rw [← B_take l hm8, List.getElem?_take] at hx
                split at hx
                · exact hx
                · cases hx)
              have := conv_back wr g (B l m) cp hcb
              rwa [hlenm] at this
        obtain ⟨p', cp', hsl, hcv⟩ := hmc
        clear hin hlenm
        go_wp2_with fail
        refine (hT1.out _).mono ?_
        rintro e w' ⟨rfl, rfl⟩
        go_wp2_with fail
        refine HWd.out.mono ?_
        rintro e w1 ⟨v, rfl, ho1, hb1⟩
        obtain ⟨p1, c1, rfl, -, -, -⟩ := own_form ho1
        have HB1 := Lib.hid (HB.out.trans (hb1.mono hBs))
        have HO1 := Lib.hid (LV.of_own ho1)
        have HEq1 := Lib.hid (equal_any p1 A (wds (B l m)).length k c1 c (wds (B l m)) l w1 HO1.out (HA.out.below HB1.out) rfl HL.out (by have := HWL.out; omega) (by omega))
        clear ho1 hb1 HEq
        rcases Bool.eq_false_or_eq_true (decide (wds (B l m) = l)) with hd | hd
        · have HD := Lib.hid (of_decide_eq_true hd)
          rw [hd] at HEq1
          clear hd
          go_wp2_with fail
          refine HEq1.out.mono ?_
          rintro e w2 ⟨rfl, hb2⟩
          have HB2 := Lib.hid (HB1.out.trans (hb2.mono HB1.out.size))
          clear hb2
          go_wp2
          go_ret2
          exact givesT_some (txt_yes (by rw [HL.out]; exact hm8) HD.out) rfl HB2.out
        · have HD := Lib.hid (of_decide_eq_false hd)
          rw [hd] at HEq1
          clear hd
          go_wp2_with fail
          refine HEq1.out.mono ?_
          rintro e w2 ⟨rfl, hb2⟩
          have HB2 := Lib.hid (HB1.out.trans (hb2.mono HB1.out.size))
          clear hb2
          go_wp2
          go_ret2
          exact givesT_none (txt_no HD.out) rfl HB2.out
      · have hT1 : Hid (∀ W, Calls Tryd.prog 26 #[.int .i64 i, .int .i64 0, .int .i64 (8 * (k : Int))] W fun e w' => e = .returned (.bool false) ∧ W = w') := Lib.hid (fun W => by have := HW.out W; rwa [decide_eq_false hin] at this)
        have HIN : Hid (txt l i = none) := Lib.hid (by
          by_cases h0 : i < 0
          · exact txt_neg h0
          · exact txt_big (by rw [HL.out]; omega))
        clear hin
        go_wp2_with fail
        refine (hT1.out _).mono ?_
        rintro e w' ⟨rfl, rfl⟩
        go_wp2
        go_ret2
        exact givesT_none HIN.out rfl HB.out
end Go.Proofs.YthfeonmaajiajaaDoor
