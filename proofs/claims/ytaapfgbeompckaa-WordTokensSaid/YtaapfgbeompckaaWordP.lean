/-
  A text of names with blanks between: its words; and a list of texts, a list of bytes that came in: for the law WordTokens.
-/
import Derived.Test.YtaapfgbeompckaaWordO
namespace Go.Proofs.Ytaapfgbeompckaa
open Go.ChangeShapes Go.WideShapes Go.ChangeAt Go.RowKit
open Go.PlainAid (bt)
set_option linter.unusedVariables false

/-- bs is blanks alone, one at least, two at most. -/
def Bs (bs : ByteArray) : Prop := bs.size ≤ 2 ∧ ∃ (b : UInt8) (rest : Wd), bs.data.toList = b :: rest ∧ bl (b.toNat : Int) = true ∧ ∀ c ∈ rest, bl (c.toNat : Int) = true
theorem bs_one (b : UInt8) (h : bl (b.toNat : Int) = true) : Bs ⟨#[b]⟩ := ⟨by show 1 ≤ 2; omega, b, [], rfl, h, by simp⟩
theorem bs_two : Bs ⟨#[32, 32]⟩ := ⟨by show 2 ≤ 2; omega, 32, [32], rfl, by decide, by decide⟩
theorem split_skip {r : Wd} (h : ∀ c ∈ r, bl (c.toNat : Int) = true) (y : Wd) : split [] (r ++ y) = split [] y := by
  induction r with
  | nil => rfl
  | cons c r ih =>
    rw [List.cons_append, split_bl (h c (by simp)), if_pos rfl, List.nil_append]
    exact ih (fun d hd => h d (by simp [hd]))
theorem ws_more {S bs x : ByteArray} (hb : Bs bs) (hx : Nm x) : ws (S ++ bs ++ x ++ bs) = ws S ++ [x.data.toList] := by
  obtain ⟨_, b, rest, e, hbl, hr⟩ := hb
  have e2 : (S ++ bs ++ x ++ bs).data.toList = S.data.toList ++ b :: (rest ++ (x.data.toList ++ b :: rest)) := by
    simp only [ByteArray.data_append, Array.toList_append, e]
    simp
  have hw := nm_words hx
  unfold ws at hw ⊢
  rw [e2, split_at hbl, split_skip hr, split_at hbl, hw, split_blanks hr]
  simp
theorem no_empty (s : ByteArray) : ([] : Wd) ∉ ws s := fun h => (split_mem (cur := []) (by simp) h).1 rfl

/-- The list A, n, that lies below the heap's end, holds the texts ls. -/
def SS (w : World) (A : Option Addr) (n : Nat) (ls : List ByteArray) : Prop :=
  ls.length = n ∧ (0 < n → ∃ b off, A = some ⟨b, off, none⟩ ∧ b < w.heap.size ∧ ∀ j x, ls[j]? = some x → w.cell? ⟨b, off + j, none⟩ = some (.string x))
/-- The list A, n, holds the bytes zs. -/
def BB (w : World) (A : Option Addr) (n : Nat) (zs : List Int) : Prop :=
  zs.length = n ∧ (∀ z ∈ zs, 0 ≤ z ∧ z ≤ 255) ∧ (0 < n → ∃ b off, A = some ⟨b, off, none⟩ ∧ b < w.heap.size ∧ ∀ j z, zs[j]? = some z → w.cell? ⟨b, off + j, none⟩ = some (.int .u8 z))
theorem SS.get {w w' : World} {A : Option Addr} {n k : Nat} {ls : List ByteArray} (h : SS w A n ls) (hb : Below w.heap.size w w') (hk : k < n) : ∃ b off x, A = some ⟨b, off, none⟩ ∧ b < w.heap.size ∧ ls[k]? = some x ∧ w'.cell? ⟨b, off + k, none⟩ = some (.string x) ∧
    ∀ j y, ls[j]? = some y → w'.cell? ⟨b, off + j, none⟩ = some (.string y) := by
  obtain ⟨b, off, e, hlt, hc⟩ := h.2 (by omega)
  have hl : k < ls.length := by rw [h.1]; exact hk
  have hc' : ∀ j y, ls[j]? = some y → w'.cell? ⟨b, off + j, none⟩ = some (.string y) := fun j y hy => (hb.cell (p := ⟨b, off + j, none⟩) hlt).trans (hc j y hy)
  exact ⟨b, off, ls[k], e, hlt, List.getElem?_eq_getElem hl, hc' k _ (List.getElem?_eq_getElem hl), hc'⟩
theorem BB.get {w w' : World} {A : Option Addr} {n k : Nat} {zs : List Int} (h : BB w A n zs) (hb : Below w.heap.size w w') (hk : k < n) : ∃ b off z, A = some ⟨b, off, none⟩ ∧ b < w.heap.size ∧ 0 ≤ z ∧ z ≤ 255 ∧ w'.cell? ⟨b, off + k, none⟩ = some (.int .u8 z) := by
  obtain ⟨b, off, e, hlt, hc⟩ := h.2.2 (by omega)
  have hl : k < zs.length := by rw [h.1]; exact hk
  have hz := h.2.1 zs[k] (List.getElem_mem hl)
  exact ⟨b, off, zs[k], e, hlt, hz.1, hz.2, (hb.cell (p := ⟨b, off + k, none⟩) hlt).trans (hc k _ (List.getElem?_eq_getElem hl))⟩
/-- The first k texts' bytes. -/
def L (ls : List ByteArray) (k : Nat) : List Wd := (ls.take k).map (·.data.toList)
theorem L_zero (ls : List ByteArray) : L ls 0 = [] := by simp [L]
theorem L_succ {ls : List ByteArray} {k : Nat} {x : ByteArray} (h : ls[k]? = some x) : L ls (k + 1) = L ls k ++ [x.data.toList] := by
  obtain ⟨hl, e⟩ := List.getElem?_eq_some_iff.1 h
  unfold L
  rw [List.take_succ_eq_append_getElem hl, List.map_append, e]
  rfl
theorem L_length (ls : List ByteArray) (k : Nat) : (L ls k).length ≤ k := by
  unfold L; rw [List.length_map]; exact List.length_take_le _ _

/-- x is one of the first q texts. -/
def isIn (x : ByteArray) (ls : List ByteArray) (q : Nat) : Bool := decide (x.data.toList ∈ L ls q)
theorem isIn_zero (x : ByteArray) (ls : List ByteArray) : isIn x ls 0 = false := by simp [isIn, L]
theorem isIn_succ {x y : ByteArray} {ls : List ByteArray} {q : Nat} (h : ls[q]? = some y) : isIn x ls (q + 1) = (isIn x ls q || (y.toList == x.toList)) := by
  unfold isIn
  rw [L_succ h, Bool.eq_iff_iff, Lib.toList_data, Lib.toList_data]
  simp only [decide_eq_true_eq, Bool.or_eq_true, List.mem_append, List.mem_singleton, beq_iff_eq]
  exact or_congr Iff.rfl eq_comm

set_option maxRecDepth 100000 in
set_option maxHeartbeats 4000000 in
theorem wtokens_law (A B : Option Addr) (n m ca cb : Nat) (ls : List ByteArray) (zs : List Int) (w : World) (hA : SS w A n ls) (hB : BB w B m zs) (hn : n ≤ 9223372036854775807) (hm : m ≤ 9223372036854775807) (hls : ∀ x ∈ ls, x.size ≤ maxLen) :
    Calls Try.prog 4 #[.slice A n ca, .slice B m cb] w fun e w' => e = .returned (.bool true) ∧ Below w.heap.size w w' := by
  by_cases hl : 40 < n
  · go_enter Try.func4, Try.ntmps4
    go_wp2_with fail
    refine (shown_any _).mono ?_
    rintro e w1 ⟨rfl, hb⟩
    have HB := Lib.hid hb
    clear hb
    go_wp2
    go_ret
    exact ⟨rfl, HB.out⟩
  · obtain ⟨i0, hi, hz0, hz1, hz2⟩ := info_parts info_str
    have hI := Lib.hid hi
    have hZ0 := Lib.hid hz0
    have hZ1 := Lib.hid hz1
    have hZ2 := Lib.hid hz2
    have HA := Lib.hid hA
    have HBB := Lib.hid hB
    have HLS := Lib.hid hls
    clear hi hz0 hz1 hz2 hA hB hls
    go_enter Try.func4, Try.ntmps4
    go_wp2_with fail
    refine (shown_any _).mono ?_
    rintro e w1 ⟨rfl, hb⟩
    have hbs := hb.size
    have HB := Lib.hid hb
    clear hb
    go_wp2
    go_loopw [5, 6, 7] (fun s o i wr => ∃ (k : Nat) (S : ByteArray) (p : Option Addr) (cp : Nat), k ≤ n ∧ i = .int .i64 k ∧ s = .string S ∧ S.size ≤ 24 * k ∧ o = .slice p (dd (L ls k)).length cp ∧
        Hid (ws S = L ls k) ∧ Hid (wr.ownsRow w.heap.size 9 1 (.slice p (dd (L ls k)).length cp) (dd (L ls k)).length ((dd (L ls k)).map sv)) ∧ Hid (Below w.heap.size w wr)) (fun _ _ i _ => n - (intOf i).toNat)
    case atStart =>
      refine ⟨0, ⟨#[]⟩, _, 0, Nat.zero_le _, rfl, rfl, by decide, rfl, Lib.hid rfl, Lib.hid (World.ownsRow_made w1 #[] 0 hbs (by simp [maxLen]) rfl), Lib.hid (HB.out.alloc HB.out.size _)⟩
    case round =>
      obtain ⟨k, S, p, cp, hk, rfl, rfl, hS, rfl, HW, HO, HB2⟩ := hrel
      by_cases hlt : k < n
      · obtain ⟨b, off, x, rfl, hbw, hx, hcx, hcall⟩ := HA.out.get HB2.out hlt
        have hxs : x.size ≤ 9223372036854775807 := HLS.out x (List.mem_of_getElem? hx)
        have HX := Lib.hid hx
        have HC := Lib.hid hcall
        have hB2s := HB2.out.size
        clear hx hcall
        by_cases hnm : Nm x
        · go_wp2_with fail
          refine (rname_any x _ hxs).mono ?_
          rw [nm_yes hnm]
          rintro e w' ⟨rfl, rfl⟩
          have hx20 := hnm.2.1
          have HNM := Lib.hid hnm
          clear hnm
          go_upto_if 35 with fail
          go_cut [8] from 20 to 86 (fun v wx => ∃ bs : ByteArray, v = .string bs ∧ Hid (Bs bs) ∧ bs.size ≤ 2 ∧ Hid (Below wr.heap.size wr wx))
          case first =>
            by_cases hkm : k < m
            · obtain ⟨b', off', z, rfl, hb', hz0, hz1, hcz⟩ := HBB.out.get HB2.out hkm
              have hbr : b' < wr.heap.size := by omega
              have hczA : ∀ o, (wr.alloc o).cell? ⟨b', off' + k, none⟩ = some (.int .u8 z) := fun o => (World.cell?_alloc_lt wr o ⟨b', off' + k, none⟩ hbr).trans hcz
              have hzz : z % 6 = 0 ∨ z % 6 = 1 ∨ z % 6 = 2 ∨ z % 6 = 3 ∨ z % 6 = 4 ∨ z % 6 = 5 := by omega
              rcases hzz with e | e | e | e | e | e
              all_goals
                go_wp2
                go_meet
                exact ⟨_, rfl, Lib.hid (by first | exact bs_one _ (by decide) | exact bs_two), by decide, Lib.hid ((Below.refl _ _).alloc (Nat.le_refl _) _)⟩
            · go_wp2
              go_meet
              exact ⟨⟨#[32]⟩, rfl, Lib.hid (bs_one 32 (by decide)), by decide, Lib.hid (Below.refl _ _)⟩
          case rest =>
            obtain ⟨bs, rfl, HBS, hbz, HBc⟩ := hcut
            have HCc : Hid (∀ (j : Nat) (y : ByteArray), ls[j]? = some y → wc.cell? ⟨b, off + j, none⟩ = some (.string y)) := Lib.hid (fun j y hy => (HBc.out.cell (p := ⟨b, off + j, none⟩) (by show b < _; omega)).trans (HC.out j y hy))
            have hcx2 := HCc.out k x HX.out
            have HBw := Lib.hid (HB2.out.trans (HBc.out.mono HB2.out.size))
            have HOc := Lib.hid (own_below HO.out HBc.out)
            have hz1 : (S ++ bs).size = S.size + bs.size := ByteArray.size_append
            have hz2 : (S ++ bs ++ x).size = S.size + bs.size + x.size := by rw [ByteArray.size_append, hz1]
            have hz3 : (S ++ bs ++ x ++ bs).size = S.size + bs.size + x.size + bs.size := by rw [ByteArray.size_append, hz2]
            have hn1 : ¬ 9223372036854775807 < S.size + bs.size := by omega
            have hn2 : ¬ 9223372036854775807 < (S ++ bs).size + x.size := by omega
            have hn3 : ¬ 9223372036854775807 < (S ++ bs ++ x).size + bs.size := by omega
            have hS' : (S ++ bs ++ x ++ bs).size ≤ 24 * (k + 1) := by omega
            have HWS : Hid (ws (S ++ bs ++ x ++ bs) = L ls (k + 1)) := Lib.hid (by rw [ws_more HBS.out HNM.out, HW.out, L_succ HX.out])
            clear hz1 hz2 hz3
            go_wp2
            go_loopw [9, 10] (fun f j wi => ∃ q : Nat, q ≤ k ∧ j = .int .i64 q ∧ f = .bool (isIn x ls q) ∧ Hid (∃ d, wi = wc.drewN d)) (fun _ j _ => k - (intOf j).toNat)
            case atStart => exact ⟨0, Nat.zero_le _, rfl, by rw [isIn_zero], Lib.hid ⟨0, rfl⟩⟩
            case round =>
              obtain ⟨q, hq, rfl, rfl, Hd⟩ := hrel
              obtain ⟨d, rfl⟩ := Hd.out
              by_cases hqk : q < k
              · have hql : q < ls.length := by rw [HA.out.1]; omega
                obtain ⟨y, hy⟩ : ∃ y, ls[q]? = some y := ⟨_, List.getElem?_eq_getElem hql⟩
                have hcy := HCc.out q y hy
                have HIS := Lib.hid (isIn_succ (x := x) hy)
                have HY := Lib.hid hy
                clear hy
                rcases Bool.eq_false_or_eq_true (isIn x ls q) with hi | hi
                · rw [hi]
                  rw [hi] at HIS
                  clear hi
                  go_wp2
                  go_quiet (fail)
                  go_wp2
                  go_roundw
                  case rel => exact ⟨q + 1, by omega, by go_num, by rw [HIS.out]; rfl, Lib.hid ⟨d + nq, rfl⟩⟩
                  case measure => simp [intOf] <;> omega
                · rw [hi]
                  rw [hi] at HIS
                  clear hi
                  go_wp2
                  go_quiet (fail)
                  go_wp2
                  go_roundw
                  case rel => exact ⟨q + 1, by omega, by go_num, by rw [HIS.out]; rfl, Lib.hid ⟨d + nq, rfl⟩⟩
                  case measure => simp [intOf] <;> omega
              · obtain rfl : q = k := by omega
                have HIN : Hid (decide (x.data.toList ∈ ws (S ++ bs ++ x ++ bs)) = true) := Lib.hid (by rw [HWS.out, L_succ HX.out]; simp)
                have hlen := L_length ls q
                have hdl := dd_length (L ls q)
                have hS2 : (S ++ bs ++ x ++ bs).size ≤ 100000 := by omega
                have HBd := Lib.hid (bdrew HBw.out d)
                have HOd : Hid ((wc.drewN d).ownsRow w.heap.size 9 1 (.slice p (dd (L ls q)).length cp) (dd (L ls q)).length ((dd (L ls q)).map sv)) := Lib.hid HOc.out
                have hws := HBd.out.size
                rcases Bool.eq_false_or_eq_true (isIn x ls q) with hi | hi
                · have HDD : Hid (dd (L ls (q + 1)) = dd (L ls q)) := Lib.hid (by rw [L_succ HX.out]; exact dd_hit (by simpa [isIn] using hi))
                  rw [hi]
                  clear hi
                  go_wp2_with fail
                  refine (has_any (S ++ bs ++ x ++ bs) x _ hS2).mono ?_
                  rw [HIN.out]
                  rintro e w3 ⟨rfl, hb3⟩
                  have HB3 := Lib.hid (HBd.out.trans (hb3.mono HBd.out.size))
                  have HO3 := Lib.hid (own_below HOd.out hb3)
                  clear hb3
                  go_wp2
                  go_roundw
                  case rel =>
                    refine ⟨q + 1, _, p, cp, by omega, by go_num, rfl, hS', by rw [HDD.out], HWS, Lib.hid ?_, HB3⟩
                    rw [HDD.out]; exact HO3.out
                  case measure => simp [intOf] <;> omega
                · have HDD : Hid (dd (L ls (q + 1)) = dd (L ls q) ++ [x.data.toList]) := Lib.hid (by rw [L_succ HX.out]; exact dd_miss (by simpa [isIn] using hi))
                  rw [hi]
                  have hcd : (wc.drewN d).cell? ⟨b, off + q, none⟩ = some (.string x) := hcx2
                  have HOD2 := HOd
                  clear hi Hd hcx hcx2 HO HOc HOd HC HCc HBw HBc HB2
                  revert HBd HOD2 hws hcd
                  generalize wc.drewN d = wd
                  intro HBd hws hcd HOd
                  go_wp2_with (at_builtin; refine wpList_append_own _ rfl _ _ 25 rfl w.heap.size 9 i0 (.string ⟨#[]⟩) 1 16 Try.underlying25 hI.out hZ0.out hZ1.out hZ2.out rfl (by decide) _ _ _ rfl (HOd.out.alloc _) ⟨wd.heap.size, 0, none⟩ 1 1 [.string x] rfl rfl (cell_one_new _ _ _) (by simp [Value.oneCell']) (by unfold maxLen; omega) (by omega) (by simp; omega) ?_; intro v' w4 hown' hgrow _; obtain ⟨g', cap', rfl⟩ := ownsRow_succ hown'
                               have HG : Hid ((wd.alloc (.cells #[.string x] 9)).grownBy w4 (Value.slice p (dd (L ls q)).length cp).ownBlock) := Lib.hid hgrow
                               have HO' : Hid (w4.ownsRow w.heap.size 9 1 (.slice (some ⟨g', 0, none⟩) ((dd (L ls q)).length + 1) cap') ((dd (L ls q)).length + 1) ((dd (L ls q)).map sv ++ [.string x])) := Lib.hid hown'
                               have hB4 : Below w.heap.size w w4 := (HBd.out.alloc HBd.out.size _).grown HG.out (HBd.out.alloc HBd.out.size _).size (fun r e => (HOd.out.lt r e).1)
                               have HB4 := Lib.hid hB4
                               have hc4 : w4.cell? ⟨b, off + q, none⟩ = some (.string x) := by
                                 rw [← hcd, ← World.cell?_alloc_lt wd (.cells #[.string x] 9) ⟨b, off + q, none⟩ (by show b < _; omega)]
                                 exact World.cell?_of_block (HG.out.block b (by simp; omega) (fun e => by have := (HOd.out.lt b e.symm).1; omega))
                               clear hown' hgrow hB4)
                  refine (has_any (S ++ bs ++ x ++ bs) x _ hS2).mono ?_
                  rw [HIN.out]
                  rintro e w5 ⟨rfl, hb5⟩
                  have HB5 := Lib.hid (HB4.out.trans (hb5.mono HB4.out.size))
                  have HO5 := Lib.hid (own_below HO'.out hb5)
                  clear hb5
                  go_wp2
                  go_roundw
                  case rel =>
                    refine ⟨q + 1, _, _, cap', by omega, by go_num, rfl, hS', by rw [HDD.out, List.length_append]; rfl, HWS, Lib.hid ?_, HB5⟩
                    rw [HDD.out, List.length_append, List.map_append]
                    have : sv x.data.toList = .string x := by rw [sv, str_eq]
                    rw [List.map_cons, this]
                    exact HO5.out
                  case measure => simp [intOf] <;> omega
        · go_wp2_with fail
          refine (rname_any x _ hxs).mono ?_
          rw [nm_no hnm]
          rintro e w' ⟨rfl, rfl⟩
          go_wp2
          go_ret
          exact ⟨rfl, HB2.out⟩
      · obtain rfl : k = n := by omega
        have hdl := dd_length (L ls k)
        have hlen := L_length ls k
        go_wp2_with fail
        refine (tokens_any S _ (by omega)).mono ?_
        rw [HW.out]
        rintro e w3 ⟨p3, cp3, rfl, h1, h2, h3, h4⟩
        obtain ⟨p4, cp4, e4, _, _, hrd4⟩ := Rd.of_own (own_below HO.out h4)
        obtain ⟨rfl, rfl⟩ : p = p4 ∧ cp = cp4 := by cases e4; exact ⟨rfl, rfl⟩
        have HB3 := Lib.hid (HB2.out.trans (h4.mono HB2.out.size))
        have HR3 := Lib.hid h3
        have HR4 := Lib.hid hrd4
        clear h4 h3 h2 h1 hrd4 e4
        go_wp2_with fail
        refine (same_any p3 p _ _ cp3 cp _ _ _ _ HR3.out HR4.out (by omega) (by omega)).mono ?_
        rw [decide_eq_true rfl]
        rintro e w4 ⟨rfl, hb4⟩
        have HB4 := Lib.hid (HB3.out.trans (hb4.mono HB3.out.size))
        clear hb4
        go_wp2_with fail
        refine (has_any S ⟨#[]⟩ _ (by omega)).mono ?_
        rw [decide_eq_false (no_empty S)]
        rintro e w5 ⟨rfl, hb5⟩
        have HB5 := Lib.hid (HB4.out.trans (hb5.mono HB4.out.size))
        clear hb5
        go_wp2
        go_ret
        exact ⟨rfl, HB5.out⟩
end Go.Proofs.Ytaapfgbeompckaa
