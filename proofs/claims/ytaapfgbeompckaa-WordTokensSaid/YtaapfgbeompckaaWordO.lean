/-
  The law WordJoins, at any input.
-/
import Derived.Test.YtaapfgbeompckaaWordJ
import Derived.Deep.CutRange
import Derived.Laws.AppendOwnNone
namespace Go.Proofs.Ytaapfgbeompckaa
open Go.ChangeShapes Go.WideShapes Go.ChangeAt Go.RowKit
open Go.PlainAid (bt)
set_option linter.unusedVariables false

theorem own_below {w w' : World} {base : Nat} {e : TypeId} {size n : Nat} {v : Value} {xs : List Value} (h : w.ownsRow base e size v n xs) (hb : Below w.heap.size w w') : w'.ownsRow base e size v n xs := by
  refine ⟨h.1, ?_⟩
  rcases h.2 with h' | ⟨g, cap, cur, h1, h2, h3, h4⟩
  · exact .inl h'
  · exact .inr ⟨g, cap, cur, h1, h2, (hb.block g (Array.getElem?_eq_some_iff.1 h3).1).trans h3, h4⟩
/-- The list p, n, that lies in a block from lo on, ahead of hi, holds the words l. -/
def Rd2 (w : World) (lo hi : Nat) (p : Option Addr) (n : Nat) (l : List Wd) : Prop :=
  l.length = n ∧ (0 < n → ∃ g, p = some ⟨g, 0, none⟩ ∧ lo ≤ g ∧ g < hi ∧ ∀ j x, l[j]? = some x → w.cell? ⟨g, j, none⟩ = some (sv x))
theorem Rd2.of_own {w : World} {base : Nat} {v : Value} {l : List Wd} (h : w.ownsRow base 9 1 v l.length (l.map sv)) : ∃ p cap, v = .slice p l.length cap ∧ Rd2 w base w.heap.size p l.length l := by
  obtain ⟨p, cap, rfl, _, _, hr⟩ := Rd.of_own h
  refine ⟨p, cap, rfl, hr.1, fun hn => ?_⟩
  obtain ⟨g, rfl, hg, hc⟩ := hr.2 hn
  exact ⟨g, rfl, (h.lt g rfl).1, hg, hc⟩
theorem Rd2.grown {w w' : World} {lo hi n : Nat} {p : Option Addr} {l : List Wd} {row : Option Nat} (h : Rd2 w lo hi p n l) (hg : w.grownBy w' row) (hh : hi ≤ w.heap.size) (hr : ∀ r, row = some r → r < lo ∨ hi ≤ r) : Rd2 w' lo hi p n l := by
  refine ⟨h.1, fun hn => ?_⟩
  obtain ⟨g, e, h1, h2, hc⟩ := h.2 hn
  refine ⟨g, e, h1, h2, fun j x hx => ?_⟩
  rw [← hc j x hx]
  exact World.cell?_of_block (hg.block g (by omega) (fun e => by have := hr g e.symm; omega))
theorem Rd2.below {w w' : World} {lo hi n : Nat} {p : Option Addr} {l : List Wd} (h : Rd2 w lo hi p n l) (hb : Below w.heap.size w w') (hh : hi ≤ w.heap.size) : Rd2 w' lo hi p n l := by
  refine ⟨h.1, fun hn => ?_⟩
  obtain ⟨g, e, h1, h2, hc⟩ := h.2 hn
  exact ⟨g, e, h1, h2, fun j x hx => (hb.cell (p := ⟨g, j, none⟩) (by show g < _; omega)).trans (hc j x hx)⟩
theorem Rd2.alloc {w : World} {lo hi n : Nat} {p : Option Addr} {l : List Wd} (h : Rd2 w lo hi p n l) (hh : hi ≤ w.heap.size) (o : Obj) : Rd2 (w.alloc o) lo hi p n l :=
  h.grown (World.grownBy_alloc w o none) hh (fun r e => by cases e)

theorem ws_join (s t : ByteArray) : ws (s ++ (⟨#[10]⟩ : ByteArray) ++ t) = ws s ++ ws t := by
  have e : (s ++ (⟨#[10]⟩ : ByteArray) ++ t).data.toList = s.data.toList ++ 10 :: t.data.toList := by
    rw [ByteArray.data_append, Array.toList_append, ByteArray.data_append, Array.toList_append]
    simp
  unfold ws
  rw [e]
  exact split_at (by decide) []
/-- What is wanted when k of the words of t have come. -/
def want (s t : ByteArray) (k : Nat) : List Wd := dd (ws s) ++ ((dd (ws t)).take k).filter (fun x => decide (x ∉ ws s))
theorem want_zero (s t : ByteArray) : want s t 0 = dd (ws s) := by simp [want]
theorem want_hit {s t : ByteArray} {k : Nat} (h : k < (dd (ws t)).length) (hx : (dd (ws t))[k] ∈ ws s) : want s t (k + 1) = want s t k := by
  unfold want
  rw [List.take_succ_eq_append_getElem h, List.filter_append]
  simp [hx]
theorem want_miss {s t : ByteArray} {k : Nat} (h : k < (dd (ws t)).length) (hx : (dd (ws t))[k] ∉ ws s) : want s t (k + 1) = want s t k ++ [(dd (ws t))[k]] := by
  unfold want
  rw [List.take_succ_eq_append_getElem h, List.filter_append]
  simp [hx]
theorem want_all (s t : ByteArray) : want s t (dd (ws t)).length = dd (ws (s ++ (⟨#[10]⟩ : ByteArray) ++ t)) := by
  rw [ws_join, dd_append]
  unfold want
  rw [List.take_of_length_le (Nat.le_refl _)]
theorem want_length (s t : ByteArray) (k : Nat) : (want s t k).length ≤ (dd (ws s)).length + (dd (ws t)).length := by
  unfold want
  rw [List.length_append]
  have h1 := List.length_filter_le (fun x : Wd => decide (x ∉ ws s)) ((dd (ws t)).take k)
  have h2 := List.length_take_le' k (dd (ws t))
  omega

set_option maxHeartbeats 2000000 in
theorem joins_law (s t : ByteArray) (hs : s.size ≤ maxLen) (ht : t.size ≤ maxLen) (w : World) :
    Calls Try.prog 6 #[.string s, .string t] w fun e w' => e = .returned (.bool true) ∧ Below w.heap.size w w' := by
  unfold maxLen at hs ht
  by_cases hl : 200 < s.size
  · go_enter Try.func6, Try.ntmps6
    go_wp2_with fail
    refine (shown_any _).mono ?_
    rintro e w1 ⟨rfl, hb⟩
    have HB := Lib.hid hb
    clear hb
    go_wp2
    go_ret
    exact ⟨rfl, HB.out⟩
  · by_cases hl2 : 200 < t.size
    · go_enter Try.func6, Try.ntmps6
      go_wp2_with fail
      refine (shown_any _).mono ?_
      rintro e w1 ⟨rfl, hb⟩
      have HB := Lib.hid hb
      clear hb
      go_wp2
      go_ret
      exact ⟨rfl, HB.out⟩
    · obtain ⟨i0, hi, hz0, hz1, hz2⟩ := info_parts info_str
      have hI := Lib.hid hi
      have hZ0 := Lib.hid hz0
      have hZ1 := Lib.hid hz1
      have hZ2 := Lib.hid hz2
      clear hi hz0 hz1 hz2
      have hds := dws_length s (by omega)
      have hdt := dws_length t (by omega)
      go_enter Try.func6, Try.ntmps6
      go_wp2_with fail
      refine (shown_any _).mono ?_
      rintro e w1 ⟨rfl, hb⟩
      have hbs := hb.size
      have HB := Lib.hid hb
      clear hb
      go_upto_region 3 with fail
      go_cut [5] from 21 to 24 (fun o wx => ∃ (p : Option Addr) (cap : Nat), o = .slice p (dd (ws s)).length cap ∧ Hid (wx.ownsRow w.heap.size 9 1 (.slice p (dd (ws s)).length cap) (dd (ws s)).length ((dd (ws s)).map sv)) ∧ Hid (Below w.heap.size w wx))
      case first =>
        go_wp2_with fail
        refine (tokens_own s _ (by omega)).mono ?_
        rintro e w2 ⟨v, rfl, ho, hb⟩
        have hown0 : (w1.alloc (.cells #[] 9)).ownsRow w.heap.size 9 1 (.slice (some ⟨w1.heap.size, 0, none⟩) 0 0) 0 [] := World.ownsRow_made w1 #[] 0 hbs (by simp [maxLen]) rfl
        replace hown0 := own_below hown0 hb
        have hb2 : Below w.heap.size w w2 := (HB.out.alloc HB.out.size _).trans (hb.mono (HB.out.alloc HB.out.size _).size)
        have HO := Lib.hid ho
        have HO0 := Lib.hid hown0
        have HB2 := Lib.hid hb2
        clear hown0 hb2 hb ho
        rcases HO.out.2 with ⟨rfl, hn⟩ | ⟨g, cp, cur, rfl, _⟩
        · have hd : dd (ws s) = [] := List.eq_nil_of_length_eq_zero hn
          have HD := Lib.hid hd
          clear hd hn
          go_wp2_with (at_builtin; refine wpList_append_own_none rfl _ _ 25 rfl w.heap.size 9 i0 1 Try.underlying25 hI.out _ 0 [] rfl HO0.out rfl ?_)
          go_meet
          rw [HD.out]
          exact ⟨_, _, rfl, HO0, HB2⟩
        · go_wp2_with (at_builtin; refine wpList_append_own _ rfl _ _ 25 rfl w.heap.size 9 i0 (.string ⟨#[]⟩) 1 16 Try.underlying25 hI.out hZ0.out hZ1.out hZ2.out rfl (by decide) _ 0 [] rfl HO0.out ⟨g, 0, none⟩ (dd (ws s)).length cp ((dd (ws s)).map sv) rfl (by simp) (HO.out.cells rfl) (by intro u hu; simp at hu; obtain ⟨x, _, rfl⟩ := hu; simp [sv, Value.oneCell']) (by unfold maxLen; omega) (by omega) HB2.out.size ?_; intro v' w3 hown' hgrow _; have HO' : Hid (w3.ownsRow w.heap.size 9 1 v' (0 + (dd (ws s)).length) ([] ++ (dd (ws s)).map sv)) := Lib.hid hown'; have HG : Hid (w2.grownBy w3 (some w1.heap.size)) := Lib.hid hgrow; clear hown' hgrow)
          have HO2 := HO'.out
          rw [Nat.zero_add, List.nil_append] at HO2
          obtain ⟨p', cp', rfl, _⟩ := Rd2.of_own HO2
          go_meet
          exact ⟨_, _, rfl, Lib.hid HO2, Lib.hid (HB2.out.grown HG.out HB2.out.size (fun k e => by cases e; exact hbs))⟩
      case rest =>
        obtain ⟨p, cp, rfl, HO, HBc⟩ := hcut
        go_wp2_with fail
        refine (tokens_own t _ (by omega)).mono ?_
        rintro e w2 ⟨v, rfl, ho, hb⟩
        obtain ⟨q, cq, rfl, hrd⟩ := Rd2.of_own ho
        have HO2 := Lib.hid (own_below HO.out hb)
        have HB2 := Lib.hid (HBc.out.trans (hb.mono HBc.out.size))
        have HR := Lib.hid hrd
        have hb1 := hb.size
        have HL : Hid (∀ r, (Value.slice p (dd (ws s)).length cp).ownBlock = some r → r < wc.heap.size ∨ w2.heap.size ≤ r) := Lib.hid (fun r e => .inl (HO.out.lt r e).2)
        clear hb ho hrd
        have HWS : Hid (want s t (dd (ws t)).length = dd (ws (s ++ (⟨#[10]⟩ : ByteArray) ++ t))) := Lib.hid (want_all s t)
        obtain ⟨m, hm⟩ : ∃ m, (dd (ws t)).length = m := ⟨_, rfl⟩
        rw [hm] at HR hdt HWS ⊢
        have HM := Lib.hid hm
        clear hm
        go_wp2
        go_loopw [5, 7] (fun o i wr => ∃ (k : Nat) (p : Option Addr) (cp : Nat), k ≤ m ∧ i = .int .i64 k ∧ o = .slice p (want s t k).length cp ∧ Hid (wr.ownsRow w.heap.size 9 1 (.slice p (want s t k).length cp) (want s t k).length ((want s t k).map sv)) ∧
            Hid (∀ r, (Value.slice p (want s t k).length cp).ownBlock = some r → r < wc.heap.size ∨ w2.heap.size ≤ r) ∧ Hid (Rd2 wr wc.heap.size w2.heap.size q m (dd (ws t))) ∧ Hid (Below w.heap.size w wr) ∧ w2.heap.size ≤ wr.heap.size) (fun _ i _ => m - (intOf i).toNat)
        case atStart =>
          refine ⟨0, p, cp, Nat.zero_le _, rfl, by rw [want_zero], Lib.hid (by rw [want_zero]; exact HO2.out), Lib.hid (by rw [want_zero]; exact HL.out), HR, HB2, Nat.le_refl _⟩
        case round =>
          clear HO HO2 HL HR HB2
          obtain ⟨k, p, cp, hk, rfl, rfl, HO, HL, HR, HB2, hsz⟩ := hrel
          have hwl := want_length s t k
          rw [HM.out] at hwl
          by_cases hlt : k < m
          · obtain ⟨g, rfl, hg0, hg1, hc⟩ := HR.out.2 (by omega)
            have hkl : k < (dd (ws t)).length := by rw [HM.out]; exact hlt
            obtain ⟨x, hx⟩ : ∃ x, (dd (ws t))[k] = x := ⟨_, rfl⟩
            have hcell := hc k x (by rw [List.getElem?_eq_getElem hkl, hx])
            have hgs : g < wr.heap.size := by omega
            unfold sv at hcell
            clear hc
            by_cases hin : x ∈ ws s
            · have HW : Hid (want s t (k + 1) = want s t k) := Lib.hid (want_hit hkl (by rw [hx]; exact hin))
              have HX := Lib.hid hx
              have HIN := Lib.hid hin
              clear hx hin
              go_wp2_with fail
              refine (has_any s (str x) _ (by omega)).mono ?_
              rw [str_data, decide_eq_true HIN.out]
              rintro e w3 ⟨rfl, hb3⟩
              have hb3s := hb3.size
              have HB3 := Lib.hid hb3
              clear hb3
              go_wp2
              go_roundw
              case rel =>
                refine ⟨k + 1, p, cp, by omega, by go_num, by rw [HW.out], Lib.hid ?_, Lib.hid ?_, Lib.hid (HR.out.below HB3.out hsz), Lib.hid (HB2.out.trans (HB3.out.mono HB2.out.size)), by omega⟩
                · rw [HW.out]; exact own_below HO.out HB3.out
                · rw [HW.out]; exact HL.out
              case measure => simp [intOf] <;> omega
            · have HW : Hid (want s t (k + 1) = want s t k ++ [x]) := Lib.hid (by have := want_miss hkl (by rw [hx]; exact hin); rw [hx] at this; exact this)
              have HX := Lib.hid hx
              have HIN := Lib.hid hin
              clear hx hin
              go_wp2_with fail
              refine (has_any s (str x) _ (by omega)).mono ?_
              rw [str_data, decide_eq_false HIN.out]
              rintro e w3 ⟨rfl, hb3⟩
              have hb3s := hb3.size
              have hcell3 : w3.cell? ⟨g, k, none⟩ = some (.string (str x)) := (hb3.cell (p := ⟨g, k, none⟩) hgs).trans hcell
              have HO3 := Lib.hid (own_below HO.out hb3)
              have HR3 := Lib.hid (HR.out.below hb3 hsz)
              have HB3 := Lib.hid (HB2.out.trans (hb3.mono HB2.out.size))
              have hBs := HB3.out.size
              clear hb3
              go_wp2_with (at_builtin; refine wpList_append_own_at _ rfl _ _ 25 rfl w.heap.size 9 i0 (.string ⟨#[]⟩) 1 16 Try.underlying25 hI.out hZ0.out hZ1.out hZ2.out rfl (by decide) _ _ _ rfl (HO3.out.alloc _) ⟨w3.heap.size, 0, none⟩ 1 1 [.string (str x)] rfl rfl (cell_one_new _ _ _) (by simp [Value.oneCell']) (by unfold maxLen; omega) (by omega) (by simp; omega) ?_; intro v' w4 hown' hgrow _ hat; obtain ⟨g', cap', rfl⟩ := ownsRow_succ hown'; have HO' := Lib.hid hown'; have HG : Hid ((w3.alloc (.cells #[.string (str x)] 9)).grownBy w4 (Value.slice p (want s t k).length cp).ownBlock) := Lib.hid hgrow; have HAT : Hid ((Value.slice (some ⟨g', 0, none⟩) ((want s t k).length + 1) cap').ownBlock = (Value.slice p (want s t k).length cp).ownBlock ∨ (Value.slice (some ⟨g', 0, none⟩) ((want s t k).length + 1) cap').ownBlock = some (w3.alloc (.cells #[.string (str x)] 9)).heap.size) := Lib.hid hat; clear hown' hgrow hat)
              go_roundw
              case rel =>
                refine ⟨k + 1, _, cap', by omega, by go_num, by rw [HW.out, List.length_append]; rfl, Lib.hid ?_, Lib.hid ?_, Lib.hid ?_, Lib.hid ?_, ?_⟩
                · rw [HW.out, List.length_append, List.map_append]; exact HO'.out
                · intro r hr
                  have hr' : (Value.slice (some ⟨g', 0, none⟩) ((want s t k).length + 1) cap').ownBlock = some r := hr
                  rcases HAT.out with e | e
                  · exact HL.out r (e.symm.trans hr')
                  · rw [hr'] at e
                    simp at e
                    right; omega
                · exact (HR3.out.alloc (by omega) _).grown HG.out (by simp; omega) HL.out
                · exact (HB3.out.alloc HB3.out.size _).grown HG.out (HB3.out.alloc HB3.out.size _).size (fun r e => (HO3.out.lt r e).1)
                · have := HG.out.size
                  simp at this
                  omega
              case measure => simp [intOf] <;> omega
          · obtain rfl : k = m := by omega
            have hno : ¬ 9223372036854775807 < s.size + (⟨#[10]⟩ : ByteArray).size := by
              have : (⟨#[10]⟩ : ByteArray).size = 1 := rfl
              omega
            have hnz : (s ++ (⟨#[10]⟩ : ByteArray)).size = s.size + 1 := by rw [ByteArray.size_append]; rfl
            have hno2 : ¬ 9223372036854775807 < (s ++ (⟨#[10]⟩ : ByteArray)).size + t.size := by omega
            have hnz2 : (s ++ (⟨#[10]⟩ : ByteArray) ++ t).size ≤ 100000 := by rw [ByteArray.size_append, hnz]; omega
            clear hnz
            go_wp2_with fail
            refine (tokens_any (s ++ (⟨#[10]⟩ : ByteArray) ++ t) _ hnz2).mono ?_
            rw [← HWS.out]
            rintro e w3 ⟨p3, cp3, rfl, h1, h2, h3, h4⟩
            obtain ⟨p4, cp4, e4, _, _, hrd4⟩ := Rd.of_own (own_below HO.out h4)
            obtain ⟨rfl, rfl⟩ : p = p4 ∧ cp = cp4 := by cases e4; exact ⟨rfl, rfl⟩
            have HB3 := Lib.hid (HB2.out.trans (h4.mono HB2.out.size))
            have HR3 := Lib.hid h3
            have HR4 := Lib.hid hrd4
            clear h4 h3 h2 h1 hrd4 e4
            go_wp2_with fail
            refine (same_any p3 p _ _ cp3 cp _ _ _ _ HR3.out HR4.out (by omega) (by omega)).mono ?_
            rw [decide_eq_true rfl]
            rintro e w4 ⟨rfl, hb4⟩
            have HB4 := Lib.hid (HB3.out.trans (hb4.mono HB3.out.size))
            clear hb4
            go_wp2
            go_ret
            exact ⟨rfl, HB4.out⟩
end Go.Proofs.Ytaapfgbeompckaa
