/-
  The document's own answers that go through lists of words: whether a word is among some, and whether two lists are the same.
  The document's own Tokens and Has, at any text.
  The document's types of a forest: words.
  law10's its: the document's forest out of ours.
  Rows of the document's own types: what is owned, what of it can be read.
  The document's selector out of ours: its.
-/
import Derived.Test.YtaacikjoafobfaaGreatDoorP35
import Derived.Test.YtaacikjoafobfaaGreatDoorP04
import Derived.Test.YtaacikjoafobfaaGreatDoorP40
import Derived.Deep.QuietTactic
import Derived.BigQuiet
import Derived.Shelf.RegionOpenPlain
import Derived.Deep.RegionLaw
import Derived.Deep.RegionHeld3
import Derived.BigRegion
namespace Go.Proofs.YtaacikjoafobfaaGreatDoor.Wx
open Go.ChangeShapes Go.WideShapes Go.ChangeAt Go.RowKit
open Go.PlainAid (bt)
set_option linter.unusedVariables false

def sv (x : Wd) : Value := .string (str x)
theorem info_str : (Tryz.prog.info? 9).map (fun i => (i.zero, i.size, i.bytes)) = some (some (.string ⟨#[]⟩), 1, 16) := by kernel_rfl
/-- The list p, n, that lies below block B, holds the words l. -/
def Rd (w : World) (B : Nat) (p : Option Addr) (n : Nat) (l : List Wd) : Prop :=
  l.length = n ∧ (0 < n → ∃ g, p = some ⟨g, 0, none⟩ ∧ g < B ∧ ∀ j x, l[j]? = some x → w.cell? ⟨g, j, none⟩ = some (sv x))
theorem Rd.below {w w' : World} {B : Nat} {p : Option Addr} {n : Nat} {l : List Wd} (h : Rd w B p n l) (hb : Below B w w') : Rd w' B p n l :=
  ⟨h.1, fun hn => by
    obtain ⟨g, e, hg, hc⟩ := h.2 hn
    exact ⟨g, e, hg, fun j x hx => (hb.cell (p := ⟨g, j, none⟩) hg).trans (hc j x hx)⟩⟩
theorem Rd.up {w : World} {B B' : Nat} {p : Option Addr} {n : Nat} {l : List Wd} (h : Rd w B p n l) (hb : B ≤ B') : Rd w B' p n l :=
  ⟨h.1, fun hn => by
    obtain ⟨g, e, hg, hc⟩ := h.2 hn
    exact ⟨g, e, by omega, hc⟩⟩
theorem Rd.of_own {w : World} {base : Nat} {v : Value} {l : List Wd} (h : w.ownsRow base 9 1 v l.length (l.map sv)) : ∃ p cap, v = .slice p l.length cap ∧ l.length ≤ cap ∧ cap ≤ maxLen ∧ Rd w w.heap.size p l.length l := by
  have h0 := h
  rcases h.2 with ⟨rfl, hn⟩ | ⟨g, cap, cur, rfl, hb, hg, hnc, hcm, hs, ht⟩
  · exact ⟨none, 0, by rw [hn], by omega, by simp [maxLen], rfl, fun h => by omega⟩
  · refine ⟨_, cap, rfl, hnc, hcm, rfl, fun _ => ⟨g, rfl, (Array.getElem?_eq_some_iff.1 hg).1, fun j x hx => ?_⟩⟩
    have hj : j < l.length := by
      rcases Nat.lt_or_ge j l.length with hj | hj
      · exact hj
      · rw [List.getElem?_eq_none hj] at hx; cases hx
    rw [h0.cellAt j (by omega), List.getElem?_map, hx]
    rfl

set_option maxHeartbeats 400000 in
theorem in_any (p : Option Addr) (n cap : Nat) (l : List Wd) (t : ByteArray) (w : World) (B : Nat) (h : Rd w B p n l) (hn : n ≤ 1000000) :
    Calls Tryz.prog 125 #[.slice p n cap, .string t] w fun e w' => e = .returned (.bool (decide (t.data.toList ∈ l))) ∧ w = w' := by
  go_enter Tryz.func125, Tryz.ntmps125
  go_wp2
  go_loop [5] (fun i => ∃ k : Nat, k ≤ n ∧ i = .int .i64 k ∧ Hid (t.data.toList ∉ l.take k)) (fun i => n - (intOf i).toNat)
  case atStart => exact ⟨0, Nat.zero_le _, rfl, Lib.hid (by simp)⟩
  case round =>
    obtain ⟨k, hk, rfl, hne⟩ := hrel
    by_cases hlt : k < n
    · obtain ⟨g, rfl, hg, hc⟩ := h.2 (by omega)
      have hkl : k < l.length := by rw [h.1]; exact hlt
      have hcell := hc k _ (List.getElem?_eq_getElem hkl)
      have hsn : l.take (k + 1) = l.take k ++ [l[k]] := List.take_succ_eq_append_getElem hkl
      have HS := Lib.hid hsn
      have HH := Lib.hid h
      clear hsn hc h
      unfold sv at hcell
      go_wp2
      · rename_i hx _
        go_ret
        refine ⟨ret_bool ?_, rfl⟩
        rw [str_toList, Lib.toList_data] at hx
        have : t.data.toList ∈ l := by rw [← eq_of_beq hx]; exact List.getElem_mem hkl
        simp [this]
      · go_round
        case rel =>
          refine ⟨k + 1, by omega, by go_num, Lib.hid ?_⟩
          have hx : ((str l[k]).toList == t.toList) = false := by assumption
          rw [HS.out]
          rw [str_toList, Lib.toList_data] at hx
          have hn' : t.data.toList ≠ l[k] := by
            intro e
            rw [← e] at hx
            simp at hx
          rintro h'
          rcases List.mem_append.1 h' with h' | h'
          · exact hne.out h'
          · exact hn' (by simpa using h')
        case measure => simp [intOf]; omega
    · have HH := Lib.hid h
      clear h
      go_wp2
      go_ret
      refine ⟨ret_bool ?_, rfl⟩
      have hle : l.length ≤ k := by rw [HH.out.1]; omega
      have := hne.out
      rw [List.take_of_length_le hle] at this
      simp [this]


end Go.Proofs.YtaacikjoafobfaaGreatDoor.Wx
namespace Go.Proofs.YtaacikjoafobfaaGreatDoor.Wx
open Go.ChangeShapes Go.WideShapes Go.ChangeAt Go.RowKit
open Go.PlainAid (bt)
set_option linter.unusedVariables false

/-- What the words c that are begun come to at a blank. -/
def shut (c : Wd) : List Wd := if c = [] then [] else [c]
theorem split_bl' {cur : Wd} {c : UInt8} {l : Wd} (h : bl (c.toNat : Int) = true) : split cur (c :: l) = shut cur ++ split [] l := split_bl h
/-- Where the document's Tokens stands: k bytes are behind it, pre are the words that are ended, c is begun. -/
def At (s : ByteArray) (k : Nat) (pre : List Wd) (c : Wd) : Prop :=
  k ≤ s.size + 1 ∧ c.length ≤ k ∧ pre.length ≤ k ∧ (k ≤ s.size → ws s = pre ++ split c (rs s k)) ∧ (k = s.size + 1 → ws s = pre ∧ c = [])
theorem at_start (s : ByteArray) : At s 0 [] [] := ⟨Nat.zero_le _, Nat.le_refl _, Nat.le_refl _, fun _ => by rw [List.nil_append]; rfl, fun h => by omega⟩
theorem at_nb {s : ByteArray} {k : Nat} {pre : List Wd} {c : Wd} (h : At s k pre c) (hk : k < s.size) (hb : bl (bt s k) = false) : At s (k + 1) pre (c ++ cu s k (k + 1)) := by
  obtain ⟨b, hc, hr, hu⟩ := rs_cons s hk
  have e : cu s k (k + 1) = [b] := by rw [hu k (Nat.le_refl _), cu_same]; rfl
  obtain ⟨h1, h2, h3, h4, h5⟩ := h
  refine ⟨by omega, by rw [e]; simp; omega, by omega, fun _ => ?_, fun h => by omega⟩
  rw [h4 (by omega), hr, split_nb (by rw [hc]; exact hb), e]
theorem at_bl {s : ByteArray} {k : Nat} {pre : List Wd} {c : Wd} (h : At s k pre c) (hk : k < s.size) (hb : bl (bt s k) = true) : At s (k + 1) (pre ++ shut c) [] := by
  obtain ⟨b, hc, hr, hu⟩ := rs_cons s hk
  obtain ⟨h1, h2, h3, h4, h5⟩ := h
  refine ⟨by omega, by simp, by unfold shut; split <;> simp <;> omega, fun _ => ?_, fun h => by omega⟩
  rw [h4 (by omega), hr, split_bl' (by rw [hc]; exact hb), List.append_assoc]
theorem at_end {s : ByteArray} {pre : List Wd} {c : Wd} (h : At s s.size pre c) : At s (s.size + 1) (pre ++ shut c) [] := by
  obtain ⟨h1, h2, h3, h4, h5⟩ := h
  refine ⟨by omega, by simp, by unfold shut; split <;> simp <;> omega, fun h => by omega, fun _ => ⟨?_, rfl⟩⟩
  rw [h4 (Nat.le_refl _), rs_end]
  rfl
theorem dd_shut_none (pre : List Wd) : dd (pre ++ shut []) = dd pre := by simp [shut]
theorem dd_shut_hit {pre : List Wd} {c : Wd} (hc : c ≠ []) (h : c ∈ dd pre) : dd (pre ++ shut c) = dd pre := by
  unfold shut; rw [if_neg hc]; exact dd_hit ((mem_dd _ _).1 h)
theorem dd_shut_miss {pre : List Wd} {c : Wd} (hc : c ≠ []) (h : c ∉ dd pre) : dd (pre ++ shut c) = dd pre ++ [c] := by
  unfold shut; rw [if_neg hc]; exact dd_miss (fun h' => h ((mem_dd _ _).2 h'))

set_option maxRecDepth 100000 in
set_option maxHeartbeats 1000000 in
theorem rtokens_own (s : ByteArray) (w : World) (hs : s.size ≤ 100000) :
    Calls Tryz.prog 126 #[.string s] w fun e w' => ∃ v, e = .returned v ∧ w'.ownsRow w.heap.size 9 1 v (dd (ws s)).length ((dd (ws s)).map sv) ∧ Below w.heap.size w w' := by
  obtain ⟨i0, hi, hz0, hz1, hz2⟩ := info_parts info_str
  have hI := Lib.hid hi
  have hZ0 := Lib.hid hz0
  have hZ1 := Lib.hid hz1
  have hZ2 := Lib.hid hz2
  clear hi hz0 hz1 hz2
  go_enter Tryz.func126, Tryz.ntmps126
  go_wp2
  go_loopw [3, 4, 5] (fun o c i wr => ∃ (pre : List Wd) (cb : ByteArray) (k : Nat) (p : Option Addr) (cap : Nat), i = .int .i64 k ∧ c = .string cb ∧ o = .slice p (dd pre).length cap ∧
      Hid (At s k pre cb.data.toList) ∧ Hid (wr.ownsRow w.heap.size 9 1 (.slice p (dd pre).length cap) (dd pre).length ((dd pre).map sv)) ∧ Hid (Below w.heap.size w wr)) (fun _ _ i _ => s.size + 1 - (intOf i).toNat)
  case atStart =>
    exact ⟨[], ⟨#[]⟩, 0, _, _, rfl, rfl, rfl, Lib.hid (at_start s), Lib.hid (World.ownsRow_made w #[] 0 (Nat.le_refl _) (by simp [maxLen]) rfl), Lib.hid ((Below.refl _ w).alloc (Nat.le_refl _) _)⟩
  case round =>
    obtain ⟨pre, cb, k, p, cap, rfl, rfl, rfl, HA, HO, HB⟩ := hrel
    have hk := HA.out.1
    have hcl := HA.out.2.1
    have hpl := HA.out.2.2.1
    have hdl := dd_length pre
    have hbt := PlainAid.get_bt s
    have h1 := PlainAid.bt_nonneg s k
    have h2 := PlainAid.bt_le s k
    have hcs : cb.size ≤ 100001 := by rw [Lib.size_eq]; omega
    by_cases hlt : k < s.size
    · rcases Bool.eq_false_or_eq_true (bl (bt s k)) with hb | hb
      · by_cases hc0 : cb.data.toList = []
        · have hE : cb.toList.isEmpty = true := by rw [Lib.toList_data, hc0]; rfl
          have hE' : cb.toList = [] := by rw [Lib.toList_data, hc0]
          have HC := Lib.hid hc0
          clear hc0
          go_wp2_with fail
          refine (blank_any _ _ h1 h2).mono ?_
          rintro e w' ⟨rfl, rfl⟩
          go_wp2
          go_roundw
          case rel =>
            have ha := at_bl HA.out hlt hb 
            rw [HC.out] at ha
            have hd : dd (pre ++ shut []) = dd pre := dd_shut_none pre
            refine ⟨pre ++ shut [], ⟨#[]⟩, _, p, cap, by go_num, rfl, by rw [hd], Lib.hid ha, Lib.hid (by rw [hd]; exact HO.out), HB⟩
          case measure => simp [intOf] <;> omega
        · have hE : cb.toList.isEmpty = false := by rw [Lib.toList_data]; simpa using hc0
          have hE' : ¬ cb.toList = [] := by rw [Lib.toList_data]; exact hc0
          have HC := Lib.hid hc0
          clear hc0
          obtain ⟨p', cap', e', hnc, hcm, HR⟩ := Rd.of_own HO.out
          obtain ⟨rfl, rfl⟩ : p = p' ∧ cap = cap' := by cases e'; exact ⟨rfl, rfl⟩
          clear e'
          have HR' := Lib.hid HR
          clear HR
          by_cases hin : cb.data.toList ∈ dd pre
          · have hdec : decide (cb.data.toList ∈ dd pre) = true := by simpa using hin
            have HIN := Lib.hid hin
            clear hin
            go_wp2_with fail
            refine (blank_any _ _ h1 h2).mono ?_
            rintro e w' ⟨rfl, rfl⟩
            go_wp2_with fail
            refine (in_any p _ cap (dd pre) cb _ _ HR'.out (by omega)).mono ?_
            rw [hdec]
            rintro e w' ⟨rfl, rfl⟩
            go_wp2
            go_roundw
            case rel =>
              have ha := at_bl HA.out hlt hb
              have hd := dd_shut_hit HC.out HIN.out
              refine ⟨pre ++ shut cb.data.toList, ⟨#[]⟩, _, p, cap, by go_num, rfl, by rw [hd], Lib.hid ha, Lib.hid (by rw [hd]; exact HO.out), HB⟩
            case measure => simp [intOf] <;> omega
          · have hdec : decide (cb.data.toList ∈ dd pre) = false := by simpa using hin
            have HIN := Lib.hid hin
            clear hin
            have hBs := HB.out.size
            go_wp2_with fail
            refine (blank_any _ _ h1 h2).mono ?_
            rintro e w' ⟨rfl, rfl⟩
            go_wp2_with fail
            refine (in_any p _ cap (dd pre) cb _ _ HR'.out (by omega)).mono ?_
            rw [hdec]
            rintro e w' ⟨rfl, rfl⟩
            go_wp2_with (at_builtin; refine wpList_append_own _ rfl _ _ 178 rfl w.heap.size 9 i0 (.string ⟨#[]⟩) 1 16 Tryz.underlying178 hI.out hZ0.out hZ1.out hZ2.out rfl (by decide) _ _ _ rfl (HO.out.alloc _) ⟨wr.heap.size, 0, none⟩ 1 1 [.string cb] rfl rfl (cell_one_new _ _ _) (by simp [Value.oneCell']) (by unfold maxLen; omega) (by omega) (by simp; omega) ?_; intro v' w1 hown' hgrow _; obtain ⟨g', cap', rfl⟩ := ownsRow_succ hown'; have HO' := Lib.hid hown'; have HG := Lib.hid hgrow; clear hown' hgrow)
            go_roundw
            case rel =>
              have ha := at_bl HA.out hlt hb
              have hd := dd_shut_miss HC.out HIN.out
              refine ⟨pre ++ shut cb.data.toList, ⟨#[]⟩, _, _, cap', by go_num, rfl, by rw [hd, List.length_append]; rfl, Lib.hid ha, Lib.hid ?_, Lib.hid ?_⟩
              · rw [hd, List.length_append, List.map_append]
                have : sv cb.data.toList = .string cb := by rw [sv, str_eq]
                rw [List.map_cons, this]
                exact HO'.out
              · exact (HB.out.alloc HB.out.size _).grown HG.out (HB.out.alloc HB.out.size _).size (fun q e => (HO.out.lt q e).1)
            case measure => simp [intOf] <;> omega
      · have hsl : ∀ W, Sem.run Tryz.prog (Instr.slice 9 (.string s) (some (.int .i64 (k : Int))) (some (.int .i64 ((k : Int) + 1))) none) W = .ok (.string (s.extract k (k + 1))) W := by
          intro W
          have := run_slice_string (P := Tryz.prog) (w := W) 9 s .i64 .i64 k ((k : Int) + 1) Tryz.underlying9 (by omega) (by omega) (by omega)
          rw [this]
          congr 3
        go_wp2_with fail
        refine (blank_any _ _ h1 h2).mono ?_
        rintro e w' ⟨rfl, rfl⟩
        go_wp2
        go_roundw
        case rel => 
          refine ⟨pre, _, k + 1, p, cap, by go_num, rfl, rfl, ?_, HO, HB⟩
          have := at_nb HA.out hlt hb
          rw [cu] at this
          exact Lib.hid (by rw [ByteArray.data_append, Array.toList_append]; exact this)
        case measure => simp [intOf] <;> omega
    · by_cases hle : k = s.size
      · subst hle
        by_cases hc0 : cb.data.toList = []
        · have hE : cb.toList.isEmpty = true := by rw [Lib.toList_data, hc0]; rfl
          have hE' : cb.toList = [] := by rw [Lib.toList_data, hc0]
          have HC := Lib.hid hc0
          clear hc0
          go_wp2
          go_roundw
          case rel =>
            have ha := at_end HA.out 
            rw [HC.out] at ha
            have hd : dd (pre ++ shut []) = dd pre := dd_shut_none pre
            refine ⟨pre ++ shut [], ⟨#[]⟩, _, p, cap, by go_num, rfl, by rw [hd], Lib.hid ha, Lib.hid (by rw [hd]; exact HO.out), HB⟩
          case measure => simp [intOf] <;> omega
        · have hE : cb.toList.isEmpty = false := by rw [Lib.toList_data]; simpa using hc0
          have hE' : ¬ cb.toList = [] := by rw [Lib.toList_data]; exact hc0
          have HC := Lib.hid hc0
          clear hc0
          obtain ⟨p', cap', e', hnc, hcm, HR⟩ := Rd.of_own HO.out
          obtain ⟨rfl, rfl⟩ : p = p' ∧ cap = cap' := by cases e'; exact ⟨rfl, rfl⟩
          clear e'
          have HR' := Lib.hid HR
          clear HR
          by_cases hin : cb.data.toList ∈ dd pre
          · have hdec : decide (cb.data.toList ∈ dd pre) = true := by simpa using hin
            have HIN := Lib.hid hin
            clear hin
            go_wp2_with fail
            refine (in_any p _ cap (dd pre) cb _ _ HR'.out (by omega)).mono ?_
            rw [hdec]
            rintro e w' ⟨rfl, rfl⟩
            go_wp2
            go_roundw
            case rel =>
              have ha := at_end HA.out
              have hd := dd_shut_hit HC.out HIN.out
              refine ⟨pre ++ shut cb.data.toList, ⟨#[]⟩, _, p, cap, by go_num, rfl, by rw [hd], Lib.hid ha, Lib.hid (by rw [hd]; exact HO.out), HB⟩
            case measure => simp [intOf] <;> omega
          · have hdec : decide (cb.data.toList ∈ dd pre) = false := by simpa using hin
            have HIN := Lib.hid hin
            clear hin
            have hBs := HB.out.size
            go_wp2_with fail
            refine (in_any p _ cap (dd pre) cb _ _ HR'.out (by omega)).mono ?_
            rw [hdec]
            rintro e w' ⟨rfl, rfl⟩
            go_wp2_with (at_builtin; refine wpList_append_own _ rfl _ _ 178 rfl w.heap.size 9 i0 (.string ⟨#[]⟩) 1 16 Tryz.underlying178 hI.out hZ0.out hZ1.out hZ2.out rfl (by decide) _ _ _ rfl (HO.out.alloc _) ⟨wr.heap.size, 0, none⟩ 1 1 [.string cb] rfl rfl (cell_one_new _ _ _) (by simp [Value.oneCell']) (by unfold maxLen; omega) (by omega) (by simp; omega) ?_; intro v' w1 hown' hgrow _; obtain ⟨g', cap', rfl⟩ := ownsRow_succ hown'; have HO' := Lib.hid hown'; have HG := Lib.hid hgrow; clear hown' hgrow)
            go_roundw
            case rel =>
              have ha := at_end HA.out
              have hd := dd_shut_miss HC.out HIN.out
              refine ⟨pre ++ shut cb.data.toList, ⟨#[]⟩, _, _, cap', by go_num, rfl, by rw [hd, List.length_append]; rfl, Lib.hid ha, Lib.hid ?_, Lib.hid ?_⟩
              · rw [hd, List.length_append, List.map_append]
                have : sv cb.data.toList = .string cb := by rw [sv, str_eq]
                rw [List.map_cons, this]
                exact HO'.out
              · exact (HB.out.alloc HB.out.size _).grown HG.out (HB.out.alloc HB.out.size _).size (fun q e => (HO.out.lt q e).1)
            case measure => simp [intOf] <;> omega
      · have hk' : ¬ k ≤ s.size := by omega
        go_wp2
        go_ret
        obtain ⟨ha1, ha2⟩ := HA.out.2.2.2.2 (by omega)
        exact ⟨_, rfl, by rw [ha1]; exact HO.out, HB.out⟩

/-- A list that holds the words l lies in w', and nothing that lay in w has turned. -/
def Gives (l : List Wd) (w : World) (e : Ending) (w' : World) : Prop := ∃ p cap, e = .returned (.slice p l.length cap) ∧ l.length ≤ cap ∧ cap ≤ maxLen ∧ Rd w' w'.heap.size p l.length l ∧ Below w.heap.size w w'
theorem gives_of {l : List Wd} {w : World} {e : Ending} {w' : World} (h : ∃ v, e = .returned v ∧ w'.ownsRow w.heap.size 9 1 v l.length (l.map sv) ∧ Below w.heap.size w w') : Gives l w e w' := by
  obtain ⟨v, rfl, ho, hb⟩ := h
  obtain ⟨p, cap, rfl, h1, h2, h3⟩ := Rd.of_own ho
  exact ⟨p, cap, rfl, h1, h2, h3, hb⟩
theorem rtokens_any (s : ByteArray) (w : World) (hs : s.size ≤ 100000) : Calls Tryz.prog 126 #[.string s] w (Gives (dd (ws s)) w) :=
  (rtokens_own s w hs).mono fun _ _ h => gives_of h
theorem dws_length (s : ByteArray) (hs : s.size ≤ 100000) : (dd (ws s)).length ≤ 100001 := by
  have := dd_length (ws s); have := ws_length s; omega

set_option maxRecDepth 100000 in
set_option maxHeartbeats 400000 in
theorem rhas_any (s t : ByteArray) (w : World) (hs : s.size ≤ 100000) :
    Calls Tryz.prog 100 #[.string s, .string t] w fun e w' => e = .returned (.bool (decide (t.data.toList ∈ ws s))) ∧ Below w.heap.size w w' := by
  have hl := dws_length s hs
  go_enter Tryz.func100, Tryz.ntmps100
  go_wp2_with fail
  refine (rtokens_any s _ hs).mono ?_
  rintro e w' ⟨p, cap, rfl, h1, h2, h3, h4⟩
  have HB := Lib.hid h4
  clear h4
  go_wp2_with fail
  refine (in_any p _ cap _ t _ _ h3 (by omega)).mono ?_
  rintro e w'' ⟨rfl, rfl⟩
  go_wp2
  go_ret
  refine ⟨ret_bool ?_, HB.out⟩
  rw [decide_eq_decide]
  exact mem_dd _ _
end Go.Proofs.YtaacikjoafobfaaGreatDoor.Wx
namespace Go.Proofs.YtaacikjoafobfaaGreatDoor.Dt
open Go.ChangeShapes Go.WideShapes Go.ChangeAt Go.RowKit
set_option linter.unusedVariables false
set_option linter.unusedSimpArgs false

theorem info_rn : (Tryz.prog.info? 58).map (fun i => (i.zero, i.size, i.bytes)) = some (some (.agg #[.int .i64 0, .string ⟨#[]⟩, .string ⟨#[]⟩, .slice none 0 0, .int .i64 0, .slice none 0 0]), 6, 96) := by kernel_rfl
theorem info_ra : (Tryz.prog.info? 98).map (fun i => (i.zero, i.size, i.bytes)) = some (some (.agg #[.string ⟨#[]⟩, .string ⟨#[]⟩]), 2, 32) := by kernel_rfl
/-- A node of the copy: its kids lie where they lay, its attributes in a row of the call's own. -/
structure Cop (w V : World) (base : Nat) (m : Mn) : Prop where
  fit : Fit m
  ir : IR w m.kA m.kids
  ar : V.ownsRow base 98 2 (.slice m.aA m.attrs.length m.aC) m.attrs.length (acells m.attrs)
theorem Cop.kept {w V W : World} {base : Nat} {m : Mn} {row : Option Nat} (h : Cop w V base m) (hg : V.grownBy W row) (hr : (Value.slice m.aA m.attrs.length m.aC).ownBlock = none ∨ (Value.slice m.aA m.attrs.length m.aC).ownBlock ≠ row) : Cop w W base m :=
  ⟨h.fit, h.ir, h.ar.kept hg hr⟩
theorem Cop.below {w V W : World} {base : Nat} {m : Mn} (h : Cop w V base m) (hb : Below V.heap.size V W) : Cop w W base m := ⟨h.fit, h.ir, own_below h.ar hb⟩
theorem cop_fr {w V : World} {base j cap : Nat} {p : Option Addr} {G : List Mn} (h : V.ownsRow base 58 6 (.slice p j cap) j (fcells G)) (hC : ∀ m ∈ G, Cop w V base m) (hb : Below w.heap.size w V) : FR V p G := by
  have hl := h.1
  rw [fcells_length] at hl
  intro i m hm
  obtain ⟨hi, -⟩ := List.getElem?_eq_some_iff.1 hm
  rcases h.2 with ⟨-, h'⟩ | ⟨g, cap', cur, hv, hbg, hg, h1, h2, h3, h4⟩
  · omega
  · cases hv
    have hr : RowAt V g 0 G := cells_row (fun j u hu => by
      have := h.cells rfl j u hu
      rw [← this, show (⟨g, 0, none⟩ : Addr).add j = ⟨g, 0 + j, none⟩ by unfold Addr.add; split <;> simp_all])
    have hc := hr i m hm
    have hm' := hC m (List.mem_of_getElem? hm)
    obtain ⟨q, c, hv, -, -, ha⟩ := own_ar hm'.ar
    cases hv
    exact ⟨hm'.fit, g, 0, rfl, (Array.getElem?_eq_some_iff.1 hg).1, ⟨hc.c0, hc.c1, hc.c2, hc.c3, hc.c4, hc.c5, ha, hm'.ir.below hb⟩⟩
end Go.Proofs.YtaacikjoafobfaaGreatDoor.Dt
namespace Go.Proofs.YtaacikjoafobfaaGreatDoor.Fi
open Dt
open Go.ChangeShapes Go.WideShapes Go.ChangeAt Go.RowKit
set_option linter.unusedVariables false
set_option linter.unusedSimpArgs false

theorem cell6 (w : World) (g : Nat) (a b c d e f : Value) (t : TypeId) (h : w.heap[g]? = some (.cells #[a, b, c, d, e, f] t (0, 0))) : ∀ j u, [a, b, c, d, e, f][j]? = some u → w.cell? ((⟨g, 0, none⟩ : Addr).add j) = some u := by
  intro j u hu
  rw [add_plain, Nat.zero_add]
  obtain ⟨x0, x1, x2, x3, x4, x5⟩ := block6 h
  match j, hu with
  | 0, hu => cases hu; exact x0
  | 1, hu => cases hu; exact x1
  | 2, hu => cases hu; exact x2
  | 3, hu => cases hu; exact x3
  | 4, hu => cases hu; exact x4
  | 5, hu => cases hu; exact x5
  | j + 6, hu => simp at hu
set_option maxRecDepth 100000 in
set_option maxHeartbeats 8000000 in
theorem its_any (A : Option Addr) (F : List Mn) (c : Nat) (w : World) (hF : FR w A F) (hz : Sz2 F) :
    Calls Tryz.prog 15 #[.slice A F.length c] w fun e w' => ∃ A' c' G, e = .returned (.slice A' F.length c') ∧ G.map core = F.map core ∧ FR w' A' G ∧ Below w.heap.size w w' := by
  have HF := Lib.hid hF
  have HFit := Lib.hid (fun (i : Nat) (m : Mn) (h : F[i]? = some m) => (hF i m h).1)
  have hl := hz.len
  have HZa := Lib.hid (fun (m : Mn) (h : m ∈ F) => hz.attrs m h)
  obtain ⟨i0, hI1, hI2, hI3, hI4⟩ := info_parts info_rn
  obtain ⟨i1, hJ1, hJ2, hJ3, hJ4⟩ := info_parts info_ra
  have HI := Lib.hid (And.intro hI1 (And.intro hI2 (And.intro hI3 hI4)))
  have HJ := Lib.hid (And.intro hJ1 (And.intro hJ2 (And.intro hJ3 hJ4)))
  obtain ⟨n, hnn⟩ : ∃ n, F.length = n := ⟨_, rfl⟩
  have HNN := Lib.hid hnn
  rw [hnn] at hl ⊢
  clear hF hz hnn hI1 hI2 hI3 hI4 hJ1 hJ2 hJ3 hJ4
  have hO : (w.alloc (.cells #[] 58)).ownsRow w.heap.size 58 6 (.slice (some ⟨w.heap.size, 0, none⟩) 0 0) 0 [] := World.ownsRow_made w #[] 0 (Nat.le_refl _) (by simp [maxLen]) rfl
  have HO := Lib.hid hO
  have HB0 : Hid (Below w.heap.size w (w.alloc (.cells #[] 58))) := Lib.hid ((Below.refl _ _).alloc (Nat.le_refl _) _)
  clear hO
  go_enter Tryz.func15, Tryz.ntmps15
  go_wp2_with fail
  go_loopw [3, 4] (fun q3 q4 wv => ∃ (V : World) (j : Nat) (G : List Mn), V = wv ∧ j ≤ n ∧ q4 = .int .i64 j ∧ (∃ p cap, q3 = .slice p j cap ∧ Hid (V.ownsRow w.heap.size 58 6 (.slice p j cap) j (fcells G))) ∧ Hid (G.map core = (F.take j).map core) ∧ Hid (∀ m ∈ G, Cop w V w.heap.size m) ∧ Hid (Below w.heap.size w V)) (fun _ q4 _ => n - (intOf q4).toNat)
  case atStart => exact ⟨_, 0, [], rfl, Nat.zero_le _, rfl, ⟨_, _, rfl, HO⟩, Lib.hid rfl, Lib.hid (fun m hm => absurd hm (by simp)), HB0⟩
  case round =>
    obtain ⟨V, j, G, rfl, hj, rfl, ⟨p, cap, rfl, HOw⟩, HG, HC, HB⟩ := hrel
    by_cases hlt : j < n
    · have k0 : (0 : Int) ≤ (j : Int) := by omega
      have k1 : (j : Int) < (n : Int) := by omega
      have hjl : j < F.length := by rw [HNN.out]; exact hlt
      obtain ⟨hfo, g, off, rfl, hg, hnd⟩ := HF.out.below HB.out j F[j] (List.getElem?_eq_getElem hjl)
      have HT : Hid (F.take (j + 1) = F.take j ++ [F[j]]) := Lib.hid (take_more hjl)
      have hal := HZa.out F[j] (List.getElem_mem hjl)
      have HNd := Lib.hid (fun (W : World) (hb : Below w.heap.size w W) => show NodeAt W g (off + j * 6) F[j] from by
        obtain ⟨-, g', o', hA, -, h⟩ := HF.out.below hb j F[j] (List.getElem?_eq_getElem hjl)
        cases hA
        exact h)
      have HFj := Lib.hid hfo
      have HIr : Hid (IR w F[j].kA F[j].kids) := Lib.hid (by
        obtain ⟨-, g', o', hA, -, h⟩ := HF.out j F[j] (List.getElem?_eq_getElem hjl)
        exact h.ir)
      have c0 := hnd.c0
      have c1 := hnd.c1
      have c2 := hnd.c2
      have c4 := hnd.c4
      have c5 := hnd.c5
      clear hfo hnd
      generalize F[j] = m at *
      go_upto_region 5 with fail
      go_cut [5] from 14 to 39 (fun q5 wx => q5 = .pointer (some ⟨V.heap.size, 0, none⟩) ∧ Hid (wx.heap[V.heap.size]? = some (.cells #[.int .i64 m.kind, .string m.name, .string m.text, .slice none 0 0, .int .i64 m.parent, .slice m.kA m.kids.length m.kC] 58 (0, 0))) ∧ Hid (Below V.heap.size V wx) ∧ Hid (wx.heap.size = V.heap.size + 1))
      case first =>
        go_region
        all_goals
          go_wp2
          go_meet
          exact ⟨rfl, Lib.hid (heap_alloc_new V _), Lib.hid ((Below.refl _ _).alloc (Nat.le_refl _) _).drew, Lib.hid (by simp [World.drew])⟩
      case rest =>
      obtain ⟨rfl, HK0, HV0, HS0⟩ := hcut
      clear c0 c1 c2 c4 c5
      obtain ⟨al, hal'⟩ : ∃ al, m.attrs.length = al := ⟨_, rfl⟩
      have HAl := Lib.hid hal'
      rw [hal'] at hal
      obtain ⟨kl, hkl⟩ : ∃ kl, m.kids.length = kl := ⟨_, rfl⟩
      have HKl := Lib.hid hkl
      rw [hkl] at HK0
      have hbs := HB.out.size
      have HBS := Lib.hid hbs
      clear hal' hbs
      go_upto_region 7 with fail
      go_loopw [6] (fun q6 wv => ∃ (X : World) (k : Nat), X = wv ∧ k ≤ al ∧ q6 = .int .i64 k ∧ (∃ q cap', Hid (X.heap[V.heap.size]? = some (.cells #[.int .i64 m.kind, .string m.name, .string m.text, .slice q k cap', .int .i64 m.parent, .slice m.kA kl m.kC] 58 (0, 0))) ∧ Hid (X.ownsRow (V.heap.size + 1) 98 2 (.slice q k cap') k (acells (m.attrs.take k)))) ∧ Hid (Below V.heap.size V X)) (fun q6 _ => al - (intOf q6).toNat)
      case atStart => exact ⟨_, 0, rfl, Nat.zero_le _, rfl, ⟨none, 0, HK0, Lib.hid (World.ownsRow_nil _ _ _ _)⟩, HV0⟩
      case round =>
        obtain ⟨X, k, rfl, hk, rfl, ⟨q, cap', HKX, HOX⟩, HVX⟩ := hrel
        have HBX : Hid (Below w.heap.size w X) := Lib.hid (HB.out.trans (HVX.out.mono HB.out.size))
        have hnd := HNd.out X HBX.out
        have c3 := hnd.c3
        rw [HAl.out] at c3
        obtain ⟨x0, x1, x2, x3, x4, x5⟩ := block6 HKX.out
        have fz : X.frozen? ⟨V.heap.size, 3, none⟩ = false := by simp [World.frozen?, HKX.out]
        by_cases hka : k < al
        · have y0 : (0 : Int) ≤ (k : Int) := by omega
          have y1 : (k : Int) < (al : Int) := by omega
          have hkl2 : k < m.attrs.length := by rw [HAl.out]; exact hka
          obtain ⟨ga, oa, hAa, hga, d0, d1⟩ := hnd.ar k hkl2
          have HTk : Hid (acells (m.attrs.take (k + 1)) = acells (m.attrs.take k) ++ at2 (m.attrs.getD k default)) := Lib.hid (by rw [acells_take hkl2, getD_at default hkl2])
          rw [hAa] at c3
          generalize m.attrs.getD k default = y at *
          obtain ⟨ya, yb⟩ := y
          have hsz : V.heap.size + 1 ≤ X.heap.size := lt_of_block HKX.out
          have hltg : g < X.heap.size := Nat.lt_of_lt_of_le hg HVX.out.size
          have hlt5 : V.heap.size < X.heap.size := hsz
          have hltga : ga < X.heap.size := hga
          have hne1 : g ≠ X.heap.size := by omega
          have hne2 : X.heap.size ≠ g := by omega
          have hne3 : ga ≠ X.heap.size := by omega
          have hne4 : X.heap.size ≠ ga := by omega
          have hne5 : V.heap.size ≠ X.heap.size := by omega
          have hne6 : X.heap.size ≠ V.heap.size := by omega
          have hrow : (Value.slice q k cap').ownBlock ≠ some V.heap.size := own_apart HOX.out HKX.out (by decide)
          have mixed : Tryz.prog.follows Departure.mixedOrders = true := by kernel_rfl
          clear hnd hAa
          go_upto_region 9 with fail
          go_region_law_o (refine step_own rfl (.tmp 51) (.tmp 60) 56 rfl (V.heap.size + 1) 98 i1 (.agg #[.string ⟨#[]⟩, .string ⟨#[]⟩]) 2 32 Tryz.underlying56 HJ.out.1 HJ.out.2.1 HJ.out.2.2.1 HJ.out.2.2.2 rfl (by decide) (.slice q k cap') k (acells (m.attrs.take k)) (by simp [Act.eval, Act.put]) (HOX.out.alloc _) ⟨X.heap.size, 0, none⟩ 1 1 (at2 (ya, yb)) (by simp [Act.eval, Act.put]) rfl (two_new _ _ _) (fun u hu => acells_one [(ya, yb)] u (by simpa [acells] using hu)) (by unfold maxLen; omega) (by omega) (by first | (simp; done) | (simp; omega)) ?_; intro v' w5 hown' hgrow hat; obtain ⟨q', cap2, rfl, -, -⟩ := own_form2 hown'; have HO' := Lib.hid hown'; have HGR := Lib.hid hgrow; have HK5 : Hid (w5.heap[V.heap.size]? = some (.cells #[.int .i64 m.kind, .string m.name, .string m.text, .slice q k cap', .int .i64 m.parent, .slice m.kA kl m.kC] 58 (0, 0))) := Lib.hid (by rw [hgrow.block _ (by first | (simp; done) | (simp; omega)) (Ne.symm hrow)]; exact (heap_alloc_old X _ (by omega)).trans HKX.out); obtain ⟨e0, e1, e2, e3, e4, e5⟩ := block6 HK5.out; have g3 : w5.frozen? ⟨V.heap.size, 3, none⟩ = false := (by simp [World.frozen?, HK5.out]); clear hown' hgrow hat)
          all_goals
            go_wp2
            have hne7 : (Value.slice q' (k + 1) cap2).ownBlock ≠ some V.heap.size := own_apart HO'.out HK5.out (by decide)
            go_roundw
            case rel =>
              refine ⟨_, k + 1, rfl, by omega, by go_num, ⟨q', cap2, Lib.hid ?_, Lib.hid ?_⟩, Lib.hid ?_⟩
              · have := HK5.out
                simp [World.setCell, Array.getElem?_modify, this]
              · rw [HTk.out]
                have := ownsRow_setCell_other HO'.out (a := ⟨V.heap.size, 3, none⟩) hne7 (.slice q' (k + 1) cap2)
                simpa using this
              · exact ((HVX.out.drew.alloc (show V.heap.size ≤ X.heap.size by omega) _).grown HGR.out (by first | (simp; done) | (simp; omega)) (fun r e => by have := (HOX.out.lt r e).1; omega)).setCell (by simp) _
            case measure => simp [intOf] <;> omega
        · obtain rfl : k = al := by omega
          have e : m.attrs.take k = m.attrs := List.take_of_length_le (by rw [HAl.out]; exact Nat.le_refl _)
          rw [e] at HOX
          have HNc : Hid (ncells ⟨m.kind, m.name, m.text, m.attrs, m.parent, m.kids, q, cap', m.kA, m.kC⟩ = [.int .i64 m.kind, .string m.name, .string m.text, .slice q k cap', .int .i64 m.parent, .slice m.kA kl m.kC]) := Lib.hid (by simp [ncells, HAl.out, HKl.out])
          have HCp : Hid (Cop w X w.heap.size ⟨m.kind, m.name, m.text, m.attrs, m.parent, m.kids, q, cap', m.kA, m.kC⟩) := Lib.hid (by
            obtain ⟨p2, c2, hq, h1, h2⟩ := own_form2 HOX.out
            cases hq
            refine ⟨⟨HFj.out.k64, HFj.out.p64, HFj.out.ks64, ⟨by rw [HAl.out]; exact h1, Nat.le_trans h2 (by unfold maxLen; omega)⟩, HFj.out.kc⟩, HIr.out, ?_⟩
            have := own_mono HOX.out (show w.heap.size ≤ V.heap.size + 1 by have := HBS.out; omega)
            rw [HAl.out]
            exact this)
          have HOw2 := Lib.hid (own_below HOw.out HVX.out)
          have HC2 : Hid (∀ m ∈ G, Cop w X w.heap.size m) := Lib.hid (fun m hm => (HC.out m hm).below HVX.out)
          clear hnd e
          go_wp2_with (at_builtin; refine wpList_append_own_at _ rfl _ _ 32 rfl w.heap.size 58 i0 _ 6 96 Tryz.underlying32 HI.out.1 HI.out.2.1 HI.out.2.2.1 HI.out.2.2.2 rfl (by decide) _ _ _ rfl (HOw2.out.alloc _) ⟨X.heap.size, 0, none⟩ 1 1 [.int .i64 m.kind, .string m.name, .string m.text, .slice q k cap', .int .i64 m.parent, .slice m.kA kl m.kC] rfl rfl (cell6 _ _ _ _ _ _ _ _ _ (heap_alloc_new X _)) (fun u hu => fcells_one [⟨m.kind, m.name, m.text, m.attrs, m.parent, m.kids, q, cap', m.kA, m.kC⟩] u (by rw [fcells, List.flatMap_cons, HNc.out]; simpa using hu)) (by unfold maxLen; omega) (by omega) (by have := HBX.out.size; first | (simp; done) | (simp; omega)) ?_; intro v' w4 hown' hgrow _ hat; have HOx := Lib.hid hown'; have HGr := Lib.hid hgrow; clear hown' hgrow hat)
          obtain ⟨p', cap2, rfl, -, -⟩ := own_form2 HOx.out
          have hOx := HOx.out
          rw [← HNc.out, ← fcells_take] at hOx
          refine ⟨⟨w4, j + 1, _, rfl, by omega, by go_num, ⟨p', cap2, rfl, Lib.hid hOx⟩, Lib.hid ?_, Lib.hid ?_, Lib.hid ?_⟩, ?_⟩
          · rw [List.map_append, HG.out, HT.out, List.map_append]
            rfl
          · intro m1 hm1
            have ap : ∀ m2, Cop w X w.heap.size m2 → Cop w w4 w.heap.size m2 := fun m2 h2 => ⟨h2.fit, h2.ir, (h2.ar.alloc _).kept HGr.out (own_apart2 (h2.ar.alloc _) (HOw2.out.alloc (.cells #[.int .i64 m.kind, .string m.name, .string m.text, .slice q k cap', .int .i64 m.parent, .slice m.kA kl m.kC] 58)) (by decide))⟩
            rcases List.mem_append.1 hm1 with h | h
            · exact ap _ (HC2.out m1 h)
            · rw [List.mem_singleton] at h
              subst h
              exact ap _ HCp.out
          · exact (HBX.out.alloc HBX.out.size _).grown HGr.out (by have := HBX.out.size; first | (simp; done) | (simp; omega)) (fun r e => (HOw2.out.lt r e).1)
          · simp [intOf] <;> omega
    · obtain rfl : j = n := by omega
      have e : F.take j = F := List.take_of_length_le (by rw [HNN.out]; exact Nat.le_refl _)
      rw [e] at HG
      go_wp2
      go_ret
      exact ⟨_, _, G, rfl, HG.out, cop_fr HOw.out HC.out HB.out, HB.out⟩
end Go.Proofs.YtaacikjoafobfaaGreatDoor.Fi
namespace Go.Proofs.YtaacikjoafobfaaGreatDoor.Sx
open Go.ChangeShapes Go.WideShapes Go.ChangeAt Go.RowKit
open Go.PlainAid (bt)
set_option linter.unusedVariables false
set_option linter.unusedSimpArgs false

theorem info_rtest : (Tryz.prog.info? 103).map (fun i => (i.zero, i.size, i.bytes)) = some (some (.agg #[.int .i64 0, .string ⟨#[]⟩, .string ⟨#[]⟩]), 3, 40) := by kernel_rfl
theorem info_rstep : (Tryz.prog.info? 61).map (fun i => (i.zero, i.size, i.bytes)) = some (some (.agg #[.slice none 0 0, .bool false]), 2, 32) := by kernel_rfl
theorem info_rrow : (Tryz.prog.info? 62).map (fun i => (i.zero, i.size, i.bytes)) = some (some (.slice none 0 0), 1, 24) := by kernel_rfl
/-- A row of steps of one's own. -/
structure RwR (w : World) (base : Nat) (v : Value) (l : List Ms) : Prop where
  row : w.ownsRow base 61 2 v l.length (scells l)
  sub : ∀ m ∈ l, w.ownsRow base 103 3 (.slice m.1.1 m.2.1.length m.1.2) m.2.1.length (tcells m.2.1)
theorem RwR.below {w w' : World} {base : Nat} {v : Value} {l : List Ms} (h : RwR w base v l) (hb : Below w.heap.size w w') : RwR w' base v l := ⟨own_below h.row hb, fun m hm => own_below (h.sub m hm) hb⟩
theorem RwR.mono {w : World} {base base' : Nat} {v : Value} {l : List Ms} (h : RwR w base v l) (hb : base' ≤ base) : RwR w base' v l := ⟨own_mono h.row hb, fun m hm => own_mono (h.sub m hm) hb⟩
/-- A step more. -/
theorem RwR.more {w w' : World} {base : Nat} {v v' : Value} {l : List Ms} {m : Ms} (h : RwR w base v l) (ht : w.ownsRow base 103 3 (.slice m.1.1 m.2.1.length m.1.2) m.2.1.length (tcells m.2.1)) (hr : w'.ownsRow base 61 2 v' (l.length + 1) (scells l ++ s2 m)) (hg : w.grownBy w' v.ownBlock) : RwR w' base v' (l ++ [m]) := by
  refine ⟨by rw [List.length_append, scells_snoc]; exact hr, fun x hx => ?_⟩
  rw [List.mem_append, List.mem_singleton] at hx
  rcases hx with hx | rfl
  · exact (h.sub x hx).kept hg (own_apart2 (h.sub x hx) h.row (by decide))
  · exact ht.kept hg (own_apart2 ht h.row (by decide))
/-- A selector of one's own. -/
structure SrR (w : World) (base : Nat) (v : Value) (x : List Mr) : Prop where
  row : w.ownsRow base 62 1 v x.length (rcells x)
  sub : ∀ m ∈ x, RwR w base (.slice m.1.1 m.2.length m.1.2) m.2
theorem SrR.below {w w' : World} {base : Nat} {v : Value} {x : List Mr} (h : SrR w base v x) (hb : Below w.heap.size w w') : SrR w' base v x := ⟨own_below h.row hb, fun m hm => (h.sub m hm).below hb⟩
theorem SrR.mono {w : World} {base base' : Nat} {v : Value} {x : List Mr} (h : SrR w base v x) (hb : base' ≤ base) : SrR w base' v x := ⟨own_mono h.row hb, fun m hm => (h.sub m hm).mono hb⟩
theorem RwR.kept {w w' : World} {base base2 : Nat} {v v2 : Value} {l : List Ms} {x : List Mr} (h : RwR w base v l) (hr : w.ownsRow base2 62 1 v2 x.length (rcells x)) (hg : w.grownBy w' v2.ownBlock) : RwR w' base v l :=
  ⟨h.row.kept hg (own_apart2 h.row hr (by decide)), fun m hm => (h.sub m hm).kept hg (own_apart2 (h.sub m hm) hr (by decide))⟩
theorem SrR.more {w w' : World} {base : Nat} {v v' : Value} {x : List Mr} {m : Mr} (h : SrR w base v x) (ht : RwR w base (.slice m.1.1 m.2.length m.1.2) m.2) (hr : w'.ownsRow base 62 1 v' (x.length + 1) (rcells x ++ [r1 m])) (hg : w.grownBy w' v.ownBlock) : SrR w' base v' (x ++ [m]) := by
  refine ⟨by rw [List.length_append, rcells, List.map_append]; exact hr, fun y hy => ?_⟩
  rw [List.mem_append, List.mem_singleton] at hy
  rcases hy with hy | rfl
  · exact (h.sub y hy).kept h.row hg
  · exact ht.kept h.row hg
theorem tr_ofR {w : World} {base : Nat} {A : Option Addr} {c : Nat} {T : List Tr} (h : w.ownsRow base 103 3 (.slice A T.length c) T.length (tcells T)) : TR w A T := by
  intro i t hi
  have hlt : i < T.length := (List.getElem?_eq_some_iff.1 hi).1
  rcases h.2 with ⟨-, h'⟩ | ⟨g, cap, cur, hv, hb, hg, h1, h2, -⟩
  · omega
  · cases hv
    obtain ⟨e1, e2, e3⟩ := tcells_at hi
    refine ⟨g, 0, rfl, lt_block hg, ?_, ?_, ?_⟩
    · have := h.cells rfl _ _ e1; rw [← this, add_plain]
    · have := h.cells rfl _ _ e2; rw [← this, add_plain]; congr 2
    · have := h.cells rfl _ _ e3; rw [← this, add_plain]; congr 2
theorem mr_ofR {w : World} {base : Nat} {A : Option Addr} {c : Nat} {l : List Ms} (h : RwR w base (.slice A l.length c) l) : MR w A l := by
  intro i m hi
  have hlt : i < l.length := (List.getElem?_eq_some_iff.1 hi).1
  rcases h.row.2 with ⟨-, h'⟩ | ⟨g, cap, cur, hv, hb, hg, h1, h2, -⟩
  · omega
  · cases hv
    obtain ⟨e1, e2⟩ := scells_at hi
    refine ⟨g, 0, rfl, lt_block hg, ?_, ?_, tr_ofR (h.sub m (List.mem_of_getElem? hi))⟩
    · have := h.row.cells rfl _ _ e1; rw [← this, add_plain]
    · have := h.row.cells rfl _ _ e2; rw [← this, add_plain]; congr 2
theorem xr_ofR {w : World} {base : Nat} {v : Value} {x : List Mr} (h : SrR w base v x) : ∃ A c, v = .slice A x.length c ∧ XR w A x := by
  obtain ⟨A, c, rfl, -⟩ := own_form2 h.row
  refine ⟨A, c, rfl, fun i m hi => ?_⟩
  have hlt : i < x.length := (List.getElem?_eq_some_iff.1 hi).1
  rcases h.row.2 with ⟨-, h'⟩ | ⟨g, cap, cur, hv, hb, hg, h1, h2, -⟩
  · omega
  · cases hv
    have e1 : (rcells x)[i]? = some (r1 m) := by simp [rcells, hi]
    refine ⟨g, 0, rfl, lt_block hg, ?_, mr_ofR (h.sub m (List.mem_of_getElem? hi))⟩
    have := h.row.cells rfl _ _ e1
    rw [← this, add_plain]
end Go.Proofs.YtaacikjoafobfaaGreatDoor.Sx
namespace Go.Proofs.YtaacikjoafobfaaGreatDoor.Sx
open Go.ChangeShapes Go.WideShapes Go.ChangeAt Go.RowKit
open Go.PlainAid (bt)
set_option linter.unusedVariables false
set_option linter.unusedSimpArgs false

/-- append onto a row of the call's own: one step of a region that draws its order. -/
theorem step_own {P : Program} {ops : Array Oper} {o : Oper} {a : Act} {w : World} {K : Act → World → Prop} {Q : Exit → Act → World → Prop} {E : Prop}
    (hgd : o.guard = none) (s x : Operand) (t : TypeId) (ho : o.op = .call { callee := .builtin .append, args := #[s, x], argTypes := #[t, t] })
    (base : Nat) (e : TypeId) (i : TypeInfo) (z : Value) (size bytes : Nat) (ht : P.underlying t = some (.slice e)) (hi : P.info? e = some i) (hz : i.zero = some z)
    (hsize : i.size = size) (hby : i.bytes = bytes) (hzs : z.cells.size = size) (hsz : 0 < size)
    (v : Value) (n : Nat) (xs : List Value) (hs : a.eval s = v) (hown : w.ownsRow base e size v n xs)
    (ad : Addr) (m c : Nat) (news : List Value) (hx : a.eval x = .slice (some ad) m c) (hl : news.length = m * size) (hnews : ∀ j u, news[j]? = some u → w.cell? (ad.add j) = some u) (h1 : ∀ u ∈ news, u.oneCell' = true)
    (h63 : n + m ≤ maxLen) (hbytes : (n + m) * bytes ≤ 140737488355328) (hbase : base ≤ w.heap.size)
    (h : ∀ v' w', w'.ownsRow base e size v' (n + m) (xs ++ news) → w.grownBy w' v.ownBlock → (v'.ownBlock = v.ownBlock ∨ v'.ownBlock = some w.heap.size) → K (a.put o.dst v') w') :
    if Region.wanted o (yielded ops a.tmps) = true then Oper.wp P o a w K Q else E := by
  have hw : Region.wanted o (yielded ops a.tmps) = true := by simp [Region.wanted, hgd]
  rw [if_pos hw]
  obtain ⟨v', w', hr, h2, h3, _, h5⟩ := run_append_own_at (P := P) w base t o.type e i z size bytes ht hi hz hsize hby hzs hsz v n xs hown ad m c news hl hnews h1 h63 hbytes hbase
  unfold Oper.wp execOp
  simp only [ho, resolve, invoke, builtin, Sem.run_bind, Sem.run_pure, Result.andThen_ok, List.map_toArray, List.map_cons, List.map_nil, hs, hx, hr]
  exact h v' w' h2 h3 h5
theorem own_put {w : World} {base size k : Nat} {e t : TypeId} {v : Value} {n : Nat} {xs : List Value} {cs : Array Value} (h : w.ownsRow base e size v n xs) (hk : w.heap[k]? = some (.cells cs t (0, 0))) (hne : e ≠ t) (o : Nat) (u : Value) : (w.setCell ⟨k, o, none⟩ u).ownsRow base e size v n xs := by
  have hq := own_apart h hk hne
  refine ⟨h.1, ?_⟩
  rcases h.2 with h' | ⟨g, cap, cur, h1, h2, h3, h4⟩
  · exact .inl h'
  · refine .inr ⟨g, cap, cur, h1, h2, ?_, h4⟩
    subst h1
    exact (Below.heap_setCell _ _ _ _ (fun e => hq (by simp only [Value.ownBlock]; exact congrArg some e))).trans h3
theorem wx_small {x : List Mr} (h : Sl.wx (rws x) ≤ 1000000) : x.length ≤ 1000000 ∧ ∀ m ∈ x, m.2.length ≤ 1000000 ∧ ∀ s ∈ m.2, s.2.1.length ≤ 1000000 := by
  have h1 := Sl.wx_len (rws x)
  rw [rws, List.length_map] at h1
  refine ⟨by rw [rws] at h; omega, fun m hm => ?_⟩
  have h2 := Sl.wx_row (List.mem_map_of_mem (f := fun m : Mr => m.2.map stp) hm)
  have h3 := Sl.wss_len (m.2.map stp)
  rw [List.length_map] at h3
  unfold Sl.wr at h2
  rw [rws] at h
  refine ⟨by omega, fun s hs => ?_⟩
  have h4 := Sl.wr_step (List.mem_map_of_mem (f := stp) hs)
  have h5 := Sl.wc_len (s.2.1.map te)
  rw [List.length_map] at h5
  have e : Sl.ws (stp s) = 4 + Sl.wc (s.2.1.map te) := rfl
  omega
set_option maxRecDepth 100000 in
set_option maxHeartbeats 8000000 in
theorem rows_any (A : Option Addr) (x : List Mr) (c : Nat) (w : World) (hX : XR w A x) (hz : Sl.wx (rws x) ≤ 1000000) :
    Calls Tryz.prog 19 #[.slice A x.length c] w fun e w' => ∃ (y : List Mr) (v : Value), e = .returned v ∧ SrR w' w.heap.size v y ∧ cx y = cx x ∧ Below w.heap.size w w' := by
  have HX := Lib.hid hX
  obtain ⟨hz1, hz2⟩ := wx_small hz
  have HZ := Lib.hid hz2
  obtain ⟨i0, hI1, hI2, hI3, hI4⟩ := info_parts info_rtest
  obtain ⟨i1, hJ1, hJ2, hJ3, hJ4⟩ := info_parts info_rstep
  obtain ⟨i2, hK1, hK2, hK3, hK4⟩ := info_parts info_rrow
  have HI := Lib.hid (And.intro hI1 (And.intro hI2 (And.intro hI3 hI4)))
  have HJ := Lib.hid (And.intro hJ1 (And.intro hJ2 (And.intro hJ3 hJ4)))
  have HK := Lib.hid (And.intro hK1 (And.intro hK2 (And.intro hK3 hK4)))
  obtain ⟨n, hn⟩ : ∃ n, x.length = n := ⟨_, rfl⟩
  have HN := Lib.hid hn
  rw [hn] at hz1 ⊢
  clear hX hn hz hz2 hI1 hI2 hI3 hI4 hJ1 hJ2 hJ3 hJ4 hK1 hK2 hK3 hK4
  have HO := Lib.hid (World.ownsRow_made (e := 62) (size := 1) (base := w.heap.size) w #[] 0 (Nat.le_refl _) (by simp [maxLen]) rfl)
  have HB0 : Hid (Below w.heap.size w (w.alloc (.cells #[] 62))) := Lib.hid ((Below.refl _ _).alloc (Nat.le_refl _) _)
  go_enter Tryz.func19, Tryz.ntmps19
  go_wp2_with fail
  go_loopw [3, 4] (fun q3 q4 wr => ∃ (V : World) (i : Nat) (p : Option Addr) (cap : Nat) (Y : List Mr), V = wr ∧ i ≤ n ∧ q3 = .slice p i cap ∧ q4 = .int .i64 i ∧ Y.length = i ∧ Hid (SrR V w.heap.size (.slice p i cap) Y) ∧ Hid (cx Y = (cx x).take i) ∧ Hid (Below w.heap.size w V)) (fun _ q4 _ => n - (intOf q4).toNat)
  case atStart => exact ⟨_, 0, _, _, [], rfl, Nat.zero_le _, rfl, rfl, rfl, Lib.hid ⟨HO.out, fun m hm => absurd hm (by simp)⟩, Lib.hid rfl, HB0⟩
  case round =>
    clear HO HB0
    obtain ⟨V, i, p, cap, Y, rfl, hi, rfl, rfl, hYl, HS, HY, HB⟩ := hrel
    by_cases hlt : i < n
    · have k0 : (0 : Int) ≤ (i : Int) := by omega
      have k1 : (i : Int) < (n : Int) := by omega
      have hix : i < x.length := by rw [HN.out]; exact hlt
      obtain ⟨g, off, rfl, hg, c0, hM⟩ := (HX.out.below HB.out) i x[i] (List.getElem?_eq_getElem hix)
      have HM := Lib.hid hM
      unfold r1 at c0
      have HCx : Hid ((cx x).take (i + 1) = (cx x).take i ++ [cl x[i].2]) := Lib.hid (by rw [take_more (by simpa [cx] using hix)]; simp [cx])
      obtain ⟨hl1, hl2⟩ := HZ.out x[i] (List.getElem_mem hix)
      have HL2 := Lib.hid hl2
      have HC0 := Lib.hid (fun (X : World) (hX : Below V.heap.size V X) => And.intro ((hX.cell (p := ⟨g, off + i, none⟩) hg).trans c0) (Nat.lt_of_lt_of_le hg hX.size))
      generalize x[i] = m at *
      obtain ⟨⟨mA, mc⟩, l⟩ := m
      simp only [] at c0 HC0 HM HCx hl1 HL2
      obtain ⟨nl, hnl⟩ : ∃ nl, l.length = nl := ⟨_, rfl⟩
      have HNL := Lib.hid hnl
      rw [hnl] at c0 HC0 hl1
      clear hnl hM hl2 c0
      have HO1 := Lib.hid (World.ownsRow_made (e := 61) (size := 2) (base := V.heap.size) V #[] 0 (Nat.le_refl _) (by simp [maxLen]) rfl)
      have HB1 : Hid (Below V.heap.size V (V.alloc (.cells #[] 61))) := Lib.hid ((Below.refl _ _).alloc (Nat.le_refl _) _)
      go_wp2_with fail
      go_loopw [5, 6] (fun q5 q6 wr => ∃ (U : World) (k : Nat) (p5 : Option Addr) (c5 : Nat) (L : List Ms), U = wr ∧ k ≤ nl ∧ q5 = .slice p5 k c5 ∧ q6 = .int .i64 k ∧ L.length = k ∧ Hid (RwR U V.heap.size (.slice p5 k c5) L) ∧ Hid (cl L = (cl l).take k) ∧ Hid (Below V.heap.size V U)) (fun _ q6 _ => nl - (intOf q6).toNat)
      case atStart => exact ⟨_, 0, _, _, [], rfl, Nat.zero_le _, rfl, rfl, rfl, Lib.hid ⟨HO1.out, fun m hm => absurd hm (by simp)⟩, Lib.hid rfl, HB1⟩
      case round =>
        clear HO1 HB1
        obtain ⟨U, k, p5, c5, L, rfl, hk, rfl, rfl, hLl, HW, HLc, HU⟩ := hrel
        obtain ⟨c0, hgU⟩ := HC0.out U HU.out
        by_cases hkl : k < nl
        · have j0 : (0 : Int) ≤ (k : Int) := by omega
          have j1 : (k : Int) < (nl : Int) := by omega
          have hkx : k < l.length := by rw [HNL.out]; exact hkl
          obtain ⟨gs, os, rfl, hgs, s0, s1, hT⟩ := (HM.out.below HU.out) k l[k] (List.getElem?_eq_getElem hkx)
          have HT := Lib.hid hT
          have hts := HL2.out l[k] (List.getElem_mem hkx)
          have HCl : Hid ((cl l).take (k + 1) = (cl l).take k ++ [l[k].2]) := Lib.hid (by rw [take_more (by simpa [cl] using hkx)]; simp [cl])
          have HCS := Lib.hid (fun (X : World) (hX : Below U.heap.size U X) => And.intro ((hX.cell (p := ⟨gs, os + k * 2, none⟩) hgs).trans s0) (Nat.lt_of_lt_of_le hgs hX.size))
          have HC1 := Lib.hid (fun (X : World) (hX : Below U.heap.size U X) => HC0.out X (HU.out.trans (hX.mono HU.out.size)))
          generalize l[k] = q1 at *
          obtain ⟨⟨tA, tc⟩, T, ch⟩ := q1
          simp only [] at s0 s1 HCS HT HCl hts
          obtain ⟨nt, hnt⟩ : ∃ nt, T.length = nt := ⟨_, rfl⟩
          have HNT := Lib.hid hnt
          rw [hnt] at s0 HCS hts
          clear hnt hT
          obtain ⟨P0, hP0⟩ : ∃ P0, P0 = U.alloc (.cells #[.slice none 0 0, .bool ch] 61) := ⟨_, rfl⟩
          have HX0 : Hid (P0.heap[U.heap.size]? = some (.cells #[.slice none 0 0, .bool ch] 61 (0, 0))) := Lib.hid (by rw [hP0]; exact heap_alloc_new _ _)
          have HPB : Hid (Below U.heap.size U P0) := Lib.hid (by rw [hP0]; exact (Below.refl _ _).alloc (Nat.le_refl _) _)
          have HPS : Hid (P0.heap.size = U.heap.size + 1) := Lib.hid (by rw [hP0]; simp)
          go_wp2_with fail
          rw [← hP0]
          clear hP0 c0 s0 s1
          obtain ⟨xb, hxb⟩ : ∃ xb, xb = U.heap.size := ⟨_, rfl⟩
          have HXB := Lib.hid hxb
          rw [← hxb] at HX0 ⊢
          clear hxb
          go_loopw [8] (fun q8 wr => ∃ (P : World) (j : Nat) (pt : Option Addr) (ct : Nat), P = wr ∧ j ≤ nt ∧ q8 = .int .i64 j ∧ Hid (P.heap[xb]? = some (.cells #[.slice pt j ct, .bool ch] 61 (0, 0))) ∧ Hid (P.ownsRow (xb + 1) 103 3 (.slice pt j ct) j (tcells (T.take j))) ∧ Hid (Below U.heap.size U P)) (fun q8 _ => nt - (intOf q8).toNat)
          case atStart => exact ⟨_, 0, none, 0, rfl, Nat.zero_le _, rfl, HX0, Lib.hid (World.ownsRow_nil _ _ _ _), HPB⟩
          case round =>
            clear HX0 HPB HPS
            obtain ⟨P, j, pt, ct, rfl, hj, rfl, HXj, HOj, HP⟩ := hrel
            obtain ⟨c0, hgP⟩ := HC1.out P HP.out
            obtain ⟨s0, hgsP⟩ := HCS.out P HP.out
            have hxl := lt_block HXj.out
            by_cases hjl : j < nt
            · have y0 : (0 : Int) ≤ (j : Int) := by omega
              have y1 : (j : Int) < (nt : Int) := by omega
              have hjx : j < T.length := by rw [HNT.out]; exact hjl
              obtain ⟨gt, ot, rfl, hgt, d0, d1, d2⟩ := (HT.out.below HP.out) j T[j] (List.getElem?_eq_getElem hjx)
              have HTk : Hid (tcells (T.take (j + 1)) = tcells (T.take j) ++ t3 T[j]) := Lib.hid (by rw [take_more hjx, tcells_snoc])
              generalize T[j] = y at *
              obtain ⟨ya, yb, yc⟩ := y
              simp only [] at d0 d1 d2
              have b0 : P.cell? ⟨xb, 0, none⟩ = some (.slice pt j ct) := by simp [World.cell?, HXj.out]
              have f0 : P.frozen? ⟨xb, 0, none⟩ = false := by simp [World.frozen?, HXj.out]
              have hne1 : g ≠ P.heap.size := by omega
              have hne2 : P.heap.size ≠ g := by omega
              have hne3 : gs ≠ P.heap.size := by omega
              have hne4 : P.heap.size ≠ gs := by omega
              have hne5 : gt ≠ P.heap.size := by omega
              have hne6 : P.heap.size ≠ gt := by omega
              have hne7 : xb ≠ P.heap.size := by omega
              have hne8 : P.heap.size ≠ xb := by omega
              have hrow : (Value.slice pt j ct).ownBlock ≠ some xb := own_apart HOj.out HXj.out (by decide)
              have mixed : Tryz.prog.follows Departure.mixedOrders = true := by kernel_rfl
              go_upto_region 13 with fail
              go_region_law_o (refine step_own rfl (.tmp 49) (.tmp 61) 59 rfl (xb + 1) 103 i0 (.agg #[.int .i64 0, .string ⟨#[]⟩, .string ⟨#[]⟩]) 3 40 Tryz.underlying59 HI.out.1 HI.out.2.1 HI.out.2.2.1 HI.out.2.2.2 rfl (by decide) (.slice pt j ct) j (tcells (T.take j)) (by simp [Act.eval, Act.put]) (HOj.out.alloc _) ⟨P.heap.size, 0, none⟩ 1 1 (t3 (ya, yb, yc)) (by simp [Act.eval, Act.put]) rfl (cells3 _ _ _ _ _ _ (heap_alloc_new _ _)) (t3_one (ya, yb, yc)) (by unfold maxLen; omega) (by omega) (by first | (simp; done) | (simp; omega)) ?_; intro v' w5 hown' hgrow hat; obtain ⟨q', cap2, rfl, -, -⟩ := own_form2 hown'; have HO' := Lib.hid hown'; have HGR := Lib.hid hgrow; have HK5 : Hid (w5.heap[xb]? = some (.cells #[.slice pt j ct, .bool ch] 61 (0, 0))) := Lib.hid (by rw [hgrow.block _ (by first | (simp; done) | (simp; omega)) (Ne.symm hrow)]; exact (Below.heap_alloc _ _ _ (by first | exact hxl | simpa using hxl)).trans HXj.out); have g3 : w5.frozen? ⟨xb, 0, none⟩ = false := (by simp [World.frozen?, HK5.out]); have g4 : w5.cell? ⟨xb, 0, none⟩ = some (.slice pt j ct) := (by simp [World.cell?, HK5.out]); clear hown' hgrow hat)
              all_goals
                go_wp2
                go_roundw
                case rel =>
                  refine ⟨_, j + 1, q', cap2, rfl, by omega, by go_num, Lib.hid ?_, Lib.hid ?_, Lib.hid ?_⟩
                  · have := HK5.out
                    simp [World.setCell, Array.getElem?_modify, this]
                  · rw [HTk.out]
                    exact own_put HO'.out HK5.out (by decide) 0 _
                  · exact ((HP.out.drew.alloc (show U.heap.size ≤ P.heap.size from HP.out.size) _).grown HGR.out (by have := HP.out.size; first | (simp; done) | (simp; omega)) (fun r e => by have := (HOj.out.lt r e).1; have := HXB.out; omega)).setCell (by have := HXB.out; simp; omega) _
                case measure => simp [intOf] <;> omega
            · obtain rfl : j = nt := by omega
              have e : T.take j = T := List.take_of_length_le (by rw [HNT.out]; exact Nat.le_refl _)
              rw [e] at HOj
              have b0 : P.cell? ⟨xb, 0, none⟩ = some (.slice pt j ct) := by simp [World.cell?, HXj.out]
              have b1 : P.cell? ⟨xb, 1, none⟩ = some (.bool ch) := by simp [World.cell?, HXj.out]
              have HWP := Lib.hid (HW.out.below HP.out)
              have HXA : Hid (Below P.heap.size P (P.alloc (.cells #[.slice pt j ct, .bool ch] 61))) := Lib.hid ((Below.refl _ _).alloc (Nat.le_refl _) _)
              have HXo := Lib.hid (own_below HWP.out.row HXA.out)
              have HXC := Lib.hid (cells2 _ _ _ _ _ (heap_alloc_new P (.cells #[.slice pt j ct, .bool ch] 61)))
              have HVP := Lib.hid (HU.out.trans (HP.out.mono HU.out.size))
              have HXS := Lib.hid (Nat.le_trans HVP.out.size HXA.out.size)
              have HLL := Lib.hid hLl
              rw [hLl] at HXo
              clear e
              go_wp2_with (at_builtin; refine wpList_append_own_at _ rfl _ _ 62 rfl V.heap.size 61 i1 (.agg #[.slice none 0 0, .bool false]) 2 32 Tryz.underlying62 HJ.out.1 HJ.out.2.1 HJ.out.2.2.1 HJ.out.2.2.2 rfl (by decide) _ _ _ rfl HXo.out ⟨P.heap.size, 0, none⟩ 1 1 [.slice pt j ct, .bool ch] rfl rfl HXC.out (by intro u hu; simp only [List.mem_cons, List.not_mem_nil, or_false] at hu; rcases hu with rfl | rfl <;> rfl) (by unfold maxLen; omega) (by omega) HXS.out ?_; intro v' V' hown' hgrow _ hat; have HO' := Lib.hid hown'; have HGR := Lib.hid hgrow; clear hown' hgrow hat)
              obtain ⟨p', cap', rfl, -⟩ := own_form2 HO'.out
              have HVV : Hid (Below V.heap.size V V') := Lib.hid ((HVP.out.trans (HXA.out.mono HVP.out.size)).grown HGR.out HXS.out (fun q e => (HXo.out.lt q e).1))
              have hlen : (L ++ [((pt, ct), (T, ch))]).length = k + 1 := by rw [List.length_append, HLL.out]; rfl
              have HW9 : Hid (RwR V' V.heap.size (.slice p' (k + 1) cap') (L ++ [((pt, ct), (T, ch))])) := Lib.hid (by
                have hX := HWP.out.below HXA.out
                refine hX.more (m := ((pt, ct), (T, ch))) ?_ ?_ HGR.out
                · show World.ownsRow _ _ _ _ (.slice pt T.length ct) T.length _
                  rw [HNT.out]
                  exact own_mono (own_below HOj.out HXA.out) (by have := HXB.out; have := HU.out.size; omega)
                · rw [HLL.out]
                  have := HO'.out
                  show World.ownsRow _ _ _ _ _ _ (_ ++ [.slice pt T.length ct, .bool ch])
                  rw [HNT.out]
                  exact this)
              have HC9 : Hid (cl (L ++ [((pt, ct), (T, ch))]) = (cl l).take (k + 1)) := Lib.hid (by rw [HCl.out, ← HLc.out]; simp [cl])
              go_roundw
              case rel => exact ⟨V', k + 1, p', cap', L ++ [((pt, ct), (T, ch))], rfl, by omega, rfl, by go_num, hlen, HW9, HC9, HVV⟩
              case measure => simp [intOf] <;> omega
        · obtain rfl : k = nl := by omega
          have HLf : Hid (cl L = cl l) := Lib.hid (by
            have := HLc.out
            rwa [List.take_of_length_le (l := cl l) (by simp [cl, HNL.out])] at this)
          have HSU := Lib.hid (HS.out.below HU.out)
          have HXA : Hid (Below U.heap.size U (U.alloc (.cells #[.slice p5 k c5] 62))) := Lib.hid ((Below.refl _ _).alloc (Nat.le_refl _) _)
          have HXo := Lib.hid (own_below HSU.out.row HXA.out)
          have HXC := Lib.hid (cells1 _ _ _ _ (heap_alloc_new U (.cells #[.slice p5 k c5] 62)))
          have HVP := Lib.hid (HB.out.trans (HU.out.mono HB.out.size))
          have HXS := Lib.hid (Nat.le_trans HVP.out.size HXA.out.size)
          have HLL := Lib.hid hLl
          have HYL := Lib.hid hYl
          rw [hYl] at HXo
          go_wp2_with (at_builtin; refine wpList_append_own_at _ rfl _ _ 40 rfl w.heap.size 62 i2 (.slice none 0 0) 1 24 Tryz.underlying40 HK.out.1 HK.out.2.1 HK.out.2.2.1 HK.out.2.2.2 rfl (by decide) _ _ _ rfl HXo.out ⟨U.heap.size, 0, none⟩ 1 1 [.slice p5 k c5] rfl rfl HXC.out (by intro u hu; simp only [List.mem_cons, List.not_mem_nil, or_false] at hu; subst hu; rfl) (by unfold maxLen; omega) (by omega) HXS.out ?_; intro v' V' hown' hgrow _ hat; have HO' := Lib.hid hown'; have HGR := Lib.hid hgrow; clear hown' hgrow hat)
          obtain ⟨p', cap', rfl, -⟩ := own_form2 HO'.out
          have HVV : Hid (Below w.heap.size w V') := Lib.hid ((HVP.out.trans (HXA.out.mono HVP.out.size)).grown HGR.out HXS.out (fun q e => (HXo.out.lt q e).1))
          have hlen : (Y ++ [((p5, c5), L)]).length = i + 1 := by rw [List.length_append, HYL.out]; rfl
          have HS9 : Hid (SrR V' w.heap.size (.slice p' (i + 1) cap') (Y ++ [((p5, c5), L)])) := Lib.hid (by
            have hX := HSU.out.below HXA.out
            refine hX.more (m := ((p5, c5), L)) ?_ ?_ HGR.out
            · show RwR _ _ (.slice p5 L.length c5) L
              rw [HLL.out]
              exact (HW.out.below HXA.out).mono HB.out.size
            · rw [HYL.out]
              have := HO'.out
              show World.ownsRow _ _ _ _ _ _ (_ ++ [.slice p5 L.length c5])
              rw [HLL.out]
              exact this)
          have HC9 : Hid (cx (Y ++ [((p5, c5), L)]) = (cx x).take (i + 1)) := Lib.hid (by rw [HCx.out, ← HY.out, ← HLf.out]; simp [cx])
          go_roundw
          case rel => exact ⟨V', i + 1, p', cap', Y ++ [((p5, c5), L)], rfl, by omega, rfl, by go_num, hlen, HS9, HC9, HVV⟩
          case measure => simp [intOf] <;> omega
    · obtain rfl : i = n := by omega
      have HYf : Hid (cx Y = cx x) := Lib.hid (by
        have := HY.out
        rwa [List.take_of_length_le (l := cx x) (by simp [cx, HN.out])] at this)
      go_wp2
      go_ret
      exact ⟨Y, _, rfl, HS.out, HYf.out, HB.out⟩
end Go.Proofs.YtaacikjoafobfaaGreatDoor.Sx
