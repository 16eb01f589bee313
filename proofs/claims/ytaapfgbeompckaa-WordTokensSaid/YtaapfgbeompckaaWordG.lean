/-
  The document's own Tokens and Has, at any text.
-/
import Derived.Test.YtaapfgbeompckaaWordF
namespace Go.Proofs.Ytaapfgbeompckaa
open Go.ChangeShapes Go.WideShapes Go.ChangeAt Go.RowKit
open Go.PlainAid (bt)
set_option linter.unusedVariables false

/-- What the words c that are begun come to at a blank. -/
def shut (c : Wd) : List Wd := if c = [] then [] else [c]
theorem split_bl' {cur : Wd} {c : UInt8} {l : Wd} (h : bl (c.toNat : Int) = true) : split cur (c :: l) = shut cur ++ split [] l := split_bl h
/-- Where the document's Tokens stands: k bytes are behind it, pre are the words that are ended, c is begun. -/
def At (s : ByteArray) (k : Nat) (pre : List Wd) (c : Wd) : Prop :=
  k ≤ s.size + 1 ∧ c.length ≤ k ∧ pre.length ≤ k ∧ (k ≤ s.size → ws s = pre ++ split c (rs s k)) ∧ (k = s.size + 1 → ws s = pre ∧ c = [])
theorem at_start (s : ByteArray) : At s 0 [] [] := ⟨Nat.zero_le _, Nat.le_refl _, Nat.le_refl _, fun _ => by rw [List.nil_append]; rfl, fun h => by omega⟩
theorem at_nb {s : ByteArray} {k : Nat} {pre : List Wd} {c : Wd} (h : At s k pre c) (hk : k < s.size) (hb : bl (bt s k) = false) : At s (k + 1) pre (c ++ cu s k (k + 1)) := by
  obtain ⟨b, hc, hr, hu⟩ := rs_cons s hk
  have e : cu s k (k + 1) = [b] := by rw [hu k (Nat.le_refl _), cu_same]; rfl
  obtain ⟨h1, h2, h3, h4, h5⟩ := h
  refine ⟨by omega, by rw [e]; simp; omega, by omega, fun _ => ?_, fun h => by omega⟩
  rw [h4 (by omega), hr, split_nb (by rw [hc]; exact hb), e]
theorem at_bl {s : ByteArray} {k : Nat} {pre : List Wd} {c : Wd} (h : At s k pre c) (hk : k < s.size) (hb : bl (bt s k) = true) : At s (k + 1) (pre ++ shut c) [] := by
  obtain ⟨b, hc, hr, hu⟩ := rs_cons s hk
  obtain ⟨h1, h2, h3, h4, h5⟩ := h
  refine ⟨by omega, by simp, by unfold shut; split <;> simp <;> omega, fun _ => ?_, fun h => by omega⟩
  rw [h4 (by omega), hr, split_bl' (by rw [hc]; exact hb), List.append_assoc]
theorem at_end {s : ByteArray} {pre : List Wd} {c : Wd} (h : At s s.size pre c) : At s (s.size + 1) (pre ++ shut c) [] := by
  obtain ⟨h1, h2, h3, h4, h5⟩ := h
  refine ⟨by omega, by simp, by unfold shut; split <;> simp <;> omega, fun h => by omega, fun _ => ⟨?_, rfl⟩⟩
  rw [h4 (Nat.le_refl _), rs_end]
  rfl
theorem dd_shut_none (pre : List Wd) : dd (pre ++ shut []) = dd pre := by simp [shut]
theorem dd_shut_hit {pre : List Wd} {c : Wd} (hc : c ≠ []) (h : c ∈ dd pre) : dd (pre ++ shut c) = dd pre := by
  unfold shut; rw [if_neg hc]; exact dd_hit ((mem_dd _ _).1 h)
theorem dd_shut_miss {pre : List Wd} {c : Wd} (hc : c ≠ []) (h : c ∉ dd pre) : dd (pre ++ shut c) = dd pre ++ [c] := by
  unfold shut; rw [if_neg hc]; exact dd_miss (fun h' => h ((mem_dd _ _).2 h'))

set_option maxHeartbeats 1000000 in
theorem rtokens_own (s : ByteArray) (w : World) (hs : s.size ≤ 100000) :
    Calls Try.prog 16 #[.string s] w fun e w' => ∃ v, e = .returned v ∧ w'.ownsRow w.heap.size 9 1 v (dd (ws s)).length ((dd (ws s)).map sv) ∧ Below w.heap.size w w' := by
  obtain ⟨i0, hi, hz0, hz1, hz2⟩ := info_parts info_str
  have hI := Lib.hid hi
  have hZ0 := Lib.hid hz0
  have hZ1 := Lib.hid hz1
  have hZ2 := Lib.hid hz2
  clear hi hz0 hz1 hz2
  go_enter Try.func16, Try.ntmps16
  go_wp2
  go_loopw [3, 4, 5] (fun o c i wr => ∃ (pre : List Wd) (cb : ByteArray) (k : Nat) (p : Option Addr) (cap : Nat), i = .int .i64 k ∧ c = .string cb ∧ o = .slice p (dd pre).length cap ∧
      Hid (At s k pre cb.data.toList) ∧ Hid (wr.ownsRow w.heap.size 9 1 (.slice p (dd pre).length cap) (dd pre).length ((dd pre).map sv)) ∧ Hid (Below w.heap.size w wr)) (fun _ _ i _ => s.size + 1 - (intOf i).toNat)
  case atStart =>
    exact ⟨[], ⟨#[]⟩, 0, _, _, rfl, rfl, rfl, Lib.hid (at_start s), Lib.hid (World.ownsRow_made w #[] 0 (Nat.le_refl _) (by simp [maxLen]) rfl), Lib.hid ((Below.refl _ w).alloc (Nat.le_refl _) _)⟩
  case round =>
    obtain ⟨pre, cb, k, p, cap, rfl, rfl, rfl, HA, HO, HB⟩ := hrel
    have hk := HA.out.1
    have hcl := HA.out.2.1
    have hpl := HA.out.2.2.1
    have hdl := dd_length pre
    have hbt := PlainAid.get_bt s
    have h1 := PlainAid.bt_nonneg s k
    have h2 := PlainAid.bt_le s k
    have hcs : cb.size ≤ 100001 := by rw [Lib.size_eq]; omega
    by_cases hlt : k < s.size
    · rcases Bool.eq_false_or_eq_true (bl (bt s k)) with hb | hb
      · by_cases hc0 : cb.data.toList = []
        · have hE : cb.toList.isEmpty = true := by rw [Lib.toList_data, hc0]; rfl
          have hE' : cb.toList = [] := by rw [Lib.toList_data, hc0]
          have HC := Lib.hid hc0
          clear hc0
          go_wp2_with fail
          refine (blank_any _ _ h1 h2).mono ?_
          rintro e w' ⟨rfl, rfl⟩
          go_wp2
          go_roundw
          case rel =>
            have ha := at_bl HA.out hlt hb 
            rw [HC.out] at ha
            have hd : dd (pre ++ shut []) = dd pre := dd_shut_none pre
            refine ⟨pre ++ shut [], ⟨#[]⟩, _, p, cap, by go_num, rfl, by rw [hd], Lib.hid ha, Lib.hid (by rw [hd]; exact HO.out), HB⟩
          case measure => simp [intOf] <;> omega
        · have hE : cb.toList.isEmpty = false := by rw [Lib.toList_data]; simpa using hc0
          have hE' : ¬ cb.toList = [] := by rw [Lib.toList_data]; exact hc0
          have HC := Lib.hid hc0
          clear hc0
          obtain ⟨p', cap', e', hnc, hcm, HR⟩ := Rd.of_own HO.out
          obtain ⟨rfl, rfl⟩ : p = p' ∧ cap = cap' := by cases e'; exact ⟨rfl, rfl⟩
          clear e'
          have HR' := Lib.hid HR
          clear HR
          by_cases hin : cb.data.toList ∈ dd pre
          · have hdec : decide (cb.data.toList ∈ dd pre) = true := by simpa using hin
            have HIN := Lib.hid hin
            clear hin
            go_wp2_with fail
            refine (blank_any _ _ h1 h2).mono ?_
            rintro e w' ⟨rfl, rfl⟩
            go_wp2_with fail
            refine (in_any p _ cap (dd pre) cb _ _ HR'.out (by omega)).mono ?_
            rw [hdec]
            rintro e w' ⟨rfl, rfl⟩
            go_wp2
            go_roundw
            case rel =>
              have ha := at_bl HA.out hlt hb
              have hd := dd_shut_hit HC.out HIN.out
              refine ⟨pre ++ shut cb.data.toList, ⟨#[]⟩, _, p, cap, by go_num, rfl, by rw [hd], Lib.hid ha, Lib.hid (by rw [hd]; exact HO.out), HB⟩
            case measure => simp [intOf] <;> omega
          · have hdec : decide (cb.data.toList ∈ dd pre) = false := by simpa using hin
            have HIN := Lib.hid hin
            clear hin
            have hBs := HB.out.size
            go_wp2_with fail
            refine (blank_any _ _ h1 h2).mono ?_
            rintro e w' ⟨rfl, rfl⟩
            go_wp2_with fail
            refine (in_any p _ cap (dd pre) cb _ _ HR'.out (by omega)).mono ?_
            rw [hdec]
            rintro e w' ⟨rfl, rfl⟩
            go_wp2_with (at_builtin; refine wpList_append_own _ rfl _ _ 25 rfl w.heap.size 9 i0 (.string ⟨#[]⟩) 1 16 Try.underlying25 hI.out hZ0.out hZ1.out hZ2.out rfl (by decide) _ _ _ rfl (HO.out.alloc _) ⟨wr.heap.size, 0, none⟩ 1 1 [.string cb] rfl rfl (cell_one_new _ _ _) (by simp [Value.oneCell']) (by unfold maxLen; omega) (by omega) (by simp; omega) ?_; intro v' w1 hown' hgrow _; obtain ⟨g', cap', rfl⟩ := ownsRow_succ hown'; have HO' := Lib.hid hown'; have HG := Lib.hid hgrow; clear hown' hgrow)
            go_roundw
            case rel =>
              have ha := at_bl HA.out hlt hb
              have hd := dd_shut_miss HC.out HIN.out
              refine ⟨pre ++ shut cb.data.toList, ⟨#[]⟩, _, _, cap', by go_num, rfl, by rw [hd, List.length_append]; rfl, Lib.hid ha, Lib.hid ?_, Lib.hid ?_⟩
              · rw [hd, List.length_append, List.map_append]
                have : sv cb.data.toList = .string cb := by rw [sv, str_eq]
                rw [List.map_cons, this]
                exact HO'.out
              · exact (HB.out.alloc HB.out.size _).grown HG.out (HB.out.alloc HB.out.size _).size (fun q e => (HO.out.lt q e).1)
            case measure => simp [intOf] <;> omega
      · have hsl : ∀ W, Sem.run Try.prog (Instr.slice 9 (.string s) (some (.int .i64 (k : Int))) (some (.int .i64 ((k : Int) + 1))) none) W = .ok (.string (s.extract k (k + 1))) W := by
          intro W
          have := run_slice_string (P := Try.prog) (w := W) 9 s .i64 .i64 k ((k : Int) + 1) Try.underlying9 (by omega) (by omega) (by omega)
          rw [this]
          congr 3
        go_wp2_with fail
        refine (blank_any _ _ h1 h2).mono ?_
        rintro e w' ⟨rfl, rfl⟩
        go_wp2
        go_roundw
        case rel => 
          refine ⟨pre, _, k + 1, p, cap, by go_num, rfl, rfl, ?_, HO, HB⟩
          have := at_nb HA.out hlt hb
          rw [cu] at this
          exact Lib.hid (by rw [ByteArray.data_append, Array.toList_append]; exact this)
        case measure => simp [intOf] <;> omega
    · by_cases hle : k = s.size
      · subst hle
        by_cases hc0 : cb.data.toList = []
        · have hE : cb.toList.isEmpty = true := by rw [Lib.toList_data, hc0]; rfl
          have hE' : cb.toList = [] := by rw [Lib.toList_data, hc0]
          have HC := Lib.hid hc0
          clear hc0
          go_wp2
          go_roundw
          case rel =>
            have ha := at_end HA.out 
            rw [HC.out] at ha
            have hd : dd (pre ++ shut []) = dd pre := dd_shut_none pre
            refine ⟨pre ++ shut [], ⟨#[]⟩, _, p, cap, by go_num, rfl, by rw [hd], Lib.hid ha, Lib.hid (by rw [hd]; exact HO.out), HB⟩
          case measure => simp [intOf] <;> omega
        · have hE : cb.toList.isEmpty = false := by rw [Lib.toList_data]; simpa using hc0
          have hE' : ¬ cb.toList = [] := by rw [Lib.toList_data]; exact hc0
          have HC := Lib.hid hc0
          clear hc0
          obtain ⟨p', cap', e', hnc, hcm, HR⟩ := Rd.of_own HO.out
          obtain ⟨rfl, rfl⟩ : p = p' ∧ cap = cap' := by cases e'; exact ⟨rfl, rfl⟩
          clear e'
          have HR' := Lib.hid HR
          clear HR
          by_cases hin : cb.data.toList ∈ dd pre
          · have hdec : decide (cb.data.toList ∈ dd pre) = true := by simpa using hin
            have HIN := Lib.hid hin
            clear hin
            go_wp2_with fail
            refine (in_any p _ cap (dd pre) cb _ _ HR'.out (by omega)).mono ?_
            rw [hdec]
            rintro e w' ⟨rfl, rfl⟩
            go_wp2
            go_roundw
            case rel =>
              have ha := at_end HA.out
              have hd := dd_shut_hit HC.out HIN.out
              refine ⟨pre ++ shut cb.data.toList, ⟨#[]⟩, _, p, cap, by go_num, rfl, by rw [hd], Lib.hid ha, Lib.hid (by rw [hd]; exact HO.out), HB⟩
            case measure => simp [intOf] <;> omega
          · have hdec : decide (cb.data.toList ∈ dd pre) = false := by simpa using hin
            have HIN := Lib.hid hin
            clear hin
            have hBs := HB.out.size
            go_wp2_with fail
            refine (in_any p _ cap (dd pre) cb _ _ HR'.out (by omega)).mono ?_
            rw [hdec]
            rintro e w' ⟨rfl, rfl⟩
            go_wp2_with (at_builtin; refine wpList_append_own _ rfl _ _ 25 rfl w.heap.size 9 i0 (.string ⟨#[]⟩) 1 16 Try.underlying25 hI.out hZ0.out hZ1.out hZ2.out rfl (by decide) _ _ _ rfl (HO.out.alloc _) ⟨wr.heap.size, 0, none⟩ 1 1 [.string cb] rfl rfl (cell_one_new _ _ _) (by simp [Value.oneCell']) (by unfold maxLen; omega) (by omega) (by simp; omega) ?_; intro v' w1 hown' hgrow _; obtain ⟨g', cap', rfl⟩ := ownsRow_succ hown'; have HO' := Lib.hid hown'; have HG := Lib.hid hgrow; clear hown' hgrow)
            go_roundw
            case rel =>
              have ha := at_end HA.out
              have hd := dd_shut_miss HC.out HIN.out
              refine ⟨pre ++ shut cb.data.toList, ⟨#[]⟩, _, _, cap', by go_num, rfl, by rw [hd, List.length_append]; rfl, Lib.hid ha, Lib.hid ?_, Lib.hid ?_⟩
              · rw [hd, List.length_append, List.map_append]
                have : sv cb.data.toList = .string cb := by rw [sv, str_eq]
                rw [List.map_cons, this]
                exact HO'.out
              · exact (HB.out.alloc HB.out.size _).grown HG.out (HB.out.alloc HB.out.size _).size (fun q e => (HO.out.lt q e).1)
            case measure => simp [intOf] <;> omega
      · have hk' : ¬ k ≤ s.size := by omega
        go_wp2
        go_ret
        obtain ⟨ha1, ha2⟩ := HA.out.2.2.2.2 (by omega)
        exact ⟨_, rfl, by rw [ha1]; exact HO.out, HB.out⟩

/-- A list that holds the words l lies in w', and nothing that lay in w has turned. -/
def Gives (l : List Wd) (w : World) (e : Ending) (w' : World) : Prop := ∃ p cap, e = .returned (.slice p l.length cap) ∧ l.length ≤ cap ∧ cap ≤ maxLen ∧ Rd w' w'.heap.size p l.length l ∧ Below w.heap.size w w'
theorem gives_of {l : List Wd} {w : World} {e : Ending} {w' : World} (h : ∃ v, e = .returned v ∧ w'.ownsRow w.heap.size 9 1 v l.length (l.map sv) ∧ Below w.heap.size w w') : Gives l w e w' := by
  obtain ⟨v, rfl, ho, hb⟩ := h
  obtain ⟨p, cap, rfl, h1, h2, h3⟩ := Rd.of_own ho
  exact ⟨p, cap, rfl, h1, h2, h3, hb⟩
theorem tokens_any (s : ByteArray) (w : World) (hs : s.size ≤ 100000) : Calls Try.prog 15 #[.string s] w (Gives (dd (ws s)) w) :=
  (tokens_own s w hs).mono fun _ _ h => gives_of h
theorem rtokens_any (s : ByteArray) (w : World) (hs : s.size ≤ 100000) : Calls Try.prog 16 #[.string s] w (Gives (dd (ws s)) w) :=
  (rtokens_own s w hs).mono fun _ _ h => gives_of h
theorem dws_length (s : ByteArray) (hs : s.size ≤ 100000) : (dd (ws s)).length ≤ 100001 := by
  have := dd_length (ws s); have := ws_length s; omega

set_option maxHeartbeats 400000 in
theorem rhas_any (s t : ByteArray) (w : World) (hs : s.size ≤ 100000) :
    Calls Try.prog 18 #[.string s, .string t] w fun e w' => e = .returned (.bool (decide (t.data.toList ∈ ws s))) ∧ Below w.heap.size w w' := by
  have hl := dws_length s hs
  go_enter Try.func18, Try.ntmps18
  go_wp2_with fail
  refine (rtokens_any s _ hs).mono ?_
  rintro e w' ⟨p, cap, rfl, h1, h2, h3, h4⟩
  have HB := Lib.hid h4
  clear h4
  go_wp2_with fail
  refine (in_any p _ cap _ t _ _ h3 (by omega)).mono ?_
  rintro e w'' ⟨rfl, rfl⟩
  go_wp2
  go_ret
  refine ⟨ret_bool ?_, HB.out⟩
  rw [decide_eq_decide]
  exact mem_dd _ _
end Go.Proofs.Ytaapfgbeompckaa
