/-
  What the reader's calls read, byte by byte: names, strings, blanks, tests.
-/
import Derived.Test.YtcndplnnighjkaaGreatDoorPG32
import Derived.Test.YtcndplnnighjkaaGreatDoorPG31
import Derived.Deep.OwnRows
import Derived.Maps.OwnOps
import Derived.Maps.AppendAt
namespace Go.Proofs.YtcndplnnighjkaaGreatDoor.Sx
open Go.PlainAid (bt)
open Sl (St Te Stp Mo step tstep cstep baStep bzStep fin run isB isL isN)
set_option linter.unusedVariables false
set_option linter.unusedSimpArgs false
def ls (s : ByteArray) : List UInt8 := s.data.toList
theorem ls_len (s : ByteArray) : (ls s).length = s.size := by simp [ls]
theorem lk_some {s : ByteArray} {i : Nat} {c : UInt8} (h : (ls s)[i]? = some c) : lk s i = (c.toNat : Int) /\ i < s.size := by
 have hi : i < s.size := by rw [<- ls_len]; exact (List.getElem?_eq_some_iff.1 h).1
 obtain ⟨c', h1, h2, -⟩ := bt_list s i hi
 have : c = c' := Option.some.inj (h.symm.trans h1)
 subst this
 exact ⟨by rw [lk_in hi, h2], hi⟩
theorem lk_get {s : ByteArray} {i : Nat} (h : i < s.size) : ∃ c, (ls s)[i]? = some c /\ lk s i = (c.toNat : Int) := by
 obtain ⟨c, h1, h2, -⟩ := bt_list s i h
 exact ⟨c, h1, by rw [lk_in h, h2]⟩
theorem lk_byte {s : ByteArray} {i : Nat} {c : UInt8} (h : lk s i = (c.toNat : Int)) : (ls s)[i]? = some c := by
 have hi : i < s.size := lk_lt (by rw [h]; omega)
 obtain ⟨c', h1, h2⟩ := lk_get hi
 rw [h1]
 congr 1
 rw [h] at h2
 exact UInt8.toNat_inj.1 (by omega)
theorem isL_bL (c : UInt8) : isL c = bL (c.toNat : Int) := by
 rw [Bool.eq_iff_iff]
 simp only [isL, bL, Bool.or_eq_true, Bool.and_eq_true, decide_eq_true_eq, UInt8.le_iff_toNat_le]
 simp
 omega
theorem isN_bN (c : UInt8) : isN c = bN (c.toNat : Int) := by
 rw [Bool.eq_iff_iff]
 simp only [isN, isL, bN, Bool.or_eq_true, Bool.and_eq_true, decide_eq_true_eq, UInt8.le_iff_toNat_le, beq_iff_eq, <- UInt8.toNat_inj]
 simp
 omega
theorem isS_bS (c : UInt8) : bS (c.toNat : Int) = decide (c ≠ 34) := by
 rw [Bool.eq_iff_iff]
 simp only [bS, decide_eq_true_eq, ne_eq, <- UInt8.toNat_inj]
 simp
 omega
def At (s : ByteArray) (k : Nat) (st : St) : Prop := k <= s.size /\ run Sl.start 0 ((ls s).take k) = .ok st
theorem At.zero (s : ByteArray) : At s 0 Sl.start := ⟨Nat.zero_le _, rfl⟩
theorem At.step {s : ByteArray} {k : Nat} {st st' : St} {c : UInt8} (h : At s k st) (hc : (ls s)[k]? = some c) (hs : Sl.step st c = some st') : At s (k + 1) st' := by
 have hk : k < (ls s).length := (List.getElem?_eq_some_iff.1 hc).1
 refine ⟨by rw [<- ls_len]; omega, ?_⟩
 have e : (ls s).take (k + 1) = (ls s).take k ++ [c] := by rw [List.take_add_one, hc]; rfl
 rw [e, Sl.run_append, h.2]
 simp [run, hs]
theorem At.stop {s : ByteArray} {k : Nat} {st : St} (h : At s k st) (h1 : ∀ c, (ls s)[k]? = some c -> Sl.step st c = none) (h2 : k = s.size -> fin st = none) : Sl.parse (ls s) = .error k := by
 unfold Sl.parse
 rcases Nat.lt_or_ge k s.size with hk | hk
 · obtain ⟨c, hc, -⟩ := lk_get hk
   have e : ls s = (ls s).take k ++ c :: (ls s).drop (k + 1) := by
    have hk' : k < (ls s).length := by rw [ls_len]; exact hk
    have := List.getElem?_eq_getElem hk'
    rw [this] at hc
    have hc := Option.some.inj hc
    rw [<- hc, <- List.drop_eq_getElem_cons hk', List.take_append_drop]
   have hl : ((ls s).take k).length = k := by rw [List.length_take, ls_len]; omega
   rw [e, Sl.run_append, h.2]
   simp only [run, h1 c hc, hl, Nat.zero_add]
 · have hk : k = s.size := Nat.le_antisymm h.1 hk
   have e : (ls s).take k = ls s := List.take_of_length_le (by rw [ls_len]; omega)
   have := h.2
   rw [e] at this
   rw [this]
   simp only [Sl.ends, h2 hk, ls_len, hk]
theorem At.done {s : ByteArray} {st : St} {x : List (List Stp)} (h : At s s.size st) (hf : fin st = some x) : Sl.parse (ls s) = .ok x := by
 unfold Sl.parse
 have e : (ls s).take s.size = ls s := List.take_of_length_le (by rw [ls_len]; omega)
 have := h.2
 rw [e] at this
 rw [this]
 simp only [Sl.ends, hf]
theorem sp_end (s : ByteArray) (i : Nat) (hi : i <= s.size) : bB (lk s (sp s i)) = false := by
 have : ∀ (m i : Nat), s.size - i <= m -> i <= s.size -> bB (lk s (sp s i)) = false := by
  intro m
  induction m with
  | zero =>
    intro i hm hi
    have : lk s i = -1 := lk_end (by omega)
    rw [sp_no (by rw [this]; decide), this]
    decide
  | succ m ih =>
    intro i hm hi
    rcases Bool.eq_false_or_eq_true (bB (lk s i)) with hb | hb
    · obtain ⟨h1, h2⟩ := sp_yes hb
      rw [h2]
      exact ih (i + 1) (by omega) h1
    · rw [sp_no hb, hb]
 exact this _ i (Nat.le_refl _) hi
theorem At.blanks {s : ByteArray} {i : Nat} {st st1 : St} (h : At s i st) (h1 : ∀ c, isB c = true -> Sl.step st c = some st1) (h2 : ∀ c, isB c = true -> Sl.step st1 c = some st1) : At s (sp s i) (if i < sp s i then st1 else st) := by
 have key : ∀ (m i : Nat), s.size - i <= m -> At s i st1 -> At s (sp s i) st1 := by
  intro m
  induction m with
  | zero =>
    intro i hm h
    have : lk s i = -1 := lk_end (by have := h.1; omega)
    rw [sp_no (by rw [this]; decide)]
    exact h
  | succ m ih =>
    intro i hm h
    rcases Bool.eq_false_or_eq_true (bB (lk s i)) with hb | hb
    · obtain ⟨g1, g2⟩ := sp_yes hb
      obtain ⟨c, hc, hl⟩ := lk_get g1
      rw [hl, <- isB_bB] at hb
      rw [g2]
      exact ih (i + 1) (by omega) (h.step hc (h2 c hb))
    · rw [sp_no hb]
      exact h
 rcases Bool.eq_false_or_eq_true (bB (lk s i)) with hb | hb
 · obtain ⟨g1, g2⟩ := sp_yes hb
   obtain ⟨c, hc, hl⟩ := lk_get g1
   rw [hl, <- isB_bB] at hb
   have := key _ (i + 1) (Nat.le_refl _) (h.step hc (h1 c hb))
   rw [g2, if_pos (by have := (sp_le s (i + 1) g1).1; omega)]
   exact this
 · rw [sp_no hb, if_neg (by omega)]
   exact h
theorem ext_ls {s : ByteArray} {i j : Nat} : ls (s.extract i j) = ((ls s).drop i).take (j - i) := by
 simp [ls, ByteArray.data_extract, List.take_drop]
 try omega
theorem me_run {s : ByteArray} (p : Int -> Bool) (hp : p (-1) = false) (mk : List UInt8 -> St) (N : Nat) (hs : ∀ (b : List UInt8) (c : UInt8), b.length < N -> p (c.toNat : Int) = true -> Sl.step (mk b) c = some (mk (b ++ [c]))) :
 ∀ (m i : Nat) (b : List UInt8), b.length + m <= N -> At s i (mk b) -> At s (me p s m i) (mk (b ++ ((ls s).drop i).take (me p s m i - i))) := by
 intro m
 induction m with
 | zero => intro i b hb h; simp only [me, Nat.sub_self, List.take_zero, List.append_nil]; exact h
 | succ m ih =>
   intro i b hb h
   rw [me]
   split
   · rename_i hl
     have hi : i < s.size := lk_lt (fun e => by rw [e, hp] at hl; cases hl)
     obtain ⟨c, hc, hcl⟩ := lk_get hi
     rw [hcl] at hl
     have h1 := h.step hc (hs b c (by omega) hl)
     have h2 := ih (i + 1) (b ++ [c]) (by simp; omega) h1
     have h3 := (me_le p hp s m (i + 1) hi).1
     have e : ((ls s).drop i).take (me p s m (i + 1) - i) = c :: ((ls s).drop (i + 1)).take (me p s m (i + 1) - (i + 1)) := by
      have hk' : i < (ls s).length := by rw [ls_len]; exact hi
      have hcc := Option.some.inj ((List.getElem?_eq_getElem hk').symm.trans hc)
      rw [List.drop_eq_getElem_cons hk', hcc, show me p s m (i + 1) - i = (me p s m (i + 1) - (i + 1)) + 1 by omega, List.take_succ_cons]
     rw [e]
     simpa using h2
   · simp only [Nat.sub_self, List.take_zero, List.append_nil]
     exact h
theorem me_stop {s : ByteArray} (p : Int -> Bool) (hp : p (-1) = false) : ∀ (m i : Nat), i <= s.size -> me p s m i = i + m \/ p (lk s (me p s m i)) = false := by
 intro m
 induction m with
 | zero => intro i _; exact .inl rfl
 | succ m ih =>
   intro i hi
   rw [me]
   split
   · rename_i hl
     have hlt : i < s.size := lk_lt (fun e => by rw [e, hp] at hl; cases hl)
     rcases ih (i + 1) hlt with h | h
     · exact .inl (by omega)
     · exact .inr h
   · rename_i hl
     exact .inr (by simpa using hl)
theorem At.name {s : ByteArray} {i : Nat} {st : St} (h : At s i st) (mk : List UInt8 -> St) (hf : ∀ c, (ls s)[i]? = some c -> isL c = true -> Sl.step st c = some (mk [c]))
 (hs : ∀ (b : List UInt8) (c : UInt8), b ≠ [] -> isN c = true -> b.length < 20 -> Sl.step (mk b) c = some (mk (b ++ [c]))) {n : ByteArray} {j : Nat} (hn : nP s i = .ok (n, j)) :
 At s j (mk (ls n)) /\ ls n ≠ [] /\ (∀ c, (ls s)[j]? = some c -> isN c = true -> 20 <= (ls n).length) := by
 unfold nP at hn
 split at hn
 · rename_i hl
   cases hn
   have hi : i < s.size := lk_lt (fun e => by rw [e] at hl; revert hl; decide)
   obtain ⟨c, hc, hcl⟩ := lk_get hi
   rw [hcl, <- isL_bL] at hl
   have hN : bN (lk s i) = true := by rw [hcl, <- isN_bN]; exact Sl.isL_N hl
   have h1 := h.step hc (hf c hc hl)
   have e0 : me bN s 20 i = me bN s 19 (i + 1) := by rw [me, if_pos hN]
   have hm := me_le bN (by decide) s 19 (i + 1) hi
   have h2 := me_run (s := s) bN (by decide) (fun b => mk (c :: b)) 19 (fun b c' hb hc' => by
    have := hs (c :: b) c' (by simp) (by rw [isN_bN]; exact hc') (by simp; omega)
    simpa using this) 19 (i + 1) [] (by simp) h1
   have e1 : ls (s.extract i (me bN s 20 i)) = c :: ((ls s).drop (i + 1)).take (me bN s 19 (i + 1) - (i + 1)) := by
    have hk' : i < (ls s).length := by rw [ls_len]; exact hi
    have hcc := Option.some.inj ((List.getElem?_eq_getElem hk').symm.trans hc)
    rw [ext_ls, e0, List.drop_eq_getElem_cons hk', hcc, show me bN s 19 (i + 1) - i = (me bN s 19 (i + 1) - (i + 1)) + 1 by omega, List.take_succ_cons]
   rw [e1, e0]
   refine ⟨by simpa using h2, by simp, fun c' hc' hn' => ?_⟩
   rcases me_stop (s := s) bN (by decide) 19 (i + 1) hi with h3 | h3
   · rw [List.length_cons, List.length_take, List.length_drop, ls_len, h3]
     have := hm.2.1
     omega
   · have := (lk_some hc').1
     rw [this, <- isN_bN, hn'] at h3
     cases h3
 · cases hn
theorem nP_err {s : ByteArray} {i k : Nat} (h : nP s i = .error k) : k = i /\ ∀ c, (ls s)[i]? = some c -> isL c = false := by
 unfold nP at h
 split at h
 · cases h
 · rename_i hl
   cases h
   refine ⟨rfl, fun c hc => ?_⟩
   rw [(lk_some hc).1, <- isL_bL] at hl
   simpa using hl
end Go.Proofs.YtcndplnnighjkaaGreatDoor.Sx
namespace Go.Proofs.YtcndplnnighjkaaGreatDoor.Sx
open Go.PlainAid (bt)
open Sl (St Te Stp Mo step tstep cstep baStep bzStep fin run isB isL isN)
set_option linter.unusedVariables false
set_option linter.unusedSimpArgs false
def Rdy (s : ByteArray) (j : Nat) (R : List (List Stp)) (r : List Stp) (T : List Te) (ch : Bool) : Prop :=
 ∃ st, At s j st /\ fin st = some (R ++ [r ++ [⟨T, ch⟩]]) /\ ∀ c, (ls s)[j]? = some c -> Sl.step st c = tstep ⟨R, r, T, ch, .tests⟩ c
def Cmp (s : ByteArray) (j : Nat) (R : List (List Stp)) (r : List Stp) (ch : Bool) : Prop :=
 ∃ st, At s j st /\ (∀ c, (ls s)[j]? = some c -> Sl.step st c = cstep ⟨R, r, [], ch, .comp⟩ c) /\ (j = s.size -> fin st = none)
def te (t : Int × ByteArray × ByteArray) : Te := ⟨t.1, ls t.2.1, ls t.2.2⟩
theorem tstep_name {R : List (List Stp)} {r : List Stp} {T : List Te} {ch : Bool} {c : UInt8} (h : isN c = true) : tstep ⟨R, r, T, ch, .tests⟩ c = none := by
 obtain ⟨h1, h2, h3, h4, h5, h6, h7, -⟩ := Sl.isN_not h
 simp [tstep, h1, h3, h4, h5, h6, h7]
theorem rdy_nm {s : ByteArray} {j : Nat} {R : List (List Stp)} {r : List Stp} {T : List Te} {ch : Bool} {k : Int} {b : List UInt8} (h : At s j ⟨R, r, T, ch, .nm k b⟩) (hb : b ≠ []) (hm : ∀ c, (ls s)[j]? = some c -> isN c = true -> 20 <= b.length) : Rdy s j R r (T ++ [⟨k, b, []⟩]) ch := by
 refine ⟨_, h, by simp [fin, hb], fun c hc => ?_⟩
 rcases Bool.eq_false_or_eq_true (isN c) with hn | hn
 · have h1 := hm c hc hn
   rw [tstep_name hn]
   simp [Sl.step, hb, hn]
   omega
 · simp [Sl.step, hb, hn, St.add]
theorem v_ok {s : ByteArray} {i : Nat} {R : List (List Stp)} {r : List Stp} {T : List Te} {ch : Bool} {n : List UInt8} (h : At s i ⟨R, r, T, ch, .be n⟩) (hb : bB (lk s i) = false) :
 match vP s i with
 | .ok (v, j) => ∃ st, At s j st /\ fin st = none /\ (∀ c, isB c = true -> Sl.step st c = some ⟨R, r, T, ch, .bz n (ls v)⟩) /\ ∀ c, (ls s)[j]? = some c -> isB c = false -> Sl.step st c = bzStep ⟨R, r, T, ch, .tests⟩ n (ls v) c
 | .error k => Sl.parse (ls s) = .error k := by
 unfold vP
 by_cases h34 : lk s i = 34
 · have hi : i < s.size := lk_lt (by rw [h34]; decide)
   have h1 := h.step (lk_byte (c := 34) h34) (show Sl.step _ 34 = some ⟨R, r, T, ch, .bs n []⟩ by simp [Sl.step, isB, St.to])
   have h2 := me_run (s := s) bS (by decide) (fun b => ⟨R, r, T, ch, .bs n b⟩) 60 (fun b c hl hc => by
    rw [isS_bS, decide_eq_true_eq] at hc
    simp [Sl.step, hc, hl, St.to]) 60 (i + 1) [] (by simp) h1
   have hm := me_le bS (by decide) s 60 (i + 1) hi
   have hst := me_stop (s := s) bS (by decide) 60 (i + 1) hi
   rw [if_pos h34]
   generalize me bS s 60 (i + 1) = j at *
   rw [List.nil_append, <- ext_ls] at h2
   by_cases hj : lk s j = 34
   · have h3 := h2.step (lk_byte (c := 34) hj) (show Sl.step _ 34 = some ⟨R, r, T, ch, .bz n (ls (s.extract (i + 1) j))⟩ by simp [Sl.step, St.to])
     rw [if_pos hj]
     exact ⟨_, h3, rfl, fun c hc => by simp [Sl.step, bzStep, hc, St.to], fun c _ hc => by simp [Sl.step, bzStep, hc, St.to, St.add]⟩
   · rw [if_neg hj]
     refine h2.stop (fun c hc => ?_) (fun _ => rfl)
     have hc34 : c ≠ 34 := by rintro rfl; exact hj (lk_some hc).1
     have hl : ¬ (ls (s.extract (i + 1) j)).length < 60 := by
      rcases hst with e | e
      · rw [ext_ls, List.length_take, List.length_drop, ls_len]
        omega
      · rw [(lk_some hc).1, isS_bS, decide_eq_false_iff_not] at e
        exact absurd hc34 e
     simp [Sl.step, hc34, hl]
 · rw [if_neg h34]
   cases hn : nP s i with
   | error k =>
     obtain ⟨rfl, hk⟩ := nP_err hn
     refine h.stop (fun c hc => ?_) (fun _ => rfl)
     have h1 := hk c hc
     have h2 : isB c = false := by rw [isB_bB, <- (lk_some hc).1]; exact hb
     have h3 : c ≠ 34 := by rintro rfl; exact h34 (lk_some hc).1
     simp [Sl.step, h1, h2, h3]
   | ok p =>
     obtain ⟨v, j⟩ := p
     obtain ⟨h1, h2, h3⟩ := h.name (fun b => ⟨R, r, T, ch, .bv n b⟩) (fun c hc hl => by
      obtain ⟨g1, -, -, -, -, -, -, g8, -⟩ := Sl.isL_not hl
      simp [Sl.step, g1, g8, hl, St.to]) (fun b c hb hc hl => by simp [Sl.step, hc, hl, St.to]) hn
     refine ⟨_, h1, rfl, fun c hc => ?_, fun c hc hb' => ?_⟩
     · have := (Sl.isB_not hc).1
       simp [Sl.step, this, bzStep, hc, St.to]
     · rcases Bool.eq_false_or_eq_true (isN c) with hn' | hn'
       · have g := h3 c hc hn'
         obtain ⟨-, -, -, -, -, -, -, -, g9, -⟩ := Sl.isN_not hn'
         have g' : ¬ (ls v).length < 20 := by omega
         simp [Sl.step, hn', g', bzStep, hb', g9]
       · simp [Sl.step, hn', bzStep, hb', St.add]
theorem a_ok {s : ByteArray} {i : Nat} {R : List (List Stp)} {r : List Stp} {T : List Te} {ch : Bool} (h : At s (i + 1) ⟨R, r, T, ch, .brk⟩) :
 match aP s i with
 | .ok (t, j) => At s j ⟨R, r, T ++ [te t], ch, .tests⟩
 | .error k => Sl.parse (ls s) = .error k := by
 have h0 := h.blanks (st1 := ⟨R, r, T, ch, .brk⟩) (fun c hc => by simp [Sl.step, hc]) (fun c hc => by simp [Sl.step, hc])
 rw [ite_self] at h0
 have hb0 := sp_end s (i + 1) h.1
 unfold aP
 generalize sp s (i + 1) = i1 at *
 cases hn : nP s i1 with
 | error k =>
   obtain ⟨rfl, hk⟩ := nP_err hn
   refine h0.stop (fun c hc => ?_) (fun _ => rfl)
   have h1 := hk c hc
   have h2 : isB c = false := by rw [isB_bB, <- (lk_some hc).1]; exact hb0
   simp [Sl.step, h1, h2]
 | ok p =>
   obtain ⟨n, j⟩ := p
   simp only []
   obtain ⟨h1, h2, h3⟩ := h0.name (fun b => ⟨R, r, T, ch, .bn b⟩) (fun c hc hl => by
    obtain ⟨g1, -⟩ := Sl.isL_not hl
    simp [Sl.step, g1, hl, St.to]) (fun b c hb hc hl => by simp [Sl.step, hc, hl, St.to]) hn
   have h4 := h1.blanks (st1 := ⟨R, r, T, ch, .ba (ls n)⟩) (fun c hc => by have := (Sl.isB_not hc).1; simp [Sl.step, this, baStep, hc, St.to]) (fun c hc => by simp [Sl.step, baStep, hc, St.to])
   have hb1 := sp_end s j h1.1
   have key : ∃ st, At s (sp s j) st /\ fin st = none /\ ∀ c, (ls s)[sp s j]? = some c -> Sl.step st c = baStep ⟨R, r, T, ch, .tests⟩ (ls n) c := by
    refine ⟨_, h4, by split <;> rfl, fun c hc => ?_⟩
    have hbc : isB c = false := by rw [isB_bB, <- (lk_some hc).1]; exact hb1
    split
    · simp [Sl.step, baStep, hbc, St.to, St.add]
    · rename_i hlt
      have hjj : sp s j = j := by have := (sp_le s j h1.1).1; omega
      rw [hjj] at hc
      rcases Bool.eq_false_or_eq_true (isN c) with hn' | hn'
      · have g := h3 c hc hn'
        obtain ⟨-, -, -, -, -, -, -, -, g9, g10⟩ := Sl.isN_not hn'
        have g' : ¬ (ls n).length < 20 := by omega
        simp [Sl.step, hn', g', baStep, hbc, g9, g10]
      · simp [Sl.step, hn', baStep, hbc, St.add, St.to]
   obtain ⟨st, k1, k2, k3⟩ := key
   unfold aQ
   generalize sp s j = j1 at *
   have hbc : ∀ c, (ls s)[j1]? = some c -> isB c = false := fun c hc => by rw [isB_bB, <- (lk_some hc).1]; exact hb1
   by_cases h61 : lk s j1 = 61
   · rw [if_pos h61]
     have g1 := k1.step (lk_byte (c := 61) h61) (show Sl.step st 61 = some ⟨R, r, T, ch, .be (ls n)⟩ by rw [k3 61 (lk_byte (c := 61) h61)]; simp [baStep, isB, St.to])
     have g2 := g1.blanks (st1 := ⟨R, r, T, ch, .be (ls n)⟩) (fun c hc => by simp [Sl.step, hc]) (fun c hc => by simp [Sl.step, hc])
     rw [ite_self] at g2
     have hb2 := sp_end s (j1 + 1) g1.1
     generalize sp s (j1 + 1) = j2 at *
     have g3 := v_ok g2 hb2
     cases hv : vP s j2 with
     | error k => rw [hv] at g3; exact g3
     | ok p =>
       obtain ⟨v, k⟩ := p
       rw [hv] at g3
       simp only [] at g3 ⊢
       obtain ⟨st2, e1, e2, e3, e4⟩ := g3
       have g4 := e1.blanks e3 (fun c hc => by simp [Sl.step, bzStep, hc, St.to])
       have hb3 := sp_end s k e1.1
       have key2 : ∃ st, At s (sp s k) st /\ fin st = none /\ ∀ c, (ls s)[sp s k]? = some c -> Sl.step st c = bzStep ⟨R, r, T, ch, .tests⟩ (ls n) (ls v) c := by
        refine ⟨_, g4, by split; rfl; exact e2, fun c hc => ?_⟩
        have hbc : isB c = false := by rw [isB_bB, <- (lk_some hc).1]; exact hb3
        split
        · simp [Sl.step, bzStep, hbc, St.to, St.add]
        · rename_i hlt
          have hjj : sp s k = k := by have := (sp_le s k e1.1).1; omega
          rw [hjj] at hc
          exact e4 c hc hbc
       obtain ⟨st3, m1, m2, m3⟩ := key2
       generalize sp s k = k1 at *
       by_cases h93 : lk s k1 = 93
       · rw [if_pos h93]
         have := m1.step (lk_byte (c := 93) h93) (show Sl.step st3 93 = some ⟨R, r, T ++ [⟨5, ls n, ls v⟩], ch, .tests⟩ by rw [m3 93 (lk_byte (c := 93) h93)]; simp [bzStep, isB, St.add])
         exact this
       · rw [if_neg h93]
         refine m1.stop (fun c hc => ?_) (fun _ => m2)
         have h1 : c ≠ 93 := by rintro rfl; exact h93 (lk_some hc).1
         have h2 : isB c = false := by rw [isB_bB, <- (lk_some hc).1]; exact hb3
         rw [m3 c hc]
         simp [bzStep, h1, h2]
   · rw [if_neg h61]
     by_cases h93 : lk s j1 = 93
     · rw [if_pos h93]
       have := k1.step (lk_byte (c := 93) h93) (show Sl.step st 93 = some ⟨R, r, T ++ [⟨4, ls n, []⟩], ch, .tests⟩ by rw [k3 93 (lk_byte (c := 93) h93)]; simp [baStep, isB, St.add])
       exact this
     · rw [if_neg h93]
       refine k1.stop (fun c hc => ?_) (fun _ => k2)
       have h1 : c ≠ 93 := by rintro rfl; exact h93 (lk_some hc).1
       have h3 : c ≠ 61 := by rintro rfl; exact h61 (lk_some hc).1
       rw [k3 c hc]
       simp [baStep, h1, h3, hbc c hc]
theorem t_ok {s : ByteArray} {i : Nat} {R : List (List Stp)} {r : List Stp} {T : List Te} {ch fst : Bool} {st : St} (h : At s i st) (hend : i = s.size -> fin st = none) (hm : fst = false -> mkB (lk s i) = true)
 (hst : ∀ c, (ls s)[i]? = some c -> Sl.step st c = if c = 35 then some ⟨R, r, T, ch, .nm 2 []⟩ else if c = 46 then some ⟨R, r, T, ch, .nm 3 []⟩ else if c = 91 then some ⟨R, r, T, ch, .brk⟩ else if isL c = true /\ fst = true then some ⟨R, r, T, ch, .nm 1 [c]⟩ else none) :
 match tP s i with
 | .ok (t, j) => Rdy s j R r (T ++ [te t]) ch
 | .error k => Sl.parse (ls s) = .error k := by
 have hnm : ∀ (k : Int) (i : Nat), At s i ⟨R, r, T, ch, .nm k []⟩ -> match nT k (nP s i) with
  | .ok (t, j) => Rdy s j R r (T ++ [te t]) ch
  | .error k => Sl.parse (ls s) = .error k := by
  intro k i h
  cases hn : nP s i with
  | error k =>
    obtain ⟨rfl, hk⟩ := nP_err hn
    refine h.stop (fun c hc => ?_) (fun _ => rfl)
    simp [Sl.step, hk c hc]
  | ok p =>
    obtain ⟨n, j⟩ := p
    obtain ⟨h1, h2, h3⟩ := h.name (fun b => ⟨R, r, T, ch, .nm k b⟩) (fun c hc hl => by simp [Sl.step, hl, St.to]) (fun b c hb hc hl => by simp [Sl.step, hb, hc, hl, St.to]) hn
    exact rdy_nm h1 h2 h3
 unfold tP
 by_cases h91 : lk s i = 91
 · have hk : kd (lk s i) = 4 := by rw [h91]; decide
   rw [if_pos hk]
   have h1 := h.step (lk_byte (c := 91) h91) (show Sl.step st 91 = some ⟨R, r, T, ch, .brk⟩ by rw [hst 91 (lk_byte (c := 91) h91)]; simp)
   have h2 := a_ok h1
   cases ha : aP s i with
   | error k => rw [ha] at h2; exact h2
   | ok p =>
     obtain ⟨t, j⟩ := p
     rw [ha] at h2
     exact ⟨_, h2, rfl, fun c _ => rfl⟩
 · have hk : ¬ kd (lk s i) = 4 := fun e => h91 (kd_4 e)
   rw [if_neg hk]
   by_cases h35 : lk s i = 35
   · have e : kd (lk s i) = 2 := by rw [h35]; decide
     rw [e, if_pos (by decide)]
     exact hnm 2 (i + 1) (h.step (lk_byte (c := 35) h35) (by rw [hst 35 (lk_byte (c := 35) h35)]; simp))
   · by_cases h46 : lk s i = 46
     · have e : kd (lk s i) = 3 := by rw [h46]; decide
       rw [e, if_pos (by decide)]
       exact hnm 3 (i + 1) (h.step (lk_byte (c := 46) h46) (by rw [hst 46 (lk_byte (c := 46) h46)]; simp))
     · have e : kd (lk s i) = if bL (lk s i) = true then 1 else 0 := by unfold kd; rw [if_neg h35, if_neg h46, if_neg h91]
       have e2 : ¬ (kd (lk s i) = 2 \/ kd (lk s i) = 3) := by rw [e]; split <;> decide
       have hf : fst = true := by
        cases fst with
        | true => rfl
        | false =>
          have := hm rfl
          simp only [mkB, decide_eq_true_eq] at this
          omega
       have hc3 : ∀ c, (ls s)[i]? = some c -> c ≠ 35 /\ c ≠ 46 /\ c ≠ 91 := fun c hc => by
        refine ⟨?_, ?_, ?_⟩
        · rintro rfl; exact h35 (lk_some hc).1
        · rintro rfl; exact h46 (lk_some hc).1
        · rintro rfl; exact h91 (lk_some hc).1
       rw [if_neg e2]
       cases hn : nP s i with
       | error k =>
         obtain ⟨rfl, hk⟩ := nP_err hn
         refine h.stop (fun c hc => ?_) hend
         obtain ⟨g1, g2, g3⟩ := hc3 c hc
         rw [hst c hc]
         simp [g1, g2, g3, hk c hc]
       | ok p =>
         obtain ⟨n, j⟩ := p
         have hbl : bL (lk s i) = true := by
          unfold nP at hn
          split at hn
          · assumption
          · cases hn
         rw [hbl, if_pos rfl] at e
         obtain ⟨h1, h2, h3⟩ := h.name (fun b => ⟨R, r, T, ch, .nm 1 b⟩) (fun c hc hl => by
          obtain ⟨g1, g2, g3⟩ := hc3 c hc
          rw [hst c hc]
          simp [g1, g2, g3, hl, hf]) (fun b c hb hc hl => by simp [Sl.step, hb, hc, hl, St.to]) hn
         rw [e]
         exact rdy_nm h1 h2 h3
end Go.Proofs.YtcndplnnighjkaaGreatDoor.Sx
namespace Go.Proofs.YtcndplnnighjkaaGreatDoor.Sx
open Go.ChangeShapes Go.WideShapes Go.ChangeAt Go.RowKit
open Go.PlainAid (bt)
open Sl (St Te Stp Mo tstep cstep fin isB isL isN)
set_option linter.unusedVariables false
set_option linter.unusedSimpArgs false
theorem lt_block {w : World} {k : Nat} {o : Obj} (h : w.heap[k]? = some o) : k < w.heap.size := (Array.getElem?_eq_some_iff.1 h).1
theorem add_plain (g i j : Nat) : (⟨g, i, none⟩ : Addr).add j = ⟨g, i + j, none⟩ := by unfold Addr.add; split <;> simp_all
theorem own_below {w w' : World} {base : Nat} {e : TypeId} {size n : Nat} {v : Value} {xs : List Value} (h : w.ownsRow base e size v n xs) (hb : Below w.heap.size w w') : w'.ownsRow base e size v n xs := by
 refine ⟨h.1, ?_⟩
 rcases h.2 with h' | ⟨g, cap, cur, h1, h2, h3, h4⟩
 · exact .inl h'
 · exact .inr ⟨g, cap, cur, h1, h2, (hb.block g (Array.getElem?_eq_some_iff.1 h3).1).trans h3, h4⟩
theorem own_apart {w : World} {base k size : Nat} {e t : TypeId} {v : Value} {n : Nat} {xs : List Value} {cs : Array Value} (h : w.ownsRow base e size v n xs) (hk : w.heap[k]? = some (.cells cs t (0, 0))) (hne : e ≠ t) : v.ownBlock ≠ some k := by
 rcases h.2 with ⟨rfl, _⟩ | ⟨g, cap, cur, rfl, _, hg, _⟩
 · simp [Value.ownBlock]
 · intro he
   obtain rfl : g = k := by simpa [Value.ownBlock] using he
   rw [hg] at hk
   cases hk
   exact hne rfl
theorem own_apart2 {w : World} {base base' s s' : Nat} {e t : TypeId} {v v' : Value} {n n' : Nat} {xs xs' : List Value} (h : w.ownsRow base e s v n xs) (h' : w.ownsRow base' t s' v' n' xs') (hne : e ≠ t) : v.ownBlock = none \/ v.ownBlock ≠ v'.ownBlock := by
 rcases h'.2 with ⟨rfl, -⟩ | ⟨g, cap, cur, rfl, -, hg, -⟩
 · rcases hv : v.ownBlock with _ | k
   · exact .inl rfl
   · exact .inr (by simp [Value.ownBlock])
 · exact .inr (by simpa [Value.ownBlock] using own_apart h hg hne)
theorem own_form2 {w : World} {base size : Nat} {e : TypeId} {v : Value} {n : Nat} {xs : List Value} (h : w.ownsRow base e size v n xs) : ∃ p cap, v = .slice p n cap /\ n <= cap /\ cap <= maxLen := by
 rcases h.2 with ⟨rfl, rfl⟩ | ⟨g, cap, cur, rfl, _, _, hnc, hcm, _⟩
 · exact ⟨none, 0, rfl, Nat.le_refl _, by simp [maxLen]⟩
 · exact ⟨_, cap, rfl, hnc, hcm⟩
theorem own_mono {w : World} {base base' : Nat} {e : TypeId} {size n : Nat} {v : Value} {xs : List Value} (h : w.ownsRow base e size v n xs) (hb : base' <= base) : w.ownsRow base' e size v n xs := by
 refine ⟨h.1, ?_⟩
 rcases h.2 with h' | ⟨g, cap, cur, h1, h2, h3, h4⟩
 · exact .inl h'
 · exact .inr ⟨g, cap, cur, h1, Nat.le_trans hb h2, h3, h4⟩
theorem own_gr {w w' : World} {base b : Nat} {e : TypeId} {size n : Nat} {v : Value} {xs : List Value} (h : w.ownsRow base e size v n xs) (hb : b < base) (hg : Gr b w w') : w'.ownsRow base e size v n xs := by
 refine ⟨h.1, ?_⟩
 rcases h.2 with h' | ⟨g, cap, cur, h1, h2, h3, h4⟩
 · exact .inl h'
 · exact .inr ⟨g, cap, cur, h1, h2, (hg.block g (Array.getElem?_eq_some_iff.1 h3).1 (by simp; omega)).trans h3, h4⟩
abbrev Tr := Int × ByteArray × ByteArray
def t3 (t : Tr) : List Value := [.int .i64 t.1, .string t.2.1, .string t.2.2]
def tcells (T : List Tr) : List Value := T.flatMap t3
theorem tcells_snoc (T : List Tr) (t : Tr) : tcells (T ++ [t]) = tcells T ++ t3 t := by simp [tcells]
theorem info_test : (Tryz.prog.info? 171).map (fun i => (i.zero, i.size, i.bytes)) = some (some (.agg #[.int .i64 0, .string ⟨#[]⟩, .string ⟨#[]⟩]), 3, 40) := by kernel_rfl
theorem cells3 (w : World) (g : Nat) (x y z : Value) (t : TypeId) (h : w.heap[g]? = some (.cells #[x, y, z] t (0, 0))) : ∀ j u, [x, y, z][j]? = some u -> w.cell? ((⟨g, 0, none⟩ : Addr).add j) = some u := by
 intro j u hu
 rw [add_plain, Nat.zero_add]
 match j, hu with
 | 0, hu => cases hu; simp [World.cell?, h]
 | 1, hu => cases hu; simp [World.cell?, h]
 | 2, hu => cases hu; simp [World.cell?, h]
 | j + 3, hu => simp at hu
theorem Gr.grown {b : Nat} {w v u : World} {row : Option Nat} (h : Gr b w v) (hg : v.grownBy u row) (hr : ∀ q, row = some q -> w.heap.size <= q) : Gr b w u :=
 ⟨hg.os.trans h.os, hg.tape.trans h.tape, hg.output.trans h.output, Nat.le_trans h.size hg.size, fun q hq hn => (hg.block q (Nat.lt_of_lt_of_le hq h.size) (fun e => by have := hr q e.symm; omega)).trans (h.block q hq hn)⟩
theorem Rr.grown {w w' : World} {b : Nat} {s : ByteArray} {i : Nat} {row : Option Nat} (h : Rr w b s i) (hg : w.grownBy w' row) (hr : row ≠ some b) : Rr w' b s i := (hg.block b h.lt (fun e => hr e.symm)).trans h
theorem t3_one (t : Tr) : ∀ u ∈ t3 t, u.oneCell' = true := by
 intro u hu
 simp only [t3, List.mem_cons, List.not_mem_nil, or_false] at hu
 rcases hu with rfl | rfl | rfl <;> rfl
theorem cmp_star {s : ByteArray} {i : Nat} {R : List (List Stp)} {r : List Stp} {ch : Bool} (h : Cmp s i R r ch) (hc : lk s i = 42) : Rdy s (i + 1) R r [] ch := by
 obtain ⟨st, h1, h2, -⟩ := h
 have := h1.step (lk_byte (c := 42) hc) (show Sl.step st 42 = some ⟨R, r, [], ch, .tests⟩ by rw [h2 42 (lk_byte (c := 42) hc)]; simp [cstep, isB, St.to])
 exact ⟨_, this, rfl, fun c _ => rfl⟩
theorem cmp_test {s : ByteArray} {i : Nat} {R : List (List Stp)} {r : List Stp} {ch : Bool} (h : Cmp s i R r ch) (hb : bB (lk s i) = false) (hc : lk s i ≠ 42) :
 match tP s i with
 | .ok (t, j) => Rdy s j R r [te t] ch
 | .error k => Sl.parse (ls s) = .error k := by
 obtain ⟨st, h1, h2, h3⟩ := h
 refine t_ok (T := []) (fst := true) h1 h3 (fun e => by cases e) (fun c hc' => ?_)
 have e1 : isB c = false := by rw [isB_bB, <- (lk_some hc').1]; exact hb
 have e2 : c ≠ 42 := by rintro rfl; exact hc (lk_some hc').1
 rw [h2 c hc']
 have e3 : isL 35 = false := by decide
 have e4 : isL 46 = false := by decide
 have e5 : isL 91 = false := by decide
 by_cases c35 : c = 35
 · subst c35; simp [cstep, e1, e2, e3, St.to]
 by_cases c46 : c = 46
 · subst c46; simp [cstep, e1, e2, e4, St.to]
 by_cases c91 : c = 91
 · subst c91; simp [cstep, e1, e2, e5, St.to]
 simp [cstep, e1, e2, c35, c46, c91, St.to]
theorem rdy_test {s : ByteArray} {i : Nat} {R : List (List Stp)} {r : List Stp} {T : List Te} {ch : Bool} (h : Rdy s i R r T ch) (hm : mkB (lk s i) = true) :
 match tP s i with
 | .ok (t, j) => Rdy s j R r (T ++ [te t]) ch
 | .error k => Sl.parse (ls s) = .error k := by
 obtain ⟨st, h1, h2, h3⟩ := h
 have hm' := hm
 simp only [mkB, decide_eq_true_eq] at hm'
 have hi : i < s.size := lk_lt (by omega)
 refine t_ok (fst := false) h1 (fun e => absurd e (by omega)) (fun _ => hm) (fun c hc => ?_)
 rw [(lk_some hc).1] at hm'
 have : c = 35 \/ c = 46 \/ c = 91 := by
  rcases hm' with h | h | h
  · exact .inl (UInt8.toNat_inj.1 (by simp; omega))
  · exact .inr (.inl (UInt8.toNat_inj.1 (by simp; omega)))
  · exact .inr (.inr (UInt8.toNat_inj.1 (by simp; omega)))
 rw [h3 c hc]
 rcases this with rfl | rfl | rfl <;> simp [tstep, St.to]
set_option maxRecDepth 100000 in
set_option maxHeartbeats 4000000 in
theorem sel_compound (b : Nat) (s : ByteArray) (i : Nat) (w : World) (R : List (List Stp)) (r : List Stp) (ch : Bool) (h : Rr w b s i) (hi : i <= s.size) (hs : s.size <= 4000000) (hc : Cmp s i R r ch) (hnb : bB (lk s i) = false) :
 Calls Tryz.prog 145 #[.pointer (some ⟨b, 0, none⟩)] w fun e w' => ((∃ (T : List Tr) (j : Nat) (v : Value), e = .returned v /\ w'.ownsRow w.heap.size 171 3 v T.length (tcells T) /\ Rr w' b s j /\ Rdy s j R r (T.map te) ch /\ i < j /\ j <= s.size /\ mkB (lk s j) = false) \/ (∃ k, Mis e k /\ Sl.parse (ls s) = .error k)) /\ Gr b w w' := by
 have HL := Lib.hid (fun (k : Nat) (hk : k <= s.size) (V : World) (hV : Rr V b s k) => sel_look b s k V hV hk hs)
 have HT := Lib.hid (fun (k : Nat) (hk : k <= s.size) (V : World) (hV : Rr V b s k) => sel_test b s k V hV hk hs)
 have HM := Lib.hid (fun (c : Int) (V : World) => sel_isMark c V)
 have HC := Lib.hid hc
 have HNB := Lib.hid hnb
 have HR0 := Lib.hid h
 have hbw := h.lt
 obtain ⟨i0, hi0, hz0, hz1, hz2⟩ := info_parts info_test
 have HJ := Lib.hid (And.intro hi0 (And.intro hz0 (And.intro hz1 hz2)))
 have HL0 := Lib.hid (HL.out i hi w h)
 clear h hc hnb hi0 hz0 hz1 hz2
 go_enter Tryz.func145, Tryz.ntmps145
 go_wp2_with fail
 refine HL0.out.mono ?_
 rintro e w1 ⟨rfl, hb⟩
 have HR1 := Lib.hid (HR0.out.below hb)
 have HG1 : Hid (Gr b w w1) := Lib.hid (Gr.of hb)
 clear hb
 by_cases h42 : lk s i = 42
 · have hlt : i < s.size := lk_lt (by rw [h42]; decide)
   have HRD := Lib.hid (cmp_star HC.out h42)
   have q1 : (lk s i == 42) = true := by simpa using h42
   generalize lk s i = c at *
   obtain ⟨c0, c1, f0, f1⟩ := HR1.out.cells
   have hR2 : Rr (w1.setCell ⟨b, 1, none⟩ (.int .i64 ((i : Int) + 1))) b s (i + 1) := by have := HR1.out.set (i + 1); simpa using this
   have HR2 := Lib.hid hR2
   have HG2 := Lib.hid (HG1.out.trans (Gr.set b 1 w1 (.int .i64 ((i : Int) + 1))))
   clear h42 hR2
   go_wp2_with fail
   clear c0 c1 f0 f1
   go_loopw [3] (fun q wr => ∃ (V : World) (T : List Tr) (j : Nat) (p : Option Addr) (cap : Nat), V = wr /\ q = .slice p T.length cap /\ i < j /\ j <= s.size /\ T.length <= j /\ Hid (V.ownsRow w.heap.size 171 3 (.slice p T.length cap) T.length (tcells T)) /\ Hid (Rr V b s j) /\ Hid (Rdy s j R r (T.map te) ch) /\ Hid (Gr b w V)) (fun _ wr => s.size - atOf b wr)
   case atStart => exact ⟨_, [], i + 1, none, 0, rfl, rfl, by omega, hlt, Nat.zero_le _, Lib.hid (World.ownsRow_nil _ _ _ _), HR2, HRD, HG2⟩
   case round =>
    obtain ⟨V, T, j, p, cap, rfl, rfl, hij, hjs, hTj, HO, HR, HD, HG⟩ := hrel
    have HL1 := Lib.hid (HL.out j hjs V HR.out)
    have HA := Lib.hid HR.out.atOf
    go_wp2_with fail
    refine HL1.out.mono ?_
    rintro e w3 ⟨rfl, hb⟩
    have HR3 := Lib.hid (HR.out.below hb)
    have HO3 := Lib.hid (own_below HO.out hb)
    have HG3 := Lib.hid (HG.out.trans (Gr.of hb))
    clear hb
    go_wp2_with fail
    refine (HM.out _ w3).mono ?_
    rintro e w4 ⟨rfl, rfl⟩
    rcases Bool.eq_false_or_eq_true (mkB (lk s j)) with hmk | hmk
    · have HDT := Lib.hid (rdy_test HD.out hmk)
      have HT3 := Lib.hid (HT.out j hjs w3 HR3.out)
      rw [hmk]
      generalize lk s j = c2 at *
      clear hmk
      go_wp2_with fail
      refine HT3.out.mono ?_
      rintro e w5 ⟨hr, hg⟩
      have HG4 := Lib.hid (HG3.out.trans hg)
      have HO4 := Lib.hid (own_gr HO3.out hbw hg)
      clear hg
      cases htp : tP s j with
      | error k =>
        rw [htp] at hr HDT
        unfold Rs Mis at hr
        subst hr
        clear htp
        go_wp2
        exact ⟨rfl, .inr ⟨k, rfl, HDT.out⟩, HG4.out⟩
      | ok pr =>
        obtain ⟨t, j'⟩ := pr
        rw [htp] at hr HDT
        unfold Rs tV at hr
        obtain ⟨rfl, hr⟩ := hr
        have hj' := tP_le hjs htp
        have HR4 := Lib.hid hr
        clear htp hr
        obtain ⟨nT, hnT⟩ : ∃ nT, T.length = nT := ⟨_, rfl⟩
        have HNT := Lib.hid hnT
        rw [hnT] at HO4 hTj ⊢
        clear hnT
        have HXB : Hid (Below w5.heap.size w5 (w5.alloc (.cells #[.int .i64 t.1, .string t.2.1, .string t.2.2] 171))) := Lib.hid ((Below.refl _ _).alloc (Nat.le_refl _) _)
        have HX := Lib.hid (own_below HO4.out HXB.out)
        have HXC := Lib.hid (cells3 _ _ _ _ _ _ (heap_alloc_new w5 (.cells #[.int .i64 t.1, .string t.2.1, .string t.2.2] 171)))
        have HXS := Lib.hid (Nat.le_trans HG4.out.size HXB.out.size)
        go_wp2_with (at_builtin; refine wpList_append_own_at _ rfl _ _ 159 rfl w.heap.size 171 i0 (.agg #[.int .i64 0, .string ⟨#[]⟩, .string ⟨#[]⟩]) 3 40 Tryz.underlying159 HJ.out.1 HJ.out.2.1 HJ.out.2.2.1 HJ.out.2.2.2 rfl (by decide) _ _ _ rfl HX.out ⟨w5.heap.size, 0, none⟩ 1 1 (t3 t) rfl rfl HXC.out (t3_one t) (by unfold maxLen; omega) (by omega) HXS.out ?_; intro v' V' hown' hgrow _ hat; have HO' := Lib.hid hown'; have HGR := Lib.hid hgrow; clear hown' hgrow hat)
        obtain ⟨p', cap', rfl, -⟩ := own_form2 HO'.out
        have HR5 : Hid (Rr V' b s j') := Lib.hid ((HR4.out.below HXB.out).grown HGR.out (own_apart HX.out (HR4.out.below HXB.out) (by decide)))
        have HG5 : Hid (Gr b w V') := Lib.hid ((HG4.out.trans (Gr.of HXB.out)).grown HGR.out (fun q e => (HX.out.lt q e).1))
        have hlen : (T ++ [t]).length = nT + 1 := by rw [List.length_append, HNT.out]; rfl
        go_roundw
        case rel => exact ⟨V', T ++ [t], j', p', cap', rfl, by rw [hlen], by omega, hj'.2, by omega, Lib.hid (by rw [hlen, tcells_snoc]; exact HO'.out), HR5, Lib.hid (by rw [List.map_append]; exact HDT.out), HG5⟩
        case measure =>
         rw [HA.out, HR5.out.atOf]
         omega
    · have HMK := Lib.hid hmk
      rw [hmk]
      obtain ⟨c2, hc2⟩ : ∃ c2, lk s j = c2 := ⟨_, rfl⟩
      rw [hc2]
      clear hmk hc2
      go_wp2
      go_ret
      exact ⟨.inl ⟨T, j, _, rfl, HO3.out, HR3.out, HD.out, hij, hjs, HMK.out⟩, HG3.out⟩
 · have HCT := Lib.hid (cmp_test HC.out HNB.out h42)
   have q1 : (lk s i == 42) = false := by simpa using h42
   have HT1 := Lib.hid (HT.out i hi w1 HR1.out)
   generalize lk s i = c at *
   clear h42
   go_wp2_with fail
   refine HT1.out.mono ?_
   rintro e w2 ⟨hr, hg⟩
   have HG2 := Lib.hid (HG1.out.trans hg)
   clear hg
   cases htp : tP s i with
   | error k =>
     rw [htp] at hr HCT
     unfold Rs Mis at hr
     subst hr
     clear htp
     go_wp2
     exact ⟨rfl, .inr ⟨k, rfl, HCT.out⟩, HG2.out⟩
   | ok p =>
   obtain ⟨t, j⟩ := p
   rw [htp] at hr HCT
   unfold Rs tV at hr
   obtain ⟨rfl, hr⟩ := hr
   have hj := tP_le hi htp
   have HR2 := Lib.hid hr
   clear htp hr
   obtain ⟨n0, hn0⟩ : ∃ n0 : Nat, n0 = 0 := ⟨_, rfl⟩
   have HXB : Hid (Below w2.heap.size w2 (w2.alloc (.cells #[.int .i64 t.1, .string t.2.1, .string t.2.2] 171))) := Lib.hid ((Below.refl _ _).alloc (Nat.le_refl _) _)
   have HX := Lib.hid (own_below (World.ownsRow_nil w2 w.heap.size 171 3) HXB.out)
   have HXC := Lib.hid (cells3 _ _ _ _ _ _ (heap_alloc_new w2 (.cells #[.int .i64 t.1, .string t.2.1, .string t.2.2] 171)))
   have HXS := Lib.hid (Nat.le_trans HG2.out.size HXB.out.size)
   go_wp2_with (at_builtin; refine wpList_append_own_at _ rfl _ _ 159 rfl w.heap.size 171 i0 (.agg #[.int .i64 0, .string ⟨#[]⟩, .string ⟨#[]⟩]) 3 40 Tryz.underlying159 HJ.out.1 HJ.out.2.1 HJ.out.2.2.1 HJ.out.2.2.2 rfl (by decide) _ _ _ rfl HX.out ⟨w2.heap.size, 0, none⟩ 1 1 (t3 t) rfl rfl HXC.out (t3_one t) (by unfold maxLen; omega) (by omega) HXS.out ?_; intro v' V' hown' hgrow _ hat; have HO' := Lib.hid hown'; have HGR := Lib.hid hgrow; clear hown' hgrow hat)
   obtain ⟨p', cap', rfl, -⟩ := own_form2 HO'.out
   have HR5 : Hid (Rr V' b s j) := Lib.hid ((HR2.out.below HXB.out).grown HGR.out (own_apart HX.out (HR2.out.below HXB.out) (by decide)))
   have HG5 : Hid (Gr b w V') := Lib.hid ((HG2.out.trans (Gr.of HXB.out)).grown HGR.out (fun q e => (HX.out.lt q e).1))
   simp only [Nat.zero_add]
   go_loopw [3] (fun q wr => ∃ (V : World) (T : List Tr) (j : Nat) (p : Option Addr) (cap : Nat), V = wr /\ q = .slice p T.length cap /\ i < j /\ j <= s.size /\ T.length <= j /\ Hid (V.ownsRow w.heap.size 171 3 (.slice p T.length cap) T.length (tcells T)) /\ Hid (Rr V b s j) /\ Hid (Rdy s j R r (T.map te) ch) /\ Hid (Gr b w V)) (fun _ wr => s.size - atOf b wr)
   case atStart => exact ⟨V', [t], j, p', cap', rfl, rfl, hj.1, hj.2, by simp; omega, Lib.hid (by have := HO'.out; simpa [tcells] using this), HR5, HCT, HG5⟩
   case round =>
    obtain ⟨V, T, j, p, cap, rfl, rfl, hij, hjs, hTj, HO, HR, HD, HG⟩ := hrel
    have HL1 := Lib.hid (HL.out j hjs V HR.out)
    have HA := Lib.hid HR.out.atOf
    go_wp2_with fail
    refine HL1.out.mono ?_
    rintro e w3 ⟨rfl, hb⟩
    have HR3 := Lib.hid (HR.out.below hb)
    have HO3 := Lib.hid (own_below HO.out hb)
    have HG3 := Lib.hid (HG.out.trans (Gr.of hb))
    clear hb
    go_wp2_with fail
    refine (HM.out _ w3).mono ?_
    rintro e w4 ⟨rfl, rfl⟩
    rcases Bool.eq_false_or_eq_true (mkB (lk s j)) with hmk | hmk
    · have HDT := Lib.hid (rdy_test HD.out hmk)
      have HT3 := Lib.hid (HT.out j hjs w3 HR3.out)
      rw [hmk]
      generalize lk s j = c2 at *
      clear hmk
      go_wp2_with fail
      refine HT3.out.mono ?_
      rintro e w5 ⟨hr, hg⟩
      have HG4 := Lib.hid (HG3.out.trans hg)
      have HO4 := Lib.hid (own_gr HO3.out hbw hg)
      clear hg
      cases htp : tP s j with
      | error k =>
        rw [htp] at hr HDT
        unfold Rs Mis at hr
        subst hr
        clear htp
        go_wp2
        exact ⟨rfl, .inr ⟨k, rfl, HDT.out⟩, HG4.out⟩
      | ok pr =>
        obtain ⟨t, j'⟩ := pr
        rw [htp] at hr HDT
        unfold Rs tV at hr
        obtain ⟨rfl, hr⟩ := hr
        have hj' := tP_le hjs htp
        have HR4 := Lib.hid hr
        clear htp hr
        obtain ⟨nT, hnT⟩ : ∃ nT, T.length = nT := ⟨_, rfl⟩
        have HNT := Lib.hid hnT
        rw [hnT] at HO4 hTj ⊢
        clear hnT
        have HXB : Hid (Below w5.heap.size w5 (w5.alloc (.cells #[.int .i64 t.1, .string t.2.1, .string t.2.2] 171))) := Lib.hid ((Below.refl _ _).alloc (Nat.le_refl _) _)
        have HX := Lib.hid (own_below HO4.out HXB.out)
        have HXC := Lib.hid (cells3 _ _ _ _ _ _ (heap_alloc_new w5 (.cells #[.int .i64 t.1, .string t.2.1, .string t.2.2] 171)))
        have HXS := Lib.hid (Nat.le_trans HG4.out.size HXB.out.size)
        go_wp2_with (at_builtin; refine wpList_append_own_at _ rfl _ _ 159 rfl w.heap.size 171 i0 (.agg #[.int .i64 0, .string ⟨#[]⟩, .string ⟨#[]⟩]) 3 40 Tryz.underlying159 HJ.out.1 HJ.out.2.1 HJ.out.2.2.1 HJ.out.2.2.2 rfl (by decide) _ _ _ rfl HX.out ⟨w5.heap.size, 0, none⟩ 1 1 (t3 t) rfl rfl HXC.out (t3_one t) (by unfold maxLen; omega) (by omega) HXS.out ?_; intro v' V' hown' hgrow _ hat; have HO' := Lib.hid hown'; have HGR := Lib.hid hgrow; clear hown' hgrow hat)
        obtain ⟨p', cap', rfl, -⟩ := own_form2 HO'.out
        have HR5 : Hid (Rr V' b s j') := Lib.hid ((HR4.out.below HXB.out).grown HGR.out (own_apart HX.out (HR4.out.below HXB.out) (by decide)))
        have HG5 : Hid (Gr b w V') := Lib.hid ((HG4.out.trans (Gr.of HXB.out)).grown HGR.out (fun q e => (HX.out.lt q e).1))
        have hlen : (T ++ [t]).length = nT + 1 := by rw [List.length_append, HNT.out]; rfl
        go_roundw
        case rel => exact ⟨V', T ++ [t], j', p', cap', rfl, by rw [hlen], by omega, hj'.2, by omega, Lib.hid (by rw [hlen, tcells_snoc]; exact HO'.out), HR5, Lib.hid (by rw [List.map_append]; exact HDT.out), HG5⟩
        case measure =>
         rw [HA.out, HR5.out.atOf]
         omega
    · have HMK := Lib.hid hmk
      rw [hmk]
      obtain ⟨c2, hc2⟩ : ∃ c2, lk s j = c2 := ⟨_, rfl⟩
      rw [hc2]
      clear hmk hc2
      go_wp2
      go_ret
      exact ⟨.inl ⟨T, j, _, rfl, HO3.out, HR3.out, HD.out, hij, hjs, HMK.out⟩, HG3.out⟩
end Go.Proofs.YtcndplnnighjkaaGreatDoor.Sx
namespace Go.Proofs.YtcndplnnighjkaaGreatDoor.Sx
open Go.ChangeShapes Go.WideShapes Go.ChangeAt Go.RowKit
open Go.PlainAid (bt)
open Sl (St Te Stp Mo tstep cstep fin isB isL isN)
set_option linter.unusedVariables false
set_option linter.unusedSimpArgs false
abbrev Ms := (Option Addr × Nat) × (List Tr × Bool)
def s2 (m : Ms) : List Value := [.slice m.1.1 m.2.1.length m.1.2, .bool m.2.2]
def scells (l : List Ms) : List Value := l.flatMap s2
theorem scells_snoc (l : List Ms) (m : Ms) : scells (l ++ [m]) = scells l ++ s2 m := by simp [scells]
def stp (m : Ms) : Stp := ⟨m.2.1.map te, m.2.2⟩
theorem info_step : (Tryz.prog.info? 162).map (fun i => (i.zero, i.size, i.bytes)) = some (some (.agg #[.slice none 0 0, .bool false]), 2, 32) := by kernel_rfl
structure Rw (w : World) (base : Nat) (v : Value) (l : List Ms) : Prop where
 row : w.ownsRow base 162 2 v l.length (scells l)
 sub : ∀ m ∈ l, w.ownsRow base 171 3 (.slice m.1.1 m.2.1.length m.1.2) m.2.1.length (tcells m.2.1)
theorem Rw.below {w w' : World} {base : Nat} {v : Value} {l : List Ms} (h : Rw w base v l) (hb : Below w.heap.size w w') : Rw w' base v l := ⟨own_below h.row hb, fun m hm => own_below (h.sub m hm) hb⟩
theorem Rw.gr {w w' : World} {base b : Nat} {v : Value} {l : List Ms} (h : Rw w base v l) (hb : b < base) (hg : Gr b w w') : Rw w' base v l := ⟨own_gr h.row hb hg, fun m hm => own_gr (h.sub m hm) hb hg⟩
theorem Rw.mono {w : World} {base base' : Nat} {v : Value} {l : List Ms} (h : Rw w base v l) (hb : base' <= base) : Rw w base' v l := ⟨own_mono h.row hb, fun m hm => own_mono (h.sub m hm) hb⟩
theorem Rw.more {w w' : World} {base : Nat} {v v' : Value} {l : List Ms} {m : Ms} (h : Rw w base v l) (ht : w.ownsRow base 171 3 (.slice m.1.1 m.2.1.length m.1.2) m.2.1.length (tcells m.2.1)) (hr : w'.ownsRow base 162 2 v' (l.length + 1) (scells l ++ s2 m)) (hg : w.grownBy w' v.ownBlock) : Rw w' base v' (l ++ [m]) := by
 refine ⟨by rw [List.length_append, scells_snoc]; exact hr, fun x hx => ?_⟩
 rw [List.mem_append, List.mem_singleton] at hx
 rcases hx with hx | rfl
 · exact (h.sub x hx).kept hg (own_apart2 (h.sub x hx) h.row (by decide))
 · exact ht.kept hg (own_apart2 ht h.row (by decide))
def RdR (s : ByteArray) (j : Nat) (R : List (List Stp)) (rw : List Stp) : Prop :=
 ∃ st, At s j st /\ fin st = some (R ++ [rw]) /\ ∀ c, (ls s)[j]? = some c -> Sl.step st c = if c = 44 then some ⟨R ++ [rw], [], [], false, .comp⟩ else none
theorem rdy_blanks {s : ByteArray} {j : Nat} {R : List (List Stp)} {r : List Stp} {T : List Te} {ch : Bool} (h : Rdy s j R r T ch) : (sp s j = j /\ bB (lk s j) = false) \/ (j < sp s j /\ At s (sp s j) ⟨R, r, T, ch, .apart⟩ /\ bB (lk s (sp s j)) = false) := by
 obtain ⟨st, h1, h2, h3⟩ := h
 rcases Bool.eq_false_or_eq_true (bB (lk s j)) with hb | hb
 · right
   obtain ⟨g1, g2⟩ := sp_yes hb
   obtain ⟨c, hc, hl⟩ := lk_get g1
   rw [hl, <- isB_bB] at hb
   obtain ⟨n1, n2, n3, n4⟩ := Sl.isB_not hb
   have k1 := h1.step hc (show Sl.step st c = some ⟨R, r, T, ch, .apart⟩ by rw [h3 c hc]; simp [tstep, n2, n3, n4, hb, St.to])
   have k2 := k1.blanks (st1 := ⟨R, r, T, ch, .apart⟩) (fun c hc => by simp [Sl.step, hc]) (fun c hc => by simp [Sl.step, hc])
   rw [ite_self] at k2
   have := (sp_le s (j + 1) g1).1
   rw [g2]
   exact ⟨by omega, k2, sp_end s (j + 1) g1⟩
 · exact .inl ⟨sp_no hb, hb⟩
theorem rdy_gt {s : ByteArray} {j : Nat} {R : List (List Stp)} {r : List Stp} {T : List Te} {ch : Bool} (h : Rdy s j R r T ch) (hc : lk s (sp s j) = 62) : Cmp s (sp s (sp s j + 1)) R (r ++ [⟨T, ch⟩]) true /\ sp s j < s.size := by
 have hlt : sp s j < s.size := lk_lt (by rw [hc]; decide)
 have k1 : At s (sp s j + 1) ⟨R, r ++ [⟨T, ch⟩], [], true, .comp⟩ := by
  rcases rdy_blanks h with ⟨e, -⟩ | ⟨-, k, -⟩
  · rw [e] at hc ⊢
    obtain ⟨st, h1, h2, h3⟩ := h
    exact h1.step (lk_byte (c := 62) hc) (by rw [h3 62 (lk_byte (c := 62) hc)]; simp [tstep, isB, St.push])
  · exact k.step (lk_byte (c := 62) hc) (by simp [Sl.step, isB, St.push])
 have k2 := k1.blanks (st1 := ⟨R, r ++ [⟨T, ch⟩], [], true, .comp⟩) (fun c hc => by simp [Sl.step, cstep, hc, St.to]) (fun c hc => by simp [Sl.step, cstep, hc, St.to])
 rw [ite_self] at k2
 exact ⟨⟨_, k2, fun c _ => rfl, fun _ => rfl⟩, hlt⟩
theorem rdy_apart {s : ByteArray} {j : Nat} {R : List (List Stp)} {r : List Stp} {T : List Te} {ch : Bool} (h : Rdy s j R r T ch) (hj : j < sp s j) (h62 : lk s (sp s j) ≠ 62) (h44 : lk s (sp s j) ≠ 44) (h1 : lk s (sp s j) ≠ -1) : Cmp s (sp s j) R (r ++ [⟨T, ch⟩]) false := by
 rcases rdy_blanks h with ⟨e, -⟩ | ⟨-, k, hb⟩
 · omega
 · refine ⟨_, k, fun c hc => ?_, fun e => absurd (lk_lt h1) (by omega)⟩
   have e1 : isB c = false := by rw [isB_bB, <- (lk_some hc).1]; exact hb
   have e2 : c ≠ 62 := by rintro rfl; exact h62 (lk_some hc).1
   have e3 : c ≠ 44 := by rintro rfl; exact h44 (lk_some hc).1
   simp [Sl.step, e1, e2, e3, St.push]
theorem rdy_end {s : ByteArray} {j : Nat} {R : List (List Stp)} {r : List Stp} {T : List Te} {ch : Bool} (h : Rdy s j R r T ch) (hm : mkB (lk s j) = false) (h62 : lk s (sp s j) ≠ 62) (hd : ¬ (j < sp s j /\ lk s (sp s j) ≠ 44 /\ lk s (sp s j) ≠ -1)) : RdR s (sp s j) R (r ++ [⟨T, ch⟩]) := by
 rcases rdy_blanks h with ⟨e, hb⟩ | ⟨hj, k, hb⟩
 · rw [e] at h62 ⊢
   obtain ⟨st, h1, h2, h3⟩ := h
   refine ⟨st, h1, h2, fun c hc => ?_⟩
   have e1 : isB c = false := by rw [isB_bB, <- (lk_some hc).1]; exact hb
   have e2 : c ≠ 62 := by rintro rfl; exact h62 (lk_some hc).1
   have e3 : c ≠ 35 /\ c ≠ 46 /\ c ≠ 91 := by
    rw [(lk_some hc).1] at hm
    refine ⟨?_, ?_, ?_⟩ <;> (rintro rfl; revert hm; decide)
   rw [h3 c hc]
   simp only [tstep, if_neg e3.1, if_neg e3.2.1, if_neg e3.2.2, e1, if_neg e2, St.pushRow]
   rfl
 · refine ⟨_, k, rfl, fun c hc => ?_⟩
   have h1 : lk s (sp s j) ≠ -1 := by rw [(lk_some hc).1]; omega
   have h44 : lk s (sp s j) = 44 := by
    rcases Decidable.em (lk s (sp s j) = 44) with h | h
    · exact h
    · exact absurd ⟨hj, h, h1⟩ hd
   have hc44 : c = 44 := by
    rw [(lk_some hc).1] at h44
    exact UInt8.toNat_inj.1 (by simp; omega)
   subst hc44
   simp [Sl.step, isB, St.pushRow]
end Go.Proofs.YtcndplnnighjkaaGreatDoor.Sx
