/-
  A selector, read byte by byte: plain mathematics of no program.
-/
import Derived.PlainAid
import Derived.Lib.Strings
import Derived.Lib.Hide
namespace Go.Proofs.YtcndplnnighjkaaGreatDoor.Sl
set_option linter.unusedVariables false
set_option linter.unusedSimpArgs false
structure Te where
 k : Int
 n : List UInt8
 v : List UInt8
structure Stp where
 c : List Te
 child : Bool
inductive Mo where
 | comp | tests | apart | brk
 | nm (k : Int) (b : List UInt8)
 | bn (b : List UInt8)
 | ba (n : List UInt8)
 | be (n : List UInt8)
 | bv (n b : List UInt8)
 | bs (n b : List UInt8)
 | bz (n v : List UInt8)
structure St where
 rows : List (List Stp)
 row : List Stp
 ts : List Te
 child : Bool
 m : Mo
def isB (c : UInt8) : Bool := c == 9 || c == 10 || c == 12 || c == 13 || c == 32
def isL (c : UInt8) : Bool := (decide (65 <= c) && decide (c <= 90)) || (decide (97 <= c) && decide (c <= 122))
def isN (c : UInt8) : Bool := isL c || (decide (48 <= c) && decide (c <= 57)) || c == 45 || c == 95
def start : St := ⟨[], [], [], false, .comp⟩
def St.push (s : St) (ch : Bool) : St := ⟨s.rows, s.row ++ [⟨s.ts, s.child⟩], [], ch, .comp⟩
def St.pushRow (s : St) : St := ⟨s.rows ++ [s.row ++ [⟨s.ts, s.child⟩]], [], [], false, .comp⟩
def St.to (s : St) (m : Mo) : St := ⟨s.rows, s.row, s.ts, s.child, m⟩
def St.add (s : St) (t : Te) : St := ⟨s.rows, s.row, s.ts ++ [t], s.child, .tests⟩
def tstep (s : St) (c : UInt8) : Option St :=
 if c = 35 then some (s.to (.nm 2 [])) else if c = 46 then some (s.to (.nm 3 [])) else if c = 91 then some (s.to .brk)
 else if isB c then some (s.to .apart) else if c = 62 then some (s.push true) else if c = 44 then some s.pushRow else none
def cstep (s : St) (c : UInt8) : Option St :=
 if isB c then some (s.to .comp) else if c = 42 then some (s.to .tests) else if isL c then some (s.to (.nm 1 [c]))
 else if c = 35 then some (s.to (.nm 2 [])) else if c = 46 then some (s.to (.nm 3 [])) else if c = 91 then some (s.to .brk) else none
def baStep (s : St) (n : List UInt8) (c : UInt8) : Option St :=
 if isB c then some (s.to (.ba n)) else if c = 93 then some (s.add ⟨4, n, []⟩) else if c = 61 then some (s.to (.be n)) else none
def bzStep (s : St) (n v : List UInt8) (c : UInt8) : Option St :=
 if isB c then some (s.to (.bz n v)) else if c = 93 then some (s.add ⟨5, n, v⟩) else none
def step (s : St) (c : UInt8) : Option St :=
 match s.m with
 | .comp => cstep s c
 | .tests => tstep s c
 | .nm k b => if b = [] then (if isL c then some (s.to (.nm k [c])) else none) else if isN c then (if b.length < 20 then some (s.to (.nm k (b ++ [c]))) else none) else tstep (s.add ⟨k, b, []⟩) c
 | .apart => if isB c then some s else if c = 62 then some (s.push true) else if c = 44 then some s.pushRow else cstep (s.push false) c
 | .brk => if isB c then some s else if isL c then some (s.to (.bn [c])) else none
 | .bn b => if isN c then (if b.length < 20 then some (s.to (.bn (b ++ [c]))) else none) else baStep s b c
 | .ba n => baStep s n c
 | .be n => if isB c then some s else if c = 34 then some (s.to (.bs n [])) else if isL c then some (s.to (.bv n [c])) else none
 | .bv n b => if isN c then (if b.length < 20 then some (s.to (.bv n (b ++ [c]))) else none) else bzStep s n b c
 | .bs n b => if c = 34 then some (s.to (.bz n b)) else if b.length < 60 then some (s.to (.bs n (b ++ [c]))) else none
 | .bz n v => bzStep s n v c
def fin (s : St) : Option (List (List Stp)) :=
 match s.m with
 | .tests => some (s.rows ++ [s.row ++ [⟨s.ts, s.child⟩]])
 | .apart => some (s.rows ++ [s.row ++ [⟨s.ts, s.child⟩]])
 | .nm k b => if b = [] then none else some (s.rows ++ [s.row ++ [⟨s.ts ++ [⟨k, b, []⟩], s.child⟩]])
 | _ => none
def run (s : St) (i : Nat) : List UInt8 -> Except Nat St
 | [] => .ok s
 | c :: l => match step s c with
   | none => .error i
   | some s' => run s' (i + 1) l
def ends (i : Nat) (s : St) : Except Nat (List (List Stp)) := match fin s with
 | none => .error i
 | some x => .ok x
def parse (l : List UInt8) : Except Nat (List (List Stp)) := match run start 0 l with
 | .error i => .error i
 | .ok s => ends l.length s
theorem run_append (s : St) (i : Nat) (a b : List UInt8) : run s i (a ++ b) = match run s i a with | .error k => .error k | .ok s' => run s' (i + a.length) b := by
 induction a generalizing s i with
 | nil => simp [run]
 | cons c a ih =>
   rw [List.cons_append, run, run]
   cases step s c with
   | none => rfl
   | some s' => simp only []; rw [ih, List.length_cons, show i + (a.length + 1) = i + 1 + a.length by omega]
theorem run_nm (s : St) (k : Int) : ∀ (l b : List UInt8) (i : Nat), s.m = .nm k b -> b ≠ [] -> b.length + l.length <= 20 -> (∀ c ∈ l, isN c = true) -> run s i l = .ok (s.to (.nm k (b ++ l))) := by
 intro l
 induction l generalizing s with
 | nil => intro b i hm hb hl hc; obtain ⟨rows, row, ts, ch, m⟩ := s; cases hm; simp [run, St.to]
 | cons c l ih =>
   intro b i hm hb hl hc
   simp only [List.length_cons] at hl
   have : step s c = some (s.to (.nm k (b ++ [c]))) := by
    unfold step
    rw [hm]
    simp only []
    rw [if_neg hb, if_pos (hc c (by simp)), if_pos (by omega)]
   rw [run, this]
   simp only []
   rw [ih _ (b ++ [c]) (i + 1) rfl (by simp) (by simp; omega) (fun x hx => hc x (by simp [hx]))]
   simp [St.to]
def nameOk : List UInt8 -> Bool
 | [] => false
 | c :: l => isL c && l.all isN && decide (l.length < 20)
theorem run_name {s : St} {k : Int} (hm : s.m = .nm k []) {n : List UInt8} (h : nameOk n = true) (i : Nat) : run s i n = .ok (s.to (.nm k n)) := by
 cases n with
 | nil => cases h
 | cons c l =>
   simp only [nameOk, Bool.and_eq_true, decide_eq_true_eq] at h
   have : step s c = some (s.to (.nm k [c])) := by
    unfold step
    rw [hm]
    simp [h.1.1]
   rw [run, this]
   simp only []
   rw [run_nm _ k l [c] _ rfl (by simp) (by simp; omega) (fun x hx => List.all_eq_true.1 h.1.2 x hx)]
   rfl
theorem parse_name {n : List UInt8} (h : nameOk n = true) : parse n = .ok [[⟨[⟨1, n, []⟩], false⟩]] /\ parse (35 :: n) = .ok [[⟨[⟨2, n, []⟩], false⟩]] /\ parse (46 :: n) = .ok [[⟨[⟨3, n, []⟩], false⟩]] := by
 have hne : n ≠ [] := by rintro rfl; cases h
 refine ⟨?_, ?_, ?_⟩
 · cases n with
   | nil => cases h
   | cons c l =>
     have h' := h
     simp only [nameOk, Bool.and_eq_true, decide_eq_true_eq] at h'
     have hc : step start c = some (start.to (.nm 1 [c])) := by
      have h1 : isB c = false := by
       have := h'.1.1
       revert this
       simp only [isL, isB, Bool.or_eq_true, Bool.and_eq_true, decide_eq_true_eq, Bool.or_eq_false_iff, beq_eq_false_iff_ne, UInt8.le_iff_toNat_le, ne_eq, <- UInt8.toNat_inj]
       intro h
       simp at h ⊢
       omega
      have h2 : c ≠ 42 := by
       rintro rfl
       exact absurd h'.1.1 (by decide)
      simp [step, start, cstep, h1, h2, h'.1.1]
     unfold parse
     rw [run, hc]
     simp only []
     rw [run_nm _ 1 l [c] _ rfl (by simp) (by simp; omega) (fun x hx => List.all_eq_true.1 h'.1.2 x hx)]
     simp [ends, fin, start, St.to]
 · unfold parse
   rw [run, show step start 35 = some (start.to (.nm 2 [])) by rfl]
   simp only []
   rw [run_name rfl h]
   simp [ends, fin, start, St.to, hne]
 · unfold parse
   rw [run, show step start 46 = some (start.to (.nm 3 [])) by rfl]
   simp only []
   rw [run_name rfl h]
   simp [ends, fin, start, St.to, hne]
end Go.Proofs.YtcndplnnighjkaaGreatDoor.Sl
namespace Go.Proofs.YtcndplnnighjkaaGreatDoor.Sl
set_option linter.unusedVariables false
set_option linter.unusedSimpArgs false
def pt (t : Te) : List UInt8 := if t.k = 1 then t.n else if t.k = 2 then 35 :: t.n else if t.k = 3 then 46 :: t.n else if t.k = 4 then 91 :: (t.n ++ [93]) else if t.k = 5 then 91 :: (t.n ++ (61 :: 34 :: (t.v ++ [34, 93]))) else []
def pc (ts : List Te) : List UInt8 := if ts = [] then [42] else ts.flatMap pt
def pm (g : List UInt8) (x : Stp) : List UInt8 := (if x.child then g else [32]) ++ pc x.c
def prow (g : List UInt8) : List Stp -> List UInt8
 | [] => []
 | x :: l => pc x.c ++ l.flatMap (pm g)
def valOk (v : List UInt8) : Prop := v.length <= 60 /\ ∀ c ∈ v, c ≠ 34
def teOk (first : Bool) (t : Te) : Prop := ((t.k = 1 /\ first = true \/ t.k = 2 \/ t.k = 3 \/ t.k = 4) /\ nameOk t.n = true /\ t.v = []) \/ (t.k = 5 /\ nameOk t.n = true /\ valOk t.v)
def tsOk : List Te -> Prop
 | [] => True
 | t :: l => teOk true t /\ ∀ x ∈ l, teOk false x
def rowOk : List Stp -> Prop
 | [] => False
 | x :: l => x.child = false /\ tsOk x.c /\ ∀ y ∈ l, tsOk y.c
def Sd (s : St) (R : List (List Stp)) (r : List Stp) (T : List Te) (ch : Bool) : Prop :=
 s.rows = R /\ s.row = r /\ s.child = ch /\ ((s.m = .tests /\ s.ts = T) \/ ∃ k b T0, s.m = .nm k b /\ b ≠ [] /\ s.ts = T0 /\ T = T0 ++ [⟨k, b, []⟩])
theorem Sd.step {s : St} {R : List (List Stp)} {r : List Stp} {T : List Te} {ch : Bool} (h : Sd s R r T ch) {c : UInt8} (hc : isN c = false) : Sl.step s c = tstep ⟨R, r, T, ch, .tests⟩ c := by
 obtain ⟨rows, row, ts, cc, m⟩ := s
 obtain ⟨rfl, rfl, rfl, (⟨rfl, rfl⟩ | ⟨k, b, T0, rfl, hb, rfl, rfl⟩)⟩ := h
 · rfl
 · simp [Sl.step, hb, hc, St.add]
theorem Sd.fin {s : St} {R : List (List Stp)} {r : List Stp} {T : List Te} {ch : Bool} (h : Sd s R r T ch) : Sl.fin s = some (R ++ [r ++ [⟨T, ch⟩]]) := by
 obtain ⟨rows, row, ts, cc, m⟩ := s
 obtain ⟨rfl, rfl, rfl, (⟨rfl, rfl⟩ | ⟨k, b, T0, rfl, hb, rfl, rfl⟩)⟩ := h
 · rfl
 · simp [Sl.fin, hb]
theorem isL_not {c : UInt8} (h : isL c = true) : isB c = false /\ c ≠ 42 /\ c ≠ 62 /\ c ≠ 44 /\ c ≠ 35 /\ c ≠ 46 /\ c ≠ 91 /\ c ≠ 34 /\ c ≠ 93 /\ c ≠ 61 := by
 have hb : isB c = false := by
  revert h
  simp only [isL, isB, Bool.or_eq_true, Bool.and_eq_true, decide_eq_true_eq, Bool.or_eq_false_iff, beq_eq_false_iff_ne, UInt8.le_iff_toNat_le, ne_eq, <- UInt8.toNat_inj]
  intro h
  simp at h ⊢
  omega
 refine ⟨hb, ?_, ?_, ?_, ?_, ?_, ?_, ?_, ?_, ?_⟩ <;> (rintro rfl; exact absurd h (by decide))
theorem isN_not {c : UInt8} (h : isN c = true) : isB c = false /\ c ≠ 42 /\ c ≠ 62 /\ c ≠ 44 /\ c ≠ 35 /\ c ≠ 46 /\ c ≠ 91 /\ c ≠ 34 /\ c ≠ 93 /\ c ≠ 61 := by
 have hb : isB c = false := by
  revert h
  simp only [isN, isL, isB, Bool.or_eq_true, Bool.and_eq_true, decide_eq_true_eq, beq_iff_eq, Bool.or_eq_false_iff, beq_eq_false_iff_ne, UInt8.le_iff_toNat_le, ne_eq, <- UInt8.toNat_inj]
  intro h
  simp at h ⊢
  omega
 refine ⟨hb, ?_, ?_, ?_, ?_, ?_, ?_, ?_, ?_, ?_⟩ <;> (rintro rfl; exact absurd h (by decide))
def Cs (s s0 : St) : Prop := s0.m = .comp /\ s0.ts = [] /\ ∀ c, isB c = false -> c ≠ 62 -> c ≠ 44 -> Sl.step s c = cstep s0 c
theorem Cs.comp {s : St} (hm : s.m = .comp) (ht : s.ts = []) : Cs s s := ⟨hm, ht, fun c _ _ _ => by simp [Sl.step, hm]⟩
theorem Cs.apart {s : St} (hm : s.m = .apart) : Cs s (s.push false) := ⟨rfl, rfl, fun c h1 h2 h3 => by simp [Sl.step, hm, h1, h2, h3]⟩
theorem isB_not {c : UInt8} (h : isB c = true) : isN c = false /\ c ≠ 35 /\ c ≠ 46 /\ c ≠ 91 := by
 refine ⟨?_, ?_, ?_, ?_⟩
 · cases hn : isN c with
   | false => rfl
   | true => rw [(isN_not hn).1] at h; cases h
 all_goals (rintro rfl; exact absurd h (by decide))
end Go.Proofs.YtcndplnnighjkaaGreatDoor.Sl
namespace Go.Proofs.YtcndplnnighjkaaGreatDoor.Sl
set_option linter.unusedVariables false
set_option linter.unusedSimpArgs false
theorem tsOk_add {ts : List Te} {t : Te} (h : tsOk ts) (ht : teOk false t) : tsOk (ts ++ [t]) := by
 have h1 : teOk true t := by
  rcases ht with h | h
  · refine .inl ⟨?_, h.2⟩
    rcases h.1 with h | h
    · exact absurd h.2 (by simp)
    · exact .inr h
  · exact .inr h
 cases ts with
 | nil => exact ⟨h1, by simp⟩
 | cons a l =>
   refine ⟨h.1, fun x hx => ?_⟩
   have hx : x ∈ l ++ [t] := hx
   rw [List.mem_append, List.mem_singleton] at hx
   rcases hx with hx | rfl
   · exact h.2 x hx
   · exact ht
structure W3 (s : St) : Prop where
 rows : ∀ r ∈ s.rows, rowOk r
 first : s.row = [] -> s.child = false
 head : ∀ x l, s.row = x :: l -> x.child = false
 row : ∀ x ∈ s.row, tsOk x.c
 ts : tsOk s.ts
theorem isL_N {c : UInt8} (h : isL c = true) : isN c = true := by simp [isN, h]
theorem nameOk_all {b : List UInt8} (h : nameOk b = true) : b.length <= 20 /\ ∀ c ∈ b, isN c = true := by
 cases b with
 | nil => cases h
 | cons a l =>
   simp only [nameOk, Bool.and_eq_true, decide_eq_true_eq] at h
   refine ⟨by simp; omega, fun c hc => ?_⟩
   rw [List.mem_cons] at hc
   rcases hc with rfl | hc
   · exact isL_N h.1.1
   · exact List.all_eq_true.1 h.1.2 c hc
theorem W3.to {s : St} (h : W3 s) (m : Mo) : W3 (s.to m) := ⟨h.rows, h.first, h.head, h.row, h.ts⟩
theorem W3.add {s : St} (h : W3 s) {t : Te} (ht : teOk false t) : W3 (s.add t) := ⟨h.rows, h.first, h.head, h.row, tsOk_add h.ts ht⟩
theorem W3.rowOk {s : St} (h : W3 s) : rowOk (s.row ++ [⟨s.ts, s.child⟩]) := by
 obtain ⟨rows, row, ts, ch, m⟩ := s
 obtain ⟨h1, h2, h3, h4, h5⟩ := h
 cases row with
 | nil => exact ⟨h2 rfl, h5, by simp⟩
 | cons x l =>
   refine ⟨h3 x l rfl, h4 x (by simp), fun y hy => ?_⟩
   have hy : y ∈ l ++ [⟨ts, ch⟩] := hy
   rw [List.mem_append, List.mem_singleton] at hy
   rcases hy with hy | rfl
   · exact h4 y (by simp [hy])
   · exact h5
theorem W3.push {s : St} (h : W3 s) (ch : Bool) : W3 (s.push ch) := by
 have hr := h.rowOk
 obtain ⟨rows, row, ts, cc, m⟩ := s
 refine ⟨h.rows, fun he => absurd he (by simp [St.push]), fun x l hx => ?_, fun x hx => ?_, trivial⟩
 · simp only [St.push] at hx
   rw [hx] at hr
   exact hr.1
 · simp only [St.push, List.mem_append, List.mem_singleton] at hx
   rcases hx with hx | rfl
   · exact h.row x hx
   · exact h.ts
theorem W3.pushRow {s : St} (h : W3 s) : W3 s.pushRow := by
 refine ⟨fun r hr => ?_, fun _ => rfl, fun x l hx => (by cases hx), fun x hx => (by cases hx), trivial⟩
 simp only [St.pushRow, List.mem_append, List.mem_singleton] at hr
 rcases hr with hr | rfl
 · exact h.rows r hr
 · exact h.rowOk
end Go.Proofs.YtcndplnnighjkaaGreatDoor.Sl
namespace Go.Proofs.YtcndplnnighjkaaGreatDoor.Sl
set_option linter.unusedVariables false
set_option linter.unusedSimpArgs false
def wt (t : Te) : Nat := t.n.length + t.v.length + 6
def wc (ts : List Te) : Nat := (ts.map wt).sum
def ws (x : Stp) : Nat := 4 + wc x.c
def wss (r : List Stp) : Nat := (r.map ws).sum
def wr (r : List Stp) : Nat := 2 + wss r
def wx (x : List (List Stp)) : Nat := (x.map wr).sum
theorem wc_snoc (ts : List Te) (t : Te) : wc (ts ++ [t]) = wc ts + wt t := by simp [wc]
theorem wss_snoc (r : List Stp) (x : Stp) : wss (r ++ [x]) = wss r + ws x := by simp [wss]
theorem wx_snoc (x : List (List Stp)) (r : List Stp) : wx (x ++ [r]) = wx x + wr r := by simp [wx]
def pend : Mo -> Nat
 | .nm _ b => b.length + 6
 | .brk => 6
 | .bn b => b.length + 6
 | .ba n => n.length + 6
 | .be n => n.length + 6
 | .bv n b => n.length + b.length + 6
 | .bs n b => n.length + b.length + 6
 | .bz n v => n.length + v.length + 6
 | _ => 0
def wst (s : St) : Nat := wx s.rows + wss s.row + wc s.ts + pend s.m
theorem wst_step {s s' : St} {c : UInt8} (h : step s c = some s') : wst s' <= wst s + 11 := by
 obtain ⟨rows, row, ts, ch, m⟩ := s
 have e1 : wc [] = 0 := rfl
 have e2 : wss [] = 0 := rfl
 cases m <;> simp only [step, cstep, tstep, baStep, bzStep] at h <;> (repeat' split at h) <;>
  first
  | (cases h; done)
  | (cases h
     simp only [wst, pend, St.to, St.add, St.push, St.pushRow, wc_snoc, wss_snoc, wx_snoc, wr, ws, wt, List.length_append, List.length_cons, List.length_nil, e1, e2]
     omega)
theorem wst_run {s s' : St} {i : Nat} {l : List UInt8} (h : run s i l = .ok s') : wst s' <= wst s + 11 * l.length := by
 induction l generalizing s i with
 | nil => cases h; simp
 | cons c l ih =>
   rw [run] at h
   cases hs : step s c with
   | none => rw [hs] at h; cases h
   | some s1 =>
     rw [hs] at h
     have h1 := ih h
     have h2 := wst_step hs
     simp only [List.length_cons]
     omega
theorem wx_fin {s : St} {x : List (List Stp)} (h : fin s = some x) : wx x <= wst s + 6 := by
 obtain ⟨rows, row, ts, ch, m⟩ := s
 cases m <;> simp only [fin] at h <;> (repeat' split at h) <;>
  first
  | (cases h; done)
  | (cases h
     simp only [wst, pend, wc_snoc, wss_snoc, wx_snoc, wr, ws, wt, List.length_nil]
     omega)
theorem parse_wx {l : List UInt8} {x : List (List Stp)} (h : parse l = .ok x) : wx x <= 11 * l.length + 6 := by
 unfold parse at h
 cases hr : run start 0 l with
 | error k => rw [hr] at h; cases h
 | ok s =>
   rw [hr] at h
   simp only [ends] at h
   cases hf : fin s with
   | none => rw [hf] at h; cases h
   | some y =>
     rw [hf] at h
     cases h
     have h1 := wst_run hr
     have h2 := wx_fin hf
     have e : wst start = 0 := rfl
     omega
theorem sum_part : ∀ {l : List Nat} {a : Nat}, a ∈ l -> a <= l.sum
 | b :: l, a, h => by
   rw [List.mem_cons] at h
   rw [List.sum_cons]
   rcases h with rfl | h
   · omega
   · have := sum_part h
     omega
theorem wx_row {x : List (List Stp)} {r : List Stp} (h : r ∈ x) : wr r <= wx x := sum_part (List.mem_map_of_mem h)
theorem wr_step {r : List Stp} {x : Stp} (h : x ∈ r) : ws x <= wss r := sum_part (List.mem_map_of_mem h)
theorem wc_test {ts : List Te} {t : Te} (h : t ∈ ts) : wt t <= wc ts := sum_part (List.mem_map_of_mem h)
end Go.Proofs.YtcndplnnighjkaaGreatDoor.Sl
