/-
  A row that ends at a node, as plain mathematics: over the way up, step by step, and part by part.
-/
import Derived.Test.YtcndplnnighjkaaGreatDoorPG34
import Derived.Test.YtcndplnnighjkaaGreatDoorPG24
import Derived.Test.YtcndplnnighjkaaGreatDoorPG25
import Derived.Test.YtcndplnnighjkaaGreatDoorPG09
import Derived.PlainAid
namespace Go.Proofs.YtcndplnnighjkaaGreatDoor
set_option linter.unusedVariables false
set_option linter.unusedSimpArgs false
namespace Fi
variable {α β : Type}
def tls : List α -> List (List α)
 | [] => [[]]
 | a :: l => (a :: l) :: tls l
def eD (fit : α -> β -> Bool) : List (β × Bool) -> List α -> Bool
 | [], _ => false
 | s :: rr, w => match w with
   | [] => false
   | m :: up => fit m s.1 && (rr.isEmpty || (if s.2 then eD fit rr up else (tls up).any (eD fit rr)))
def aD (fit : α -> β -> Bool) (rr : List (β × Bool)) (w : List α) : Bool := (tls w).any (eD fit rr)
def fitAt (fit : α -> β -> Bool) (w : List α) (part : List (β × Bool)) (i : Nat) : Bool := match w[part.length - 1 - i]?, part[i]? with
 | some m, some s => fit m s.1
 | _, _ => false
def runB (fit : α -> β -> Bool) (w : List α) (part : List (β × Bool)) : Bool := decide (part.length <= w.length) && (List.range part.length).all (fitAt fit w part)
theorem aD_nil (fit : α -> β -> Bool) (rr : List (β × Bool)) : aD fit rr [] = eD fit rr [] := by simp [aD, tls]
theorem eD_nil (fit : α -> β -> Bool) (rr : List (β × Bool)) : eD fit rr [] = false := by cases rr <;> rfl
theorem aD_cons (fit : α -> β -> Bool) (rr : List (β × Bool)) (m : α) (w : List α) : aD fit rr (m :: w) = (eD fit rr (m :: w) || aD fit rr w) := by simp [aD, tls]
theorem eD_aD {fit : α -> β -> Bool} {rr : List (β × Bool)} {w : List α} (h : eD fit rr w = true) : aD fit rr w = true := by
 cases w with
 | nil => rw [eD_nil] at h; cases h
 | cons m w => rw [aD_cons, h]; rfl
theorem aD_drop {fit : α -> β -> Bool} {rr : List (β × Bool)} : ∀ (k : Nat) {w : List α}, aD fit rr (w.drop k) = true -> aD fit rr w = true
 | 0, w, h => by simpa using h
 | k + 1, [], h => by simpa using h
 | k + 1, m :: w, h => by
   rw [aD_cons, aD_drop k (w := w) (by simpa using h), Bool.or_true]
theorem aD_mono {fit : α -> β -> Bool} {rr : List (β × Bool)} {a b : Nat} {w : List α} (hab : a <= b) (h : aD fit rr (w.drop b) = true) : aD fit rr (w.drop a) = true := by
 refine aD_drop (b - a) ?_
 rw [List.drop_drop]
 rwa [show a + (b - a) = b from by omega]
theorem aD_some {fit : α -> β -> Bool} {rr : List (β × Bool)} : ∀ {w : List α}, aD fit rr w = true -> ∃ k, eD fit rr (w.drop k) = true
 | [], h => ⟨0, by rw [aD_nil] at h; simpa using h⟩
 | m :: w, h => by
   rw [aD_cons, Bool.or_eq_true] at h
   rcases h with h | h
   · exact ⟨0, by simpa using h⟩
   · obtain ⟨k, hk⟩ := aD_some h
     exact ⟨k + 1, by simpa using hk⟩
theorem runB_iff {fit : α -> β -> Bool} {w : List α} {part : List (β × Bool)} : runB fit w part = true ↔ part.length <= w.length /\ ∀ i, i < part.length -> fitAt fit w part i = true := by
 simp [runB, List.all_eq_true]
theorem fitAt_snoc_lt {fit : α -> β -> Bool} {m : α} {up : List α} {part : List (β × Bool)} {s : β × Bool} {i : Nat} (hi : i < part.length) : fitAt fit (m :: up) (part ++ [s]) i = fitAt fit up part i := by
 unfold fitAt
 rw [List.getElem?_append_left hi, List.length_append]
 have e : part.length + [s].length - 1 - i = (part.length - 1 - i) + 1 := by simp; omega
 rw [e, List.getElem?_cons_succ]
theorem fitAt_snoc_end {fit : α -> β -> Bool} {m : α} {up : List α} {part : List (β × Bool)} {s : β × Bool} : fitAt fit (m :: up) (part ++ [s]) part.length = fit m s.1 := by
 unfold fitAt
 rw [List.getElem?_append_right (Nat.le_refl _), List.length_append]
 have e : part.length + [s].length - 1 - part.length = 0 := by simp
 rw [e]
 simp
theorem runB_snoc {fit : α -> β -> Bool} {m : α} {up : List α} {part : List (β × Bool)} {s : β × Bool} : runB fit (m :: up) (part ++ [s]) = (fit m s.1 && runB fit up part) := by
 rw [Bool.eq_iff_iff, Bool.and_eq_true, runB_iff, runB_iff, List.length_append, List.length_singleton, List.length_cons]
 constructor
 · rintro ⟨h1, h2⟩
   refine ⟨?_, by omega, fun i hi => ?_⟩
   · have := h2 part.length (by omega)
     rwa [fitAt_snoc_end] at this
   · have := h2 i (by omega)
     rwa [fitAt_snoc_lt hi] at this
 · rintro ⟨h0, h1, h2⟩
   refine ⟨by omega, fun i hi => ?_⟩
   by_cases e : i < part.length
   · rw [fitAt_snoc_lt e]; exact h2 _ e
   · obtain rfl : i = part.length := by omega
     rw [fitAt_snoc_end]; exact h0
theorem runB_nil {fit : α -> β -> Bool} {w : List α} : runB fit w [] = true := by simp [runB]
theorem runB_none {fit : α -> β -> Bool} {part : List (β × Bool)} {s : β × Bool} : runB fit [] (part ++ [s]) = false := by
 simp [runB]
theorem eD_part {fit : α -> β -> Bool} : ∀ (n : Nat) (ps : List (β × Bool)) (p : β × Bool) (rr : List (β × Bool)) (w : List α), ps.length = n -> (∀ s ∈ ps, s.2 = true) -> (rr = [] \/ p.2 = false) ->
 eD fit ((p :: ps).reverse ++ rr) w = (runB fit w (p :: ps) && (rr.isEmpty || aD fit rr (w.drop (ps.length + 1)))) := by
 intro n
 induction n with
 | zero =>
   intro ps p rr w hn hc hp
   obtain rfl : ps = [] := List.eq_nil_of_length_eq_zero hn
   cases w with
   | nil =>
     rw [show ([p] : List (β × Bool)) = [] ++ [p] from rfl, runB_none, eD_nil]; rfl
   | cons m up =>
     rw [show ([p] : List (β × Bool)) = [] ++ [p] from rfl, runB_snoc, runB_nil]
     simp only [List.nil_append, List.reverse_cons, List.reverse_nil, List.cons_append, eD, Bool.and_true, List.length_nil, List.drop_succ_cons, List.drop_zero]
     rcases hp with rfl | hp
     · simp
     · rw [hp]; rfl
 | succ n ih =>
   intro ps p rr w hn hc hp
   obtain ⟨qs, q, rfl⟩ : ∃ qs q, ps = qs ++ [q] := by
    have hne : ps ≠ [] := by rintro rfl; cases hn
    exact ⟨ps.dropLast, ps.getLast hne, (List.dropLast_concat_getLast hne).symm⟩
   have hq : q.2 = true := hc q (by simp)
   have hl : qs.length = n := by simpa using hn
   rw [show (p :: (qs ++ [q])).reverse ++ rr = q :: ((p :: qs).reverse ++ rr) by simp]
   cases w with
   | nil => rw [eD_nil, show p :: (qs ++ [q]) = (p :: qs) ++ [q] from rfl, runB_none]; rfl
   | cons m up =>
     have e := ih qs p rr up hl (fun s hs => hc s (by simp [hs])) hp
     have hne : ((p :: qs).reverse ++ rr).isEmpty = false := by simp
     rw [show p :: (qs ++ [q]) = (p :: qs) ++ [q] from rfl, runB_snoc]
     simp only [eD, hne, Bool.false_or, hq, if_true, e, List.length_append, List.length_singleton, List.drop_succ_cons]
     rw [Bool.and_assoc]
def bg (row : List (β × Bool)) : Nat -> Nat
 | 0 => 0
 | k + 1 => if ((row[k + 1]?).map Prod.snd).getD false = true then bg row k else k + 1
theorem bg_le (row : List (β × Bool)) : ∀ k, bg row k <= k
 | 0 => Nat.le_refl _
 | k + 1 => by
   unfold bg
   split
   · exact Nat.le_succ_of_le (bg_le row k)
   · exact Nat.le_refl _
theorem bg_child (row : List (β × Bool)) : ∀ k i, bg row k < i -> i <= k -> ((row[i]?).map Prod.snd).getD false = true
 | 0, i, h, h2 => by unfold bg at h; omega
 | k + 1, i, h, h2 => by
   unfold bg at h
   split at h
   · rename_i hc
     by_cases e : i = k + 1
     · rw [e]; exact hc
     · exact bg_child row k i h (by omega)
   · omega
theorem bg_first (row : List (β × Bool)) : ∀ k, bg row k = 0 \/ ((row[bg row k]?).map Prod.snd).getD false = false
 | 0 => .inl rfl
 | k + 1 => by
   unfold bg
   split
   · exact bg_first row k
   · rename_i h
     exact .inr (by simpa using h)
def cutAt (row : List (β × Bool)) : Nat := bg row (row.length - 1)
theorem cut_lt {row : List (β × Bool)} (h : row ≠ []) : cutAt row < row.length := by
 have := bg_le row (row.length - 1)
 have : 0 < row.length := List.length_pos_iff.2 h
 unfold cutAt
 omega
theorem eD_cut {fit : α -> β -> Bool} {row : List (β × Bool)} (h : row ≠ []) (w : List α) :
 eD fit row.reverse w = (runB fit w (row.drop (cutAt row)) && ((row.take (cutAt row)).isEmpty || aD fit (row.take (cutAt row)).reverse (w.drop (row.drop (cutAt row)).length))) := by
 have hlt := cut_lt h
 obtain ⟨p, ps, hp⟩ : ∃ p ps, row.drop (cutAt row) = p :: ps := ⟨_, _, List.drop_eq_getElem_cons hlt⟩
 have hp0 : p = row[cutAt row] := by rw [List.drop_eq_getElem_cons hlt] at hp; exact (List.cons.inj hp).1.symm
 have hps : ps = row.drop (cutAt row + 1) := by rw [List.drop_eq_getElem_cons hlt] at hp; exact (List.cons.inj hp).2.symm
 have hc : ∀ s ∈ ps, s.2 = true := by
  rw [hps]
  intro s hs
  obtain ⟨i, hi, rfl⟩ := List.mem_iff_getElem.1 hs
  rw [List.length_drop] at hi
  have := bg_child row (row.length - 1) (cutAt row + 1 + i) (by unfold cutAt; omega) (by omega)
  rw [List.getElem?_eq_getElem (by omega)] at this
  simpa using this
 have hr : (row.take (cutAt row)).reverse = [] \/ p.2 = false := by
  rcases bg_first row (row.length - 1) with e | e
  · left
    have : cutAt row = 0 := e
    rw [this]; rfl
  · right
    have e2 : ((row[cutAt row]?).map Prod.snd).getD false = false := e
    rw [List.getElem?_eq_getElem hlt] at e2
    rw [hp0]
    simpa using e2
 have e := eD_part (fit := fit) ps.length ps p (row.take (cutAt row)).reverse w rfl hc hr
 rw [<- hp] at e
 have e2 : (row.drop (cutAt row)).reverse ++ (row.take (cutAt row)).reverse = row.reverse := by rw [<- List.reverse_append, List.take_append_drop]
 rw [e2] at e
 rw [e, hp, List.isEmpty_reverse, List.length_cons]
theorem aD_hit {fit : α -> β -> Bool} {row : List (β × Bool)} (h : row ≠ []) {w : List α} (hr : runB fit w (row.drop (cutAt row)) = true) :
 aD fit row.reverse w = ((row.take (cutAt row)).isEmpty || aD fit (row.take (cutAt row)).reverse (w.drop (row.drop (cutAt row)).length)) := by
 rw [Bool.eq_iff_iff]
 constructor
 · intro ha
   obtain ⟨k, hk⟩ := aD_some ha
   rw [eD_cut h, Bool.and_eq_true, Bool.or_eq_true] at hk
   rw [Bool.or_eq_true]
   rcases hk.2 with h1 | h1
   · exact .inl h1
   · rw [List.drop_drop] at h1
     exact .inr (aD_mono (Nat.le_add_left _ _) h1)
 · intro ha
   refine eD_aD ?_
   rw [eD_cut h, hr, Bool.true_and]
   exact ha
theorem aD_miss {fit : α -> β -> Bool} {row : List (β × Bool)} (h : row ≠ []) {m : α} {w : List α} (hr : runB fit (m :: w) (row.drop (cutAt row)) = false) : aD fit row.reverse (m :: w) = aD fit row.reverse w := by
 rw [aD_cons, eD_cut h, hr]
 rfl
end Fi
end Go.Proofs.YtcndplnnighjkaaGreatDoor
namespace Go.Proofs.YtcndplnnighjkaaGreatDoor.Sx
open Go.ChangeShapes Go.WideShapes Go.ChangeAt Go.RowKit
set_option linter.unusedVariables false
set_option linter.unusedSimpArgs false
def cl (l : List Ms) : List (List Tr × Bool) := l.map (·.2)
def cx (x : List Mr) : List (List (List Tr × Bool)) := x.map (fun m => cl m.2)
theorem ls_inj {a b : ByteArray} (h : ls a = ls b) : a = b := ByteArray.ext (Array.toList_inj.1 h)
theorem te_inj {a b : Tr} (h : te a = te b) : a = b := by
 obtain ⟨k, n, v⟩ := a
 obtain ⟨k', n', v'⟩ := b
 simp only [te, Sl.Te.mk.injEq] at h
 rw [h.1, ls_inj h.2.1, ls_inj h.2.2]
theorem map_inj {α β : Type} {f : α -> β} (hf : ∀ {a b}, f a = f b -> a = b) : ∀ {l l' : List α}, l.map f = l'.map f -> l = l'
 | [], [], _ => rfl
 | [], b :: l', h => by simp at h
 | a :: l, [], h => by simp at h
 | a :: l, b :: l', h => by
   simp only [List.map_cons, List.cons.injEq] at h
   rw [hf h.1, map_inj hf h.2]
def st2 (p : List Tr × Bool) : Sl.Stp := ⟨p.1.map te, p.2⟩
theorem st2_inj {a b : List Tr × Bool} (h : st2 a = st2 b) : a = b := by
 obtain ⟨a1, a2⟩ := a
 obtain ⟨b1, b2⟩ := b
 simp only [st2, Sl.Stp.mk.injEq] at h
 rw [map_inj te_inj h.1, h.2]
theorem rws_cx (x : List Mr) : rws x = (cx x).map (fun l => l.map st2) := by simp [rws, cx, cl, stp, st2]
theorem cx_iff {x y : List Mr} : cx x = cx y ↔ rws x = rws y := by
 rw [rws_cx, rws_cx]
 exact ⟨fun h => by rw [h], fun h => map_inj (fun h => map_inj st2_inj h) h⟩
end Go.Proofs.YtcndplnnighjkaaGreatDoor.Sx
namespace Go.Proofs.YtcndplnnighjkaaGreatDoor.Fi
open Go.ChangeShapes Go.WideShapes Go.ChangeAt Go.RowKit
open Sx (Tr Ms Mr TR MR XR tV r1)
set_option linter.unusedVariables false
set_option linter.unusedSimpArgs false
def clS : ByteArray := ⟨#[99, 108, 97, 115, 115]⟩
def clB (t : ByteArray) (a : At2) : Bool := (a.1.toList == clS.toList) && decide (t.data.toList ∈ ws a.2)
def nmB (t : ByteArray) (a : At2) : Bool := a.1.toList == t.toList
def soB (m : Mn) (t : Tr) : Bool :=
 if t.1 = 1 then (Wx.fd m.name).toList == (Wx.fd t.2.1).toList
 else if t.1 = 2 then m.attrs.any (fun a => decide (a = (idS, t.2.1)))
 else if t.1 = 3 then m.attrs.any (clB t.2.1)
 else if t.1 = 4 then m.attrs.any (nmB t.2.1)
 else if t.1 = 5 then m.attrs.any (fun a => decide (a = (t.2.1, t.2.2)))
 else false
def fitsB (m : Mn) (T : List Tr) : Bool := (m.kind == 1) && T.all (soB m)
structure NB (m : Mn) : Prop where
 name : m.name.size <= 100000
 attrs : m.attrs.length <= 1000
 vals : ∀ a ∈ m.attrs, a.2.size <= 100000
theorem under_at : Tryz.prog.underlying 112 = some (.struct (Tryz.prog.fieldsOf 112)) := by kernel_rfl
theorem fields_at : (Tryz.prog.fieldsOf 112).toList.map (fun f => (f.type, f.offset, decide (f.name ≠ "_"))) = [(9, 0, true), (9, 1, true)] := by kernel_rfl
theorem below_drewF {B : Nat} {w w' : World} (h : Below B w w') (n : Nat) : Below B w (w'.drewN n) := h.trans ⟨rfl, rfl, rfl, Nat.le_refl _, fun _ _ => rfl⟩
theorem toList_injA {a b : ByteArray} : a.toList = b.toList ↔ a = b := by
 rw [Lib.toList_data, Lib.toList_data]
 exact ⟨fun h => ByteArray.ext (Array.toList_inj.1 h), fun h => by rw [h]⟩
set_option maxHeartbeats 1000000 in
theorem eq_at (a4 a5 b4 b5 : ByteArray) (W : World) : (Op.equalIn 10000 112 (.agg #[.string a4, .string a5]) (.agg #[.string b4, .string b5])).run Tryz.prog W = .ok (decide ((a4, a5) = (b4, b5))) W := by
 have hd : decide ((a4, a5) = (b4, b5)) = ((a4.toList == b4.toList) && (a5.toList == b5.toList)) := by
  rw [Bool.eq_iff_iff]
  simp only [decide_eq_true_eq, Bool.and_eq_true, beq_iff_eq, toList_injA, Prod.mk.injEq]
 rw [hd, show (10000 : Nat) = 9999 + 1 from rfl, run_equalIn_struct W 9999 _ _ _ under_at (by kernel_rfl)]
 have hf := fields_at
 generalize (Tryz.prog.fieldsOf 112).toList = fs at *
 have hl := congrArg List.length hf
 simp only [List.length_map, List.length_cons, List.length_nil] at hl
 match fs, hl, hf with
 | [f4, f5], _, hf =>
   simp only [List.map_cons, List.map_nil, List.cons.injEq, Prod.mk.injEq, decide_eq_true_eq, and_true] at hf
   obtain ⟨⟨t4, o4, n4⟩, t5, o5, n5⟩ := hf
   have hG : Tryz.prog.plainKey 9 = true := by kernel_rfl
   simp only [Op.eqFields, n4, n5, t4, t5, o4, o5, ne_eq, not_true, not_false_eq_true, if_true, Sem.run_bind]
   rw [run_part_plain W hG (v := .string a4) rfl]
   simp only [Result.andThen_ok]
   rw [run_part_plain W hG (v := .string b4) rfl]
   simp only [Result.andThen_ok]
   rw [run_equalIn_string W 9998 _ a4 b4 (by kernel_rfl)]
   simp only [Result.andThen_ok]
   cases h4 : (a4.toList == b4.toList)
   · rfl
   simp only [Bool.not_true, Bool.false_eq_true, if_false, Sem.run_bind, Bool.true_and]
   rw [run_part_plain W hG (v := .string a5) rfl]
   simp only [Result.andThen_ok]
   rw [run_part_plain W hG (v := .string b5) rfl]
   simp only [Result.andThen_ok]
   rw [run_equalIn_string W 9998 _ a5 b5 (by kernel_rfl)]
   simp only [Result.andThen_ok, Bool.true_and]
   cases h5 : (a5.toList == b5.toList)
   · rfl
   · rfl
end Go.Proofs.YtcndplnnighjkaaGreatDoor.Fi
