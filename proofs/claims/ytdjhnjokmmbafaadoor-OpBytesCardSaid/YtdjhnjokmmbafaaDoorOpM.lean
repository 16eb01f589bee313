/-
  Operations as plain data: whether they may be, their bytes, and what bytes are of them.
-/
import Derived.Test.YtdjhnjokmmbafaaDoorPackF
import Derived.Test.YtdjhnjokmmbafaaDoorPackQ
namespace Go.Proofs.YtdjhnjokmmbafaaDoor
open Go.RowKit
set_option linter.unusedVariables false
set_option linter.unusedSimpArgs false

/-- An operation. -/
structure Po where
  kind : Int
  id : Int
  dst : Int
  pos : Int
  name : ByteArray
  text : ByteArray
def I64 (x : Int) : Prop := -9223372036854775808 ≤ x ∧ x ≤ 9223372036854775807
structure Fit (o : Po) : Prop where
  k : I64 o.kind
  i : I64 o.id
  t : I64 o.dst
  a : I64 o.pos
def isK (k : Int) : Bool := decide (1 ≤ k ∧ k ≤ 8)
def hasI (k : Int) : Bool := decide (4 ≤ k ∧ k ≤ 8)
def hasT (k : Int) : Bool := decide (k = 4)
def hasN (k : Int) : Bool := decide (k = 1 ∨ k = 6 ∨ k = 7)
def hasX (k : Int) : Bool := decide (k = 2 ∨ k = 3 ∨ k = 6 ∨ k = 8)
/-- Whether an operation may be. -/
def mayO (o : Po) : Bool := isK o.kind && ((hasI o.kind || decide (o.id = 0)) && ((hasT o.kind || decide (o.dst = 0)) && ((hasT o.kind || decide (o.pos = 0)) && ((hasN o.kind || decide (o.name.size = 0)) && ((hasX o.kind || decide (o.text.size = 0)) && (decide (o.name.size ≤ 255) && decide (o.text.size ≤ 255)))))))
/-- How many bytes a number needs. -/
def kOf (u : Int) : Nat := ((List.range 9).find? fun k => decide (u < p8 k)).getD 8
theorem kOf_need {u : Int} (h0 : 0 ≤ u) (h1 : u ≤ 18446744073709551615) : Need u (kOf u) := by
  obtain ⟨K, hK, hN⟩ := need_ex u h0 h1
  have : kOf u = K := by
    unfold kOf
    have : (List.range 9).find? (fun k => decide (u < p8 k)) = some K := by
      rw [List.find?_range_eq_some]
      refine ⟨by simpa using hN.2.1, List.mem_range.2 (by omega), fun j hj => ?_⟩
      have h2 := hN.2.2.resolve_left (by omega)
      have h3 := p8_mono (k := j) (m := K - 1) (by omega)
      simp
      omega
    rw [this]; rfl
  rw [this]; exact hN
/-- A number's bytes. -/
def nb (n : Int) : List UInt8 := (told (zig n) (kOf (zig n))).data.toList
/-- A text's bytes. -/
def tx (s : ByteArray) : List UInt8 := UInt8.ofNat s.size :: s.data.toList
def opt (b : Bool) (l : List UInt8) : List UInt8 := if b then l else []
/-- An operation's bytes. -/
def enc (o : Po) : List UInt8 := UInt8.ofNat o.kind.toNat :: (opt (hasI o.kind) (nb o.id) ++ (opt (hasT o.kind) (nb o.dst) ++ (opt (hasT o.kind) (nb o.pos) ++ (opt (hasN o.kind) (tx o.name) ++ opt (hasX o.kind) (tx o.text)))))
/-- What stands behind a byte of how many bytes it is, that byte with it, and what stands behind it. -/
def piece : List UInt8 → Option (List UInt8 × List UInt8)
  | [] => none
  | b :: r => if b.toNat ≤ r.length then some (b :: r.take b.toNat, r.drop b.toNat) else none
theorem piece_app {b : UInt8} {p : List UInt8} (h : p.length = b.toNat) (r : List UInt8) : piece (b :: p ++ r) = some (b :: p, r) := by
  rw [List.cons_append, piece, if_pos (by rw [List.length_append]; omega), ← h, List.take_left' rfl, List.drop_left' rfl]
theorem piece_some {s p r : List UInt8} (h : piece s = some (p, r)) : ∃ b q, p = b :: q ∧ q.length = b.toNat ∧ s = p ++ r := by
  cases s with
  | nil => cases h
  | cons b t =>
    rw [piece] at h
    split at h
    · rename_i hl
      simp only [Option.some.injEq, Prod.mk.injEq] at h
      obtain ⟨rfl, rfl⟩ := h
      exact ⟨b, _, rfl, by rw [List.length_take]; omega, by rw [List.cons_append, List.take_append_drop]⟩
    · cases h
def ba (l : List UInt8) : ByteArray := ⟨l.toArray⟩
theorem ba_list (l : List UInt8) : (ba l).data.toList = l := rfl
theorem ba_data (s : ByteArray) : ba s.data.toList = s := rfl
theorem ba_size (l : List UInt8) : (ba l).size = l.length := rfl
/-- Whether bytes are a number's. -/
def goodB (p : List UInt8) : Bool := ((told (uOf (ba p)) (kOf (uOf (ba p)))).data.toList == p)
/-- A number that is read, and what stands behind it. -/
def rdN (s : List UInt8) : Option (Int × List UInt8) := (piece s).bind fun x => if goodB x.1 then some (zag (uOf (ba x.1)), x.2) else none
/-- A text that is read, and what stands behind it. -/
def rdT (s : List UInt8) : Option (ByteArray × List UInt8) := (piece s).map fun x => (ba (x.1.drop 1), x.2)
def optN (b : Bool) (s : List UInt8) : Option (Int × List UInt8) := if b then rdN s else some (0, s)
def optT (b : Bool) (s : List UInt8) : Option (ByteArray × List UInt8) := if b then rdT s else some (ba [], s)
/-- The operation that bytes begin with, and what stands behind it. -/
def dec1 : List UInt8 → Option (Po × List UInt8)
  | [] => none
  | b :: r =>
    if isK b.toNat then
      (optN (hasI b.toNat) r).bind fun i => (optN (hasT b.toNat) i.2).bind fun t => (optN (hasT b.toNat) t.2).bind fun a => (optT (hasN b.toNat) a.2).bind fun n => (optT (hasX b.toNat) n.2).bind fun x =>
        some (⟨b.toNat, i.1, t.1, a.1, n.1, x.1⟩, x.2)
    else none
theorem byt_cons {k : Nat} (hk : k ≤ 255) (u : Int) (K : Nat) : Byt ((k : Int) :: low u K) := by
  intro d hd
  rcases List.mem_cons.1 hd with rfl | hd
  · omega
  · exact low_byt u K d hd
theorem told_uOf {u : Int} {K : Nat} (h : Need u K) (hK : K ≤ 8) : uOf (told u K) = u := by
  have hn : nums (told u K) = (K : Int) :: low u K := nums_strOfNums _ (byt_cons (by omega) u K)
  have hs : (told u K).size = K + 1 := by rw [← nums_length, hn, List.length_cons, low_length]
  rw [uOf, if_pos (by omega), hn, List.drop_succ_cons, List.drop_zero, numOf_need h]
theorem told_list {u : Int} {K : Nat} (hK : K ≤ 8) : ∃ q, (told u K).data.toList = UInt8.ofNat K :: q ∧ q.length = K := by
  have hn : nums (told u K) = (K : Int) :: low u K := nums_strOfNums _ (byt_cons (by omega) u K)
  unfold nums at hn
  cases h : (told u K).data.toList with
  | nil => rw [h] at hn; cases hn
  | cons b q =>
    rw [h, List.map_cons, List.cons.injEq] at hn
    refine ⟨q, ?_, by have := congrArg List.length hn.2; rw [List.length_map, low_length] at this; exact this⟩
    congr 1
    have h1 : b.toNat = K := by have := hn.1; omega
    rw [← h1, UInt8.ofNat_toNat]
theorem kOf_le {u : Int} (h0 : 0 ≤ u) (h1 : u ≤ 18446744073709551615) : kOf u ≤ 8 := need_le (kOf_need h0 h1) h1
theorem rdN_nb {n : Int} (h : I64 n) (r : List UInt8) : rdN (nb n ++ r) = some (n, r) := by
  obtain ⟨h0, h1⟩ := zig_bounds n h.1 h.2
  have hK := kOf_le h0 h1
  have hN := kOf_need h0 h1
  obtain ⟨q, hq, hql⟩ := told_list (u := zig n) hK
  have hp : piece (nb n ++ r) = some (nb n, r) := by
    unfold nb
    rw [hq]
    refine piece_app ?_ r
    rw [hql, UInt8.toNat_ofNat_of_lt' (by show _ < 256; omega)]
  have hb : ba (nb n) = told (zig n) (kOf (zig n)) := rfl
  rw [rdN, hp, Option.bind_some]
  have hg : goodB (nb n) = true := by
    rw [goodB, hb, told_uOf hN hK]
    exact beq_self_eq_true _
  rw [if_pos hg, hb, told_uOf hN hK, zag_zig]
theorem nb_of_rdN {s : List UInt8} {n : Int} {r : List UInt8} (h : rdN s = some (n, r)) : s = nb n ++ r ∧ I64 n := by
  rw [rdN] at h
  cases hp : piece s with
  | none => rw [hp] at h; cases h
  | some x =>
    obtain ⟨p, t⟩ := x
    rw [hp, Option.bind_some] at h
    split at h
    · rename_i hg
      simp only [Option.some.injEq, Prod.mk.injEq] at h
      obtain ⟨rfl, rfl⟩ := h
      obtain ⟨b, q, hpq, hql, hs⟩ := piece_some hp
      obtain ⟨h0, h1⟩ := uOf_bounds (ba p)
      refine ⟨?_, zag_bounds _ h0 h1⟩
      rw [hs, nb, zig_zag _ h0]
      rw [goodB, beq_iff_eq] at hg
      rw [hg]
    · cases h
theorem rdT_tx {s : ByteArray} (h : s.size ≤ 255) (r : List UInt8) : rdT (tx s ++ r) = some (s, r) := by
  have hl : s.data.toList.length = s.size := by simp
  rw [rdT, tx, piece_app (by rw [hl, UInt8.toNat_ofNat_of_lt' (by show _ < 256; omega)])]
  rfl
theorem tx_of_rdT {s : List UInt8} {t : ByteArray} {r : List UInt8} (h : rdT s = some (t, r)) : s = tx t ++ r ∧ t.size ≤ 255 := by
  rw [rdT] at h
  cases hp : piece s with
  | none => rw [hp] at h; cases h
  | some x =>
    obtain ⟨p, u⟩ := x
    rw [hp, Option.map_some] at h
    simp only [Option.some.injEq, Prod.mk.injEq] at h
    obtain ⟨rfl, rfl⟩ := h
    obtain ⟨b, q, rfl, hql, hs⟩ := piece_some hp
    have hb := b.toNat_lt
    refine ⟨?_, by rw [ba_size, List.drop_succ_cons, List.drop_zero]; omega⟩
    rw [hs, tx, ba_size, ba_list, List.drop_succ_cons, List.drop_zero, hql, UInt8.ofNat_toNat]
theorem optN_app {b : Bool} {n : Int} (h : I64 n) (h0 : (b || decide (n = 0)) = true) (r : List UInt8) : optN b (opt b (nb n) ++ r) = some (n, r) := by
  cases b with
  | true => exact rdN_nb h r
  | false =>
    have : n = 0 := by simpa using h0
    subst this
    rfl
theorem empty_of {s : ByteArray} (h : s.size = 0) : s = ba [] := ByteArray.ext (Array.eq_empty_of_size_eq_zero h)
theorem optT_app {b : Bool} {s : ByteArray} (h : s.size ≤ 255) (h0 : (b || decide (s.size = 0)) = true) (r : List UInt8) : optT b (opt b (tx s) ++ r) = some (s, r) := by
  cases b with
  | true => exact rdT_tx h r
  | false =>
    have : s.size = 0 := by simpa using h0
    rw [empty_of this]
    rfl
theorem of_optN {b : Bool} {s r : List UInt8} {n : Int} (h : optN b s = some (n, r)) : s = opt b (nb n) ++ r ∧ I64 n ∧ (b || decide (n = 0)) = true := by
  cases b with
  | true => exact ⟨(nb_of_rdN h).1, (nb_of_rdN h).2, rfl⟩
  | false =>
    simp only [optN, Bool.false_eq_true, if_false, Option.some.injEq, Prod.mk.injEq] at h
    obtain ⟨rfl, rfl⟩ := h
    exact ⟨rfl, by constructor <;> decide, by decide⟩
theorem of_optT {b : Bool} {s r : List UInt8} {t : ByteArray} (h : optT b s = some (t, r)) : s = opt b (tx t) ++ r ∧ t.size ≤ 255 ∧ (b || decide (t.size = 0)) = true := by
  cases b with
  | true => exact ⟨(tx_of_rdT h).1, (tx_of_rdT h).2, rfl⟩
  | false =>
    simp only [optT, Bool.false_eq_true, if_false, Option.some.injEq, Prod.mk.injEq] at h
    obtain ⟨rfl, rfl⟩ := h
    exact ⟨rfl, by decide, by decide⟩
theorem mayO_parts {o : Po} (h : mayO o = true) : isK o.kind = true ∧ (hasI o.kind || decide (o.id = 0)) = true ∧ (hasT o.kind || decide (o.dst = 0)) = true ∧ (hasT o.kind || decide (o.pos = 0)) = true ∧ (hasN o.kind || decide (o.name.size = 0)) = true ∧ (hasX o.kind || decide (o.text.size = 0)) = true ∧ o.name.size ≤ 255 ∧ o.text.size ≤ 255 := by
  rw [mayO, Bool.and_eq_true, Bool.and_eq_true, Bool.and_eq_true, Bool.and_eq_true, Bool.and_eq_true, Bool.and_eq_true, Bool.and_eq_true, decide_eq_true_eq, decide_eq_true_eq] at h
  exact ⟨h.1, h.2.1, h.2.2.1, h.2.2.2.1, h.2.2.2.2.1, h.2.2.2.2.2.1, h.2.2.2.2.2.2.1, h.2.2.2.2.2.2.2⟩
theorem isK_iff {k : Int} : isK k = true ↔ 1 ≤ k ∧ k ≤ 8 := by rw [isK, decide_eq_true_eq]
theorem kind_nat {k : Int} (h : isK k = true) : ((UInt8.ofNat k.toNat).toNat : Int) = k := by
  have := isK_iff.1 h
  rw [UInt8.toNat_ofNat_of_lt' (by show _ < 256; omega)]
  omega
/-- What is encoded is decoded to the same. -/
theorem dec_enc {o : Po} (h : mayO o = true) (hf : Fit o) (r : List UInt8) : dec1 (enc o ++ r) = some (o, r) := by
  obtain ⟨h1, h2, h3, h4, h5, h6, h7, h8⟩ := mayO_parts h
  have hk := kind_nat h1
  rw [enc, List.cons_append, dec1, hk, if_pos h1]
  rw [List.append_assoc, optN_app hf.i h2, Option.bind_some]
  simp only [List.append_assoc]
  rw [optN_app hf.t h3, Option.bind_some]
  simp only []
  rw [optN_app hf.a h4, Option.bind_some]
  simp only []
  rw [optT_app h7 h5, Option.bind_some]
  simp only []
  rw [optT_app h8 h6, Option.bind_some]
/-- What is decoded is encoded to the same. -/
theorem enc_dec {s r : List UInt8} {o : Po} (h : dec1 s = some (o, r)) : s = enc o ++ r ∧ mayO o = true ∧ Fit o := by
  cases s with
  | nil => cases h
  | cons b s =>
    rw [dec1] at h
    split at h
    · rename_i hk
      obtain ⟨⟨i, s1⟩, e1, h⟩ := Option.bind_eq_some_iff.1 h
      obtain ⟨⟨t, s2⟩, e2, h⟩ := Option.bind_eq_some_iff.1 h
      obtain ⟨⟨a, s3⟩, e3, h⟩ := Option.bind_eq_some_iff.1 h
      obtain ⟨⟨n, s4⟩, e4, h⟩ := Option.bind_eq_some_iff.1 h
      obtain ⟨⟨x, s5⟩, e5, h⟩ := Option.bind_eq_some_iff.1 h
      simp only [Option.some.injEq, Prod.mk.injEq] at h
      obtain ⟨rfl, rfl⟩ := h
      obtain ⟨a1, a2, a3⟩ := of_optN e1
      obtain ⟨b1, b2, b3⟩ := of_optN e2
      obtain ⟨c1, c2, c3⟩ := of_optN e3
      obtain ⟨d1, d2, d3⟩ := of_optT e4
      obtain ⟨f1, f2, f3⟩ := of_optT e5
      have hb := b.toNat_lt
      refine ⟨?_, ?_, ⟨⟨by show _ ≤ (b.toNat : Int); omega, by show (b.toNat : Int) ≤ _; omega⟩, a2, b2, c2⟩⟩
      · simp only [] at a1 b1 c1 d1 f1
        rw [enc, Int.toNat_natCast, UInt8.ofNat_toNat, List.cons_append, List.append_assoc, List.append_assoc, List.append_assoc, List.append_assoc, ← f1, ← d1, ← c1, ← b1, ← a1]
      · simp only [mayO, hk, a3, b3, c3, d3, f3, decide_eq_true d2, decide_eq_true f2, Bool.and_self]
    · cases h
def encL (l : List Po) : List UInt8 := l.flatMap enc
theorem enc_pos (o : Po) : 0 < (enc o).length := by rw [enc, List.length_cons]; omega
/-- Bytes are decoded by so many operations at the most. -/
def decL : Nat → List UInt8 → Option (List Po)
  | _, [] => some []
  | 0, _ :: _ => none
  | n + 1, b :: s => (dec1 (b :: s)).bind fun x => (decL n x.2).map fun l => x.1 :: l
theorem decL_enc : ∀ (n : Nat) (l : List Po), l.length ≤ n → (∀ o ∈ l, mayO o = true ∧ Fit o) → decL n (encL l) = some l := by
  intro n
  induction n with
  | zero => intro l hl _; obtain rfl := List.length_eq_zero_iff.1 (Nat.le_zero.1 hl); rfl
  | succ n ih =>
    intro l hl h
    cases l with
    | nil => rfl
    | cons o l =>
      have e : encL (o :: l) = enc o ++ encL l := List.flatMap_cons
      have h1 := dec_enc (h o (by simp)).1 (h o (by simp)).2 (encL l)
      have h2 := ih l (by simpa using hl) (fun x hx => h x (by simp [hx]))
      rw [← e] at h1
      cases h3 : encL (o :: l) with
      | nil => rw [e] at h3; have h4 := enc_pos o; have h5 := congrArg List.length h3; rw [List.length_append, List.length_nil] at h5; omega
      | cons b s =>
        rw [h3] at h1
        rw [decL, h1, Option.bind_some, h2]
        rfl
theorem enc_decL : ∀ (n : Nat) (s : List UInt8) (l : List Po), decL n s = some l → s = encL l ∧ l.length ≤ n ∧ ∀ o ∈ l, mayO o = true ∧ Fit o := by
  intro n
  induction n with
  | zero =>
    intro s l h
    cases s with
    | nil => simp only [decL, Option.some.injEq] at h; subst h; exact ⟨rfl, Nat.le_refl _, by simp⟩
    | cons b s => cases h
  | succ n ih =>
    intro s l h
    cases s with
    | nil => simp only [decL, Option.some.injEq] at h; subst h; exact ⟨rfl, by simp, by simp⟩
    | cons b s =>
      rw [decL] at h
      obtain ⟨⟨o, r⟩, e1, h⟩ := Option.bind_eq_some_iff.1 h
      obtain ⟨l', e2, rfl⟩ := Option.map_eq_some_iff.1 h
      obtain ⟨a1, a2, a3⟩ := enc_dec e1
      obtain ⟨b1, b2, b3⟩ := ih r l' e2
      refine ⟨by rw [a1, b1]; rfl, by simpa using b2, fun x hx => ?_⟩
      rcases List.mem_cons.1 hx with rfl | hx
      · exact ⟨a2, a3⟩
      · exact b3 x hx
/-- What Encode answers: bytes, and an error's number. -/
def encR (l : List Po) : List UInt8 × Int := if 20 < l.length then ([], 2) else if l.all mayO then (encL l, 0) else ([], 1)
end Go.Proofs.YtdjhnjokmmbafaaDoor
