/-
  What stands behind a byte of its length, taken off: Decode's closures.
-/
import Derived.Test.YtdjhnjokmmbafaaDoorOpC
import Derived.Deep.Cut
import Derived.Deep.QuietTactic
import Derived.BigQuiet
import Derived.WalkSmall
namespace Go.Proofs.YtdjhnjokmmbafaaDoor
open Go.ChangeShapes Go.WideShapes Go.ChangeAt Go.RowKit
set_option linter.unusedVariables false
set_option linter.unusedSimpArgs false

/-- The two boxes: what is left, and whether all went well. -/
structure Bx (V : World) (kb ko : Nat) (s : List UInt8) (ok : Bool) : Prop where
  b : V.heap[kb]? = some (.cells #[.string (ba s)] 9 (0, 0))
  o : V.heap[ko]? = some (.cells #[.bool ok] 4 (0, 0))
/-- All but the two boxes stands as it stood. -/
structure But2 (kb ko : Nat) (V V' : World) : Prop where
  os : V'.os = V.os
  tape : V'.tape = V.tape
  output : V'.output = V.output
  size : V.heap.size ≤ V'.heap.size
  blk : ∀ k, k < V.heap.size → k ≠ kb → k ≠ ko → V'.heap[k]? = V.heap[k]?
theorem But2.refl (kb ko : Nat) (V : World) : But2 kb ko V V := ⟨rfl, rfl, rfl, Nat.le_refl _, fun _ _ _ _ => rfl⟩
theorem But2.trans {kb ko : Nat} {a b c : World} (h : But2 kb ko a b) (k : But2 kb ko b c) : But2 kb ko a c :=
  ⟨k.os.trans h.os, k.tape.trans h.tape, k.output.trans h.output, Nat.le_trans h.size k.size, fun i hi h1 h2 => (k.blk i (Nat.lt_of_lt_of_le hi h.size) h1 h2).trans (h.blk i hi h1 h2)⟩
theorem But2.of_below {kb ko : Nat} {a b : World} (h : Below a.heap.size a b) : But2 kb ko a b := ⟨h.os, h.tape, h.output, h.size, fun i hi _ _ => h.block i hi⟩
theorem But2.below {kb ko n : Nat} {a b : World} (h : But2 kb ko a b) (h1 : n ≤ kb) (h2 : n ≤ ko) (hn : n ≤ a.heap.size) : Below n a b :=
  ⟨h.os, h.tape, h.output, h.size, fun i hi => h.blk i (Nat.lt_of_lt_of_le hi hn) (by omega) (by omega)⟩
theorem But2.keepO {kb ko : Nat} {V V' : World} {s : List UInt8} {ok : Bool} (h : But2 kb ko V V') (hB : Bx V kb ko s ok) : KeepO V V' := by
  refine ⟨h.size, fun k cs hk => ?_⟩
  have h1 : k ≠ kb := fun e => by
    subst e
    rcases hk with hk | hk
    · have := hB.b.symm.trans hk; cases this
    · have := hB.b.symm.trans hk; cases this
  have h2 : k ≠ ko := fun e => by
    subst e
    rcases hk with hk | hk
    · have := hB.o.symm.trans hk; cases this
    · have := hB.o.symm.trans hk; cases this
  exact h.blk k (by rcases hk with hk | hk <;> exact lt_of_block hk) h1 h2
theorem box1 {V : World} {k : Nat} {v : Value} {t : TypeId} (h : V.heap[k]? = some (.cells #[v] t (0, 0))) : V.cell? ⟨k, 0, none⟩ = some v ∧ V.frozen? ⟨k, 0, none⟩ = false := by
  constructor
  · simp [World.cell?, h]
  · simp [World.frozen?, h]
theorem set_b {V : World} {kb ko : Nat} {s : List UInt8} {ok : Bool} (h : Bx V kb ko s ok) (hne : kb ≠ ko) (t : List UInt8) : Bx (V.setCell ⟨kb, 0, none⟩ (.string (ba t))) kb ko t ok ∧ But2 kb ko V (V.setCell ⟨kb, 0, none⟩ (.string (ba t))) := by
  refine ⟨⟨?_, ?_⟩, rfl, rfl, rfl, by simp [World.setCell], fun k hk h1 h2 => ?_⟩
  · simp [World.setCell, Array.getElem?_modify, h.b]
  · simp [World.setCell, Array.getElem?_modify, h.o, hne]
  · simp [World.setCell, Array.getElem?_modify, Ne.symm h1]
theorem set_o {V : World} {kb ko : Nat} {s : List UInt8} {ok : Bool} (h : Bx V kb ko s ok) (hne : kb ≠ ko) : Bx (V.setCell ⟨ko, 0, none⟩ (.bool false)) kb ko s false ∧ But2 kb ko V (V.setCell ⟨ko, 0, none⟩ (.bool false)) := by
  refine ⟨⟨?_, ?_⟩, rfl, rfl, rfl, by simp [World.setCell], fun k hk h1 h2 => ?_⟩
  · simp [World.setCell, Array.getElem?_modify, h.b, Ne.symm hne]
  · simp [World.setCell, Array.getElem?_modify, h.o]
  · simp [World.setCell, Array.getElem?_modify, Ne.symm h2]
/-- What next answers, and what it leaves. -/
def nextM (s : List UInt8 × Bool) : List UInt8 × (List UInt8 × Bool) := match piece s.1 with
  | some (p, r) => (p, (r, s.2))
  | none => ([0], (s.1, false))
theorem ba_take (s : List UInt8) (n : Nat) : (ba s).extract 0 n = ba (s.take n) := by
  apply ByteArray.ext
  simp [ba, ByteArray.data_extract]
theorem ba_drop (s : List UInt8) (n : Nat) : (ba s).extract n (ba s).size = ba (s.drop n) := by
  apply ByteArray.ext
  have : (s.drop n).take (s.length - n) = s.drop n := List.take_of_length_le (by rw [List.length_drop]; exact Nat.le_refl _)
  simp [ba, ByteArray.data_extract, ByteArray.size, this]
theorem bt_head (c : UInt8) (r : List UInt8) : PlainAid.bt (ba (c :: r)) 0 = (c.toNat : Int) := by
  rw [← PlainAid.get_bt _ 0 (by rw [ba_size, List.length_cons]; omega)]
  rfl
theorem Bx.drewN {V : World} {kb ko : Nat} {s : List UInt8} {ok : Bool} (h : Bx V kb ko s ok) (n : Nat) : Bx (V.drewN n) kb ko s ok := ⟨by simpa using h.b, by simpa using h.o⟩
theorem But2.drewN (kb ko : Nat) (V : World) (n : Nat) : But2 kb ko V (V.drewN n) := But2.of_below (below_drewN (Below.refl _ _) n)
set_option maxRecDepth 100000 in
set_option maxHeartbeats 2000000 in
theorem next_any (kb ko : Nat) (s : List UInt8) (ok : Bool) (V : World) (h : Bx V kb ko s ok) (hne : kb ≠ ko) (hl : s.length ≤ 100000) :
    Calls Tryd.prog 49 #[.pointer (some ⟨kb, 0, none⟩), .pointer (some ⟨ko, 0, none⟩)] V fun e V' => e = .returned (.string (ba (nextM (s, ok)).1)) ∧ Bx V' kb ko (nextM (s, ok)).2.1 (nextM (s, ok)).2.2 ∧ But2 kb ko V V' := by
  obtain ⟨b0, b1⟩ := box1 h.b
  obtain ⟨o0, o1⟩ := box1 h.o
  have HB := Lib.hid h
  cases s with
  | nil =>
    have HN : Hid (nextM (([] : List UInt8), ok) = ([0], ([], false))) := Lib.hid rfl
    rw [HN.out]
    have HS := Lib.hid (set_o h hne)
    have e1 : ba ([] : List UInt8) = ⟨#[]⟩ := rfl
    rw [e1] at b0
    clear h e1
    go_enter Tryd.func49, Tryd.ntmps49
    go_wp2_with fail
    go_quiet (fail)
    go_wp2
    go_ret
    exact ⟨rfl, (set_o (HB.out.drewN nq) hne).1, (But2.drewN kb ko V nq).trans (set_o (HB.out.drewN nq) hne).2⟩
  | cons c r =>
    obtain ⟨S, hS⟩ : ∃ S, S = ba (c :: r) := ⟨_, rfl⟩
    have hsz : S.size = r.length + 1 := by rw [hS]; rfl
    have hbt : PlainAid.bt S 0 = (c.toNat : Int) := by rw [hS]; exact bt_head c r
    have hE := not_empty S (by omega)
    have hF := not_nil S (by omega)
    have hp : 0 < S.size := by omega
    have hp' : (0 : Int) < (S.size : Int) := by omega
    have hg := PlainAid.get_bt S
    rw [← hS] at b0
    have hszi : (S.size : Int) = (r.length : Int) + 1 := by omega
    have hcb := c.toNat_lt
    have hcb0 : (0 : Int) ≤ (c.toNat : Int) := by omega
    have hcb1 : (c.toNat : Int) ≤ 255 := by omega
    have hsl : r.length ≤ 100000 := by simpa using Nat.le_of_succ_le hl
    have HSz := Lib.hid hszi
    have HSn := Lib.hid hsz
    clear hszi hsz hl
    by_cases hle : c.toNat ≤ r.length
    · have HN : Hid (nextM (c :: r, ok) = (c :: r.take c.toNat, (r.drop c.toNat, ok))) := Lib.hid (by unfold nextM; rw [piece, if_pos hle])
      have hd : decide ((S.size : Int) ≤ (c.toNat : Int)) = false := decide_eq_false (by rw [HSz.out]; omega)
      have hd' : ¬ ((S.size : Int) ≤ (c.toNat : Int)) := by rw [HSz.out]; omega
      have hle' : 1 + (c.toNat : Int) ≤ (S.size : Int) := by rw [HSz.out]; omega
      have HX1 : Hid (S.extract 0 (1 + (c.toNat : Int)).toNat = ba (c :: r.take c.toNat)) := Lib.hid (by rw [hS, show (1 + (c.toNat : Int)).toNat = c.toNat + 1 by omega, ba_take]; rfl)
      have HX2 : Hid (S.extract (1 + (c.toNat : Int)).toNat S.size = ba (r.drop c.toNat)) := Lib.hid (by rw [hS, show (1 + (c.toNat : Int)).toNat = c.toNat + 1 by omega, ba_drop]; rfl)
      have hs1 : ∀ W, Sem.run Tryd.prog (Instr.slice 9 (.string S) none (some (.int .i64 (1 + (c.toNat : Int)))) none) W = .ok (.string (ba (c :: r.take c.toNat))) W := fun W => by
        have := run_slice_string_h (P := Tryd.prog) (w := W) (t := 9) (s := S) Tryd.underlying9 .i64 (1 + (c.toNat : Int)) (by omega) hle'
        rw [HX1.out] at this
        exact this
      have hs2 : ∀ W, Sem.run Tryd.prog (Instr.slice 9 (.string S) (some (.int .i64 (1 + (c.toNat : Int)))) none none) W = .ok (.string (ba (r.drop c.toNat))) W := fun W => by
        have := run_slice_string_l (P := Tryd.prog) (w := W) (t := 9) (s := S) Tryd.underlying9 .i64 (1 + (c.toNat : Int)) (by omega) hle'
        rw [HX2.out] at this
        exact this
      rw [HN.out]
      clear h hS
      go_enter Tryd.func49, Tryd.ntmps49
      go_wp2_with fail
      go_quiet (fail)
      go_wp2
      go_ret
      exact ⟨rfl, (set_b (HB.out.drewN nq) hne _).1, (But2.drewN kb ko V nq).trans (set_b (HB.out.drewN nq) hne _).2⟩
    · have HN : Hid (nextM (c :: r, ok) = ([0], (c :: r, false))) := Lib.hid (by unfold nextM; rw [piece, if_neg hle])
      have hd : decide ((S.size : Int) ≤ (c.toNat : Int)) = true := decide_eq_true (by rw [HSz.out]; omega)
      have hd' : (S.size : Int) ≤ (c.toNat : Int) := by rw [HSz.out]; omega
      rw [HN.out]
      clear h hS
      go_enter Tryd.func49, Tryd.ntmps49
      go_wp2_with fail
      go_quiet (fail)
      go_wp2
      go_ret
      exact ⟨rfl, (set_o (HB.out.drewN nq) hne).1, (But2.drewN kb ko V nq).trans (set_o (HB.out.drewN nq) hne).2⟩
end Go.Proofs.YtdjhnjokmmbafaaDoor
