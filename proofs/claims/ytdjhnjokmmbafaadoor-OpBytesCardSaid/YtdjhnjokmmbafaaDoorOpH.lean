/-
  A number, and a text, taken off: what Decode hands to through; the first operation of bytes.
-/
import Derived.Test.YtdjhnjokmmbafaaDoorOpG

import Derived.Test.YtdjhnjokmmbafaaDoorOpB
import Derived.Laws.EntriesVeiled
namespace Go.Proofs.YtdjhnjokmmbafaaDoor
open Go.ChangeShapes Go.WideShapes Go.ChangeAt Go.RowKit
set_option linter.unusedVariables false
set_option linter.unusedSimpArgs false

theorem goodB_good {p : List UInt8} (h : goodB p = true) : Good (ba p) := by
  obtain ⟨h0, h1⟩ := uOf_bounds (ba p)
  have := (told_good (kOf_need h0 h1) h1).1
  rw [goodB, beq_iff_eq] at h
  have e : told (uOf (ba p)) (kOf (uOf (ba p))) = ba p := by rw [← ba_data (told _ _), h]
  rw [e] at this
  exact this
theorem good_goodB {p : List UInt8} (h : Good (ba p)) : goodB p = true := by
  obtain ⟨h0, h1⟩ := uOf_bounds (ba p)
  have := good_told h (kOf_need h0 h1)
  rw [goodB, this, beq_iff_eq]
  rfl
theorem nextM_len (s : List UInt8 × Bool) : 1 ≤ (nextM s).1.length ∧ (nextM s).1.length ≤ 256 ∧ (nextM s).2.1.length ≤ s.1.length := by
  unfold nextM
  cases h : piece s.1 with
  | none => simp
  | some x =>
    obtain ⟨p, r⟩ := x
    obtain ⟨b, q, rfl, hq, hs⟩ := piece_some h
    have := b.toNat_lt
    have hl := congrArg List.length hs
    rw [List.length_append, List.length_cons] at hl
    simp only [List.length_cons]
    omega
/-- The box with the closure that takes off. -/
def Nx (V : World) (kn kb ko : Nat) : Prop := V.heap[kn]? = some (.cells #[.func (.func 49) #[] #[.pointer (some ⟨kb, 0, none⟩), .pointer (some ⟨ko, 0, none⟩)]] 62 (0, 0))
theorem Nx.but {V V' : World} {kn kb ko : Nat} {s : List UInt8} {ok : Bool} (h : Nx V kn kb ko) (hB : Bx V kb ko s ok) (hb : But2 kb ko V V') : Nx V' kn kb ko := by
  have h1 : kn ≠ kb := fun e => by
    subst e
    have := hB.b.symm.trans h; cases this
  have h2 : kn ≠ ko := fun e => by
    subst e
    have := hB.o.symm.trans h; cases this
  exact (hb.blk kn (lt_of_block h) h1 h2).trans h
/-- What a number is read as, and what it leaves. -/
def numM (s : List UInt8 × Bool) : Int × (List UInt8 × Bool) := if goodB (nextM s).1 then (zag (uOf (ba (nextM s).1)), (nextM s).2) else (0, ((nextM s).2.1, false))
/-- What a text is read as, and what it leaves. -/
def txtM (s : List UInt8 × Bool) : ByteArray × (List UInt8 × Bool) := (ba ((nextM s).1.drop 1), (nextM s).2)
set_option maxRecDepth 100000 in
set_option maxHeartbeats 2000000 in
theorem fi2_any (kn kb ko : Nat) (s : List UInt8 × Bool) (n : Int) (V : World) (hx : Nx V kn kb ko) (h : Bx V kb ko s.1 s.2) (hne : kb ≠ ko) (hl : s.1.length ≤ 100000) :
    Calls Tryd.prog 50 #[.int .i64 n, .pointer (some ⟨kn, 0, none⟩), .pointer (some ⟨ko, 0, none⟩)] V fun e V' => e = .returned (.int .i64 (numM s).1) ∧ Bx V' kb ko (numM s).2.1 (numM s).2.2 ∧ But2 kb ko V V' := by
  have HN := Lib.hid (next_any kb ko s.1 s.2 V h hne hl)
  have x0 := (box1 hx).1
  clear hx
  obtain ⟨n1, n2, n3⟩ := nextM_len s
  have HM : Hid (numM s = if goodB (nextM s).1 then (zag (uOf (ba (nextM s).1)), (nextM s).2) else (0, ((nextM s).2.1, false))) := Lib.hid rfl
  obtain ⟨u0, u1⟩ := uOf_bounds (ba (nextM s).1)
  have hZb := zag_bounds _ u0 u1
  have HGd := Lib.hid (fun (hg : goodB (nextM s).1 = true) (W : World) => back_good (ba (nextM s).1) W (goodB_good hg))
  have HNg := Lib.hid (fun (hg : goodB (nextM s).1 = false) (W : World) => back_no (ba (nextM s).1) W (by rw [ba_size]; omega) (fun hG => by rw [good_goodB hG] at hg; cases hg))
  have HZ := Lib.hid (fun (W : World) => zag_any (uOf (ba (nextM s).1)) W u0 u1)
  have HZ0 := Lib.hid (fun (W : World) => zag_any 0 W (by decide) (by decide))
  rw [show zag 0 = 0 from rfl] at HZ0
  generalize numM s = M at *
  generalize zag (uOf (ba (nextM s).1)) = z at *
  generalize uOf (ba (nextM s).1) = u at *
  generalize hgg : goodB (nextM s).1 = G at *
  have HNx : Hid (nextM (s.1, s.2) = nextM s) := Lib.hid rfl
  rw [HNx.out] at HN
  generalize nextM s = X at *
  obtain ⟨z0, z1⟩ := hZb
  clear h hgg
  cases G with
  | true =>
    have HM' : Hid (M = (z, X.2)) := Lib.hid HM.out
    have HG := Lib.hid (HGd.out rfl)
    clear HGd HNg
    go_enter Tryd.func50, Tryd.ntmps50
    go_wp2_with fail
    refine HN.out.mono ?_
    rintro e V1 ⟨rfl, hB1, hb1⟩
    have H1 := Lib.hid (And.intro hB1 hb1)
    clear hB1 hb1
    go_wp2_with (first
      | (go_at_call 51; refine (HG.out _).mono ?_; rintro e w' ⟨rfl, hw⟩; obtain rfl := hw)
      | (go_at_call 52; refine (HZ.out _).mono ?_; rintro e w' ⟨rfl, hw⟩; obtain rfl := hw))
    go_ret
    rw [HM'.out]
    exact ⟨rfl, H1.out.1, H1.out.2⟩
  | false =>
    have HM' : Hid (M = (0, (X.2.1, false))) := Lib.hid HM.out
    have HG := Lib.hid (HNg.out rfl)
    clear HGd HNg
    go_enter Tryd.func50, Tryd.ntmps50
    go_wp2_with fail
    refine HN.out.mono ?_
    rintro e V1 ⟨rfl, hB1, hb1⟩
    have H1 := Lib.hid (And.intro hB1 hb1)
    obtain ⟨o0, o1⟩ := box1 hB1.o
    clear hB1 hb1
    go_wp2_with (first
      | (go_at_call 51; refine (HG.out _).mono ?_; rintro e w' ⟨rfl, hw⟩; obtain rfl := hw)
      | (go_at_call 52; refine (HZ0.out _).mono ?_; rintro e w' ⟨rfl, hw⟩; obtain rfl := hw))
    go_ret
    rw [HM'.out]
    exact ⟨rfl, (set_o H1.out.1 hne).1, H1.out.2.trans (set_o H1.out.1 hne).2⟩
set_option maxRecDepth 100000 in
set_option maxHeartbeats 2000000 in
theorem fi3_any (kn kb ko : Nat) (s : List UInt8 × Bool) (t : ByteArray) (V : World) (hx : Nx V kn kb ko) (h : Bx V kb ko s.1 s.2) (hne : kb ≠ ko) (hl : s.1.length ≤ 100000) :
    Calls Tryd.prog 53 #[.string t, .pointer (some ⟨kn, 0, none⟩)] V fun e V' => e = .returned (.string (txtM s).1) ∧ Bx V' kb ko (txtM s).2.1 (txtM s).2.2 ∧ But2 kb ko V V' := by
  have HN := Lib.hid (next_any kb ko s.1 s.2 V h hne hl)
  have x0 := (box1 hx).1
  clear hx
  obtain ⟨n1, n2, n3⟩ := nextM_len s
  have HM : Hid (txtM s = (ba ((nextM s).1.drop 1), (nextM s).2)) := Lib.hid rfl
  have HX : Hid ((ba (nextM s).1).extract 1 (ba (nextM s).1).size = ba ((nextM s).1.drop 1)) := Lib.hid (ba_drop _ _)
  have hsz : (1 : Int) ≤ ((ba (nextM s).1).size : Int) := by rw [ba_size]; omega
  have HNx : Hid (nextM (s.1, s.2) = nextM s) := Lib.hid rfl
  rw [HNx.out] at HN
  generalize txtM s = M at *
  generalize nextM s = X at *
  generalize ba X.1 = S at *
  generalize ba (X.1.drop 1) = T at *
  have hs2 : ∀ W, Sem.run Tryd.prog (Instr.slice 9 (.string S) (some (.int .i64 1)) none none) W = .ok (.string T) W := fun W => by
    have := run_slice_string_l (P := Tryd.prog) (w := W) (t := 9) (s := S) Tryd.underlying9 .i64 1 (by omega) hsz
    rw [show (1 : Int).toNat = 1 from rfl, HX.out] at this
    exact this
  clear h
  go_enter Tryd.func53, Tryd.ntmps53
  go_wp2_with fail
  refine HN.out.mono ?_
  rintro e V1 ⟨rfl, hB1, hb1⟩
  have H1 := Lib.hid (And.intro hB1 hb1)
  clear hB1 hb1
  go_wp2
  go_ret
  rw [HM.out]
  exact ⟨rfl, H1.out.1, H1.out.2⟩
end Go.Proofs.YtdjhnjokmmbafaaDoor
