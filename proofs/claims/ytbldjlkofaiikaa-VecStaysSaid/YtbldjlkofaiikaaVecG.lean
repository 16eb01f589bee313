/-
  A chunk laid into a free slot of a pool that a variable bears.
-/
import Derived.Test.YtbldjlkofaiikaaVecE
namespace Go.Proofs.Ytbldjlkofaiikaa
open Go.ChangeShapes Go.WideShapes Go.ChangeAt Go.RowKit
set_option linter.unusedVariables false
set_option linter.unusedSimpArgs false

/-- Of what lay there only the blocks k and g have turned. -/
structure But (k g : Nat) (w w' : World) : Prop where
  os : w'.os = w.os
  tape : w'.tape = w.tape
  output : w'.output = w.output
  size : w.heap.size ≤ w'.heap.size
  block : ∀ j, j < w.heap.size → j ≠ k → j ≠ g → w'.heap[j]? = w.heap[j]?
theorem But.refl (k g : Nat) (w : World) : But k g w w := ⟨rfl, rfl, rfl, Nat.le_refl _, fun _ _ _ _ => rfl⟩
theorem But.trans {k g : Nat} {a b c : World} (h : But k g a b) (h' : But k g b c) : But k g a c :=
  ⟨h'.os.trans h.os, h'.tape.trans h.tape, h'.output.trans h.output, Nat.le_trans h.size h'.size, fun j hj a b => (h'.block j (Nat.lt_of_lt_of_le hj h.size) a b).trans (h.block j hj a b)⟩
theorem But.of_below {k g : Nat} {a b : World} (h : Below a.heap.size a b) : But k g a b := ⟨h.os, h.tape, h.output, h.size, fun j hj _ _ => h.block j hj⟩
theorem But.below {k g B : Nat} {a b : World} (h : But k g a b) (hB : B ≤ a.heap.size) (hk : B ≤ k) (hg : B ≤ g) : Below B a b := ⟨h.os, h.tape, h.output, h.size, fun j hj => h.block j (by omega) (by omega) (by omega)⟩
theorem But.own {k g : Nat} {a b : World} {base : Nat} {e : TypeId} {size n : Nat} {v : Value} {xs : List Value} (h : But k g a b) (ho : a.ownsRow base e size v n xs) (hk : v.ownBlock ≠ some k) (hg : v.ownBlock ≠ some g) : b.ownsRow base e size v n xs := by
  refine ⟨ho.1, ?_⟩
  rcases ho.2 with h' | ⟨r, cap, cur, h1, h2, h3, h4⟩
  · exact .inl h'
  · subst h1
    exact .inr ⟨r, cap, cur, rfl, h2, (h.block r (Array.getElem?_eq_some_iff.1 h3).1 (fun e => hk (by rw [e]; rfl)) (fun e => hg (by rw [e]; rfl))).trans h3, h4⟩

/-- Block k bears the pool p, whose chunks lie in block g. -/
structure PB (w : World) (k g B : Nat) (cc : Nat) (vg vu vf : Value) (p : Pl) : Prop where
  blk : w.heap[k]? = some (.cells #[vg, vu, vf, .slice (some ⟨g, 0, none⟩) p.ch.length cc] 31 (0, 0))
  pa : PA w B vg vu vf (.slice (some ⟨g, 0, none⟩) p.ch.length cc) p
theorem own_apart5 {w : World} {base k size : Nat} {e t : TypeId} {v : Value} {n : Nat} {xs : List Value} {cs : Array Value} (h : w.ownsRow base e size v n xs) (hk : w.heap[k]? = some (.cells cs t (0, 0))) (hne : e ≠ t) : v.ownBlock ≠ some k := by
  rcases h.2 with ⟨rfl, _⟩ | ⟨g, cap, cur, rfl, _, hg, _⟩
  · simp [Value.ownBlock]
  · intro he
    obtain rfl : g = k := by simpa [Value.ownBlock] using he
    rw [hg] at hk
    cases hk
    exact hne rfl
theorem own_blk {w : World} {base size g n cap : Nat} {e : TypeId} {xs : List Value} (h : w.ownsRow base e size (.slice (some ⟨g, 0, none⟩) n cap) n xs) : ∃ cur, w.heap[g]? = some (.cells cur e (0, 0)) ∧ base ≤ g := by
  rcases h.2 with ⟨h', _⟩ | ⟨g', cap', cur, h1, h2, h3, _⟩
  · cases h'
  · cases h1; exact ⟨cur, h3, h2⟩
/-- A uint64 row, or any row of elements other than pools and chunks, stays. -/
theorem PB.keeps {w w' : World} {k g B cc : Nat} {vg vu vf : Value} {p : Pl} (h : PB w k g B cc vg vu vf p) (hb : But k g w w') {base : Nat} {e : TypeId} {size n : Nat} {v : Value} {xs : List Value} (ho : w.ownsRow base e size v n xs) (h1 : e ≠ 31) (h2 : e ≠ 83) : w'.ownsRow base e size v n xs := by
  obtain ⟨cur, hg, -⟩ := own_blk h.pa.cs
  exact hb.own ho (own_apart5 ho h.blk h1) (own_apart5 ho hg h2)
/-- What the taking of a slot comes to, in a variable: a pool p', and the pair of a handle and an error. -/
def Fresh (vg vg' : Value) (w : World) : Prop := ∀ r, r < w.heap.size → vg.ownBlock ≠ some r → vg'.ownBlock ≠ some r
def GivesB (k g B cc : Nat) (v0 : Value) (p' : Pl) (h e : Int) (w : World) (en : Ending) (w' : World) : Prop :=
  en = .returned (.tuple #[.int .u64 h, .int .i64 e]) ∧ (∃ vg vu vf, PB w' k g B cc vg vu vf p' ∧ Fresh v0 vg w) ∧ But k g w w'

set_option maxRecDepth 100000 in
set_option maxHeartbeats 2000000 in
theorem take_no (k g B cc : Nat) (c : List Int) (vg vu vf : Value) (p : Pl) (n : Nat) (G : Int) (w : World) (hP : PB w k g B cc vg vu vf p) (ho : Ok n G p.st) (hf : p.st.free = []) :
    Calls Try.prog 41 #[.pointer (some ⟨k, 0, none⟩), cval c] w (GivesB k g B cc vg p 0 2 w) := by
  obtain ⟨x0, x1, x2, x3, y0, y1, y2, y3⟩ := block4 hP.blk
  have hk := lt_of_block hP.blk
  have HP := Lib.hid hP
  have HO := Lib.hid ho
  have HF := Lib.hid hf
  clear hP ho hf
  unfold cval
  have ne : k ≠ w.heap.size := by omega
  go_enter Try.func41, Try.ntmps41
  go_wp2_with fail
  refine (takeN HO.out (HP.out.pa.ar.below ((Below.refl _ w).alloc (Nat.le_refl _) _)) HF.out).mono ?_
  rintro e w1 ⟨v1, v2, v3, rfl, hA, hb⟩
  obtain ⟨pg1, cg1, pu1, cu1, pf1, cf1, rfl, rfl, rfl⟩ := hA.form
  have HB : Hid (Below w.heap.size w w1) := Lib.hid (((Below.refl _ w).alloc (Nat.le_refl _) _).trans (hb.mono (by simp)))
  clear hA hb
  go_wp2
  go_ret2
  have hB2 : Below w.heap.size w (w1.alloc (.cells #[.slice pg1 p.st.gens.length cg1, .slice pu1 p.st.used.length cu1, .slice pf1 p.st.free.length cf1] 28)) := HB.out.alloc HB.out.size _
  exact ⟨rfl, ⟨vg, vu, vf, ⟨(hB2.block k hk).trans HP.out.blk, HP.out.pa.below hB2⟩, fun r _ h => h⟩, But.of_below hB2⟩

theorem ne_set (w : World) {k j : Nat} (o : Nat) (x : Value) (h : j ≠ k) : (w.setCell ⟨k, o, none⟩ x).heap[j]? = w.heap[j]? := heap_set_other _ _ _ (Ne.symm h)
/-- Three cells of block k are set. -/
def s3 (w : World) (k : Nat) (x y z : Value) : World := ((w.setCell ⟨k, 0, none⟩ x).setCell ⟨k, 1, none⟩ y).setCell ⟨k, 2, none⟩ z
/-- Five cells of block g, from o on, are set. -/
def s5 (w : World) (g o : Nat) (a b c d e : Value) : World := ((((w.setCell ⟨g, o, none⟩ a).setCell ⟨g, o + 1, none⟩ b).setCell ⟨g, o + 2, none⟩ c).setCell ⟨g, o + 3, none⟩ d).setCell ⟨g, o + 4, none⟩ e
theorem s3_other (w : World) {k j : Nat} (x y z : Value) (h : j ≠ k) : (s3 w k x y z).heap[j]? = w.heap[j]? := by
  unfold s3; rw [ne_set _ _ _ h, ne_set _ _ _ h, ne_set _ _ _ h]
theorem s5_other (w : World) {g j : Nat} (o : Nat) (a b c d e : Value) (h : j ≠ g) : (s5 w g o a b c d e).heap[j]? = w.heap[j]? := by
  unfold s5; rw [ne_set _ _ _ h, ne_set _ _ _ h, ne_set _ _ _ h, ne_set _ _ _ h, ne_set _ _ _ h]
theorem s3_size (w : World) (k : Nat) (x y z : Value) : (s3 w k x y z).heap.size = w.heap.size := by simp [s3]
theorem s5_size (w : World) (g o : Nat) (a b c d e : Value) : (s5 w g o a b c d e).heap.size = w.heap.size := by simp [s5]
/-- A row stays where all but one block does, and it is of another type. -/
theorem own_of {w w' : World} {base size n : Nat} {e : TypeId} {v : Value} {xs : List Value} (h : w.ownsRow base e size v n xs) (hb : ∀ j, v.ownBlock = some j → w'.heap[j]? = w.heap[j]?) : w'.ownsRow base e size v n xs := by
  refine ⟨h.1, ?_⟩
  rcases h.2 with h' | ⟨r, cap, cur, h1, h2, h3, h4⟩
  · exact .inl h'
  · subst h1
    exact .inr ⟨r, cap, cur, rfl, h2, (hb r rfl).trans h3, h4⟩
theorem own_s5 {w : World} {b g cap i : Nat} {l : List (List Int)} (c : List Int) (h : w.ownsRow b 83 5 (.slice (some ⟨g, 0, none⟩) l.length cap) l.length (cvs l)) (hi : i < l.length) :
    (s5 w g (i * 5) (.int .i64 c.length) (.int .u64 (it c 0)) (.int .u64 (it c 1)) (.int .u64 (it c 2)) (.int .u64 (it c 3))).ownsRow b 83 5 (.slice (some ⟨g, 0, none⟩) l.length cap) l.length (cvs (l.set i c)) := by
  rw [← cvs_set l i c hi]
  exact (((((h.stored (i * 5) (.int .i64 c.length)).1.stored (i * 5 + 1) (.int .u64 (it c 0))).1.stored (i * 5 + 2) (.int .u64 (it c 1))).1.stored (i * 5 + 3) (.int .u64 (it c 2))).1.stored (i * 5 + 4) (.int .u64 (it c 3))).1
theorem PA.len {w : World} {b : Nat} {vg vu vf vc : Value} {p : Pl} (h : PA w b vg vu vf vc p) : (cvs p.ch).length = p.ch.length * 5 := cvs_length _
theorem own_frozen5 {w : World} {b g n cap : Nat} {e : TypeId} {xs : List Value} (h : w.ownsRow b e 5 (.slice (some ⟨g, 0, none⟩) n cap) n xs) (o : Nat) : w.frozen? ⟨g, o, none⟩ = false := by
  obtain ⟨cur, hg, -⟩ := own_blk h
  simp [World.frozen?, hg]

set_option maxRecDepth 100000 in
set_option maxHeartbeats 2000000 in
theorem take_yes (k g B cc : Nat) (c : List Int) (vg vu vf : Value) (p : Pl) (n i : Nat) (fr : List Int) (G : Int) (w : World) (hP : PB w k g B cc vg vu vf p) (ho : Ok n G p.st) (hG : G ≤ 1099511627775) (hfr : p.st.free = fr ++ [(i : Int)]) (hi : i < n) (hn : p.ch.length = n) (hBk : B ≤ k) :
    Calls Try.prog 41 #[.pointer (some ⟨k, 0, none⟩), cval c] w (GivesB k g B cc vg (p.tk i c) (hd i (p.st.gens.getD i 0)) 0 w) := by
  obtain ⟨x0, x1, x2, x3, y0, y1, y2, y3⟩ := block4 hP.blk
  have hk := lt_of_block hP.blk
  obtain ⟨cur, hgb, hBg⟩ := own_blk hP.pa.cs
  have hg := lt_of_block hgb
  have hkg : k ≠ g := fun e => by
    rw [← e, hP.blk] at hgb; cases hgb
  have hsm := ho.small
  have hgen := ho.gen hi
  have HP := Lib.hid hP
  have HO := Lib.hid ho
  have HFR := Lib.hid hfr
  have HGB := Lib.hid hgb
  clear hP ho hfr hgb
  unfold cval
  have HH : Hid (0 ≤ hd i (p.st.gens.getD i 0) ∧ hd i (p.st.gens.getD i 0) ≤ 18446744073709551615 ∧ hd i (p.st.gens.getD i 0) % 16777216 = i) := Lib.hid (by unfold hd; omega)
  obtain ⟨z, hz⟩ : ∃ z, p.st.gens.getD i 0 = z := ⟨_, rfl⟩
  have T := fun w hA => takeO (w := w) (vg := vg) (vu := vu) (vf := vf) (b := B) HO.out hG hA HFR.out hi
  generalize hd i (p.st.gens.getD i 0) = h at *
  have HT := Lib.hid T
  clear T hz
  have ne : k ≠ w.heap.size := by omega
  have ne2 : g ≠ w.heap.size := by omega
  go_enter Try.func41, Try.ntmps41
  go_wp2_with fail
  refine (HT.out _ (HP.out.pa.ar.below ((Below.refl _ w).alloc (Nat.le_refl _) _))).mono ?_
  rintro e w1 ⟨v1, v2, v3, rfl, hA, hb⟩
  obtain ⟨pg1, cg1, pu1, cu1, pf1, cf1, rfl, rfl, rfl⟩ := hA.form
  have HB0 : Hid (w1.heap[w.heap.size]? = some (.cells #[.int .i64 c.length, .int .u64 (it c 0), .int .u64 (it c 1), .int .u64 (it c 2), .int .u64 (it c 3)] 83 (0, 0))) := Lib.hid ((hb.block _ (by simp)).trans (heap_alloc_new w _))
  have HB : Hid (Below w.heap.size w w1) := Lib.hid (((Below.refl _ w).alloc (Nat.le_refl _) _).trans (hb.mono (by simp)))
  have HA : Hid (Ar w1 (w.heap.size + 1) (.slice pg1 (p.st.tk i).gens.length cg1) (.slice pu1 (p.st.tk i).used.length cu1) (.slice pf1 (p.st.tk i).free.length cf1) (p.st.tk i)) := Lib.hid (hA.drop (by simp))
  have hs : w.heap.size + 1 ≤ w1.heap.size := by have := hb.size; simpa using this
  clear hA hb
  generalize hs1 : (p.st.tk i).gens.length = l1 at *
  generalize hs2 : (p.st.tk i).used.length = l2 at *
  generalize hs3 : (p.st.tk i).free.length = l3 at *
  obtain ⟨q0, q1, q2, q3, r0, r1, r2, r3⟩ := block4 ((HB.out.block k hk).trans HP.out.blk)
  have ne3 : k ≠ w1.heap.size := by omega
  have ne4 : g ≠ w1.heap.size := by omega
  have ne5 : k < w1.heap.size := by omega
  have ne6 : w1.heap.size ≠ k := by omega
  go_upto_region 5 with fail
  obtain ⟨V, hV⟩ : ∃ V, V = (s3 w1 k (.slice pg1 l1 cg1) (.slice pu1 l2 cu1) (.slice pf1 l3 cf1)).alloc (.cells #[.slice pg1 l1 cg1, .slice pu1 l2 cu1, .slice pf1 l3 cf1] 28) := ⟨_, rfl⟩
  have hVj : ∀ j, j < w1.heap.size → j ≠ k → V.heap[j]? = w1.heap[j]? := fun j h1 h2 => by
    rw [hV]
    exact (heap_alloc_old _ _ (by rw [s3_size]; exact h1)).trans (s3_other _ _ _ _ h2)
  have HVs : Hid (V.heap.size = w1.heap.size + 1) := Lib.hid (by rw [hV, World.size_alloc, s3_size])
  have hVk : V.heap[k]? = some (.cells #[.slice pg1 l1 cg1, .slice pu1 l2 cu1, .slice pf1 l3 cf1, .slice (some ⟨g, 0, none⟩) p.ch.length cc] 31 (0, 0)) := by
    rw [hV]
    refine (heap_alloc_old _ _ (by rw [s3_size]; omega)).trans ?_
    have : w1.heap[k]? = some (.cells #[vg, vu, vf, .slice (some ⟨g, 0, none⟩) p.ch.length cc] 31 (0, 0)) := (HB.out.block k hk).trans HP.out.blk
    simp [s3, World.setCell, Array.getElem?_modify, this]
  have HVA : Hid (Ar V (w.heap.size + 1) (.slice pg1 l1 cg1) (.slice pu1 l2 cu1) (.slice pf1 l3 cf1) (p.st.tk i)) := Lib.hid (by
    have h0 : ∀ (e : TypeId) (v : Value) (m : Nat) (xs : List Value), w1.ownsRow (w.heap.size + 1) e 1 v m xs → V.ownsRow (w.heap.size + 1) e 1 v m xs := fun e v m xs ho => own_of ho (fun j hj => hVj j (ho.lt j hj).2 (by have := (ho.lt j hj).1; omega))
    exact ⟨h0 _ _ _ _ HA.out.g, h0 _ _ _ _ HA.out.u, h0 _ _ _ _ HA.out.f⟩)
  have HVC : Hid (V.ownsRow B 83 5 (.slice (some ⟨g, 0, none⟩) p.ch.length cc) p.ch.length (cvs p.ch)) := Lib.hid (own_of (own_below HP.out.pa.cs HB.out) (fun j hj => by
    obtain rfl : g = j := by simpa [Value.ownBlock] using hj
    exact hVj g (by omega) (Ne.symm hkg)))
  have HVX : Hid (V.heap[w.heap.size]? = some (.cells #[.int .i64 c.length, .int .u64 (it c 0), .int .u64 (it c 1), .int .u64 (it c 2), .int .u64 (it c 3)] 83 (0, 0))) := Lib.hid ((hVj _ (by omega) (Ne.symm ne)).trans HB0.out)
  have HVB : Hid (But k g w V) := Lib.hid ⟨by rw [hV]; exact HB.out.os, by rw [hV]; exact HB.out.tape, by rw [hV]; exact HB.out.output, by have := HVs.out; omega, fun j h1 h2 h3 => (hVj j (by omega) h2).trans (HB.out.block j h1)⟩
  have HVK := Lib.hid hVk
  have e0 : (s3 w1 k (.slice pg1 l1 cg1) (.slice pu1 l2 cu1) (.slice pf1 l3 cf1)).alloc (.cells #[.slice pg1 l1 cg1, .slice pu1 l2 cu1, .slice pf1 l3 cf1] 28) = V := hV.symm
  unfold s3 at e0
  rw [e0]
  clear e0 hV hVj hVk
  clear q0 q1 q2 q3 r0 r1 r2 r3 x0 x1 x2 x3 y0 y1 y2 y3
  obtain ⟨q0, q1, q2, q3, -⟩ := block4 HVK.out
  obtain ⟨⟨b0, b1, b2, b3, b4⟩, -⟩ := block5 HVX.out
  obtain ⟨m0, m1, m2, m3, m4⟩ := own_chunk (i := i) HVC.out (by omega)
  have f0 := own_frozen5 HVC.out (i * 5)
  have f1 := own_frozen5 HVC.out (i * 5 + 1)
  have f2 := own_frozen5 HVC.out (i * 5 + 2)
  have f3 := own_frozen5 HVC.out (i * 5 + 3)
  have f4 := own_frozen5 HVC.out (i * 5 + 4)
  have i0 : (0 : Int) ≤ (i : Int) := by omega
  have i1 : (i : Int) < (p.ch.length : Int) := by omega
  have HIX := Lib.hid HH.out.2.2
  have hgk : g ≠ k := Ne.symm hkg
  go_region_held3 (fun w' => w'.cell? ⟨k, 3, none⟩ = some (.slice (some ⟨g, 0, none⟩) p.ch.length cc) ∧ w'.cell? ⟨w.heap.size, 0, none⟩ = some (.int .i64 c.length) ∧ w'.cell? ⟨w.heap.size, 1, none⟩ = some (.int .u64 (it c 0)) ∧ w'.cell? ⟨w.heap.size, 2, none⟩ = some (.int .u64 (it c 1)) ∧ w'.cell? ⟨w.heap.size, 3, none⟩ = some (.int .u64 (it c 2)) ∧ w'.cell? ⟨w.heap.size, 4, none⟩ = some (.int .u64 (it c 3)))
    (go_keep)
    (first
      | (go_at_call 51; refine (index_any h _ HH.out.1 HH.out.2.1).mono ?_; rw [HIX.out]; rintro e w' ⟨rfl, rfl⟩))
  go_wp2
  go_ret2
  obtain ⟨V5, hV5⟩ : ∃ V5, V5 = s5 V g (i * 5) (.int .i64 c.length) (.int .u64 (it c 0)) (.int .u64 (it c 1)) (.int .u64 (it c 2)) (.int .u64 (it c 3)) := ⟨_, rfl⟩
  have hc := own_s5 (i := i) c HVC.out (by omega)
  have hj : ∀ j, j ≠ g → V5.heap[j]? = V.heap[j]? := fun j h => by rw [hV5]; exact s5_other _ _ _ _ _ _ _ h
  have hsz : V5.heap.size = V.heap.size := by rw [hV5]; exact s5_size _ _ _ _ _ _ _ _
  have hfin : PB V5 k g B cc (.slice pg1 l1 cg1) (.slice pu1 l2 cu1) (.slice pf1 l3 cf1) (p.tk i c) ∧ But k g w V5 := by
    refine ⟨⟨?_, ⟨?_, ?_⟩⟩, ⟨?_, ?_, ?_, ?_, ?_⟩⟩
    · rw [hj k hkg]
      simpa [Pl.tk] using HVK.out
    · have h0 : ∀ (e : TypeId) (v : Value) (m : Nat) (xs : List Value), V.ownsRow (w.heap.size + 1) e 1 v m xs → V5.ownsRow B e 1 v m xs := fun e v m xs ho => own_drop (own_of ho (fun j e => hj j (by have := (ho.lt j e).1; omega))) (by omega)
      exact ⟨h0 _ _ _ _ HVA.out.g, h0 _ _ _ _ HVA.out.u, h0 _ _ _ _ HVA.out.f⟩
    · rw [← hV5] at hc
      simpa [Pl.tk] using hc
    · rw [hV5]; exact HVB.out.os
    · rw [hV5]; exact HVB.out.tape
    · rw [hV5]; exact HVB.out.output
    · rw [hsz]; exact HVB.out.size
    · exact fun j h1 h2 h3 => (hj j h3).trans (HVB.out.block j h1 h2 h3)
  have hfin' : PB V5.drew k g B cc (.slice pg1 l1 cg1) (.slice pu1 l2 cu1) (.slice pf1 l3 cf1) (p.tk i c) ∧ But k g w V5.drew := ⟨⟨hfin.1.blk, hfin.1.pa.below (Below.refl _ _).drew⟩, ⟨hfin.2.os, hfin.2.tape, hfin.2.output, hfin.2.size, hfin.2.block⟩⟩
  clear hfin hc hj hsz
  subst hV5
  unfold s5 at hfin'
  exact ⟨rfl, ⟨_, _, _, hfin'.1, fun r h1 _ h2 => by have := (HVA.out.g.lt r h2).1; omega⟩, hfin'.2⟩
end Go.Proofs.Ytbldjlkofaiikaa
