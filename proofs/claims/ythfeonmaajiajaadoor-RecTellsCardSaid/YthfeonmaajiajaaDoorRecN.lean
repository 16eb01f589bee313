/-
  The closures of read: the next words, and the next text.
-/
import Derived.Test.YthfeonmaajiajaaDoorRecL
namespace Go.Proofs.YthfeonmaajiajaaDoor
open Go.ChangeShapes Go.WideShapes Go.ChangeAt Go.RowKit
open Rm
set_option linter.unusedVariables false
set_option linter.unusedSimpArgs false

/-- The first k words, with noughts behind. -/
def pad (k : Nat) (l : List Int) : List Int := l.take k ++ List.replicate (k - l.length) 0
theorem pad_length (k : Nat) (l : List Int) : (pad k l).length = k := by simp [pad]; omega
theorem pad_bound {l : List Int} (h : U64 l) (k : Nat) : U64 (pad k l) := fun x hx => by
  rcases List.mem_append.1 hx with hx | hx
  · exact h x (List.mem_of_mem_take hx)
  · rw [List.mem_replicate] at hx; rw [hx.2]; omega
theorem pad_splice (k : Nat) (l : List Int) : splice (gvs (List.replicate k 0)) 0 (gvs (l.take k)) = gvs (pad k l) := by
  unfold splice pad
  simp [gvs, List.map_take, List.map_drop]
  omega
theorem sizeOf_G (W : World) : (sizeOf 23).run Tryd.prog W = .ok 1 W := by
  obtain ⟨i0, hi, _, hz1, _⟩ := info_parts info_G
  simp [sizeOf, typeInfo, hi, hz1]
theorem slice_lo (p : Option Addr) (n c m : Nat) (h1 : m ≤ n) (h2 : n ≤ c) : ∃ p', (∀ W, Sem.run Tryd.prog (Instr.slice 28 (.slice p n c) (some (.int .i64 (m : Int))) none none) W = .ok (.slice p' (n - m) (c - m)) W) ∧ (∀ (w : World) (l : List Int), l.length = n → LV w p (gvs l) → LV w p' (gvs (l.drop m))) ∧ (∀ a, p' = some a → ∃ b, p = some b ∧ b.block = a.block) := by
  refine ⟨if c = m then p else p.map (·.add m), fun W => ?_, fun w l hl h h0 => ?_, fun a hp => ?_⟩
  · rw [run_slice_l (P := Tryd.prog) W 28 p n c Tryd.underlying28 .i64 (m : Int) (by omega) (by omega)]
    rw [show ((sizeOf (Tryd.prog.elem 28)).run Tryd.prog W) = .ok 1 W from sizeOf_G W]
    simp only [Result.andThen, sliced, Int.toNat_natCast, Nat.mul_one]
  · rw [gvs_length, List.length_drop, hl] at h0
    rw [if_neg (by omega)]
    obtain ⟨g, off, rfl, hg, hc⟩ := h (by rw [gvs_length]; omega)
    refine ⟨g, off + m, by simp [add_plain], hg, fun j u hu => ?_⟩
    have := hc (m + j) u (by simp [gvs] at hu ⊢; exact hu)
    rwa [show off + m + j = off + (m + j) by omega]
  · split at hp
    · exact ⟨a, hp, rfl⟩
    · obtain ⟨b, hb, rfl⟩ := Option.map_eq_some_iff.1 hp
      exact ⟨b, hb, by unfold Addr.add; split <;> rfl⟩
theorem made_zeros (m : Nat) : madeCells #[Value.int .u64 0] m = (gvs (List.replicate m 0)).toArray := by
  apply Array.ext
  · simp [madeCells, gvs]
  · intro i h1 h2
    simp [madeCells, gvs, Nat.mod_one]
/-- Nothing of what lay is turned but block k. -/
structure But (k : Nat) (w w' : World) : Prop where
  below : Below k w w'
  other : ∀ b, b < w.heap.size → b ≠ k → w'.heap[b]? = w.heap[b]?
theorem But.trans {k : Nat} {a b c : World} (h1 : But k a b) (h2 : But k b c) : But k a c :=
  ⟨h1.below.trans h2.below, fun x hx hne => (h2.other x (Nat.lt_of_lt_of_le hx h1.below.size) hne).trans (h1.other x hx hne)⟩
theorem But.of_below {k : Nat} {a b : World} (hk : k ≤ a.heap.size) (h : Below a.heap.size a b) : But k a b := ⟨h.mono hk, fun x hx _ => h.block x hx⟩
theorem But.set (k : Nat) (w : World) (j : Nat) (v : Value) : But k w (w.setCell ⟨k, j, none⟩ v) :=
  ⟨(Below.refl k w).setCell (p := ⟨k, j, none⟩) (Nat.le_refl _) v, fun x hx hne => Below.heap_setCell w ⟨k, j, none⟩ v x hne⟩
theorem But.drew {k : Nat} {a b : World} (h : But k a b) : But k a b.drew := ⟨h.below.drew, h.other⟩
theorem LV.but {w w' : World} {k : Nat} {A : Option Addr} {vs : List Value} (h : LV w A vs) (hb : But k w w') (hne : ∀ g off, A = some ⟨g, off, none⟩ → g ≠ k) : LV w' A vs := fun h0 => by
  obtain ⟨g, off, e, hg, hc⟩ := h h0
  exact ⟨g, off, e, Nat.lt_of_lt_of_le hg hb.below.size, fun j u hu => (World.cell?_of_block (a := ⟨g, off + j, none⟩) (hb.other g hg (hne g off e))).trans (hc j u hu)⟩

/-- What next tells: k words, and what is left stands in the box. -/
def GivesN (kb m : Nat) (l : List Int) (w : World) (e : Ending) (w' : World) : Prop :=
  ∃ v p n c, e = .returned v ∧ w'.ownsRow w.heap.size 23 1 v m (gvs (pad m l)) ∧ At1 w' kb (.slice p n c) ∧ LV w' p (gvs (l.drop m)) ∧ (l.drop m).length = n ∧ n ≤ c ∧ c ≤ maxLen ∧ (∀ a, p = some a → a.block < kb) ∧ But kb w w'
theorem next_end {kb m n c q : Nat} {A p' : Option Addr} {l : List Int} {w w4 : World} {cs : List Value} (hq : Nat.min n m = q) (hl : l.length = n) (hnc : n ≤ c)
    (hlv : ∀ (w : World) (l : List Int), l.length = n → LV w A (gvs l) → LV w p' (gvs (l.drop q))) (hlp : ∀ a, p' = some a → ∃ b, A = some b ∧ b.block = a.block)
    (hA : LV w A (gvs l)) (hB : At1 w kb (.slice A n c)) (hlo : ∀ a, A = some a → a.block < kb) (hkb : kb < w.heap.size) (hsp : splice (gvs (List.replicate m 0)) 0 cs = gvs (pad m l))
    (hg : Hid (w4.heap[w.heap.size]? = some (.cells (splice (gvs (List.replicate m 0)) 0 cs).toArray 23 (0, 0)))) (hb : Below w.heap.size w w4) (hm : m ≤ 1000) (hc : c ≤ 2 ^ 63 - 1) :
    GivesN kb m l w (.returned (.slice (some ⟨w.heap.size, 0, none⟩) m m)) (w4.setCell ⟨kb, 0, none⟩ (.slice p' (n - q) (c - q))) := by
  change min n m = q at hq
  have hd : l.drop q = l.drop m := by
    rcases Nat.lt_or_ge m n with h | h
    · rw [← hq, Nat.min_eq_right (by omega)]
    · rw [← hq, Nat.min_eq_left h, List.drop_of_length_le (by omega), List.drop_of_length_le (by omega)]
  have hbut : But kb w w4 := But.of_below (by omega) hb
  have hbut2 := hbut.trans (But.set kb w4 0 (.slice p' (n - q) (c - q)))
  have hp : ∀ a, p' = some a → a.block < kb := fun a e => by
    obtain ⟨b, hb, hbl⟩ := hlp a e
    have := hlo b hb
    omega
  have hrow : w4.ownsRow w.heap.size 23 1 (.slice (some ⟨w.heap.size, 0, none⟩) m m) m (gvs (pad m l)) := by
    have h1 := hg.out
    rw [hsp] at h1
    have h2 : (gvs (pad m l)).length = m := by rw [gvs_length, pad_length]
    refine ⟨by rw [Nat.mul_one]; exact h2, .inr ⟨w.heap.size, m, _, rfl, Nat.le_refl _, h1, Nat.le_refl _, by unfold maxLen; omega, by simp [h2], ?_⟩⟩
    rw [Nat.mul_one]
    show (gvs (pad m l)).take m = gvs (pad m l)
    rw [List.take_of_length_le (by omega)]
  refine ⟨_, p', n - q, c - q, rfl, ?_, (At1.below hB hb hkb).set _, ?_, ?_, by omega, by unfold maxLen; omega, hp, hbut2⟩
  · exact hrow.kept (grownBy_setCell' w4 kb _) (.inr (fun e => by have := (hrow.lt _ e).1; omega))
  · rw [← hd]
    exact (hlv w l hl hA).but hbut2 (fun g off e => by have : g < kb := hp _ e; omega)
  · rw [← hd, List.length_drop, hl]
set_option maxRecDepth 100000 in
set_option maxHeartbeats 4000000 in
theorem next_any (kb m n c : Nat) (A : Option Addr) (l : List Int) (w : World) (hb : At1 w kb (.slice A n c)) (hA : LV w A (gvs l)) (hl : l.length = n) (hnc : n ≤ c) (hc : c ≤ maxLen) (hm : m ≤ 1000) (hlo : ∀ a, A = some a → a.block < kb) (hkb : kb < w.heap.size) :
    Calls Tryd.prog 32 #[.int .i64 m, .pointer (some ⟨kb, 0, none⟩)] w (GivesN kb m l w) := by
  have hmk := fun W : World => run_make_row' (P := Tryd.prog) 28 23 (.int .u64 0) 8 Tryd.underlying28 info_G rfl .i64 .i64 m (by omega) (by omega) W
  obtain ⟨q, hq⟩ : ∃ q, Nat.min n m = q := ⟨_, rfl⟩
  obtain ⟨p', hsl, hlv, hlp⟩ := slice_lo A n c q (by rw [← hq]; exact Nat.min_le_left _ _) hnc
  have HLV := Lib.hid hlv
  have HLP := Lib.hid hlp
  have hbc := hb.cell
  have hbf := hb.fro
  have HA := Lib.hid hA
  have HL := Lib.hid hl
  have HB := Lib.hid hb
  have HLO := Lib.hid hlo
  have HQ := Lib.hid hq
  have hsz : (Tryd.prog.info? 23).map (·.size) = some 1 := by kernel_rfl
  have HSZ := Lib.hid hsz
  clear hlv hlp hA hl hb hlo hq hsz
  unfold maxLen at hc
  go_enter Tryd.func32, Tryd.ntmps32
  go_wp2_with fail
  obtain ⟨W, hW⟩ : ∃ W, W = w.alloc (.cells (madeCells #[.int .u64 0] m) 23) := ⟨_, rfl⟩
  obtain ⟨cs, hcs⟩ : ∃ cs, cs = gvs (l.take m) := ⟨_, rfl⟩
  have hcl : cs.length = q := by rw [hcs, gvs_length, List.length_take, ← HQ.out, HL.out]; exact Nat.min_comm _ _
  have HWB : Hid (Below w.heap.size w W.drew) := Lib.hid (by subst hW; exact ((Below.refl _ w).alloc (Nat.le_refl _) _).drew)
  have hgW : W.drew.heap[w.heap.size]? = some (.cells (gvs (List.replicate m 0)).toArray 23 (0, 0)) := by
    subst hW
    rw [made_zeros]
    exact heap_new w _
  have HGW := Lib.hid hgW
  have HPos : Hid (0 < cs.length → (some (⟨w.heap.size, 0, none⟩ : Addr)) = some ⟨w.heap.size, 0, none⟩ ∧ ∃ ad, A = some ad ∧ ∀ j v, cs[j]? = some v → W.drew.cell? (ad.add j) = some v) := Lib.hid (fun h0 => by
    refine ⟨rfl, ?_⟩
    obtain ⟨g, off, e, hg, hcell⟩ := (HA.out.below HWB.out) (by rw [gvs_length]; rw [hcs, gvs_length, List.length_take] at h0; omega)
    refine ⟨_, e, fun j v hv => ?_⟩
    rw [add_plain]
    refine hcell j v ?_
    rw [hcs] at hv
    simp [gvs, List.getElem?_take] at hv ⊢
    exact hv.2)
  have HOne : Hid (∀ v ∈ cs, v.oneCell' = true) := Lib.hid (by rw [hcs]; exact gvs_one _)
  have hfit : 0 + cs.length ≤ (gvs (List.replicate m 0)).length := by rw [gvs_length, List.length_replicate, hcl, ← HQ.out, Nat.zero_add]; exact Nat.min_le_right _ _
  have HSp : Hid (splice (gvs (List.replicate m 0)) 0 cs = gvs (pad m l)) := Lib.hid (by rw [hcs]; exact pad_splice m l)
  have hnn : cs.length = Nat.min n m := by rw [hcl, HQ.out]
  have HNN := Lib.hid hnn
  have HFit := Lib.hid hfit
  have hbW : W.cell? ⟨kb, 0, none⟩ = some (.slice A n c) := by subst hW; exact (World.cell?_alloc_lt w _ ⟨kb, 0, none⟩ hkb).trans hbc
  have hfW : W.frozen? ⟨kb, 0, none⟩ = false := by
    subst hW; exact (((Below.refl w.heap.size w).alloc (Nat.le_refl _) _).frozen (p := ⟨kb, 0, none⟩) hkb).trans hbf
  have HbW := Lib.hid (show At1 W.drew kb (.slice A n c) from ⟨hbW, hfW⟩)
  rw [← hW]
  clear hW hmk hbc hbf hgW hfit hnn hcs
  go_region_law (refine step_copy_splice rfl (.tmp 8) (.tmp 9) 28 28 rfl 23 Tryd.underlying28 HSZ.out (some ⟨w.heap.size, 0, none⟩) A m m n c rfl rfl w.heap.size 0 (gvs (List.replicate m 0)) 23 HGW.out cs HNN.out HPos.out HFit.out HOne.out w.heap.size w HWB.out (Nat.le_refl _) ?_
                 intro w4 hg4 hb4
                 have HG4 := Lib.hid hg4
                 have HB4 := Lib.hid hb4
                 have hc4 : w4.cell? ⟨kb, 0, none⟩ = some (.slice A n c) := bcell hb4 hkb HB.out.cell
                 have hf4 : w4.frozen? ⟨kb, 0, none⟩ = false := (hb4.frozen (p := ⟨kb, 0, none⟩) hkb).trans HB.out.fro
                 clear hg4 hb4)
  all_goals
    go_wp2
    go_ret
    exact next_end HQ.out HL.out hnc HLV.out HLP.out HA.out HB.out HLO.out hkb HSp.out HG4.out HB4.out hm hc
/-- What is left of the words that came in stands in box kb. -/
def LB (w : World) (kb : Nat) (l : List Int) : Prop := ∃ p n c, At1 w kb (.slice p n c) ∧ LV w p (gvs l) ∧ l.length = n ∧ n ≤ c ∧ c ≤ maxLen ∧ ∀ a, p = some a → a.block < kb
theorem LB.below {w w' : World} {kb B : Nat} {l : List Int} (h : LB w kb l) (hb : Below B w w') (hk : kb < B) : LB w' kb l := by
  obtain ⟨p, n, c, h1, h2, h3, h4, h5, h6⟩ := h
  refine ⟨p, n, c, h1.below hb hk, fun h0 => ?_, h3, h4, h5, h6⟩
  obtain ⟨g, off, e, hg, hc⟩ := h2 h0
  have : g < kb := h6 _ e
  exact ⟨g, off, e, Nat.lt_of_lt_of_le hg hb.size, fun j u hu => bcell hb (by omega) (hc j u hu)⟩
def GivesM (kb m : Nat) (l : List Int) (w : World) (e : Ending) (w' : World) : Prop :=
  ∃ v, e = .returned v ∧ w'.ownsRow w.heap.size 23 1 v m (gvs (pad m l)) ∧ LB w' kb (l.drop m) ∧ But kb w w'
theorem next_lb (kb m : Nat) (l : List Int) (w : World) (h : LB w kb l) (hm : m ≤ 1000) (hkb : kb < w.heap.size) :
    Calls Tryd.prog 32 #[.int .i64 m, .pointer (some ⟨kb, 0, none⟩)] w (GivesM kb m l w) := by
  obtain ⟨p, n, c, h1, h2, h3, h4, h5, h6⟩ := h
  refine (next_any kb m n c p l w h1 h2 h3 h4 h5 hm h6 hkb).mono ?_
  rintro e w' ⟨v, p', n', c', e1, e2, e3, e4, e5, e6, e6b, e7, e8⟩
  exact ⟨v, e1, e2, ⟨p', n', c', e3, e4, e5, e6, by omega, e7⟩, e8⟩
/-- What text tells: the next text, and what is left. -/
def GivesX (kb n : Nat) (l : List Int) (w : World) (e : Ending) (w' : World) : Prop :=
  e = .returned (.string (str ((txt (pad (nw n) l) n).getD []))) ∧ LB w' kb (l.drop (nw n)) ∧ But kb w w'
set_option maxRecDepth 100000 in
set_option maxHeartbeats 4000000 in
theorem tnext_any (kb kn n : Nat) (l : List Int) (w : World) (h : LB w kb l) (hn : n ≤ 100) (hkb : kb < w.heap.size) (hU : U64 l) (hT : ∀ X, Below kb w X → BT X) (hkn : w.cell? ⟨kn, 0, none⟩ = some (.func (.func 32) #[] #[.pointer (some ⟨kb, 0, none⟩)])) :
    Calls Tryd.prog 33 #[.int .i64 n, .pointer (some ⟨kn, 0, none⟩)] w (GivesX kb n l w) := by
  have hnw : ((n : Int) + 8 - 1) / 8 = ((nw n : Nat) : Int) := by unfold nw; omega
  have hnw2 : ((n : Int) + 7) / 8 = ((nw n : Nat) : Int) := by unfold nw; omega
  have hq100 : nw n ≤ 100 := by unfold nw; omega
  have HN := Lib.hid (next_lb kb (nw n) l w h (by omega) hkb)
  have HU := Lib.hid (pad_bound hU (nw n))
  have HT := Lib.hid hT
  have HE : Hid (GivesX kb n l w = fun e w' => e = .returned (.string (str ((txt (pad (nw n) l) n).getD []))) ∧ LB w' kb (l.drop (nw n)) ∧ But kb w w') := Lib.hid rfl
  have HPl := Lib.hid (pad_length (nw n) l)
  rw [HE.out]
  generalize nw n = q at *
  clear h hU hT HE
  go_enter Tryd.func33, Tryd.ntmps33
  go_wp2_with fail
  refine HN.out.mono ?_
  rintro e w1 ⟨v, rfl, ho, hlb, hbut⟩
  obtain ⟨p1, c1, rfl, -, -, -⟩ := own_form ho
  have HB1 := Lib.hid hbut
  have HL1 := Lib.hid hlb
  have HTx := Lib.hid (text_any p1 q c1 (pad q l) (n : Int) w1 (LV.of_own ho) HPl.out (by omega) HU.out (HT.out _ hbut.below))
  have hs1 : w.heap.size ≤ w1.heap.size := hbut.below.size
  clear ho hlb hbut hnw hnw2
  go_wp2_with fail
  refine HTx.out.mono ?_
  rintro e w2 ⟨rfl, hb2⟩
  have HB2 := Lib.hid (HB1.out.trans (But.of_below (by omega) hb2))
  have HL2 := Lib.hid (HL1.out.below hb2 (by omega))
  clear hb2
  go_wp2
  go_ret
  exact ⟨rfl, HL2.out, HB2.out⟩
end Go.Proofs.YthfeonmaajiajaaDoor
