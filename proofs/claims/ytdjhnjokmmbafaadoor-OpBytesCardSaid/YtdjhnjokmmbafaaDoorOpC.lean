/-
  A builder that bytes are written into; what Encode's closures do.
-/
import Derived.Test.YtdjhnjokmmbafaaDoorOpA
import Derived.Shelf.Strings.BuilderK
namespace Go.Proofs.YtdjhnjokmmbafaaDoor
open Go.ChangeShapes Go.WideShapes Go.ChangeAt Go.RowKit
set_option linter.unusedVariables false
set_option linter.unusedSimpArgs false

/-- The builder in block b has the bytes l. -/
def Bd (w : World) (b : Nat) (l : List UInt8) : Prop := Lib.IsBuilderF 54 5 b b (Lib.byteCells l) w
/-- Blocks other than the builder's, and no rows of bytes, stand as they stood. -/
abbrev Oth (b : Nat) (w w' : World) : Prop := Lib.OthersKept 5 (some b) w w'
theorem ws_any (b : Nat) (l : List UInt8) (s : ByteArray) (w : World) (h : Bd w b l) (hb : b ≤ w.heap.size) (hl : l.length + s.size ≤ 1000000000000) :
    Calls Tryd.prog 27 #[.pointer (some ⟨b, 0, none⟩), .string s] w fun e w' => e = .returned (.tuple #[.int .i64 s.size, .nilIface]) ∧ Bd w' b (l ++ s.data.toList) ∧ Below b w w' ∧ Oth b w w' := by
  refine (Any.Builder_WriteString_k Tryd.lays166 Tryd.Builder_Extra_166 b b (Lib.byteCells l) s w h (by rw [Lib.byteCells_length]; omega) hb).mono ?_
  rintro e w' ⟨rfl, h1, h2, h3⟩
  refine ⟨rfl, ?_, h2, h3⟩
  rw [Lib.strCells_eq, ← Lib.byteCells_append] at h1
  exact Or.inr h1
theorem wb_any (b : Nat) (l : List UInt8) (c : UInt8) (w : World) (h : Bd w b l) (hb : b ≤ w.heap.size) (hl : l.length ≤ 1000000000000) :
    Calls Tryd.prog 33 #[.pointer (some ⟨b, 0, none⟩), .int .u8 (c.toNat : Int)] w fun e w' => e = .returned .nilIface ∧ Bd w' b (l ++ [c]) ∧ Below b w w' ∧ Oth b w w' := by
  refine (Any.Builder_WriteByte_k Tryd.lays167 Tryd.Builder_Extra_167 b b (Lib.byteCells l) (c.toNat : Int) w h (by rw [Lib.byteCells_length]; omega) hb).mono ?_
  rintro e w' ⟨rfl, h1, h2, h3⟩
  refine ⟨rfl, ?_, h2, h3⟩
  rw [show [Value.int .u8 (c.toNat : Int)] = Lib.byteCells [c] from rfl, ← Lib.byteCells_append] at h1
  exact Or.inr h1
theorem str_any (b : Nat) (l : List UInt8) (w : World) (h : Bd w b l) (hb : b ≤ w.heap.size) :
    Calls Tryd.prog 31 #[.pointer (some ⟨b, 0, none⟩)] w fun e w' => e = .returned (.string ⟨l.toArray⟩) ∧ Below b w w' ∧ Oth b w w' := by
  refine (Any.Builder_String_any_k Tryd.lays169 Tryd.Builder_Extra_169 b b l w h hb).mono ?_
  rintro e w' ⟨rfl, h1, h2, h3⟩
  exact ⟨rfl, h2, h3⟩
theorem bd_new (w : World) : Bd (w.alloc (.cells #[.pointer none, .slice none 0 0] 54)) w.heap.size [] := by
  refine Or.inl ⟨Nat.le_refl _, _, heap_alloc_new _ _, ?_, by simp [Value.ownBlock]⟩
  exact World.ownsRowF_nil _ _ _ _
theorem lt_of_block {w : World} {k : Nat} {o : Obj} (h : w.heap[k]? = some o) : k < w.heap.size := (Array.getElem?_eq_some_iff.1 h).1
theorem bd_keep {w w' : World} {b : Nat} {l : List UInt8} (h : Bd w b l) (hb : ∀ k, k < w.heap.size → (∀ cs : Array Value, w.heap[k]? ≠ some (Obj.cells cs 23 (0, 0)) ∧ w.heap[k]? ≠ some (Obj.cells cs 60 (0, 0))) → w'.heap[k]? = w.heap[k]?) : Bd w' b l := by
  have kb : ∀ (k : Nat) (cs : Array Value) (fz : Nat × Nat), w.heap[k]? = some (Obj.cells cs 54 fz) → w'.heap[k]? = w.heap[k]? := fun k cs fz hk => hb k (lt_of_block hk) (fun cs' => ⟨fun e => (by rw [hk] at e; cases e), fun e => (by rw [hk] at e; cases e)⟩)
  have ku : ∀ (k : Nat) (cs : Array Value) (fz : Nat × Nat), w.heap[k]? = some (Obj.cells cs 5 fz) → w'.heap[k]? = w.heap[k]? := fun k cs fz hk => hb k (lt_of_block hk) (fun cs' => ⟨fun e => (by rw [hk] at e; cases e), fun e => (by rw [hk] at e; cases e)⟩)
  have key : ∀ p, Lib.BuilderAtF 54 5 b b p (Lib.byteCells l) w → Lib.BuilderAtF 54 5 b b p (Lib.byteCells l) w' := by
    rintro p ⟨h1, v, h2, h3, h4⟩
    refine ⟨h1, v, (kb _ _ _ h2).trans h2, ?_, h4⟩
    refine ⟨h3.1, ?_⟩
    rcases h3.2 with h' | ⟨g, cap, cur, fz, k1, k2, k3, k4⟩
    · exact .inl h'
    · exact .inr ⟨g, cap, cur, fz, k1, k2, (ku _ _ _ k3).trans k3, k4⟩
  rcases h with h | h
  · exact Or.inl (key _ h)
  · exact Or.inr (key _ h)
theorem bd_below {w w' : World} {b : Nat} {l : List UInt8} (h : Bd w b l) (hb : Below w.heap.size w w') : Bd w' b l := bd_keep h (fun k hk _ => hb.block k hk)
theorem bd_lt {w : World} {b : Nat} {l : List UInt8} (h : Bd w b l) : b < w.heap.size := by
  rcases h with ⟨h1, v, h2, h3, h4⟩ | ⟨h1, v, h2, h3, h4⟩ <;> exact lt_of_block h2
theorem oth_below (b : Nat) {w w' : World} (hb : Below w.heap.size w w') : Oth b w w' := fun k o hk _ _ => (hb.block k (lt_of_block hk)).trans hk
theorem bd_type {w : World} {b : Nat} {l : List UInt8} (h : Bd w b l) : ∃ cs fz, w.heap[b]? = some (.cells cs 54 fz) := by
  rcases h with ⟨h1, v, h2, h3, h4⟩ | ⟨h1, v, h2, h3, h4⟩ <;> exact ⟨_, _, h2⟩
theorem oth_keepO {b : Nat} {w w' : World} {l : List UInt8} (hB : Bd w b l) (h : Oth b w w') (hs : w.heap.size ≤ w'.heap.size) : KeepO w w' := by
  obtain ⟨cb, fb, hcb⟩ := bd_type hB
  refine ⟨hs, fun k cs hk => ?_⟩
  rcases hk with hk | hk
  · rw [hk]
    refine h k _ hk (fun e => ?_) (fun c fz e => by cases e)
    cases e
    rw [hk] at hcb
    cases hcb
  · rw [hk]
    refine h k _ hk (fun e => ?_) (fun c fz e => by cases e)
    cases e
    rw [hk] at hcb
    cases hcb

set_option maxHeartbeats 1000000 in
theorem en1_any (b : Nat) (l : List UInt8) (n : Int) (w : World) (h : Bd w b l) (hl : l.length ≤ 1000000) (hn : I64 n) :
    Calls Tryd.prog 34 #[.int .i64 n, .pointer (some ⟨b, 0, none⟩)] w fun e w' => e = .returned (.int .i64 n) ∧ Bd w' b (l ++ nb n) ∧ Below b w w' ∧ Oth b w w' := by
  obtain ⟨z0, z1⟩ := zig_bounds n hn.1 hn.2
  have HZ := Lib.hid (fun V => zig_any n V hn.1 hn.2)
  have HBy := Lib.hid (fun V => bytes_need (zig n) (kOf (zig n)) V (kOf_need z0 z1) z1)
  obtain ⟨T, hT⟩ : ∃ T, T = told (zig n) (kOf (zig n)) := ⟨_, rfl⟩
  have HT : Hid (nb n = T.data.toList) := Lib.hid (by rw [hT]; rfl)
  have hTs : T.size ≤ 10 := by
    obtain ⟨q, hq, hql⟩ := told_list (u := zig n) (kOf_le z0 z1)
    have := kOf_le z0 z1
    rw [hT, Lib.size_eq, hq, List.length_cons, hql]
    omega
  rw [← hT] at HBy
  have HB := Lib.hid h
  have hbl := bd_lt h
  have HW := Lib.hid (fun (V : World) (hV : Below w.heap.size w V) => ws_any b l T V (bd_below h hV) (Nat.le_trans (Nat.le_of_lt hbl) hV.size) (by omega))
  clear hT h
  generalize zig n = u at *
  go_enter Tryd.func34, Tryd.ntmps34
  go_wp2_with (first
    | (go_at_call 36; refine (HZ.out _).mono ?_; rintro e w' ⟨rfl, rfl⟩)
    | (go_at_call 35; refine (HBy.out _).mono ?_; rintro e w1 ⟨rfl, hb1⟩; have HB1 := Lib.hid hb1; clear hb1))
  refine (HW.out w1 HB1.out).mono ?_
  rintro e w2 ⟨rfl, hB2, hb2, hO2⟩
  have H2 := Lib.hid (And.intro hB2 (And.intro hb2 hO2))
  clear hB2 hb2 hO2
  go_wp2
  go_ret
  exact ⟨rfl, by rw [HT.out]; exact H2.out.1, (HB1.out.mono (Nat.le_of_lt hbl)).trans H2.out.2.1, (oth_below b HB1.out).trans H2.out.2.2⟩
set_option maxHeartbeats 1000000 in
theorem en2_any (b : Nat) (l : List UInt8) (s : ByteArray) (w : World) (h : Bd w b l) (hl : l.length ≤ 1000000) (hs : s.size ≤ 255) :
    Calls Tryd.prog 37 #[.string s, .pointer (some ⟨b, 0, none⟩)] w fun e w' => e = .returned (.string s) ∧ Bd w' b (l ++ tx s) ∧ Below b w w' ∧ Oth b w w' := by
  have hbl := bd_lt h
  have hc : ((UInt8.ofNat s.size).toNat : Int) = (s.size : Int) := by rw [UInt8.toNat_ofNat_of_lt' (by show _ < 256; omega)]
  have H1 := Lib.hid (wb_any b l (UInt8.ofNat s.size) w h (Nat.le_of_lt hbl) (by omega))
  rw [hc] at H1
  have H2 := Lib.hid (fun (V : World) (hV : Bd V b (l ++ [UInt8.ofNat s.size])) => ws_any b (l ++ [UInt8.ofNat s.size]) s V hV (Nat.le_of_lt (bd_lt hV)) (by rw [List.length_append, List.length_singleton]; omega))
  have HE : Hid (l ++ [UInt8.ofNat s.size] ++ s.data.toList = l ++ tx s) := Lib.hid (by rw [List.append_assoc]; rfl)
  have hs' : (s.size : Int) ≤ 255 := by omega
  clear h hc
  go_enter Tryd.func37, Tryd.ntmps37
  go_wp2_with fail
  refine H1.out.mono ?_
  rintro e w1 ⟨rfl, hB1, hb1, hO1⟩
  have G1 := Lib.hid (And.intro hB1 (And.intro hb1 hO1))
  clear hB1 hb1 hO1
  go_wp2_with fail
  refine (H2.out w1 G1.out.1).mono ?_
  rintro e w2 ⟨rfl, hB2, hb2, hO2⟩
  have G2 := Lib.hid (And.intro hB2 (And.intro hb2 hO2))
  clear hB2 hb2 hO2
  go_wp2
  go_ret
  exact ⟨rfl, by rw [← HE.out]; exact G2.out.1, G1.out.2.1.trans G2.out.2.1, G1.out.2.2.trans G2.out.2.2⟩
end Go.Proofs.YtdjhnjokmmbafaaDoor
