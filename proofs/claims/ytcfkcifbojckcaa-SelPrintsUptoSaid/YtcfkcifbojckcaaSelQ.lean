/-
  How a test, and what stands between steps, are printed.
-/
import Derived.Test.YtcfkcifbojckcaaSelP
import Derived.Test.YtcfkcifbojckcaaSelW
import Derived.Test.YtcfkcifbojckcaaShelf
import Derived.Shelf.Strings.BuilderK
namespace Go.Proofs.Ytcfkcifbojckcaa
open Go.ChangeShapes Go.WideShapes Go.ChangeAt Go.RowKit
open Go.PlainAid (bt)
set_option linter.unusedVariables false
set_option linter.unusedSimpArgs false

def ba (l : List UInt8) : ByteArray := ⟨l.toArray⟩
theorem ba_ls (l : List UInt8) : ls (ba l) = l := rfl
theorem ls_ba (s : ByteArray) : ba (ls s) = s := rfl
theorem ba_app (a b : List UInt8) : ba (a ++ b) = ba a ++ ba b := by
  simp [ba, ByteArray.append_eq, ByteArray.append, ByteArray.ext_iff]
theorem ba_size (l : List UInt8) : (ba l).size = l.length := by simp [ba, ByteArray.size]
theorem ba_eq {s : ByteArray} {l : List UInt8} (h : s.data.toList = l) : s = ba l := by
  subst h
  rfl
theorem sel_between (A : Option Addr) (n c : Nat) (ch : Bool) (w : World) : Calls Try.prog 19 #[.agg #[.slice A n c, .bool ch]] w fun e w' => e = .returned (.string (ba (if ch then [32, 62, 32] else [32]))) ∧ Below w.heap.size w w' := by
  cases ch with
  | true =>
    go_enter Try.func19, Try.ntmps19
    go_wp2
    go_ret
    exact ⟨rfl, (Below.refl _ _).alloc (Nat.le_refl _) _⟩
  | false =>
    go_enter Try.func19, Try.ntmps19
    go_wp2
    go_ret
    exact ⟨rfl, (Below.refl _ _).alloc (Nat.le_refl _) _⟩
theorem sel_printTest (t : Tr) (w : World) (h1 : t.2.1.size ≤ 4000000) (h2 : t.2.2.size ≤ 4000000) : Calls Try.prog 33 #[tV t] w fun e w' => e = .returned (.string (ba (Sl.pt (te t)))) ∧ Below w.heap.size w w' := by
  obtain ⟨k, n, v⟩ := t
  simp only [] at h1 h2
  by_cases k1 : k = 1
  · subst k1
    unfold tV
    go_enter Try.func33, Try.ntmps33
    go_wp2
    go_ret
    exact ⟨ret_str (ba_eq (by simp [Sl.pt, te, ls])), (Below.refl _ _).alloc (Nat.le_refl _) _⟩
  by_cases k2 : k = 2
  · subst k2
    unfold tV
    go_enter Try.func33, Try.ntmps33
    go_wp2
    go_ret
    exact ⟨ret_str (ba_eq (by simp [Sl.pt, te, ls, ByteArray.data_append])), (Below.refl _ _).alloc (Nat.le_refl _) _⟩
  by_cases k3 : k = 3
  · subst k3
    unfold tV
    go_enter Try.func33, Try.ntmps33
    go_wp2
    go_ret
    exact ⟨ret_str (ba_eq (by simp [Sl.pt, te, ls, ByteArray.data_append])), (Below.refl _ _).alloc (Nat.le_refl _) _⟩
  by_cases k4 : k = 4
  · subst k4
    unfold tV
    go_enter Try.func33, Try.ntmps33
    go_wp2
    go_ret
    exact ⟨ret_str (ba_eq (by simp [Sl.pt, te, ls, ByteArray.data_append])), (Below.refl _ _).alloc (Nat.le_refl _) _⟩
  by_cases k5 : k = 5
  · subst k5
    unfold tV
    go_enter Try.func33, Try.ntmps33
    go_wp2
    go_ret
    exact ⟨ret_str (ba_eq (by simp [Sl.pt, te, ls, ByteArray.data_append])), (Below.refl _ _).alloc (Nat.le_refl _) _⟩
  have HE : Hid (Sl.pt (te (k, n, v)) = []) := Lib.hid (by simp [Sl.pt, te, k1, k2, k3, k4, k5])
  have q1 : (k == 1) = false := by simpa using k1
  have q2 : (k == 2) = false := by simpa using k2
  have q3 : (k == 3) = false := by simpa using k3
  have q4 : (k == 4) = false := by simpa using k4
  have q5 : (k == 5) = false := by simpa using k5
  clear k1 k2 k3 k4 k5
  unfold tV
  go_enter Try.func33, Try.ntmps33
  go_wp2
  go_ret
  exact ⟨ret_str (by rw [HE.out]; rfl), (Below.refl _ _).alloc (Nat.le_refl _) _⟩
/-- The builder in block b has the bytes l. -/
def Bd (w : World) (b : Nat) (l : List UInt8) : Prop := Lib.IsBuilderF 62 5 b b (Lib.byteCells l) w
/-- Blocks other than the builder's, and no rows of bytes, stand as they stood. -/
abbrev Oth (b : Nat) (w w' : World) : Prop := Lib.OthersKept 5 (some b) w w'
theorem ws_any (b : Nat) (l : List UInt8) (s : ByteArray) (w : World) (h : Bd w b l) (hb : b ≤ w.heap.size) (hl : l.length + s.size ≤ 1000000000000) :
    Calls Try.prog 18 #[.pointer (some ⟨b, 0, none⟩), .string s] w fun e w' => e = .returned (.tuple #[.int .i64 s.size, .nilIface]) ∧ Bd w' b (l ++ s.data.toList) ∧ Below b w w' ∧ Oth b w w' := by
  refine (Any.Builder_WriteString_k Try.lays166 Try.Builder_Extra_166 b b (Lib.byteCells l) s w h (by rw [Lib.byteCells_length]; omega) hb).mono ?_
  rintro e w' ⟨rfl, h1, h2, h3⟩
  refine ⟨rfl, ?_, h2, h3⟩
  rw [Lib.strCells_eq, ← Lib.byteCells_append] at h1
  exact Or.inr h1
theorem str_any (b : Nat) (l : List UInt8) (w : World) (h : Bd w b l) (hb : b ≤ w.heap.size) :
    Calls Try.prog 21 #[.pointer (some ⟨b, 0, none⟩)] w fun e w' => e = .returned (.string ⟨l.toArray⟩) ∧ Below b w w' ∧ Oth b w w' := by
  refine (Any.Builder_String_any_k Try.lays169 Try.Builder_Extra_169 b b l w h hb).mono ?_
  rintro e w' ⟨rfl, h1, h2, h3⟩
  exact ⟨rfl, h2, h3⟩
theorem bd_new (w : World) : Bd (w.alloc (.cells #[.pointer none, .slice none 0 0] 62)) w.heap.size [] := by
  refine Or.inl ⟨Nat.le_refl _, _, heap_alloc_new _ _, ?_, by simp [Value.ownBlock]⟩
  exact World.ownsRowF_nil _ _ _ _
theorem bd_below {w w' : World} {b : Nat} {l : List UInt8} (h : Bd w b l) (hb : Below w.heap.size w w') : Bd w' b l := by
  have key : ∀ p, Lib.BuilderAtF 62 5 b b p (Lib.byteCells l) w → Lib.BuilderAtF 62 5 b b p (Lib.byteCells l) w' := by
    rintro p ⟨h1, v, h2, h3, h4⟩
    refine ⟨h1, v, (hb.block b (lt_block h2)).trans h2, ?_, h4⟩
    refine ⟨h3.1, ?_⟩
    rcases h3.2 with h' | ⟨g, cap, cur, fz, k1, k2, k3, k4⟩
    · exact .inl h'
    · exact .inr ⟨g, cap, cur, fz, k1, k2, (hb.block g (lt_block k3)).trans k3, k4⟩
  rcases h with h | h
  · exact Or.inl (key _ h)
  · exact Or.inr (key _ h)
theorem bd_lt {w : World} {b : Nat} {l : List UInt8} (h : Bd w b l) : b < w.heap.size := by
  rcases h with ⟨h1, v, h2, h3, h4⟩ | ⟨h1, v, h2, h3, h4⟩ <;> exact lt_block h2
/-! ### what is read -/
def TR (w : World) (A : Option Addr) (T : List Tr) : Prop := ∀ i t, T[i]? = some t → ∃ g off, A = some ⟨g, off, none⟩ ∧ g < w.heap.size ∧ w.cell? ⟨g, off + i * 3, none⟩ = some (.int .i64 t.1) ∧ w.cell? ⟨g, off + i * 3 + 1, none⟩ = some (.string t.2.1) ∧ w.cell? ⟨g, off + i * 3 + 2, none⟩ = some (.string t.2.2)
theorem TR.below {w w' : World} {A : Option Addr} {T : List Tr} (h : TR w A T) (hb : Below w.heap.size w w') : TR w' A T := fun i t hi => by
  obtain ⟨g, off, hA, hg, h1, h2, h3⟩ := h i t hi
  exact ⟨g, off, hA, Nat.lt_of_lt_of_le hg hb.size, (hb.cell hg).trans h1, (hb.cell hg).trans h2, (hb.cell hg).trans h3⟩
def MR (w : World) (A : Option Addr) (l : List Ms) : Prop := ∀ i m, l[i]? = some m → ∃ g off, A = some ⟨g, off, none⟩ ∧ g < w.heap.size ∧ w.cell? ⟨g, off + i * 2, none⟩ = some (.slice m.1.1 m.2.1.length m.1.2) ∧ w.cell? ⟨g, off + i * 2 + 1, none⟩ = some (.bool m.2.2) ∧ TR w m.1.1 m.2.1
theorem MR.below {w w' : World} {A : Option Addr} {l : List Ms} (h : MR w A l) (hb : Below w.heap.size w w') : MR w' A l := fun i t hi => by
  obtain ⟨g, off, hA, hg, h1, h2, h3⟩ := h i t hi
  exact ⟨g, off, hA, Nat.lt_of_lt_of_le hg hb.size, (hb.cell hg).trans h1, (hb.cell hg).trans h2, h3.below hb⟩
def XR (w : World) (A : Option Addr) (x : List Mr) : Prop := ∀ i m, x[i]? = some m → ∃ g off, A = some ⟨g, off, none⟩ ∧ g < w.heap.size ∧ w.cell? ⟨g, off + i, none⟩ = some (r1 m) ∧ MR w m.1.1 m.2
theorem XR.below {w w' : World} {A : Option Addr} {x : List Mr} (h : XR w A x) (hb : Below w.heap.size w w') : XR w' A x := fun i t hi => by
  obtain ⟨g, off, hA, hg, h1, h3⟩ := h i t hi
  exact ⟨g, off, hA, Nat.lt_of_lt_of_le hg hb.size, (hb.cell hg).trans h1, h3.below hb⟩
theorem take_more {α : Type} {l : List α} {j : Nat} (h : j < l.length) : l.take (j + 1) = l.take j ++ [l[j]] := by rw [List.take_add_one, List.getElem?_eq_getElem h]; rfl
theorem te_size {T : List Tr} {t : Tr} (h : t ∈ T) : t.2.1.size ≤ Sl.wc (T.map te) ∧ t.2.2.size ≤ Sl.wc (T.map te) := by
  have := Sl.wc_test (List.mem_map_of_mem (f := te) h)
  have e : Sl.wt (te t) = t.2.1.size + t.2.2.size + 6 := by
    show (ls t.2.1).length + (ls t.2.2).length + 6 = _
    rw [ls_len, ls_len]
  omega
set_option maxHeartbeats 2000000 in
theorem sel_printCompound (A : Option Addr) (T : List Tr) (c : Nat) (w : World) (hT : TR w A T) (hl : Sl.wc (T.map te) ≤ 1000000) :
    Calls Try.prog 20 #[.slice A T.length c] w fun e w' => e = .returned (.string (ba (Sl.pc (T.map te)))) ∧ Below w.heap.size w w' := by
  have HT := Lib.hid hT
  have HP := Lib.hid (fun (t : Tr) (ht : t ∈ T) (V : World) => sel_printTest t V (by have := (te_size ht).1; omega) (by have := (te_size ht).2; omega))
  have HL := Lib.hid (fun (k : Nat) (hk : k ≤ T.length) => show (((T.take k).map te).flatMap Sl.pt).length ≤ 1000000 from by
    have h1 := Sl.pts_le ((T.take k).map te)
    rw [List.map_take] at h1 ⊢
    have := Sl.wc_take (T.map te) k
    omega)
  have hTn : T.length ≤ 1000000 := by
    have := Sl.wc_len (T.map te)
    rw [List.length_map] at this
    omega
  obtain ⟨n, hn⟩ : ∃ n, T.length = n := ⟨_, rfl⟩
  have HN := Lib.hid hn
  by_cases h0 : T.length = 0
  · obtain rfl : T = [] := List.eq_nil_of_length_eq_zero h0
    clear h0 hT hn
    go_enter Try.func20, Try.ntmps20
    go_wp2
    go_ret
    exact ⟨rfl, Below.refl _ _⟩
  · have HE : Hid (Sl.pc (T.map te) = (T.map te).flatMap Sl.pt) := Lib.hid (by
      unfold Sl.pc
      rw [if_neg (by intro e; have := List.map_eq_nil_iff.1 e; exact h0 (by rw [this]; rfl))])
    rw [hn] at h0 HL hTn ⊢
    have q0 : ((n : Int) == 0) = false := by simp; omega
    clear hT hl hn
    obtain ⟨W0, hW0⟩ : ∃ W0, W0 = w.alloc (.cells #[.pointer none, .slice none 0 0] 62) := ⟨_, rfl⟩
    have HB0 : Hid (Below w.heap.size w W0) := Lib.hid (by rw [hW0]; exact (Below.refl _ _).alloc (Nat.le_refl _) _)
    have HD0 : Hid (Bd W0 w.heap.size []) := Lib.hid (by rw [hW0]; exact bd_new w)
    go_enter Try.func20, Try.ntmps20
    go_wp2_with fail
    rw [← hW0]
    clear hW0
    generalize hbk : w.heap.size = b at HB0 HD0 ⊢
    have HBK := Lib.hid hbk
    clear hbk
    go_loopw [11] (fun q wr => ∃ (V : World) (k : Nat), V = wr ∧ k ≤ n ∧ q = .int .i64 k ∧ Hid (Bd V b (((T.take k).map te).flatMap Sl.pt)) ∧ Hid (Below b w V)) (fun q _ => n - (intOf q).toNat)
    case atStart => exact ⟨_, 0, rfl, Nat.zero_le _, rfl, HD0, HB0⟩
    case round =>
      clear HB0 HD0
      obtain ⟨V, k, rfl, hk, rfl, HD, HB⟩ := hrel
      have hbl := bd_lt HD.out
      by_cases hlt : k < n
      · have k0 : (0 : Int) ≤ (k : Int) := by omega
        have k1 : (k : Int) < (n : Int) := by omega
        have hkT : k < T.length := by rw [HN.out]; exact hlt
        obtain ⟨g, off, rfl, hg, c0, c1, c2⟩ := (HT.out.below (by have := HB.out; rwa [← HBK.out] at this)) k T[k] (List.getElem?_eq_getElem hkT)
        have HT2 : Hid (((T.take (k + 1)).map te).flatMap Sl.pt = ((T.take k).map te).flatMap Sl.pt ++ Sl.pt (te T[k])) := Lib.hid (by rw [take_more hkT, List.map_append, List.flatMap_append]; simp only [List.map_cons, List.map_nil, List.flatMap_cons, List.flatMap_nil, List.append_nil])
        have hL := HL.out (k + 1) (by omega)
        rw [HT2.out, List.length_append] at hL
        have HPk := Lib.hid (fun (X : World) => HP.out T[k] (List.getElem_mem hkT) X)
        generalize T[k] = t at *
        generalize ((T.take k).map te).flatMap Sl.pt = acc at *
        generalize Sl.pt (te t) = ptx at *
        obtain ⟨tk, tn, tv⟩ := t
        unfold tV at HPk
        simp only [] at c0 c1 c2 HPk
        obtain ⟨V1, hV1⟩ : ∃ V1, V1 = V.alloc (.cells #[.int .i64 tk, .string tn, .string tv] 39) := ⟨_, rfl⟩
        have hb1 : Below V.heap.size V V1 := by rw [hV1]; exact (Below.refl _ _).alloc (Nat.le_refl _) _
        have HB1 := Lib.hid (HB.out.trans (hb1.mono (Nat.le_of_lt hbl)))
        have HD1 := Lib.hid (bd_below HD.out hb1)
        clear hb1
        go_wp2_with fail
        rw [← hV1]
        clear hV1 c0 c1 c2
        refine (HPk.out V1).mono ?_
        rintro e w5 ⟨rfl, hb⟩
        have hbl1 := bd_lt HD1.out
        have HB5 := Lib.hid (HB1.out.trans (hb.mono (Nat.le_of_lt hbl1)))
        have HD5 := Lib.hid (bd_below HD1.out hb)
        have HW5 := Lib.hid (ws_any b acc (ba ptx) w5 HD5.out (Nat.le_of_lt (bd_lt HD5.out)) (by rw [ba_size]; omega))
        clear hb
        go_wp2_with fail
        refine HW5.out.mono ?_
        rintro e w6 ⟨rfl, hd, hb, -⟩
        have HD6 : Hid (Bd w6 b (((T.take (k + 1)).map te).flatMap Sl.pt)) := Lib.hid (by rw [HT2.out]; exact hd)
        have HB6 := Lib.hid (HB5.out.trans hb)
        clear hd hb
        go_wp2
        go_roundw
        case rel => exact ⟨_, k + 1, rfl, by omega, by go_num, HD6, HB6⟩
        case measure => simp [intOf] <;> omega
      · obtain rfl : k = n := by omega
        have e : T.take k = T := List.take_of_length_le (by rw [HN.out]; exact Nat.le_refl _)
        rw [e, ← HE.out] at HD
        have HS := Lib.hid (str_any b _ V HD.out (Nat.le_of_lt hbl))
        clear e
        go_wp2_with fail
        refine HS.out.mono ?_
        rintro e w6 ⟨rfl, hb, -⟩
        have HB6 := Lib.hid (HB.out.trans hb)
        clear hb
        go_wp2
        go_ret
        exact ⟨rfl, by rw [HBK.out]; exact HB6.out⟩
end Go.Proofs.Ytcfkcifbojckcaa
