/-
  Print's closures, and Print.
-/
import Derived.Test.YtdjhnjokmmbafaaDoorOpThPr
import Derived.Test.YtdjhnjokmmbafaaDoorOpF
import Derived.Shelf.Strconv.Itoa3
import Derived.Lib.ItoaLen
import Derived.Lib.AppendIntMem
namespace Go.Proofs.YtdjhnjokmmbafaaDoor
open Go.ChangeShapes Go.WideShapes Go.ChangeAt Go.RowKit
set_option linter.unusedVariables false
set_option linter.unusedSimpArgs false

/-- The tables are laid: of kinds, and of powers of ten. -/
def TB (w : World) : Prop := KT w ∧ Lib.TabIs Tryd.prog w "internal/strconv.uint64pow10" .u64 Lib.pow10Tab
theorem glob_pow : Tryd.prog.globalNamed "internal/strconv.uint64pow10" = some 1 := by kernel_rfl
theorem TB.below {w w' : World} (h : TB w) (hb : Below w.heap.size w w') : TB w' := by
  refine ⟨h.1.below hb, ?_⟩
  have h2 := h.2
  unfold Lib.TabIs World.var? at h2 ⊢
  rw [glob_pow, Option.bind_some] at h2 ⊢
  have : 1 < w.heap.size := by
    rcases Nat.lt_or_ge 1 w.heap.size with h' | h'
    · exact h'
    · rw [Array.getElem?_eq_none h'] at h2; cases h2
  rw [hb.block 1 this]
  exact h2
theorem itoa_any (n : Int) (w : World) (hn : I64 n) (hT : TB w) :
    Calls Tryd.prog 29 #[.int .i64 n] w (GivesV (.string (ba (Lib.itoa n))) w) := by
  refine (Any.strconv_Itoa Tryd.laysM171 n hn.1 hn.2 w hT.2).mono ?_
  rintro e w' ⟨rfl, k, os, rfl⟩
  exact ⟨rfl, Lib.below_grow _ w (Nat.le_refl _) k os⟩
def pn (n : Int) : List UInt8 := 32 :: Lib.itoa n
def pt (s : ByteArray) : List UInt8 := [32, 91] ++ s.data.toList ++ [93]
def prT (o : Po) : List UInt8 := opt (hasI o.kind) (pn o.id) ++ (opt (hasT o.kind) (pn o.dst) ++ (opt (hasT o.kind) (pn o.pos) ++ (opt (hasN o.kind) (pt o.name) ++ opt (hasX o.kind) (pt o.text))))
/-- An operation's words. -/
def prn (o : Po) : List UInt8 := if mayO o then (kword o.kind).data.toList ++ prT o else []
set_option maxHeartbeats 1000000 in
theorem pr1_any (b : Nat) (l : List UInt8) (n : Int) (w : World) (h : Bd w b l) (hl : l.length ≤ 1000000) (hn : I64 n) (hT : TB w) :
    Calls Tryd.prog 28 #[.int .i64 n, .pointer (some ⟨b, 0, none⟩)] w fun e w' => e = .returned (.int .i64 n) ∧ Bd w' b (l ++ pn n) ∧ Below b w w' ∧ Oth b w w' := by
  have hbl := bd_lt h
  have HI := Lib.hid (fun (V : World) (hV : Below w.heap.size w V) => itoa_any n V hn (hT.below hV))
  have hil := Lib.itoa_length_le n hn.1 hn.2
  obtain ⟨T, hTT⟩ : ∃ T, T = ba (Lib.itoa n) := ⟨_, rfl⟩
  have hTs : T.size ≤ 21 := by rw [hTT, ba_size]; exact hil
  have HP : Hid (pn n = (⟨#[32]⟩ ++ T : ByteArray).data.toList) := Lib.hid (by rw [hTT, ByteArray.data_append]; simp [pn, ba])
  have hA : ∀ W, (Op.stringOp .add ⟨#[32]⟩ T).run Tryd.prog W = .ok (.string (⟨#[32]⟩ ++ T)) W := fun W => run_string_add_sum W _ _ (by show 1 + T.size ≤ _; omega)
  have HW := Lib.hid (fun (V : World) (hV : Below w.heap.size w V) => ws_any b l (⟨#[32]⟩ ++ T) V (bd_below h hV) (Nat.le_trans (Nat.le_of_lt hbl) hV.size) (by rw [ByteArray.size_append]; show l.length + (1 + T.size) ≤ _; omega))
  rw [← hTT] at HI
  clear hTT h hT hil
  go_enter Tryd.func28, Tryd.ntmps28
  go_wp2_with fail
  refine (HI.out w (Below.refl _ _)).mono ?_
  rintro e w1 ⟨rfl, hb1⟩
  have HB1 := Lib.hid hb1
  clear hb1
  go_wp2_with fail
  refine (HW.out w1 HB1.out).mono ?_
  rintro e w2 ⟨rfl, hB2, hb2, hO2⟩
  have H2 := Lib.hid (And.intro hB2 (And.intro hb2 hO2))
  clear hB2 hb2 hO2
  go_wp2
  go_ret
  exact ⟨rfl, by rw [HP.out]; exact H2.out.1, (HB1.out.mono (Nat.le_of_lt hbl)).trans H2.out.2.1, (oth_below b HB1.out).trans H2.out.2.2⟩
set_option maxHeartbeats 1000000 in
theorem pr2_any (b : Nat) (l : List UInt8) (s : ByteArray) (w : World) (h : Bd w b l) (hl : l.length ≤ 1000000) (hs : s.size ≤ 255) :
    Calls Tryd.prog 30 #[.string s, .pointer (some ⟨b, 0, none⟩)] w fun e w' => e = .returned (.string s) ∧ Bd w' b (l ++ pt s) ∧ Below b w w' ∧ Oth b w w' := by
  have hbl := bd_lt h
  have HP : Hid (pt s = (⟨#[32, 91]⟩ ++ s ++ ⟨#[93]⟩ : ByteArray).data.toList) := Lib.hid (by rw [ByteArray.data_append, ByteArray.data_append]; simp [pt])
  have hA : ∀ W, (Op.stringOp .add ⟨#[32, 91]⟩ s).run Tryd.prog W = .ok (.string (⟨#[32, 91]⟩ ++ s)) W := fun W => run_string_add_sum W _ _ (by show 2 + s.size ≤ _; omega)
  have hA2 : ∀ W, (Op.stringOp .add (⟨#[32, 91]⟩ ++ s) ⟨#[93]⟩).run Tryd.prog W = .ok (.string (⟨#[32, 91]⟩ ++ s ++ ⟨#[93]⟩)) W := fun W => run_string_add_sum W _ _ (by rw [ByteArray.size_append]; show 2 + s.size + 1 ≤ _; omega)
  have HW := Lib.hid (ws_any b l (⟨#[32, 91]⟩ ++ s ++ ⟨#[93]⟩) w h (Nat.le_of_lt hbl) (by rw [ByteArray.size_append, ByteArray.size_append]; show l.length + (2 + s.size + 1) ≤ _; omega))
  clear h
  go_enter Tryd.func30, Tryd.ntmps30
  go_wp2_with fail
  refine HW.out.mono ?_
  rintro e w2 ⟨rfl, hB2, hb2, hO2⟩
  have H2 := Lib.hid (And.intro hB2 (And.intro hb2 hO2))
  clear hB2 hb2 hO2
  go_wp2
  go_ret
  exact ⟨rfl, by rw [HP.out]; exact H2.out.1, H2.out.2.1, H2.out.2.2⟩
theorem thr_pr (b : Nat) (l : List UInt8) (o : Po) (w : World) (hk : isK o.kind = true) (hf : Fit o) (h1 : o.name.size ≤ 255) (h2 : o.text.size ≤ 255) (hT : TB w) (hB : Bd w b l) (hb0 : 2 ≤ b) (hl : l.length ≤ 100000) :
    Calls Tryd.prog 22 #[opv o, .func (.func 28) #[] #[.pointer (some ⟨b, 0, none⟩)], .func (.func 30) #[] #[.pointer (some ⟨b, 0, none⟩)]] w fun e w' => (∃ v, e = .returned v) ∧ Bd w' b (l ++ prT o) ∧ Below b w w' := by
  have hbl := bd_lt hB
  have tb : ∀ V, Below b w V → TB V := fun V hV => by
    have h0 := hT
    refine ⟨⟨Nat.lt_of_lt_of_le h0.1.1 hV.size, fun k a1 a2 => ?_⟩, ?_⟩
    · have key : ∀ j v, w.cell? ⟨0, j, none⟩ = some v → V.cell? ⟨0, j, none⟩ = some v := fun j v hv => (hV.cell (p := ⟨0, j, none⟩) (show 0 < b by omega)).trans hv
      obtain ⟨c1, c2, c3, c4, c5, c6⟩ := h0.1.2 k a1 a2
      exact ⟨key _ _ c1, key _ _ c2, key _ _ c3, key _ _ c4, key _ _ c5, key _ _ c6⟩
    · have h2 := h0.2
      unfold Lib.TabIs World.var? at h2 ⊢
      rw [glob_pow, Option.bind_some] at h2 ⊢
      rw [hV.block 1 (by omega)]
      exact h2
  refine (thrPr_any (σ := List UInt8 × Nat) b (fun s V => Bd V b s.1 ∧ Below b w V ∧ s.1.length ≤ 100000 + 300 * s.2) (fun s n => (n, (s.1 ++ pn n, s.2 + 1))) (fun s t => (t, (s.1 ++ pt t, s.2 + 1))) (fun s => s.2) I64 (fun t => t.size ≤ 255) (fun _ _ => Nat.le_refl _) (fun _ _ => Nat.le_refl _)
    (fun s n V hr hn hI => ?_) (fun s t V hr ht hI => ?_) w (fun s V V' hI hS => ?_) (l, 0) rfl ⟨hB, Below.refl _ _, by simpa using hl⟩ hT.1 o hk hf.i hf.t hf.a h1 h2).mono ?_
  · refine (pr1_any b s.1 n V hI.1 (by have := hI.2.2; omega) hn (tb V hI.2.1)).mono ?_
    rintro e V' ⟨rfl, g1, g2, g3⟩
    refine ⟨rfl, ⟨g1, hI.2.1.trans g2, ?_⟩, oth_keepO hI.1 g3 g2.size⟩
    have := Lib.itoa_length_le n hn.1 hn.2
    have := hI.2.2
    simp only [List.length_append, pn, List.length_cons]
    omega
  · refine (pr2_any b s.1 t V hI.1 (by have := hI.2.2; omega) ht).mono ?_
    rintro e V' ⟨rfl, g1, g2, g3⟩
    refine ⟨rfl, ⟨g1, hI.2.1.trans g2, ?_⟩, oth_keepO hI.1 g3 g2.size⟩
    have := hI.2.2
    have hs := Lib.size_eq t
    simp only [List.length_append, pt, List.length_cons, List.length_nil]
    omega
  · exact ⟨bd_keep hI.1 hS.2, hI.2.1.trans (hS.1.mono (Nat.le_of_lt hbl)), hI.2.2⟩
  · rintro e w' ⟨rfl, hI⟩
    refine ⟨⟨_, rfl⟩, ?_, hI.2.1⟩
    have := hI.1
    have e1 : (thrM (σ := List UInt8 × Nat) (fun s n => (n, (s.1 ++ pn n, s.2 + 1))) (fun s t => (t, (s.1 ++ pt t, s.2 + 1))) o (l, 0)).2.1 = l ++ prT o := by
      unfold thrM prT opt
      simp only []
      cases hasI o.kind <;> cases hasT o.kind <;> cases hasN o.kind <;> cases hasX o.kind <;> simp
    rw [e1] at this
    exact this
set_option maxRecDepth 100000 in
set_option maxHeartbeats 4000000 in
theorem print_any (o : Po) (w : World) (hf : Fit o) (hT : TB w) :
    Calls Tryd.prog 13 #[opv o] w (GivesV (.string (ba (prn o))) w) := by
  have HT := Lib.hid hT
  have hw2 : 2 ≤ w.heap.size := by
    have h2 := hT.2
    unfold Lib.TabIs World.var? at h2
    rw [glob_pow, Option.bind_some] at h2
    rcases Nat.lt_or_ge 1 w.heap.size with h' | h'
    · exact h'
    · rw [Array.getElem?_eq_none h'] at h2; cases h2
  have HM := Lib.hid (fun (V : World) (hV : Below w.heap.size w V) => may_any o V (hT.below hV).1)
  have HP : Hid (prn o = if mayO o then (kword o.kind).data.toList ++ prT o else []) := Lib.hid rfl
  generalize prn o = R at *
  clear hT
  unfold opv at HM ⊢
  obtain ⟨W, hW⟩ : ∃ W, W = w.alloc (.cells #[.int .i64 o.kind, .int .i64 o.id, .int .i64 o.dst, .int .i64 o.pos, .string o.name, .string o.text] 23) := ⟨_, rfl⟩
  have HWb : Hid (Below w.heap.size w W) := Lib.hid (by rw [hW]; exact (Below.refl _ _).alloc (Nat.le_refl _) _)
  have HWk : Hid (W.heap[w.heap.size]? = some (.cells #[.int .i64 o.kind, .int .i64 o.id, .int .i64 o.dst, .int .i64 o.pos, .string o.name, .string o.text] 23 (0, 0))) := Lib.hid (by rw [hW]; exact heap_alloc_new _ _)
  go_enter Tryd.func13, Tryd.ntmps13
  go_wp2_with fail
  rw [← hW]
  clear hW
  refine (HM.out W HWb.out).mono ?_
  rintro e w2 ⟨rfl, hb2⟩
  have HB2 : Hid (Below w.heap.size w w2) := Lib.hid (HWb.out.trans (hb2.mono HWb.out.size))
  have HK2 : Hid (w2.heap[w.heap.size]? = some (.cells #[.int .i64 o.kind, .int .i64 o.id, .int .i64 o.dst, .int .i64 o.pos, .string o.name, .string o.text] 23 (0, 0))) := Lib.hid ((hb2.block _ (lt_of_block HWk.out)).trans HWk.out)
  clear hb2
  cases hmo : mayO o with
  | false =>
    have HR : Hid (R = []) := Lib.hid (by rw [HP.out, hmo]; rfl)
    clear hmo
    go_wp2
    go_ret
    rw [HR.out]
    exact ⟨rfl, HB2.out⟩
  | true =>
    obtain ⟨m1, m2, m3, m4, m5, m6, m7, m8⟩ := mayO_parts hmo
    have HR : Hid (R = (kword o.kind).data.toList ++ prT o) := Lib.hid (by rw [HP.out, hmo]; rfl)
    obtain ⟨kd, i, t, a, n, x⟩ := o
    simp only [] at m1 m7 m8 HR
    obtain ⟨k, rfl⟩ : ∃ k : Nat, kd = k := ⟨kd.toNat, by have := isK_iff.1 m1; omega⟩
    have hk' : 1 ≤ k ∧ k ≤ 8 := by have := isK_iff.1 m1; omega
    have hT2 := HT.out.below HB2.out
    obtain ⟨t0, -, -, -, -, -⟩ := hT2.1.2 k hk'.1 hk'.2
    have hg0 := hT2.1.1
    have k0 : (0 : Int) ≤ (k : Int) := by omega
    have k9 : (k : Int) < 9 := by omega
    have hw2b : w.heap.size ≤ w2.heap.size := HB2.out.size
    obtain ⟨V, hV⟩ : ∃ V, V = w2.alloc (.cells #[.pointer none, .slice none 0 0] 54) := ⟨_, rfl⟩
    have HVB : Hid (Bd V w2.heap.size []) := Lib.hid (by rw [hV]; exact bd_new w2)
    have HVb : Hid (Below w2.heap.size w2 V) := Lib.hid (by rw [hV]; exact (Below.refl _ _).alloc (Nat.le_refl _) _)
    have hkw : (kword (k : Int)).size ≤ 10 := by
      unfold kword
      repeat (first | split | decide)
    have HKV : Hid (V.heap[w.heap.size]? = some (.cells #[.int .i64 (k : Int), .int .i64 i, .int .i64 t, .int .i64 a, .string n, .string x] 23 (0, 0))) := Lib.hid ((HVb.out.block _ (lt_of_block HK2.out)).trans HK2.out)
    have HWs := Lib.hid (ws_any w2.heap.size [] (kword (k : Int)) V HVB.out (Nat.le_of_lt (bd_lt HVB.out)) (by simp; omega))
    have HTh := Lib.hid (fun (U : World) (hU : TB U) (hB : Bd U w2.heap.size ([] ++ (kword (k : Int)).data.toList)) => thr_pr w2.heap.size ([] ++ (kword (k : Int)).data.toList) ⟨(k : Int), i, t, a, n, x⟩ U m1 hf m7 m8 hU hB (by omega) (by rw [List.nil_append, ← Lib.size_eq]; omega))
    have HTV : Hid (TB V) := Lib.hid (hT2.below HVb.out)
    have t0' : V.cell? ⟨0, k * 6, none⟩ = some (.string (kword (k : Int))) := (HVb.out.cell (p := ⟨0, k * 6, none⟩) hg0).trans t0
    obtain ⟨x0, x1, x2, x3, x4, x5⟩ := block6 HKV.out
    have hgV : 0 < V.heap.size := Nat.lt_of_lt_of_le hg0 HVb.out.size
    clear hmo m1 m2 m3 m4 m5 m6 m7 m8 hk' t0 hT2 HP HM
    generalize kword (k : Int) = wd at *
    unfold opv at HTh
    go_upto_region 4 with fail
    rw [← hV]
    clear hV
    go_wp2_with fail
    refine HWs.out.mono ?_
    rintro e w3 ⟨rfl, hB3, hb3, hO3⟩
    have HBd3 := Lib.hid hB3
    have HB23 := Lib.hid (HVb.out.trans hb3)
    have HK3 : Hid (w3.heap[w.heap.size]? = some (.cells #[.int .i64 (k : Int), .int .i64 i, .int .i64 t, .int .i64 a, .string n, .string x] 23 (0, 0))) := Lib.hid ((HB23.out.block _ (lt_of_block HK2.out)).trans HK2.out)
    have HT3 : Hid (TB w3) := Lib.hid ((HT.out.below HB2.out).below HB23.out)
    clear hB3 hb3 hO3 x0 x1 x2 x3 x4 x5
    obtain ⟨x0, x1, x2, x3, x4, x5⟩ := block6 HK3.out
    go_wp2_with fail
    refine (HTh.out w3 HT3.out HBd3.out).mono ?_
    rintro e w4 ⟨⟨v, rfl⟩, hB4, hb4⟩
    have HS := Lib.hid (str_any w2.heap.size _ w4 hB4 (Nat.le_of_lt (bd_lt hB4)))
    have HB24 := Lib.hid (HB23.out.trans hb4)
    clear hB4 hb4 x0 x1 x2 x3 x4 x5
    go_wp2_with fail
    refine HS.out.mono ?_
    rintro e w5 ⟨rfl, hb5, hO5⟩
    have HB5 := Lib.hid (HB2.out.trans ((HB24.out.trans hb5).mono HB2.out.size))
    clear hb5 hO5
    go_wp2
    go_ret
    rw [HR.out]
    exact ⟨rfl, HB5.out⟩
end Go.Proofs.YtdjhnjokmmbafaaDoor
