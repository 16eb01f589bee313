/-
  Encode.
-/
import Derived.Test.YtdjhnjokmmbafaaDoorOpThEn
import Derived.Test.YtdjhnjokmmbafaaDoorOpC
import Derived.Deep.Cut
import Derived.Deep.QuietTactic
import Derived.BigQuiet
import Derived.WalkSmall
import Derived.Test.YtdjhnjokmmbafaaDoorOpB
namespace Go.Proofs.YtdjhnjokmmbafaaDoor
open Go.ChangeShapes Go.WideShapes Go.ChangeAt Go.RowKit
set_option linter.unusedVariables false
set_option linter.unusedSimpArgs false

/-- What an operation's kind has, as bytes. -/
def encT (o : Po) : List UInt8 := opt (hasI o.kind) (nb o.id) ++ (opt (hasT o.kind) (nb o.dst) ++ (opt (hasT o.kind) (nb o.pos) ++ (opt (hasN o.kind) (tx o.name) ++ opt (hasX o.kind) (tx o.text))))
theorem enc_eq (o : Po) : enc o = UInt8.ofNat o.kind.toNat :: encT o := rfl
theorem nb_length {n : Int} (h : I64 n) : (nb n).length ≤ 9 := by
  obtain ⟨z0, z1⟩ := zig_bounds n h.1 h.2
  have hK := kOf_le z0 z1
  obtain ⟨q, hq, hql⟩ := told_list (u := zig n) hK
  unfold nb
  rw [hq, List.length_cons, hql]
  omega
theorem tx_length (s : ByteArray) : (tx s).length = s.size + 1 := by
  rw [tx, List.length_cons, ← Lib.size_eq]
theorem KeepO.refl (w : World) : KeepO w w := ⟨Nat.le_refl _, fun k cs h => rfl⟩
theorem KeepO.trans {a b c : World} (h : KeepO a b) (k : KeepO b c) : KeepO a c := ⟨Nat.le_trans h.1 k.1, fun i cs hi => by
  have h1 := h.2 i cs hi
  exact (k.2 i cs (by rw [h1]; exact hi)).trans h1⟩
theorem KeepO.below {n : Nat} {a b c : World} (h : KeepO a b) (hn : n = a.heap.size) (hb : Below n b c) : KeepO a c := ⟨Nat.le_trans h.1 hb.size, fun i cs hi => by
  have h1 := h.2 i cs hi
  have : i < n := by rw [hn]; rcases hi with hi | hi <;> exact lt_of_block hi
  exact (hb.block i this).trans h1⟩
theorem thr_en (b : Nat) (l : List UInt8) (o : Po) (w : World) (hk : isK o.kind = true) (hf : Fit o) (h1 : o.name.size ≤ 255) (h2 : o.text.size ≤ 255) (hK : KT w) (hB : Bd w b l) (hl : l.length ≤ 100000) :
    Calls Tryd.prog 22 #[opv o, .func (.func 34) #[] #[.pointer (some ⟨b, 0, none⟩)], .func (.func 37) #[] #[.pointer (some ⟨b, 0, none⟩)]] w fun e w' => (∃ v, e = .returned v) ∧ Bd w' b (l ++ encT o) ∧ Below b w w' ∧ KeepO w w' := by
  have hbl := bd_lt hB
  refine (thrEn_any (σ := List UInt8 × Nat) b (fun s V => Bd V b s.1 ∧ Below b w V ∧ KeepO w V ∧ s.1.length ≤ 100000 + 300 * s.2) (fun s n => (n, (s.1 ++ nb n, s.2 + 1))) (fun s t => (t, (s.1 ++ tx t, s.2 + 1))) (fun s => s.2) I64 (fun t => t.size ≤ 255) (fun _ _ => Nat.le_refl _) (fun _ _ => Nat.le_refl _)
    (fun s n V hr hn hI => ?_) (fun s t V hr ht hI => ?_) w (fun s V V' hI hS => ?_) (l, 0) rfl ⟨hB, Below.refl _ _, KeepO.refl _, by simpa using hl⟩ hK o hk hf.i hf.t hf.a h1 h2).mono ?_
  · refine (en1_any b s.1 n V hI.1 (by have := hI.2.2.2; omega) hn).mono ?_
    rintro e V' ⟨rfl, g1, g2, g3⟩
    have hk := oth_keepO hI.1 g3 g2.size
    refine ⟨rfl, ⟨g1, hI.2.1.trans g2, hI.2.2.1.trans hk, ?_⟩, hk⟩
    have := nb_length hn
    have := hI.2.2.2
    simp only [List.length_append]
    omega
  · refine (en2_any b s.1 t V hI.1 (by have := hI.2.2.2; omega) ht).mono ?_
    rintro e V' ⟨rfl, g1, g2, g3⟩
    have hk := oth_keepO hI.1 g3 g2.size
    refine ⟨rfl, ⟨g1, hI.2.1.trans g2, hI.2.2.1.trans hk, ?_⟩, hk⟩
    have := tx_length t
    have := hI.2.2.2
    simp only [List.length_append]
    omega
  · exact ⟨bd_keep hI.1 hS.2, hI.2.1.trans (hS.1.mono (Nat.le_of_lt hbl)), hI.2.2.1.below rfl hS.1, hI.2.2.2⟩
  · rintro e w' ⟨rfl, hI⟩
    refine ⟨⟨_, rfl⟩, ?_, hI.2.1, hI.2.2.1⟩
    have := hI.1
    have e1 : (thrM (σ := List UInt8 × Nat) (fun s n => (n, (s.1 ++ nb n, s.2 + 1))) (fun s t => (t, (s.1 ++ tx t, s.2 + 1))) o (l, 0)).2.1 = l ++ encT o := by
      unfold thrM encT opt
      simp only []
      cases hasI o.kind <;> cases hasT o.kind <;> cases hasN o.kind <;> cases hasX o.kind <;> simp
    rw [e1] at this
    exact this
/-- A list of operations that can be read. -/
def OL (w : World) (A : Option Addr) (l : List Po) : Prop := ∀ i o, l[i]? = some o → Fit o ∧ ∃ g off, A = some ⟨g, off, none⟩ ∧ g < w.heap.size ∧ w.cell? ⟨g, off + i * 6, none⟩ = some (.int .i64 o.kind) ∧ w.cell? ⟨g, off + i * 6 + 1, none⟩ = some (.int .i64 o.id) ∧ w.cell? ⟨g, off + i * 6 + 2, none⟩ = some (.int .i64 o.dst) ∧ w.cell? ⟨g, off + i * 6 + 3, none⟩ = some (.int .i64 o.pos) ∧ w.cell? ⟨g, off + i * 6 + 4, none⟩ = some (.string o.name) ∧ w.cell? ⟨g, off + i * 6 + 5, none⟩ = some (.string o.text)
theorem OL.below {w w' : World} {A : Option Addr} {l : List Po} (h : OL w A l) (hb : Below w.heap.size w w') : OL w' A l := fun i o ho => by
  obtain ⟨hf, g, off, hA, hg, a, b, c, d, e, f⟩ := h i o ho
  have key : ∀ j v, w.cell? ⟨g, j, none⟩ = some v → w'.cell? ⟨g, j, none⟩ = some v := fun j v hv => (hb.cell (p := ⟨g, j, none⟩) hg).trans hv
  exact ⟨hf, g, off, hA, Nat.lt_of_lt_of_le hg hb.size, key _ _ a, key _ _ b, key _ _ c, key _ _ d, key _ _ e, key _ _ f⟩
set_option maxRecDepth 100000 in
set_option maxHeartbeats 4000000 in
theorem encode_any (A : Option Addr) (l : List Po) (c : Nat) (w : World) (hA : OL w A l) (hn : l.length ≤ 9223372036854775807) (hK : KT w) :
    Calls Tryd.prog 15 #[.slice A l.length c] w (GivesV (.tuple #[.string (ba (encR l).1), .int .i64 (encR l).2]) w) := by
  have HA := Lib.hid hA
  have HK := Lib.hid hK
  clear hA hK
  by_cases h20 : 20 < l.length
  · have : encR l = ([], 2) := by rw [encR, if_pos h20]
    rw [this]
    have h20' : (20 : Int) < (l.length : Int) := by omega
    go_enter Tryd.func15, Tryd.ntmps15
    go_wp2
    go_ret2
    exact ⟨rfl, Below.refl _ _⟩
  · have h20' : ¬ (20 : Int) < (l.length : Int) := by omega
    have HE : Hid (encR l = if l.all mayO then (encL l, 0) else ([], 1)) := Lib.hid (by rw [encR, if_neg h20])
    generalize encR l = R at *
    obtain ⟨n, hnn⟩ : ∃ n, l.length = n := ⟨_, rfl⟩
    have HNN := Lib.hid hnn
    rw [hnn] at hn h20 h20' ⊢
    clear hnn
    go_enter Tryd.func15, Tryd.ntmps15
    have hg0 : 0 < w.heap.size := HK.out.1
    have HB0 := Lib.hid (bd_new w)
    have HBe0 : Hid (Below w.heap.size w (w.alloc (.cells #[.pointer none, .slice none 0 0] 54))) := Lib.hid ((Below.refl _ _).alloc (Nat.le_refl _) _)
    go_wp2_with fail
    go_loopw [12] (fun q wv => ∃ (V : World) (j : Nat), V = wv ∧ j ≤ n ∧ q = .int .i64 j ∧ Hid ((l.take j).all mayO = true) ∧ Hid (Bd V w.heap.size (encL (l.take j))) ∧ Hid (Below w.heap.size w V) ∧ Hid ((encL (l.take j)).length ≤ 1000 * j)) (fun q _ => n - (intOf q).toNat)
    case atStart => exact ⟨_, 0, rfl, Nat.zero_le _, rfl, Lib.hid rfl, HB0, HBe0, Lib.hid (Nat.zero_le _)⟩
    case round =>
      obtain ⟨V, j, rfl, hj, rfl, HAll, HBd, HBe, HLn⟩ := hrel
      by_cases hlt : j < n
      · have k0 : (0 : Int) ≤ (j : Int) := by omega
        have k1 : (j : Int) < (n : Int) := by omega
        have hjl : j < l.length := by rw [HNN.out]; exact hlt
        obtain ⟨hfo, g, off, rfl, hg, c0, c1, c2, c3, c4, c5⟩ := HA.out.below HBe.out j l[j] (List.getElem?_eq_getElem hjl)
        have HAll2 : Hid ((l.take (j + 1)).all mayO = mayO l[j]) := Lib.hid (by rw [List.take_add_one, List.getElem?_eq_getElem hjl, List.all_append, HAll.out]; simp)
        have HEn : Hid (encL (l.take (j + 1)) = encL (l.take j) ++ enc l[j]) := Lib.hid (by rw [List.take_add_one, List.getElem?_eq_getElem hjl, encL, List.flatMap_append]; simp [encL])
        have HNo : Hid (mayO l[j] = false → l.all mayO = false) := Lib.hid (fun h => List.all_eq_false.2 ⟨_, List.getElem_mem hjl, by rw [h]; simp⟩)
        have HFo := Lib.hid hfo
        clear hfo
        generalize l[j] = o at *
        obtain ⟨W1, hW1⟩ : ∃ W1, W1 = V.alloc (.cells #[.int .i64 o.kind, .int .i64 o.id, .int .i64 o.dst, .int .i64 o.pos, .string o.name, .string o.text] 23) := ⟨_, rfl⟩
        have HW1b : Hid (Below V.heap.size V W1) := Lib.hid (by rw [hW1]; exact (Below.refl _ _).alloc (Nat.le_refl _) _)
        have HW1k : Hid (W1.heap[V.heap.size]? = some (.cells #[.int .i64 o.kind, .int .i64 o.id, .int .i64 o.dst, .int .i64 o.pos, .string o.name, .string o.text] 23 (0, 0))) := Lib.hid (by rw [hW1]; exact heap_alloc_new _ _)
        have HKT1 : Hid (KT W1) := Lib.hid (HK.out.below (HBe.out.trans (HW1b.out.mono HBe.out.size)))
        have HM := Lib.hid (may_any o W1 HKT1.out)
        have HBd1 : Hid (Bd W1 w.heap.size (encL (l.take j))) := Lib.hid (bd_below HBd.out HW1b.out)
        have HBe1 : Hid (Below w.heap.size w W1) := Lib.hid (HBe.out.trans (HW1b.out.mono HBe.out.size))
        unfold opv at HM
        go_upto_region 7 with fail
        rw [← hW1]
        clear hW1 c0 c1 c2 c3 c4 c5
        obtain ⟨x0, x1, x2, x3, x4, x5⟩ := block6 HW1k.out
        go_wp2_with fail
        refine HM.out.mono ?_
        rintro e w2 ⟨rfl, hb2⟩
        have HB2 : Hid (Below w.heap.size w w2) := Lib.hid (HBe1.out.trans (hb2.mono HBe1.out.size))
        have HBd2 : Hid (Bd w2 w.heap.size (encL (l.take j))) := Lib.hid (bd_below HBd1.out hb2)
        have HK2 : Hid (w2.heap[V.heap.size]? = some (.cells #[.int .i64 o.kind, .int .i64 o.id, .int .i64 o.dst, .int .i64 o.pos, .string o.name, .string o.text] 23 (0, 0))) := Lib.hid ((hb2.block _ (lt_of_block HW1k.out)).trans HW1k.out)
        clear x0 x1 x2 x3 x4 x5 hb2 HM
        cases hmo : mayO o with
        | false =>
          have HR : Hid (R = ([], 1)) := Lib.hid (by rw [HE.out, HNo.out hmo]; rfl)
          clear hmo
          go_wp2
          go_ret2
          rw [HR.out]
          exact ⟨rfl, HB2.out⟩
        | true =>
          obtain ⟨m1, m2, m3, m4, m5, m6, m7, m8⟩ := mayO_parts hmo
          have hkr := isK_iff.1 m1
          have HWb := Lib.hid (wb_any w.heap.size (encL (l.take j)) (UInt8.ofNat o.kind.toNat) w2 HBd2.out (Nat.le_of_lt (bd_lt HBd2.out)) (by have := HLn.out; omega))
          rw [kind_nat m1] at HWb
          have HTh := Lib.hid (fun (U : World) (hU : KT U) (hB : Bd U w.heap.size (encL (l.take j) ++ [UInt8.ofNat o.kind.toNat])) => thr_en w.heap.size (encL (l.take j) ++ [UInt8.ofNat o.kind.toNat]) o U m1 HFo.out m7 m8 hU hB (by rw [List.length_append]; have := HLn.out; simp; omega))
          have HEq : Hid (encL (l.take j) ++ [UInt8.ofNat o.kind.toNat] ++ encT o = encL (l.take (j + 1))) := Lib.hid (by rw [HEn.out, enc_eq, List.append_assoc]; rfl)
          have HLn2 : Hid ((encL (l.take (j + 1))).length ≤ 1000 * (j + 1)) := Lib.hid (by
            have h1 : (enc o).length ≤ 1000 := by
              have a1 := nb_length HFo.out.i
              have a2 := nb_length HFo.out.t
              have a3 := nb_length HFo.out.a
              have a4 := tx_length o.name
              have a5 := tx_length o.text
              have key : ∀ (b : Bool) (l : List UInt8), (opt b l).length ≤ l.length := fun b l => by cases b <;> simp [opt]
              have b1 := key (hasI o.kind) (nb o.id)
              have b2 := key (hasT o.kind) (nb o.dst)
              have b3 := key (hasT o.kind) (nb o.pos)
              have b4 := key (hasN o.kind) (tx o.name)
              have b5 := key (hasX o.kind) (tx o.text)
              rw [enc, List.length_cons]
              simp only [List.length_append]
              omega
            rw [HEn.out, List.length_append]
            have := HLn.out
            omega)
          have HA2 : Hid ((l.take (j + 1)).all mayO = true) := Lib.hid (by rw [HAll2.out, hmo])
          clear hmo m1 m2 m3 m4 m5 m6 m7 m8
          unfold opv at HTh
          obtain ⟨x0, x1, x2, x3, x4, x5⟩ := block6 HK2.out
          have hk1 : (1 : Int) ≤ o.kind := hkr.1
          have hk8 : o.kind ≤ 8 := hkr.2
          clear hkr
          go_wp2_with fail
          refine HWb.out.mono ?_
          rintro e w3 ⟨rfl, hB3, hb3, hO3⟩
          have HBd3 := Lib.hid hB3
          have HB3 : Hid (Below w.heap.size w w3) := Lib.hid (HB2.out.trans hb3)
          have HK3 : Hid (w3.heap[V.heap.size]? = some (.cells #[.int .i64 o.kind, .int .i64 o.id, .int .i64 o.dst, .int .i64 o.pos, .string o.name, .string o.text] 23 (0, 0))) := Lib.hid (((oth_keepO HBd2.out hO3 hb3.size).2 _ _ (.inl HK2.out)).trans HK2.out)
          clear hB3 hb3 hO3 x0 x1 x2 x3 x4 x5
          obtain ⟨x0, x1, x2, x3, x4, x5⟩ := block6 HK3.out
          go_wp2_with fail
          refine (HTh.out w3 (HK.out.below HB3.out) HBd3.out).mono ?_
          rintro e w4 ⟨⟨v, rfl⟩, hB4, hb4, hk4⟩
          rw [HEq.out] at hB4
          have HBd4 := Lib.hid hB4
          have HB4 := Lib.hid (HB3.out.trans hb4)
          clear hB4 hb4 hk4 x0 x1 x2 x3 x4 x5
          go_wp2
          go_roundw
          case rel => exact ⟨_, j + 1, rfl, by omega, by go_num, HA2, HBd4, HB4, HLn2⟩
          case measure => simp [intOf] <;> omega
      · obtain rfl : j = n := by omega
        have e : l.take j = l := List.take_of_length_le (by rw [HNN.out]; exact Nat.le_refl _)
        rw [e] at HAll HBd
        have HR : Hid (R = (encL l, 0)) := Lib.hid (by rw [HE.out, HAll.out]; rfl)
        have HS := Lib.hid (str_any w.heap.size (encL l) V HBd.out (Nat.le_of_lt (bd_lt HBd.out)))
        go_wp2_with fail
        refine HS.out.mono ?_
        rintro e w2 ⟨rfl, hb2, hO2⟩
        have HB2 := Lib.hid (HBe.out.trans hb2)
        clear hb2 hO2
        go_wp2
        go_ret2
        rw [HR.out]
        exact ⟨rfl, HB2.out⟩
end Go.Proofs.YtdjhnjokmmbafaaDoor
