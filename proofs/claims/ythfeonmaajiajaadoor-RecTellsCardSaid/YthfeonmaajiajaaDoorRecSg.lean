/-
  The document's own Unpack.
-/
import Derived.Test.YthfeonmaajiajaaDoorRecSf
import Derived.Test.YthfeonmaajiajaaDoorRecSe
import Derived.Test.YthfeonmaajiajaaDoorRecP
namespace Go.Proofs.YthfeonmaajiajaaDoor
open Go.ChangeShapes Go.WideShapes Go.ChangeAt Go.RowKit
open Rm
set_option linter.unusedVariables false
set_option linter.unusedSimpArgs false

theorem LV.lo {w w' : World} {A : Option Addr} {vs : List Value} {B : Nat} (h : LV w A vs) (hA : ∀ a, A = some a → a.block < B) (hb : Below B w w') : LV w' A vs := fun h0 => by
  obtain ⟨g, off, e, hg, hc⟩ := h h0
  have hgB : g < B := hA _ e
  exact ⟨g, off, e, Nat.lt_of_lt_of_le hg hb.size, fun j u hu => (World.cell?_of_block (a := ⟨g, off + j, none⟩) (hb.block g hgB)).trans (hc j u hu)⟩
/-- Where Unpack stands: its result lies in the first block, the node in block k. -/
structure RX (w X : World) (k : Nat) (cs : Array Value) : Prop where
  rs : X.heap[w.heap.size]? = some (.cells zrec 37 (0, 0))
  r : X.heap[k]? = some (.cells cs 37 (0, 0))
  lt : w.heap.size < k
  be : Below w.heap.size w X
theorem RX.sz {w X : World} {k : Nat} {cs : Array Value} (h : RX w X k cs) : k < X.heap.size := lt_of_block h.r
theorem RX.step {w X Y : World} {k B : Nat} {cs : Array Value} (h : RX w X k cs) (hb : Below B X Y) (hB : k < B) : RX w Y k cs := by
  have := h.lt
  exact ⟨(hb.block _ (by omega)).trans h.rs, (hb.block _ hB).trans h.r, h.lt, h.be.trans (hb.mono (by omega))⟩
theorem RX.set {w X : World} {k : Nat} {cs cs' : Array Value} (h : RX w X k cs) (j : Nat) (v : Value) (hc : cs.setIfInBounds j v = cs') : RX w (X.setCell ⟨k, j, none⟩ v) k cs' := by
  have := h.lt
  have hb : Below k X (X.setCell ⟨k, j, none⟩ v) := (Below.refl _ X).setCell (p := ⟨k, j, none⟩) (Nat.le_refl _) v
  refine ⟨(hb.block _ h.lt).trans h.rs, ?_, h.lt, h.be.trans (hb.mono (by omega))⟩
  rw [set_block h.r, hc]
theorem div_nat {h : Int} (a b : Int) (h0 : 0 ≤ h) (ha : 0 < a) (hb : 0 < b) : ∃ n : Nat, h / a % b = (n : Int) := by
  have := Int.emod_nonneg (h / a) (show b ≠ 0 by omega)
  exact ⟨(h / a % b).toNat, by omega⟩

theorem rc_eq {a b : Rc} (h1 : a.kind = b.kind) (h2 : a.par = b.par) (h3 : a.name = b.name) (h4 : a.text = b.text) (h5 : a.attrs = b.attrs) (h6 : a.root = b.root) (h7 : a.size = b.size) : a = b := by
  cases a; cases b; simp_all
theorem own_otherT {w : World} {base base' : Nat} {e t : TypeId} {v v' : Value} {n n' : Nat} {xs xs' : List Value} (h : w.ownsRow base e 1 v n xs) (h' : w.ownsRow base' t 1 v' n' xs') (hne : e ≠ t) : v.ownBlock = none ∨ v.ownBlock ≠ v'.ownBlock := by
  rcases h.2 with ⟨rfl, -⟩ | ⟨g, cap, cur, rfl, _, hg, _⟩
  · exact .inl rfl
  · right
    intro he
    rcases h'.2 with ⟨rfl, -⟩ | ⟨g', cap', cur', rfl, _, hg', _⟩
    · cases he
    · obtain rfl : g = g' := by simpa [Value.ownBlock] using he
      rw [hg] at hg'
      cases hg'
      exact hne rfl
theorem kept_int {w w' : World} {b n m : Nat} {V V' : Value} {xs ys : List Value} (h : w.ownsRow b 3 1 V n xs) (h' : w.ownsRow b 9 1 V' m ys) (o : Obj) (hg : (w.alloc o).grownBy w' V'.ownBlock) : w'.ownsRow b 3 1 V n xs :=
  (h.alloc o).kept hg (own_otherT (h.alloc o) (h'.alloc o) (by decide))
theorem parts_G (p : Option Addr) (n c m : Nat) (l : List Int) (hl : l.length = n) (h1 : m ≤ n) (h2 : n ≤ c) : ∃ (p2 : Option Addr) (m2 c2 : Nat),
    (∀ W, Sem.run Tryd.prog (Instr.slice 28 (.slice p n c) (some (.int .i64 (m : Int))) none none) W = .ok (.slice p2 m2 c2) W) ∧
    (∀ W, LV W p (gvs l) → LV W p2 (gvs (l.drop m))) ∧ (l.drop m).length = m2 ∧ m2 = n - m ∧ m2 ≤ c2 ∧ c2 ≤ c ∧ ∀ a, p2 = some a → ∃ b, p = some b ∧ b.block = a.block := by
  refine ⟨subA p c m, n - m, c - m, run_loG p n c m h1, fun W h => ?_, by rw [List.length_drop, hl], rfl, by omega, by omega, fun a h => subA_block h⟩
  have e : gvs (l.drop m) = (gvs l).drop m := by simp [gvs]
  rw [e]
  exact subA_lv h (by rw [gvs_length]; omega)
set_option maxRecDepth 100000 in
set_option maxHeartbeats 4000000 in
theorem runpack_any (A : Option Addr) (n c : Nat) (l : List Int) (w : World) (hA : LV w A (gvs l)) (hl : l.length = n) (hnc : n ≤ c) (hc : c ≤ maxLen) (hn : n ≤ 1000) (hlo : ∀ a, A = some a → a.block < w.heap.size) (hU : U64 l) :
    Calls Tryd.prog 10 #[.slice A n c] w (GivesUn l w) := by
  obtain ⟨W, hW⟩ : ∃ W, W = w.alloc (.cells zrec 37) := ⟨_, rfl⟩
  have HW : Hid (Below w.heap.size w W ∧ W.heap[w.heap.size]? = some (.cells zrec 37 (0, 0))) := Lib.hid (by subst hW; exact ⟨(Below.refl _ w).alloc (Nat.le_refl _) _, heap_new _ _⟩)
  have hsW : w.heap.size < W.heap.size := by subst hW; simp
  have HA := Lib.hid hA
  have HL := Lib.hid hl
  have HU := Lib.hid hU
  have HLO := Lib.hid hlo
  have HC := Lib.hid hc
  have hc' : c ≤ 9223372036854775807 := by unfold maxLen at hc; omega
  clear hA hl hU hlo hc
  go_enter Tryd.func10, Tryd.ntmps10
  go_upto_region 1 with fail
  rw [← hW]
  clear hW
  by_cases h2 : n < 2
  · have h2' : (n : Int) < 2 := by omega
    obtain ⟨u0, u1, u2, u3, u4, u5, u6⟩ := block7 HW.out.2
    have z0 := block_frozen HW.out.2 0
    have z1 := block_frozen HW.out.2 1
    have z2 := block_frozen HW.out.2 2
    have z3 := block_frozen HW.out.2 3
    have z4 := block_frozen HW.out.2 4
    have z5 := block_frozen HW.out.2 5
    have z6 := block_frozen HW.out.2 6
    go_wp2_with fail
    refine bodyPost_ret (v := .tuple #[.agg (rcs zR none 0), .int .i64 4]) (by simp [results, Tryd.results10, go_sem, u0, u1, u2, u3, u4, u5, u6, zR, str]) rfl ?_
    exact ⟨zR, none, 0, 4, rfl, LV.nil _ _, set7 HW.out.1 _ _ _ _ _ _ _, .inr ⟨rfl, rfl, rfl, rfl, fun ⟨q, hq1, hq2⟩ => by have := (qh_of hq1 hq2).two; rw [HL.out] at this; omega⟩⟩
  have h2' : ¬ (n : Int) < 2 := by omega
  have i1 : (1 : Int) < (n : Int) := by omega
  have i0' : (0 : Int) < (n : Int) := by omega
  have i2' : (2 : Int) ≤ (n : Int) := by omega
  have HQ : Hid (∀ q, MayR q → pk q = l → QH l q) := Lib.hid (fun q a b => qh_of a b)
  obtain ⟨g, o, rfl, hg, hcell⟩ := (HA.out.below HW.out.1) (by rw [gvs_length, HL.out]; omega)
  have hc0 : W.cell? ⟨g, o, none⟩ = some (.int .u64 (l.getD 0 0)) := by
    have := hcell 0 (.int .u64 (l.getD 0 0)) (by rw [gvs, List.getElem?_map, List.getElem?_eq_getElem (by rw [HL.out]; omega)]; simp [List.getD, List.getElem?_eq_getElem (show 0 < l.length by rw [HL.out]; omega)])
    exact this
  have hc1 : W.cell? ⟨g, o + 1, none⟩ = some (.int .u64 (l.getD 1 0)) := by
    have := hcell 1 (.int .u64 (l.getD 1 0)) (by rw [gvs, List.getElem?_map, List.getElem?_eq_getElem (by rw [HL.out]; omega)]; simp [List.getD, List.getElem?_eq_getElem (show 1 < l.length by rw [HL.out]; omega)])
    exact this
  have hx := u64_getD HU.out 0
  have hy := u64_getD HU.out 1
  have hgw : g < w.heap.size := HLO.out _ rfl
  clear hcell hg
  obtain ⟨pN, hpN⟩ := div_nat 2097152 16 hx.1 (by decide) (by decide)
  obtain ⟨nN, hnN⟩ := div_nat 1024 32 hx.1 (by decide) (by decide)
  obtain ⟨tN, htN⟩ := div_nat 32768 64 hx.1 (by decide) (by decide)
  obtain ⟨kd, hkd⟩ : ∃ kd, l.getD 0 0 % 4 = kd := ⟨_, rfl⟩
  obtain ⟨pr, hpr⟩ : ∃ pr, l.getD 0 0 / 4 % 256 = pr := ⟨_, rfl⟩
  obtain ⟨sz, hsz⟩ : ∃ sz, l.getD 0 0 / 33554432 % 256 = sz := ⟨_, rfl⟩
  have b1 : 0 ≤ kd ∧ kd < 4 := by rw [← hkd]; omega
  have b2 : 0 ≤ pr ∧ pr < 256 := by rw [← hpr]; omega
  have b3 : 0 ≤ sz ∧ sz < 256 := by rw [← hsz]; omega
  have b4 : pN < 16 := by omega
  have b5 : nN < 32 := by omega
  have b6 : tN < 64 := by omega
  have HQ1 : Hid (∀ q, MayR q → pk q = l → QH l q ∧ kd = q.kind ∧ pr = q.par + 1 ∧ sz = q.size ∧ q.attrs.length = 2 * pN ∧ pN ≤ 8 ∧ nN = q.name.length ∧ tN = q.text.length ∧ l.getD 1 0 = q.root) := Lib.hid (fun q a b => by
    have h := HQ.out q a b
    obtain ⟨a1, a2, a3, a4, a5, a6, a7, a8, a9, a10, a11, a12, a13⟩ := h
    exact ⟨⟨a1, a2, a3, a4, a5, a6, a7, a8, a9, a10, a11, a12, a13⟩, by omega, by omega, by omega, by omega, by omega, by omega, by omega, a9⟩)
  have HX0 := Lib.hid hx
  have hdx : ∀ j : Nat, l.getD j 0 = l.getD j 0 := fun _ => rfl
  generalize hH : l.getD 0 0 = H at *
  generalize hRt : l.getD 1 0 = rt at *
  have HRt := Lib.hid hRt
  clear hH hRt hdx
  obtain ⟨q1, q2⟩ := hx
  obtain ⟨q3, q4⟩ := hy
  obtain ⟨b11, b12⟩ := b1
  obtain ⟨b21, b22⟩ := b2
  obtain ⟨b31, b32⟩ := b3
  have HnN := Lib.hid hnN
  have HtN := Lib.hid htN
  clear hnN htN
  go_upto_region 5 with fail
  clear hkd hpr hsz
  obtain ⟨X1, hX1⟩ : ∃ X1, X1 = W.alloc (.cells #[.int .i64 kd, .int .i64 (pr - 1), .string ⟨#[]⟩, .string ⟨#[]⟩, .slice none 0 0, .int .u64 rt, .int .i64 sz] 37) := ⟨_, rfl⟩
  rw [← hX1]
  have hb1 : Below w.heap.size w X1 := by rw [hX1]; exact HW.out.1.alloc (Nat.le_of_lt hsW) _
  have HR1 : Hid (RX w X1 W.heap.size #[.int .i64 kd, .int .i64 (pr - 1), .string ⟨#[]⟩, .string ⟨#[]⟩, .slice none 0 0, .int .u64 rt, .int .i64 sz]) := Lib.hid ⟨by rw [hX1, heap_old _ _ hsW]; exact HW.out.2, by rw [hX1]; exact heap_new _ _, hsW, hb1⟩
  have hsX : X1.heap.size = W.heap.size + 1 := by rw [hX1]; simp
  clear hX1 hc0 hc1 hb1
  generalize hk5 : W.heap.size = k5 at *
  clear hk5 HW
  have HsX := Lib.hid hsX
  clear hsX
  obtain ⟨p2, n2, c2, hs2, hlv2, hl2, hn2, hnc2, hcc2, hbl2⟩ := parts_G (some ⟨g, o, none⟩) n c 2 l HL.out (by omega) hnc
  have hs2 : ∀ W, Sem.run Tryd.prog (Instr.slice 28 (.slice (some ⟨g, o, none⟩) n c) (some (.int .i64 2)) none none) W = .ok (.slice p2 n2 c2) W := hs2
  have HA2 : Hid (LV w p2 (gvs (l.drop 2))) := Lib.hid (hlv2 w HA.out)
  have HB2 : Hid (∀ a, p2 = some a → a.block < w.heap.size) := Lib.hid (fun a e => by obtain ⟨b, hb, he⟩ := hbl2 a e; have := HLO.out b hb; omega)
  have HL2 : Hid ((l.drop 2).length = n2 ∧ n2 = n - 2 ∧ n2 ≤ c2 ∧ c2 ≤ maxLen) := Lib.hid ⟨hl2, hn2, hnc2, Nat.le_trans hcc2 HC.out⟩
  clear hlv2 hl2 hbl2 hn2 hcc2 hnc2
  generalize hV0 : Value.slice (some ⟨g, o, none⟩) n c = V0 at *
  generalize hV2 : Value.slice p2 n2 c2 = V2 at *
  go_upto_region 6 with fail
  clear hs2
  subst hV0
  subst hV2
  have hc2' : c2 ≤ 9223372036854775807 := by have := HL2.out.2.2.2; unfold maxLen at this; omega
  go_upto_region 8 with fail
  obtain ⟨X2, hX2⟩ : ∃ X2, X2 = X1.alloc (.cells #[] 3) := ⟨_, rfl⟩
  rw [← hX2]
  have HR2 : Hid (RX w X2 k5 #[.int .i64 kd, .int .i64 (pr - 1), .string ⟨#[]⟩, .string ⟨#[]⟩, .slice none 0 0, .int .u64 rt, .int .i64 sz]) := Lib.hid (by rw [hX2]; exact HR1.out.step ((Below.refl (k5 + 1) X1).alloc (by rw [HsX.out]; exact Nat.le_refl _) _) (Nat.lt_succ_self _))
  have HO2 : Hid (X2.ownsRow (k5 + 1) 3 1 (.slice (some ⟨X1.heap.size, 0, none⟩) 0 0) 0 (ivs (dgs l 0))) := Lib.hid (by rw [hX2]; exact World.ownsRow_made (base := k5 + 1) X1 #[] 0 (by rw [HsX.out]; exact Nat.le_refl _) (by simp [maxLen]) rfl)
  clear hX2 HR1
  generalize X1.heap.size = x1 at *
  clear hpN
  go_upto_if 50 with fail
  go_cut [6, 8, 9, 10, 11] from 49 (fun a b s9 s10 s11 X => ∃ (p : Option Addr) (nr cr : Nat) (q : Option Addr) (cq : Nat) (lr : List Int), a = .slice p nr cr ∧ b = .slice q (2 * pN) cq ∧ pN ≤ 8 ∧ Hid (LV X p (gvs lr)) ∧ Hid (lr.length = nr ∧ nr ≤ cr ∧ cr ≤ maxLen ∧ nr ≤ n ∧ U64 lr ∧ (∀ a, p = some a → a.block < w.heap.size) ∧ lr = R1 l pN) ∧ Hid (X.ownsRow (k5 + 1) 3 1 (.slice q (2 * pN) cq) (2 * pN) (ivs (dgs l (2 * pN)))) ∧ Hid (RX w X k5 #[.int .i64 kd, .int .i64 (pr - 1), .string ⟨#[]⟩, .string ⟨#[]⟩, .slice none 0 0, .int .u64 rt, .int .i64 sz]))
  case first =>
    by_cases hp0 : pN = 0
    · have i3 : ¬ (0 : Int) < (pN : Int) := by omega
      have HP0 := Lib.hid hp0
      clear hp0
      go_wp2
      go_meet
      refine ⟨p2, n2, c2, some ⟨x1, 0, none⟩, 0, l.drop 2, rfl, by rw [HP0.out], by have := HP0.out; omega, Lib.hid (HA2.out.lo HB2.out HR2.out.be), Lib.hid ⟨HL2.out.1, HL2.out.2.2.1, HL2.out.2.2.2, by have := HL2.out.2.1; omega, HU.out.drop 2, HB2.out, by rw [HP0.out]; rfl⟩, Lib.hid (by rw [HP0.out]; exact HO2.out), HR2⟩
    have i3 : (0 : Int) < (pN : Int) := by omega
    by_cases hn4 : n2 < 2
    · have i4 : (n2 : Int) < 2 := by omega
      obtain ⟨u0, u1, u2, u3, u4, u5, u6⟩ := block7 HR2.out.rs
      have z0 := block_frozen HR2.out.rs 0
      have z1 := block_frozen HR2.out.rs 1
      have z2 := block_frozen HR2.out.rs 2
      have z3 := block_frozen HR2.out.rs 3
      have z4 := block_frozen HR2.out.rs 4
      have z5 := block_frozen HR2.out.rs 5
      have z6 := block_frozen HR2.out.rs 6
      go_wp2_with fail
      refine bodyPost_ret (v := .tuple #[.agg (rcs zR none 0), .int .i64 4]) (by simp [results, Tryd.results10, go_sem, u0, u1, u2, u3, u4, u5, u6, zR, str]) rfl ?_
      exact ⟨zR, none, 0, 4, rfl, LV.nil _ _, set7 HR2.out.be _ _ _ _ _ _ _, .inr ⟨rfl, rfl, rfl, rfl, fun ⟨q, hq1, hq2⟩ => by have h := (HQ1.out q hq1 hq2); have h4 := h.1.four (fun e => by have := h.2.2.2.2.1; rw [e] at this; simp at this; omega); rw [HL.out] at h4; have := HL2.out.2.1; omega⟩⟩
    have i4 : ¬ (n2 : Int) < 2 := by omega
    by_cases hp8 : 8 < pN
    · have i5 : (8 : Int) < (pN : Int) := by omega
      obtain ⟨u0, u1, u2, u3, u4, u5, u6⟩ := block7 HR2.out.rs
      have z0 := block_frozen HR2.out.rs 0
      have z1 := block_frozen HR2.out.rs 1
      have z2 := block_frozen HR2.out.rs 2
      have z3 := block_frozen HR2.out.rs 3
      have z4 := block_frozen HR2.out.rs 4
      have z5 := block_frozen HR2.out.rs 5
      have z6 := block_frozen HR2.out.rs 6
      go_wp2_with fail
      refine bodyPost_ret (v := .tuple #[.agg (rcs zR none 0), .int .i64 4]) (by simp [results, Tryd.results10, go_sem, u0, u1, u2, u3, u4, u5, u6, zR, str]) rfl ?_
      exact ⟨zR, none, 0, 4, rfl, LV.nil _ _, set7 HR2.out.be _ _ _ _ _ _ _, .inr ⟨rfl, rfl, rfl, rfl, fun ⟨q, hq1, hq2⟩ => by have := (HQ1.out q hq1 hq2).2.2.2.2.2.1; omega⟩⟩
    have i5 : ¬ (8 : Int) < (pN : Int) := by omega
    obtain ⟨i0, hi, hz0, hz1, hz2⟩ := info_parts info_I
    have HI := Lib.hid (And.intro hi (And.intro hz0 (And.intro hz1 hz2)))
    clear hi hz0 hz1 hz2
    go_wp2_with fail
    go_loopw [8, 9, 10, 11] (fun b i x j X => ∃ (k : Nat) (q : Option Addr) (cq : Nat), k ≤ 2 * pN ∧ i = .int .i64 k ∧ b = .slice q k cq ∧ Hid (X.ownsRow (k5 + 1) 3 1 (.slice q k cq) k (ivs (dgs l k))) ∧ Hid (RX w X k5 #[.int .i64 kd, .int .i64 (pr - 1), .string ⟨#[]⟩, .string ⟨#[]⟩, .slice none 0 0, .int .u64 rt, .int .i64 sz])) (fun _ i _ _ _ => 2 * pN - (intOf i).toNat)
    case atStart => exact ⟨0, _, 0, Nat.zero_le _, rfl, rfl, HO2, HR2⟩
    case round =>
      obtain ⟨k, q, cq, hk, rfl, rfl, HO, HR⟩ := hrel
      by_cases hlt : k < 2 * pN
      · have e0 : (k : Int) < 2 * (pN : Int) := by omega
        obtain ⟨q8, hq8⟩ : ∃ q : Nat, k / 8 = q := ⟨_, rfl⟩
        obtain ⟨r8, hr8⟩ : ∃ q : Nat, k % 8 = q := ⟨_, rfl⟩
        have e1 : (k : Int) / 8 = (q8 : Int) := by omega
        have e2 : (k : Int) % 8 = (r8 : Int) := by omega
        have hq0 : (0 : Int) ≤ (q8 : Int) := by omega
        have hq1 : (q8 : Int) < (n2 : Int) := by omega
        have hqn : q8 < (l.drop 2).length := by rw [HL2.out.1]; omega
        obtain ⟨g', o', he', hg', hc'⟩ := gat (HA2.out.lo HB2.out HR.out.be) hqn
        have hx8 := (HU.out.drop 2) (l.drop 2)[q8] (List.getElem_mem hqn)
        have HX : Hid (lenAt (l.getD 2 0) (l.getD 3 0) k = (l.drop 2)[q8] / 64 ^ r8 % 64) := Lib.hid (by
          have e3 : (l.drop 2)[q8] = l.getD (2 + q8) 0 := by
            rw [List.getElem_drop, List.getD, List.getElem?_eq_getElem (by rw [List.length_drop] at hqn; omega)]
            rfl
          rw [e3]
          unfold lenAt dg6
          by_cases h8 : k < 8
          · obtain rfl : q8 = 0 := by omega
            obtain rfl : r8 = k := by omega
            rw [if_pos h8]
          · obtain rfl : q8 = 1 := by omega
            obtain rfl : r8 = k - 8 := by omega
            rw [if_neg h8])
        have hks := HR.out.sz
        have HO1 : Hid (ivs (dgs l (k + 1)) = ivs (dgs l k) ++ [.int .i64 (lenAt (l.getD 2 0) (l.getD 3 0) k)]) := Lib.hid (by rw [dgs_succ, ivs_append]; rfl)
        generalize (l.drop 2)[q8] = x at *
        have HE := Lib.hid (And.intro hq8 hr8)
        clear hq8 hr8 hqn
        obtain ⟨x0, x9⟩ := hx8
        have hslot : Value.slice p2 n2 c2 = Value.slice (some ⟨g', o', none⟩) n2 c2 := by rw [he']
        rw [hslot]
        clear hslot he'
        go_wp2_with fail
        go_loopw [10, 11] (fun v q wx => ∃ j : Nat, j ≤ r8 ∧ q = .int .i64 j ∧ v = .int .u64 (x / 64 ^ j) ∧ wx = wr) (fun _ q _ => r8 - (intOf q).toNat)
        case atStart => exact ⟨0, Nat.zero_le _, rfl, by simp, rfl⟩
        case round =>
          obtain ⟨j, hj, rfl, rfl, rfl⟩ := hrel
          have y0 : 0 ≤ x / 64 ^ j := Int.ediv_nonneg x0 (Int.pow_nonneg (by decide))
          have y1 : x / 64 ^ j ≤ x := Int.ediv_le_self _ x0
          by_cases hj8 : j < r8
          · have HD : Hid (x / 64 ^ j / 64 = x / 64 ^ (j + 1)) := Lib.hid (by rw [Int.pow_succ, Int.ediv_ediv_of_nonneg (Int.pow_nonneg (by decide))])
            generalize x / 64 ^ j = y at *
            go_wp2
            go_roundw
            case rel => exact ⟨j + 1, by omega, by go_num, by rw [HD.out], by first | rfl | trivial⟩
            case measure => simp [intOf]; omega
          · obtain rfl : j = r8 := by omega
            have HD : Hid (lenAt (l.getD 2 0) (l.getD 3 0) k = x / 64 ^ j % 64) := Lib.hid HX.out
            generalize x / 64 ^ j = y at *
            have y2 : 0 ≤ y % 64 := Int.emod_nonneg _ (by decide)
            have y3 : y % 64 < 64 := Int.emod_lt_of_pos _ (by decide)
            go_wp2_with (at_builtin; refine wpList_append_own _ rfl _ _ 55 rfl (k5 + 1) 3 i0 (.int .i64 0) 1 8 Tryd.underlying55 HI.out.1 HI.out.2.1 HI.out.2.2.1 HI.out.2.2.2 rfl (by decide) _ _ _ rfl (HO.out.alloc _) ⟨_, 0, none⟩ 1 1 [.int .i64 (y % 64)] rfl rfl (cell_one_new _ _ _) (by simp [Value.oneCell']) (by unfold maxLen; omega) (by omega) (by simp; omega) ?_; intro v' w2 hown' hgrow _; obtain ⟨g'', cap', rfl⟩ := ownsRow_succ hown'; have HO' := Lib.hid hown'; have HG := Lib.hid hgrow; clear hown' hgrow)
            go_roundw
            case rel =>
              refine ⟨k + 1, _, cap', by omega, by go_num, rfl, Lib.hid ?_, Lib.hid (HR.out.step (((Below.refl (k5 + 1) wr).alloc (by omega) _).grown HG.out (by simp; omega) (fun q e => (HO.out.lt q e).1)) (Nat.lt_succ_self _))⟩
              rw [HO1.out, HD.out]
              exact HO'.out
            case measure => simp [intOf] <;> omega
      · obtain rfl : k = 2 * pN := by omega
        have e0 : ¬ ((2 * pN : Nat) : Int) < 2 * (pN : Int) := by omega
        obtain ⟨p3, n3, c3, hs3, hlv3, hl3, hn3, hnc3, hcc3, hbl3⟩ := parts_G p2 n2 c2 2 (l.drop 2) HL2.out.1 (by omega) HL2.out.2.2.1
        have hs3 : ∀ W, Sem.run Tryd.prog (Instr.slice 28 (.slice p2 n2 c2) (some (.int .i64 2)) none none) W = .ok (.slice p3 n3 c3) W := hs3
        have HA3 : Hid (LV w p3 (gvs ((l.drop 2).drop 2))) := Lib.hid (hlv3 w HA2.out)
        have HB3 : Hid (∀ a, p3 = some a → a.block < w.heap.size) := Lib.hid (fun a e => by obtain ⟨b, hb, he⟩ := hbl3 a e; have := HB2.out b hb; omega)
        have HL3 : Hid (((l.drop 2).drop 2).length = n3 ∧ n3 ≤ c3 ∧ c3 ≤ maxLen ∧ n3 ≤ n) := Lib.hid ⟨hl3, hnc3, Nat.le_trans hcc3 HL2.out.2.2.2, by have := HL2.out.2.1; omega⟩
        clear hlv3 hl3 hbl3 hn3 hcc3 hnc3
        generalize hV2 : Value.slice p2 n2 c2 = V2 at *
        generalize hV3 : Value.slice p3 n3 c3 = V3 at *
        go_wp2
        go_meet
        refine ⟨p3, n3, c3, q, cq, (l.drop 2).drop 2, hV3.symm, rfl, by omega, Lib.hid (HA3.out.lo HB3.out HR.out.be), Lib.hid ⟨HL3.out.1, HL3.out.2.1, HL3.out.2.2.1, HL3.out.2.2.2, (HU.out.drop 2).drop 2, HB3.out, ?_⟩, HO, HR⟩
        unfold R1
        rw [if_pos (by omega), List.drop_drop]
  case rest =>
    obtain ⟨p3, n3, c3, q3, cq3, lr3, rfl, rfl, hp8, HLV3, HF3, HO3, HR3⟩ := hcut
    obtain ⟨hl3, hnc3, hc3, hn3, hU3, hb3, hlr3⟩ := HF3.out
    have hT1 := HnN.out
    have HTk := Lib.hid (rtake_any p3 n3 c3 nN lr3 wc HLV3.out hl3 hnc3 hc3 (by omega) hU3 (by omega))
    have HB3 := Lib.hid hb3
    have HLR3 := Lib.hid hlr3
    have HL3 := Lib.hid hl3
    clear hl3 hnc3 hc3 hU3 hb3 hlr3
    go_wp2_with fail
    clear hT1
    refine HTk.out.mono ?_
    rintro e w4 ⟨t4, p4, n4, c4, g4, lr4, rfl, hLV4, hl4, hnc4, hc4, hn4, hU4, hb4, ht4, hq4, hbe4⟩
    have HQ4 : Hid (∀ q, MayR q → pk q = l → g4 = true ∧ t4 = q.name ∧ lr4 = wds q.text ++ q.attrs.flatMap wds) := Lib.hid (fun q a b => by
      have h := HQ1.out q a b
      have hp : q.attrs.length / 2 = pN := by have := h.2.2.2.2.1; omega
      have hr := h.1.rest
      rw [hp, ← HLR3.out] at hr
      exact hq4 q.name _ hr (by have := h.2.2.2.2.2.2.1; omega))
    have HB4 : Hid (∀ a, p4 = some a → a.block < w.heap.size) := Lib.hid (fun a e => by obtain ⟨b, hb, he⟩ := hb4 a e; have := HB3.out b hb; omega)
    have HLV4 := Lib.hid hLV4
    have HF4 : Hid (lr4.length = n4 ∧ n4 ≤ c4 ∧ c4 ≤ maxLen ∧ n4 ≤ n ∧ U64 lr4) := Lib.hid ⟨hl4, hnc4, hc4, by have := HL3.out; omega, hU4⟩
    have HR4 := Lib.hid (HR3.out.step hbe4 HR3.out.sz)
    have HO4 := Lib.hid (own_below HO3.out hbe4)
    clear hLV4 hl4 hnc4 hc4 hn4 hU4 hb4 hq4 hbe4 HTk HR3 HO3 HLV3 HF3
    have z2 := block_frozen HR4.out.r 2
    have y2 := block_cell (j := 2) HR4.out.r rfl
    go_upto_region 24 with fail
    obtain ⟨X5, hX5⟩ : ∃ X5, X5 = w4.setCell ⟨k5, 2, none⟩ (.string (str t4)) := ⟨_, rfl⟩
    rw [← hX5]
    have HR5 : Hid (RX w X5 k5 #[.int .i64 kd, .int .i64 (pr - 1), .string (str t4), .string ⟨#[]⟩, .slice none 0 0, .int .u64 rt, .int .i64 sz]) := Lib.hid (by rw [hX5]; exact HR4.out.set 2 _ (by rfl))
    have HO5 := Lib.hid (show X5.ownsRow (k5 + 1) 3 1 (.slice q3 (2 * pN) cq3) (2 * pN) (ivs (dgs l (2 * pN))) from by rw [hX5]; exact ownsRow_setCell_other HO4.out (a := ⟨k5, 2, none⟩) (fun e => by have h : k5 + 1 ≤ k5 := (HO4.out.lt _ e).1; omega) _)
    have HLV5 : Hid (LV X5 p4 (gvs lr4)) := Lib.hid (by rw [hX5]; exact HLV4.out.setO (fun a e => by have h1 := HB4.out a e; have h2 := HR4.out.lt; omega))
    clear hX5 z2 y2 HR4 HO4 HLV4
    cases g4 with
    | false =>
      obtain ⟨u0, u1, u2, u3, u4, u5, u6⟩ := block7 HR5.out.rs
      have z0 := block_frozen HR5.out.rs 0
      have z1 := block_frozen HR5.out.rs 1
      have z2 := block_frozen HR5.out.rs 2
      have z3 := block_frozen HR5.out.rs 3
      have z4 := block_frozen HR5.out.rs 4
      have z5 := block_frozen HR5.out.rs 5
      have z6 := block_frozen HR5.out.rs 6
      go_wp2_with fail
      refine bodyPost_ret (v := .tuple #[.agg (rcs zR none 0), .int .i64 4]) (by simp [results, Tryd.results10, go_sem, u0, u1, u2, u3, u4, u5, u6, zR, str]) rfl ?_
      exact ⟨zR, none, 0, 4, rfl, LV.nil _ _, set7 HR5.out.be _ _ _ _ _ _ _, .inr ⟨rfl, rfl, rfl, rfl, fun ⟨q, hq1, hq2⟩ => by have := (HQ4.out q hq1 hq2).1; cases this⟩⟩
    | true =>
      obtain ⟨hl4, hnc4, hc4, hn4, hU4⟩ := HF4.out
      have hT1 := HtN.out
      have HTk := Lib.hid (rtake_any p4 n4 c4 tN lr4 X5 HLV5.out hl4 hnc4 hc4 (by omega) hU4 (by omega))
      have HL4 := Lib.hid hl4
      clear hl4 hnc4 hc4 hU4
      go_wp2_with fail
      clear hT1
      refine HTk.out.mono ?_
      rintro e w6 ⟨t6, p6, n6, c6, g6, lr6, rfl, hLV6, hl6, hnc6, hc6, hn6, hU6, hb6, ht6, hq6, hbe6⟩
      have HQ6 : Hid (∀ q, MayR q → pk q = l → g6 = true ∧ t4 = q.name ∧ t6 = q.text ∧ lr6 = q.attrs.flatMap wds) := Lib.hid (fun q a b => by
        have h := HQ1.out q a b
        obtain ⟨-, e2, e3⟩ := HQ4.out q a b
        obtain ⟨f1, f2, f3⟩ := hq6 q.text _ e3 (by have := h.2.2.2.2.2.2.2.1; omega)
        exact ⟨f1, e2, f2, f3⟩)
      have HB6 : Hid (∀ a, p6 = some a → a.block < w.heap.size) := Lib.hid (fun a e => by obtain ⟨b, hb, he⟩ := hb6 a e; have := HB4.out b hb; omega)
      have HLV6 := Lib.hid hLV6
      have HF6 : Hid (lr6.length = n6 ∧ n6 ≤ c6 ∧ c6 ≤ maxLen ∧ n6 ≤ n ∧ U64 lr6) := Lib.hid ⟨hl6, hnc6, hc6, by have := HL4.out; omega, hU6⟩
      have HR6 := Lib.hid (HR5.out.step hbe6 HR5.out.sz)
      have HO6 := Lib.hid (own_below HO5.out hbe6)
      clear hLV6 hl6 hnc6 hc6 hn6 hU6 hb6 hq6 hbe6 HTk HR5 HO5 HLV5 HF4 HQ4
      have z3 := block_frozen HR6.out.r 3
      have y3 := block_cell (j := 3) HR6.out.r rfl
      go_upto_region 27 with fail
      obtain ⟨X7, hX7⟩ : ∃ X7, X7 = w6.setCell ⟨k5, 3, none⟩ (.string (str t6)) := ⟨_, rfl⟩
      rw [← hX7]
      have HR7 : Hid (RX w X7 k5 #[.int .i64 kd, .int .i64 (pr - 1), .string (str t4), .string (str t6), .slice none 0 0, .int .u64 rt, .int .i64 sz]) := Lib.hid (by rw [hX7]; exact HR6.out.set 3 _ (by rfl))
      have HO7 := Lib.hid (show X7.ownsRow (k5 + 1) 3 1 (.slice q3 (2 * pN) cq3) (2 * pN) (ivs (dgs l (2 * pN))) from by rw [hX7]; exact ownsRow_setCell_other HO6.out (a := ⟨k5, 3, none⟩) (fun e => by have h : k5 + 1 ≤ k5 := (HO6.out.lt _ e).1; omega) _)
      have HLV7 : Hid (LV X7 p6 (gvs lr6)) := Lib.hid (by rw [hX7]; exact HLV6.out.setO (fun a e => by have h1 := HB6.out a e; have h2 := HR6.out.lt; omega))
      clear hX7 z3 y3 HR6 HO6 HLV6
      obtain ⟨iS, hi, hz0, hz1, hz2⟩ := info_parts info_S
      have HIS := Lib.hid (And.intro hi (And.intro hz0 (And.intro hz1 hz2)))
      clear hi hz0 hz1 hz2
      go_wp2_with fail
      go_loopw [6, 12, 13, 14, 15] (fun a gd s13 i s15 X => ∃ (k : Nat) (acc : List Wd) (pa : Option Addr) (ca : Nat) (gb : Bool) (p : Option Addr) (nr cr : Nat) (lr : List Int), k ≤ 2 * pN ∧ i = .int .i64 k ∧ gd = .bool gb ∧ a = .slice p nr cr ∧ Hid (LV X p (gvs lr)) ∧ Hid (lr.length = nr ∧ nr ≤ cr ∧ cr ≤ maxLen ∧ nr ≤ n ∧ U64 lr ∧ ∀ a, p = some a → a.block < w.heap.size) ∧ Hid (RX w X k5 #[.int .i64 kd, .int .i64 (pr - 1), .string (str t4), .string (str t6), .slice pa k ca, .int .u64 rt, .int .i64 sz]) ∧ Hid (X.ownsRow (k5 + 1) 9 1 (.slice pa k ca) k (svs acc)) ∧ Hid (acc.length = k ∧ ∀ a ∈ acc, a.length ≤ 63) ∧ Hid (X.ownsRow (k5 + 1) 3 1 (.slice q3 (2 * pN) cq3) (2 * pN) (ivs (dgs l (2 * pN)))) ∧ Hid (∀ q, MayR q → pk q = l → gb = true ∧ acc = q.attrs.take k ∧ lr = (q.attrs.drop k).flatMap wds)) (fun _ _ _ i _ _ => 2 * pN - (intOf i).toNat)
      case atStart => exact ⟨0, [], none, 0, g6, p6, n6, c6, lr6, Nat.zero_le _, rfl, rfl, rfl, HLV7, Lib.hid ⟨HF6.out.1, HF6.out.2.1, HF6.out.2.2.1, HF6.out.2.2.2.1, HF6.out.2.2.2.2, HB6.out⟩, HR7, Lib.hid ⟨rfl, .inl ⟨rfl, rfl⟩⟩, Lib.hid ⟨rfl, fun a h => by cases h⟩, HO7, Lib.hid (fun q a b => ⟨(HQ6.out q a b).1, rfl, (HQ6.out q a b).2.2.2⟩)⟩
      case round =>
        obtain ⟨k, acc, pa, ca, gb, p, nr, cr, lr, hk, rfl, rfl, rfl, HLV, HF, HR, HS, HAc, HO, HQk⟩ := hrel
        by_cases hlt : k < 2 * pN
        · have e0 : (k : Int) < ((2 * pN : Nat) : Int) := by omega
          cases gb with
          | true =>
            have hkd2 : k < (dgs l (2 * pN)).length := by rw [dgs_length]; exact hlt
            obtain ⟨g9, o9, he9, hg9, hc9⟩ := iat (LV.of_own HO.out) hkd2
            have hdk : (dgs l (2 * pN))[k] = lenAt (l.getD 2 0) (l.getD 3 0) k := dgs_at hkd2
            obtain ⟨d, hd⟩ : ∃ d : Nat, lenAt (l.getD 2 0) (l.getD 3 0) k = (d : Int) := ⟨(lenAt (l.getD 2 0) (l.getD 3 0) k).toNat, by have := (lenAt_bound (l.getD 2 0) (l.getD 3 0) k).1; omega⟩
            have hd64 : d < 64 := by have := (lenAt_bound (l.getD 2 0) (l.getD 3 0) k).2; omega
            rw [hdk, hd] at hc9
            have HD := Lib.hid hd
            have i6 : (0 : Int) ≤ (k : Int) := by omega
            obtain ⟨hl9, hnc9, hc9b, hn9, hU9, hb9⟩ := HF.out
            have HTk := Lib.hid (rtake_any p nr cr d lr wr HLV.out hl9 hnc9 hc9b (by omega) hU9 (by omega))
            have hslot : Value.slice q3 (2 * pN) cq3 = Value.slice (some ⟨g9, o9, none⟩) (2 * pN) cq3 := by rw [he9]
            have HB9 := Lib.hid hb9
            have HL9 := Lib.hid hl9
            clear hl9 hnc9 hc9b hU9 hdk hd hkd2 hb9
            rw [hslot]
            have HHe := Lib.hid he9
            clear hslot he9
            go_wp2_with fail
            refine HTk.out.mono ?_
            clear hc9
            rintro e w8 ⟨t8, p8, n8, c8, g8, lr8, rfl, hLV8, hl8, hnc8, hc8, hn8, hU8, hb8, ht8, hq8, hbe8⟩
            have HQ8 : Hid (∀ q, MayR q → pk q = l → g8 = true ∧ acc ++ [t8] = q.attrs.take (k + 1) ∧ lr8 = (q.attrs.drop (k + 1)).flatMap wds) := Lib.hid (fun q a b => by
              have h := HQ1.out q a b
              obtain ⟨-, e2, e3⟩ := HQk.out q a b
              have hkq : k < q.attrs.length := by have := h.2.2.2.2.1; omega
              rw [flat_dropD hkq] at e3
              obtain ⟨f1, f2, f3⟩ := hq8 _ _ e3 (by have h2 := h.1.lens k hkq; have h3 := HD.out; omega)
              exact ⟨f1, by rw [take_next hkq, e2, f2], f3⟩)
            have HB8 : Hid (∀ a, p8 = some a → a.block < w.heap.size) := Lib.hid (fun a e => by obtain ⟨b, hb, he⟩ := hb8 a e; have := HB9.out b hb; omega)
            have HLV8 := Lib.hid hLV8
            have HF8 : Hid (lr8.length = n8 ∧ n8 ≤ c8 ∧ c8 ≤ maxLen ∧ n8 ≤ n ∧ U64 lr8 ∧ t8.length ≤ 63) := Lib.hid ⟨hl8, hnc8, hc8, by have := HL9.out; omega, hU8, by omega⟩
            have HR8 := Lib.hid (HR.out.step hbe8 HR.out.sz)
            have HO8 := Lib.hid (own_below HO.out hbe8)
            have HS8 := Lib.hid (own_below HS.out hbe8)
            clear hLV8 hl8 hnc8 hc8 hn8 hU8 hb8 hq8 hbe8 HTk HR HO HS HLV HF ht8
            have hks := HR8.out.sz
            have y4 := block_cell (j := 4) HR8.out.r rfl
            go_upto_region 33 with fail
            go_wp2_with (at_builtin; refine wpList_append_own_at _ rfl _ _ 22 rfl (k5 + 1) 9 iS (.string ⟨#[]⟩) 1 16 Tryd.underlying22 HIS.out.1 HIS.out.2.1 HIS.out.2.2.1 HIS.out.2.2.2 rfl (by decide) _ _ _ rfl (HS8.out.alloc _) ⟨_, 0, none⟩ 1 1 [.string (str t8)] rfl rfl (cell_one_new _ _ _) (by simp [Value.oneCell']) (by unfold maxLen; omega) (by omega) (by simp; omega) ?_; intro v' w9 hown' hgrow _ hob'; obtain ⟨g'', cap', rfl⟩ := ownsRow_succ hown'; have HS9 := Lib.hid hown'; have HB9b : Hid (Below (k5 + 1) w8 w9) := Lib.hid (((Below.refl (k5 + 1) w8).alloc (by omega) _).grown hgrow (by simp; omega) (fun q e => (HS8.out.lt q e).1)); have HO9 := Lib.hid (kept_int HO8.out HS8.out _ hgrow); have HR9 := Lib.hid (HR8.out.step HB9b.out (Nat.lt_succ_self _)); have HLV9 := Lib.hid (HLV8.out.lo (fun a e => Nat.lt_of_lt_of_le (HB8.out a e) (Nat.le_succ_of_le (Nat.le_of_lt HR8.out.lt))) HB9b.out); have y4 := block_cell (j := 4) HR9.out.r rfl; have z4 := block_frozen HR9.out.r 4; clear hown' hgrow hob')
            go_roundw
            case rel =>
              refine ⟨k + 1, acc ++ [t8], _, cap', g8, p8, n8, c8, lr8, by omega, by go_num, rfl, rfl, Lib.hid (HLV9.out.setO (fun a e => by have h1 := HB8.out a e; have h2 := HR9.out.lt; omega)), Lib.hid ⟨HF8.out.1, HF8.out.2.1, HF8.out.2.2.1, HF8.out.2.2.2.1, HF8.out.2.2.2.2.1, HB8.out⟩, Lib.hid (HR9.out.set 4 _ (by rfl)), Lib.hid ?_, Lib.hid ⟨by rw [List.length_append, HAc.out.1]; rfl, ?_⟩, Lib.hid ?_, HQ8⟩
              · rw [svs_append]
                exact ownsRow_setCell_other HS9.out (a := ⟨k5, 4, none⟩) (fun e => by have h : k5 + 1 ≤ k5 := (HS9.out.lt _ e).1; omega) _
              · intro a ha
                rcases List.mem_append.1 ha with h | h
                · exact HAc.out.2 a h
                · rw [List.mem_singleton.1 h]; exact HF8.out.2.2.2.2.2
              · have h9 := fun u => ownsRow_setCell_other HO9.out (a := ⟨k5, 4, none⟩) (fun e => by have h : k5 + 1 ≤ k5 := (HO9.out.lt _ e).1; omega) u
                first
                  | exact h9 _
                  | (rw [HHe.out] at h9; exact h9 _)
            case measure => simp [intOf]; omega
          | false =>
            obtain ⟨hak, ha63⟩ := HAc.out
            obtain ⟨_, _, ecc, hkc, hcm, -⟩ := own_form HS.out
            cases ecc
            have HPk := Lib.hid (rpack_any ⟨kd, pr - 1, t4, t6, acc, rt, sz⟩ pa ca wr (LV.of_own HS.out) ⟨⟨by show _ ≤ kd; omega, by show kd ≤ _; omega⟩, ⟨by show _ ≤ pr - 1; omega, by show pr - 1 ≤ _; omega⟩, by show t4.length ≤ _; omega, by show t6.length ≤ _; omega, by show acc.length ≤ _; omega, fun a ha => by have := ha63 a ha; omega, ⟨by show 0 ≤ rt; omega, by show rt ≤ _; omega⟩, ⟨by show _ ≤ sz; omega, by show sz ≤ _; omega⟩⟩ (by show acc.length ≤ ca; omega))
            have hre : rcs ⟨kd, pr - 1, t4, t6, acc, rt, sz⟩ pa ca = #[.int .i64 kd, .int .i64 (pr - 1), .string (str t4), .string (str t6), .slice pa k ca, .int .u64 rt, .int .i64 sz] := by unfold rcs; simp only []; rw [hak]
            rw [hre] at HPk
            have HRE := Lib.hid hre
            have HAK := Lib.hid hak
            clear hre hak ha63 hkc hcm
            obtain ⟨x0, x1, x2, x3, x4, x5, x6⟩ := block7 HR.out.r
            go_wp2_with fail
            clear x0 x1 x2 x3 x4 x5 x6
            refine HPk.out.mono ?_
            rintro e w9 (⟨hm, rfl, hb⟩ | ⟨hm, pp, pc, rfl, ho, hb⟩)
            · have HRz := Lib.hid (HR.out.step hb HR.out.sz)
              clear hb hm HPk
              obtain ⟨u0, u1, u2, u3, u4, u5, u6⟩ := block7 HRz.out.rs
              have z0 := block_frozen HRz.out.rs 0
              have z1 := block_frozen HRz.out.rs 1
              have z2 := block_frozen HRz.out.rs 2
              have z3 := block_frozen HRz.out.rs 3
              have z4 := block_frozen HRz.out.rs 4
              have z5 := block_frozen HRz.out.rs 5
              have z6 := block_frozen HRz.out.rs 6
              go_wp2_with fail
              refine bodyPost_ret (v := .tuple #[.agg (rcs zR none 0), .int .i64 4]) (by simp [results, Tryd.results10, go_sem, u0, u1, u2, u3, u4, u5, u6, zR, str]) rfl ?_
              exact ⟨zR, none, 0, 4, rfl, LV.nil _ _, set7 HRz.out.be _ _ _ _ _ _ _, .inr ⟨rfl, rfl, rfl, rfl, fun ⟨q, hq1, hq2⟩ => by have := (HQk.out q hq1 hq2).1; cases this⟩⟩
            · have HRz := Lib.hid (HR.out.step hb HR.out.sz)
              clear hb hm HPk ho
              obtain ⟨u0, u1, u2, u3, u4, u5, u6⟩ := block7 HRz.out.rs
              have z0 := block_frozen HRz.out.rs 0
              have z1 := block_frozen HRz.out.rs 1
              have z2 := block_frozen HRz.out.rs 2
              have z3 := block_frozen HRz.out.rs 3
              have z4 := block_frozen HRz.out.rs 4
              have z5 := block_frozen HRz.out.rs 5
              have z6 := block_frozen HRz.out.rs 6
              go_wp2_with fail
              refine bodyPost_ret (v := .tuple #[.agg (rcs zR none 0), .int .i64 4]) (by simp [results, Tryd.results10, go_sem, u0, u1, u2, u3, u4, u5, u6, zR, str]) rfl ?_
              exact ⟨zR, none, 0, 4, rfl, LV.nil _ _, set7 HRz.out.be _ _ _ _ _ _ _, .inr ⟨rfl, rfl, rfl, rfl, fun ⟨q, hq1, hq2⟩ => by have := (HQk.out q hq1 hq2).1; cases this⟩⟩
        · obtain rfl : k = 2 * pN := by omega
          have e0 : ¬ ((2 * pN : Nat) : Int) < ((2 * pN : Nat) : Int) := by omega
          cases gb with
          | false =>
            obtain ⟨hak, ha63⟩ := HAc.out
            obtain ⟨_, _, ecc, hkc, hcm, -⟩ := own_form HS.out
            cases ecc
            have HPk := Lib.hid (rpack_any ⟨kd, pr - 1, t4, t6, acc, rt, sz⟩ pa ca wr (LV.of_own HS.out) ⟨⟨by show _ ≤ kd; omega, by show kd ≤ _; omega⟩, ⟨by show _ ≤ pr - 1; omega, by show pr - 1 ≤ _; omega⟩, by show t4.length ≤ _; omega, by show t6.length ≤ _; omega, by show acc.length ≤ _; omega, fun a ha => by have := ha63 a ha; omega, ⟨by show 0 ≤ rt; omega, by show rt ≤ _; omega⟩, ⟨by show _ ≤ sz; omega, by show sz ≤ _; omega⟩⟩ (by show acc.length ≤ ca; omega))
            have hre : rcs ⟨kd, pr - 1, t4, t6, acc, rt, sz⟩ pa ca = #[.int .i64 kd, .int .i64 (pr - 1), .string (str t4), .string (str t6), .slice pa (2 * pN) ca, .int .u64 rt, .int .i64 sz] := by unfold rcs; simp only []; rw [hak]
            rw [hre] at HPk
            have HRE := Lib.hid hre
            have HAK := Lib.hid hak
            clear hre hak ha63 hkc hcm
            obtain ⟨x0, x1, x2, x3, x4, x5, x6⟩ := block7 HR.out.r
            go_wp2_with fail
            clear x0 x1 x2 x3 x4 x5 x6
            refine HPk.out.mono ?_
            rintro e w9 (⟨hm, rfl, hb⟩ | ⟨hm, pp, pc, rfl, ho, hb⟩)
            · have HRz := Lib.hid (HR.out.step hb HR.out.sz)
              clear hb hm HPk
              obtain ⟨u0, u1, u2, u3, u4, u5, u6⟩ := block7 HRz.out.rs
              have z0 := block_frozen HRz.out.rs 0
              have z1 := block_frozen HRz.out.rs 1
              have z2 := block_frozen HRz.out.rs 2
              have z3 := block_frozen HRz.out.rs 3
              have z4 := block_frozen HRz.out.rs 4
              have z5 := block_frozen HRz.out.rs 5
              have z6 := block_frozen HRz.out.rs 6
              go_wp2_with fail
              refine bodyPost_ret (v := .tuple #[.agg (rcs zR none 0), .int .i64 4]) (by simp [results, Tryd.results10, go_sem, u0, u1, u2, u3, u4, u5, u6, zR, str]) rfl ?_
              exact ⟨zR, none, 0, 4, rfl, LV.nil _ _, set7 HRz.out.be _ _ _ _ _ _ _, .inr ⟨rfl, rfl, rfl, rfl, fun ⟨q, hq1, hq2⟩ => by have := (HQk.out q hq1 hq2).1; cases this⟩⟩
            · have HRz := Lib.hid (HR.out.step hb HR.out.sz)
              clear hb hm HPk ho
              obtain ⟨u0, u1, u2, u3, u4, u5, u6⟩ := block7 HRz.out.rs
              have z0 := block_frozen HRz.out.rs 0
              have z1 := block_frozen HRz.out.rs 1
              have z2 := block_frozen HRz.out.rs 2
              have z3 := block_frozen HRz.out.rs 3
              have z4 := block_frozen HRz.out.rs 4
              have z5 := block_frozen HRz.out.rs 5
              have z6 := block_frozen HRz.out.rs 6
              go_wp2_with fail
              refine bodyPost_ret (v := .tuple #[.agg (rcs zR none 0), .int .i64 4]) (by simp [results, Tryd.results10, go_sem, u0, u1, u2, u3, u4, u5, u6, zR, str]) rfl ?_
              exact ⟨zR, none, 0, 4, rfl, LV.nil _ _, set7 HRz.out.be _ _ _ _ _ _ _, .inr ⟨rfl, rfl, rfl, rfl, fun ⟨q, hq1, hq2⟩ => by have := (HQk.out q hq1 hq2).1; cases this⟩⟩
          | true =>
            have HRq : Hid (∀ q, MayR q → pk q = l → (⟨kd, pr - 1, t4, t6, acc, rt, sz⟩ : Rc) = q) := Lib.hid (fun q a b => by
              obtain ⟨h0, h1, h2, h3, h4, h5, h6, h7, h8⟩ := HQ1.out q a b
              obtain ⟨-, e2, -⟩ := HQk.out q a b
              obtain ⟨-, f2, f3, -⟩ := HQ6.out q a b
              rw [List.take_of_length_le (by omega)] at e2
              exact rc_eq h1 (by show pr - 1 = q.par; omega) f2 f3 e2 (by rw [← h8]) h3)
            obtain ⟨hak, ha63⟩ := HAc.out
            obtain ⟨_, _, ecc, hkc, hcm, -⟩ := own_form HS.out
            cases ecc
            have HPk := Lib.hid (rpack_any ⟨kd, pr - 1, t4, t6, acc, rt, sz⟩ pa ca wr (LV.of_own HS.out) ⟨⟨by show _ ≤ kd; omega, by show kd ≤ _; omega⟩, ⟨by show _ ≤ pr - 1; omega, by show pr - 1 ≤ _; omega⟩, by show t4.length ≤ _; omega, by show t6.length ≤ _; omega, by show acc.length ≤ _; omega, fun a ha => by have := ha63 a ha; omega, ⟨by show 0 ≤ rt; omega, by show rt ≤ _; omega⟩, ⟨by show _ ≤ sz; omega, by show sz ≤ _; omega⟩⟩ (by show acc.length ≤ ca; omega))
            have hre : rcs ⟨kd, pr - 1, t4, t6, acc, rt, sz⟩ pa ca = #[.int .i64 kd, .int .i64 (pr - 1), .string (str t4), .string (str t6), .slice pa (2 * pN) ca, .int .u64 rt, .int .i64 sz] := by unfold rcs; simp only []; rw [hak]
            rw [hre] at HPk
            have HRE := Lib.hid hre
            have HAK := Lib.hid hak
            clear hre hak ha63 hkc hcm
            obtain ⟨x0, x1, x2, x3, x4, x5, x6⟩ := block7 HR.out.r
            go_wp2_with fail
            clear x0 x1 x2 x3 x4 x5 x6
            refine HPk.out.mono ?_
            rintro e w9 (⟨hm, rfl, hb⟩ | ⟨hm, pp, pc, rfl, ho, hb⟩)
            · have HRz := Lib.hid (HR.out.step hb HR.out.sz)
              have HM := Lib.hid hm
              clear hb hm HPk
              obtain ⟨u0, u1, u2, u3, u4, u5, u6⟩ := block7 HRz.out.rs
              have z0 := block_frozen HRz.out.rs 0
              have z1 := block_frozen HRz.out.rs 1
              have z2 := block_frozen HRz.out.rs 2
              have z3 := block_frozen HRz.out.rs 3
              have z4 := block_frozen HRz.out.rs 4
              have z5 := block_frozen HRz.out.rs 5
              have z6 := block_frozen HRz.out.rs 6
              go_wp2_with fail
              refine bodyPost_ret (v := .tuple #[.agg (rcs zR none 0), .int .i64 4]) (by simp [results, Tryd.results10, go_sem, u0, u1, u2, u3, u4, u5, u6, zR, str]) rfl ?_
              exact ⟨zR, none, 0, 4, rfl, LV.nil _ _, set7 HRz.out.be _ _ _ _ _ _ _, .inr ⟨rfl, rfl, rfl, rfl, fun ⟨q, hq1, hq2⟩ => mayB_false HM.out (by rw [HRq.out q hq1 hq2]; exact hq1)⟩⟩
            · have HRz := Lib.hid (HR.out.step hb HR.out.sz)
              have HM := Lib.hid (mayB_true hm)
              have hkl : (pk ⟨kd, pr - 1, t4, t6, acc, rt, sz⟩).length ≤ 1000 := pk_len HM.out
              have HEq := Lib.hid (rsame_any pp (some ⟨g, o, none⟩) (pk ⟨kd, pr - 1, t4, t6, acc, rt, sz⟩).length n pc c (pk ⟨kd, pr - 1, t4, t6, acc, rt, sz⟩) l w9 (LV.of_own ho) (HA.out.lo (fun a e => by cases e; exact hgw) HRz.out.be) rfl HL.out (by omega) (by omega))
              have HSz := Lib.hid (own_below HS.out hb)
              clear hb hm HPk ho HR HS HO
              rcases Bool.eq_false_or_eq_true (decide (pk ⟨kd, pr - 1, t4, t6, acc, rt, sz⟩ = l)) with hd | hd
              · have HD := Lib.hid (of_decide_eq_true hd)
                rw [hd] at HEq
                clear hd
                generalize (pk ⟨kd, pr - 1, t4, t6, acc, rt, sz⟩).length = m9 at *
                go_wp2_with fail
                refine HEq.out.mono ?_
                rintro e w10 ⟨rfl, hb⟩
                have HRy := Lib.hid (HRz.out.step hb HRz.out.sz)
                have HSy := Lib.hid (own_below HSz.out hb)
                clear hb HEq
                obtain ⟨x0, x1, x2, x3, x4, x5, x6⟩ := block7 HRy.out.r
                obtain ⟨u0, u1, u2, u3, u4, u5, u6⟩ := block7 HRy.out.rs
                have z0 := block_frozen HRy.out.rs 0
                have z1 := block_frozen HRy.out.rs 1
                have z2 := block_frozen HRy.out.rs 2
                have z3 := block_frozen HRy.out.rs 3
                have z4 := block_frozen HRy.out.rs 4
                have z5 := block_frozen HRy.out.rs 5
                have z6 := block_frozen HRy.out.rs 6
                go_wp2_with fail
                refine bodyPost_ret (v := .tuple #[.agg #[.int .i64 kd, .int .i64 (pr - 1), .string (str t4), .string (str t6), .slice pa (2 * pN) ca, .int .u64 rt, .int .i64 sz], .int .i64 0]) (by simp [results, Tryd.results10, go_sem, u0, u1, u2, u3, u4, u5, u6]) rfl ?_
                have hq : ∀ a, pa = some a → a.block ≠ w.heap.size := fun a e => by
                  have hlt := HRy.out.lt
                  have h : k5 + 1 ≤ a.block := (HSy.out.lt a.block (by rw [e]; rfl)).1
                  omega
                have hLV : LV w10 pa (svs acc) := LV.of_own HSy.out
                exact ⟨⟨kd, pr - 1, t4, t6, acc, rt, sz⟩, pa, ca, 0, by rw [HRE.out], ((((((hLV.setO hq).setO hq).setO hq).setO hq).setO hq).setO hq).setO hq, set7 HRy.out.be _ _ _ _ _ _ _, .inl ⟨rfl, HM.out, HD.out⟩⟩
              · have HD := Lib.hid (of_decide_eq_false hd)
                rw [hd] at HEq
                clear hd
                generalize (pk ⟨kd, pr - 1, t4, t6, acc, rt, sz⟩).length = m9 at *
                go_wp2_with fail
                refine HEq.out.mono ?_
                rintro e w10 ⟨rfl, hb⟩
                have HRy := Lib.hid (HRz.out.step hb HRz.out.sz)
                clear hb HEq
                obtain ⟨u0, u1, u2, u3, u4, u5, u6⟩ := block7 HRy.out.rs
                have z0 := block_frozen HRy.out.rs 0
                have z1 := block_frozen HRy.out.rs 1
                have z2 := block_frozen HRy.out.rs 2
                have z3 := block_frozen HRy.out.rs 3
                have z4 := block_frozen HRy.out.rs 4
                have z5 := block_frozen HRy.out.rs 5
                have z6 := block_frozen HRy.out.rs 6
                go_wp2_with fail
                refine bodyPost_ret (v := .tuple #[.agg (rcs zR none 0), .int .i64 4]) (by simp [results, Tryd.results10, go_sem, u0, u1, u2, u3, u4, u5, u6, zR, str]) rfl ?_
                exact ⟨zR, none, 0, 4, rfl, LV.nil _ _, set7 HRy.out.be _ _ _ _ _ _ _, .inr ⟨rfl, rfl, rfl, rfl, fun ⟨q, hq1, hq2⟩ => HD.out (by rw [HRq.out q hq1 hq2]; exact hq2)⟩⟩
end Go.Proofs.YthfeonmaajiajaaDoor
