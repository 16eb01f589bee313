/-
  Words, at any text.
-/
import Derived.Test.YthfeonmaajiajaaDoorRecG
import Derived.Deep.Onto
namespace Go.Proofs.YthfeonmaajiajaaDoor
open Go.ChangeShapes Go.WideShapes Go.ChangeAt Go.RowKit
open Rm
set_option linter.unusedVariables false
set_option linter.unusedSimpArgs false
attribute [local go_sem] Oper.semAt_some

/-- The words at the places pre. -/
def wp (l : Wd) (pre : List (Pc l.length)) : List Int := pre.map fun i => num (piece l i.1)
theorem wp_all {l : Wd} {pre : List (Pc l.length)} (h : pre.map (·.1) = List.range (nw l.length)) : wp l pre = wds l := by
  unfold wp wds W
  rw [← h, List.map_map]
  rfl

/-- append onto a row of the call's own, as one step of a round's region that draws its order. -/
theorem stepIn_own {r m : Nat} {P : Program} {ops : Array Oper} {o : Oper} {a : Act} {w : World} {K : Act → World → Prop} {Q : Exit → Act → World → Prop} {E : Prop}
    (hgd : o.guard = none) (s x : Operand) (t : TypeId) (ho : o.op = .call { callee := .builtin .append, args := #[s, x], argTypes := #[t, t] })
    (base : Nat) (e : TypeId) (i : TypeInfo) (z : Value) (bytes : Nat) (ht : P.underlying t = some (.slice e)) (hi : P.info? e = some i) (hz : i.zero = some z)
    (hsize : i.size = 1) (hby : i.bytes = bytes) (hzs : z.cells.size = 1)
    (v : Value) (n : Nat) (xs : List Value) (hs : a.eval s = v) (hown : w.ownsRow base e 1 v n xs)
    (ad : Addr) (q c : Nat) (news : List Value) (hx : a.eval x = .slice (some ad) q c) (hl : news.length = q * 1) (hnews : ∀ j u, news[j]? = some u → w.cell? (ad.add j) = some u) (h1 : ∀ u ∈ news, u.oneCell' = true)
    (h63 : n + q ≤ maxLen) (hbytes : (n + q) * bytes ≤ 140737488355328) (hbase : base ≤ w.heap.size)
    (h : ∀ v' w', w'.ownsRow base e 1 v' (n + q) (xs ++ news) → w.grownBy w' v.ownBlock → K (a.put o.dst v') w') :
    if Region.wanted o (yielded ops a.tmps) = true then Oper.wpIn (Fence.wide.inRound r) m P o a w K Q else E := by
  have hw : Region.wanted o (yielded ops a.tmps) = true := by simp [Region.wanted, hgd]
  rw [if_pos hw]
  obtain ⟨v', w', hrun, h2, h3, _, h5⟩ := run_append_own_at (P := P) w base t o.type e i z 1 bytes ht hi hz hsize hby hzs (by decide) v n xs hown ad q c news hl hnews h1 h63 hbytes hbase
  unfold Oper.wpIn
  refine ⟨fun _ _ => trivial, ?_⟩
  rw [Oper.semAt_eq _ _ _ (by rw [ho]; intro c hc'; cases hc')]
  simp only [execOp, ho, resolve, invoke, builtin, Sem.run_bind, Sem.run_pure, Result.andThen_ok, List.map_toArray, List.map_cons, List.map_nil, hs, hx, hrun]
  exact h v' w' h2 h3
theorem keeps_below {W X : World} (h : Below W.heap.size W X) : KeepsOthers W X := ⟨h.size, fun k o hk _ => (h.block k (lt_of_block hk)).trans hk⟩
/-- What a round of Words leaves. -/
theorem words_round {l : Wd} {pre : List (Pc l.length)} {i : Nat} {hi8 : 8 * i < l.length} {w W w2 w3 : World} {N c cap B0 : Nat} {p : Option Addr} {xn : Int} {v' : Value}
    (hkz : w.heap.size + 1 < N + 2) (hkN : w.heap.size < N) (hs0 : N + 2 ≤ W.heap.size) (h2 : Below W.heap.size W w2) (hV2 : Boxed w2 w.heap.size 28 (.slice p (wp l pre).length c))
    (hR2 : w2.ownsRow (N + 2) 23 1 (.slice p (wp l pre).length c) (wp l pre).length (gvs (wp l pre)))
    (hg : (w2.alloc (.cells #[.int .u64 xn] 23)).grownBy w3 (Value.slice p (wp l pre).length c).ownBlock)
    (ho : w3.ownsRow (N + 2) 23 1 v' ((wp l pre).length + 1) (gvs (wp l pre) ++ [.int .u64 xn]))
    (h4 : Boxed (w3.setCell ⟨w.heap.size, 0, none⟩ v') w.heap.size 28 v' ∧ KeepsOthers w2 (w3.setCell ⟨w.heap.size, 0, none⟩ v') ∧ Below w.heap.size w2 (w3.setCell ⟨w.heap.size, 0, none⟩ v'))
    (hB : Below w.heap.size w W) (hcb : CB W (w.heap.size + 1) l) (hx1 : Boxed W N 61 (.slice (some ⟨w.heap.size + 1, 0, none⟩) l.length cap)) (hx2 : Boxed W (N + 1) 3 (.int .i64 8)) (hxn : num (piece l i) = xn) :
    KeepsFrom B0 W (w3.setCell ⟨w.heap.size, 0, none⟩ v') ∧ Kb N (N + 1) W (w3.setCell ⟨w.heap.size, 0, none⟩ v') ∧
      (((∃ v, Boxed (w3.setCell ⟨w.heap.size, 0, none⟩ v') w.heap.size 28 v ∧ (w3.setCell ⟨w.heap.size, 0, none⟩ v').ownsRow (N + 2) 23 1 v (wp l (pre ++ [⟨i, hi8⟩])).length (gvs (wp l (pre ++ [⟨i, hi8⟩]))) ∧ True) ∧ (CB (w3.setCell ⟨w.heap.size, 0, none⟩ v') (w.heap.size + 1) l ∧ Boxed (w3.setCell ⟨w.heap.size, 0, none⟩ v') N 61 (.slice (some ⟨w.heap.size + 1, 0, none⟩) l.length cap) ∧ Boxed (w3.setCell ⟨w.heap.size, 0, none⟩ v') (N + 1) 3 (.int .i64 8))) ∧ Below w.heap.size w (w3.setCell ⟨w.heap.size, 0, none⟩ v')) := by
  obtain ⟨hv4, hk4, hb4⟩ := h4
  have blk : ∀ b, b < N + 2 → b ≠ w.heap.size → (w3.setCell ⟨w.heap.size, 0, none⟩ v').heap[b]? = W.heap[b]? := fun b hb hne => by
    rw [Below.heap_setCell w3 ⟨w.heap.size, 0, none⟩ v' b hne]
    have hlt : b < w2.heap.size := by have := h2.size; omega
    rw [hg.block b (by simp; omega) (fun e => by have := (hR2.lt _ e.symm).1; omega), heap_old _ _ hlt, h2.block b (by omega)]
  have X1 : Boxed (w3.setCell ⟨w.heap.size, 0, none⟩ v') N 61 (.slice (some ⟨w.heap.size + 1, 0, none⟩) l.length cap) := (blk N (by omega) (by omega)).trans hx1
  have X2 : Boxed (w3.setCell ⟨w.heap.size, 0, none⟩ v') (N + 1) 3 (.int .i64 8) := (blk (N + 1) (by omega) (by omega)).trans hx2
  refine ⟨((keeps_below h2).trans hk4).from _, ⟨X1.cell.trans hx1.cell.symm, X2.cell.trans hx2.cell.symm⟩, ⟨⟨_, hv4, ?_, trivial⟩, ?_, X1, X2⟩, hB.trans ((h2.mono hB.size).trans hb4)⟩
  · have hr := ho.kept (grownBy_setCell' w3 w.heap.size v') (.inr (fun e => by have := (ho.lt _ e).1; omega))
    have e1 : wp l (pre ++ [⟨i, hi8⟩]) = wp l pre ++ [xn] := by rw [← hxn]; simp [wp]
    rw [e1, List.length_append, gvs_append]
    exact hr
  · intro j x hx
    exact (World.cell?_of_block (a := ⟨w.heap.size + 1, j, none⟩) (blk (w.heap.size + 1) (by omega) (by omega))).trans (hcb j x hx)
theorem num8 : ∀ (x : Wd), x.length ≤ 8 → num x = J bb (fun j => ((x.getD j 0).toNat : Int)) 8
  | [], _ => by simp [num, J, S, bb]
  | [a], _ => by simp [num, J, S, bb]
  | [a, b], _ => by simp [num, J, S, bb]; try omega
  | [a, b, c], _ => by simp [num, J, S, bb]; try omega
  | [a, b, c, d], _ => by simp [num, J, S, bb]; try omega
  | [a, b, c, d, e], _ => by simp [num, J, S, bb]; try omega
  | [a, b, c, d, e, f], _ => by simp [num, J, S, bb]; try omega
  | [a, b, c, d, e, f, g], _ => by simp [num, J, S, bb]; try omega
  | [a, b, c, d, e, f, g, h], _ => by simp [num, J, S, bb]; try omega
  | _ :: _ :: _ :: _ :: _ :: _ :: _ :: _ :: _ :: _, h => by simp at h
theorem J_bytes (x : Wd) (k : Nat) (hk : x.length = k) (h8 : k ≤ 8) : J bb (fun j => if j < k then ((x.getD j 0).toNat : Int) else 0) 8 = num x := by
  rw [num8 x (by omega)]
  congr 1
  funext j
  split
  · rfl
  · rw [List.getD, List.getElem?_eq_none (by omega)]; rfl
theorem kb_t {B1 B2 : Nat} {A B C : World} (h : Kb B1 B2 A B) (k : Kb B1 B2 B C) : Kb B1 B2 A C := ⟨k.1.trans h.1, k.2.trans h.2⟩
theorem kb_b {B1 B2 : Nat} {w : World} (h1 : B1 < w.heap.size) (h2 : B2 < w.heap.size) (W : World) (l : Nat) (o o' : Obj) (hl : w.heap.size ≤ l) (_ : W.heap[l]? = some o) (_ : o.isCells = false) (_ : o.isWalk = false) : Kb B1 B2 W (W.putObj l o') :=
  ⟨World.cell?_of_block (World.putObj_heap_other (by show B1 ≠ l; omega)), World.cell?_of_block (World.putObj_heap_other (by show B2 ≠ l; omega))⟩
set_option maxRecDepth 100000 in
set_option maxHeartbeats 4000000 in
theorem words_in (m : Nat) (hm : 3 ≤ m) (s : ByteArray) (hs : s.size ≤ 100000) (w : World) (hT : BT w) :
    CallsIn Fence.wide m Tryd.prog 16 #[.string s] w fun e W' => ∃ v, e = .returned v ∧ W'.ownsRow w.heap.size 23 1 v (nw s.data.toList.length) (gvs (wds s.data.toList)) ∧ Below w.heap.size w W' := by
  have h1 : 1 ≤ m := by omega
  have hF : Fence.wide.fn 30 := trivial
  obtain ⟨cap, V, hconv, hcb, hbe, hcap, hgV⟩ := conv_bytes s (w.alloc (.cells #[.slice none 0 0] 28))
  obtain ⟨i0, hi, hz0, hz1, hz2⟩ := info_parts info_G
  refine callsIn_of_wp_marks Tryd.func16 rfl trivial ?_ rfl
  simp only [Tryd.ntmps16, List.size_toArray, List.length_cons, List.length_nil, Nat.reduceAdd, Nat.reduceSub, Array.replicate_succ, Array.replicate_zero, List.push_toArray, List.append_toArray, List.nil_append, List.cons_append]
  have hb0 : (w.alloc (.cells #[.slice none 0 0] 28)).heap.size = w.heap.size + 1 := by simp
  rw [hb0] at hconv hcb hbe hgV
  gi_wp2_with (gi_at_call 30; refine (chunk_in (m - 1) _ _ _ _).mono ?_; rintro e w' ⟨rfl, rfl⟩)
  have HB0 : Hid (Below w.heap.size w V) := Lib.hid (((Below.refl _ w).alloc (Nat.le_refl _) (.cells #[.slice none 0 0] 28)).trans (hbe.mono (by omega)))
  have b0 : Boxed V w.heap.size 28 (.slice none 0 0) := (hbe.block w.heap.size (by omega)).trans (Boxed.new w 28 (.slice none 0 0))
  replace b0 := (b0.alloc (.cells #[.slice (some ⟨w.heap.size + 1, 0, none⟩) s.size cap] 61)).alloc (.cells #[.int .i64 8] 3)
  obtain ⟨N, hN⟩ : ∃ N, V.heap.size = N := ⟨_, rfl⟩
  have b1 : Boxed ((V.alloc (.cells #[.slice (some ⟨w.heap.size + 1, 0, none⟩) s.size cap] 61)).alloc (.cells #[.int .i64 8] 3)) N 61 (.slice (some ⟨w.heap.size + 1, 0, none⟩) s.size cap) := by
    rw [← hN]; exact (Boxed.new V 61 (.slice (some ⟨w.heap.size + 1, 0, none⟩) s.size cap)).alloc (.cells #[.int .i64 8] 3)
  have b2 : Boxed ((V.alloc (.cells #[.slice (some ⟨w.heap.size + 1, 0, none⟩) s.size cap] 61)).alloc (.cells #[.int .i64 8] 3)) (N + 1) 3 (.int .i64 8) := by
    rw [← hN]
    have := Boxed.new (V.alloc (.cells #[.slice (some ⟨w.heap.size + 1, 0, none⟩) s.size cap] 61)) 3 (.int .i64 8)
    simpa only [World.size_alloc] using this
  have hcb0 : CB ((V.alloc (.cells #[.slice (some ⟨w.heap.size + 1, 0, none⟩) s.size cap] 61)).alloc (.cells #[.int .i64 8] 3)) (w.heap.size + 1) s.data.toList := hcb.below (((Below.refl _ V).alloc (Nat.le_refl _) _).alloc (by simp) _) (by omega)
  have HB1 : Hid (Below w.heap.size w ((V.alloc (.cells #[.slice (some ⟨w.heap.size + 1, 0, none⟩) s.size cap] 61)).alloc (.cells #[.int .i64 8] 3))) := Lib.hid ((HB0.out.alloc (by have := HB0.out.size; omega) _).alloc (by have := HB0.out.size; simp; omega) _)
  have hsz : ((V.alloc (.cells #[.slice (some ⟨w.heap.size + 1, 0, none⟩) s.size cap] 61)).alloc (.cells #[.int .i64 8] 3)).heap.size = N + 2 := by simp [hN]
  rw [hN] at hgV ⊢
  revert b0 b1 b2 hsz hcb0 HB1
  generalize ((V.alloc (.cells #[.slice (some ⟨w.heap.size + 1, 0, none⟩) s.size cap] 61)).alloc (.cells #[.int .i64 8] 3)) = W0
  intro b0 b1 b2 hcb0 HB1 hsz
  have HSZ := Lib.hid hsz
  have hss : s.size = s.data.toList.length := Lib.size_eq s
  have hn : s.data.toList.length ≤ 100000 := by omega
  rw [hss] at b1 hcap
  rw [hss]
  obtain ⟨l, hl⟩ : ∃ l, s.data.toList = l := ⟨_, rfl⟩
  rw [hl] at b1 hcap hcb0 hn ⊢
  have HLL := Lib.hid hl
  clear hsz hss hconv hbe hcb hN HB0 hl
  refine wpIn_rangeFunc_ownG rfl h1 (gf := 40) (lb := #[.pointer (some ⟨N, 0, none⟩), .pointer (some ⟨N + 1, 0, none⟩)]) rfl trivial (enters_of Tryd.func40 (by kernel_rfl) rfl)
    (chunk_stops (m - 1) (by omega) N (N + 1) (w.heap.size + 1) l.length cap hn hcap W0 (by rw [HSZ.out]; omega) (by rw [HSZ.out]; omega) b1.cell b2.cell) kb_t (kb_b (by rw [HSZ.out]; omega) (by rw [HSZ.out]; omega)) (Below.refl _ _) (fun _ => rfl)
    (fun pre W => ((∃ v, Boxed W w.heap.size 28 v ∧ W.ownsRow (N + 2) 23 1 v (wp l pre).length (gvs (wp l pre)) ∧ True) ∧ (CB W (w.heap.size + 1) l ∧ Boxed W N 61 (.slice (some ⟨w.heap.size + 1, 0, none⟩) l.length cap) ∧ Boxed W (N + 1) 3 (.int .i64 8))) ∧ Below w.heap.size w W)
    (fun _ _ _ => False)
    (OwnFrom.and (OwnFrom.and (Own.from (holdsRow_own (N + 2) w.heap.size 28 23 1 (fun pre => (wp l pre).length) (fun pre => gvs (wp l pre)) (fun _ _ => True)) _)
      (fun s A B row hs hg hr => ⟨fun j x hx => cell_kept (hs.1 j x hx) hg (fun r e => (hr r e).2), hs.2.1.kept hg (fun e => by have := (hr _ e.symm).1; rw [HSZ.out] at this; omega), hs.2.2.kept hg (fun e => by have := (hr _ e.symm).1; rw [HSZ.out] at this; omega)⟩)) (ownFrom_below (Nat.le_refl _) (by rw [HSZ.out]; omega)))
    (fun _ _ _ _ _ hs _ _ => hs)
    ⟨⟨⟨_, b0, World.ownsRow_nil _ _ _ _, trivial⟩, hcb0, b1, b2⟩, HB1.out⟩
    (fun x => { tmps := #[.string s, undef, .slice none 0 0, .pointer (some ⟨w.heap.size, 0, none⟩), pcv (w.heap.size + 1) l.length x.1, undef, undef, undef, .string s, .slice (some ⟨w.heap.size + 1, 0, none⟩) l.length cap, .func (.func 40) #[] #[.pointer (some ⟨N, 0, none⟩), .pointer (some ⟨N + 1, 0, none⟩)], pcv (w.heap.size + 1) l.length x.1, undef, undef, undef, undef, undef, undef, undef, undef, undef, undef, undef, undef, undef, undef, undef, undef, undef, undef, undef], defers := [] }) ?assign ?body ?done ?stop
  case assign =>
    intro l x W K hK
    gi_wp2
    exact hK
  case body =>
    rintro r pre ⟨i, hi8⟩ W ⟨⟨⟨v, hv, hrow, _⟩, hcb, hx1, hx2⟩, hB⟩ hpl
    unfold pcv
    dsimp only
    obtain ⟨e, he⟩ : ∃ e : Nat, min 8 (l.length - 8 * i) = e := ⟨_, rfl⟩
    have e8 : e ≤ 8 := by omega
    have e9 : 8 * i + e ≤ l.length := by omega
    have HLe : Hid ((piece l i).length = e) := Lib.hid (by rw [piece_length, he])
    rw [he]
    have HV := Lib.hid hv
    have HR := Lib.hid hrow
    have HCB := Lib.hid hcb
    have HX1 := Lib.hid hx1
    have HX2 := Lib.hid hx2
    have HB := Lib.hid hB
    have hsW := hB.size
    have hs0 : N + 2 ≤ W.heap.size := by have := hx2.lt; omega
    have hpB : Below W.heap.size W (W.alloc (.cells (pArr (fun _ => 0)) 63)) := (Below.refl _ _).alloc (Nat.le_refl _) _
    have HPB := Lib.hid hpB
    have HP0 : Hid (PB (W.alloc (.cells (pArr (fun _ => 0)) 63)) W.heap.size (fun _ => 0)) := Lib.hid (PB.of_block (heap_new _ _))
    have hgl : w.heap.size + 1 < W.heap.size := by have := hx1.lt; omega
    clear hv hrow hcb hx1 hx2 hB hpB he
    gi_wp2
    gi_loopw [14] (fun q wr => ∃ k : Nat, k ≤ e ∧ q = .int .i64 k ∧ Hid (PB wr W.heap.size (fun j => if j < k then ((piece l i).getD j 0).toNat else 0)) ∧ Hid (Below W.heap.size W wr)) (fun q _ => e - (intOf q).toNat)
    case atStart => exact ⟨0, Nat.zero_le _, rfl, Lib.hid (HP0.out.congr (fun j _ => by rw [if_neg (by omega)])), HPB⟩
    case round =>
      obtain ⟨k, hk, rfl, HA, HBr⟩ := hrel
      by_cases hlt : k < e
      · have hll : 8 * i + k < l.length := by omega
        have hc := bcell HBr.out hgl (HCB.out (8 * i + k) _ (List.getElem?_eq_getElem hll))
        have HPK : Hid ((((piece l i).getD k 0).toNat : Int) = (l[8 * i + k].toNat : Int)) := Lib.hid (by rw [piece_get _ _ _ (by omega), List.getD, List.getElem?_eq_getElem hll]; rfl)
        have hz0 : (0 : Int) ≤ (l[8 * i + k].toNat : Int) := by omega
        have hz1 : (l[8 * i + k].toNat : Int) ≤ 255 := by have := l[8 * i + k].toNat_lt; omega
        have k0 : (0 : Int) ≤ (k : Int) := by omega
        have k1 : (k : Int) < 8 := by omega
        obtain ⟨hpc, hpf⟩ := HA.out k (by omega)
        generalize (l[8 * i + k].toNat : Int) = z at *
        gi_wp2
        go_roundw
        case rel =>
          refine ⟨k + 1, by omega, by go_num, Lib.hid ((HA.out.set (show k < 8 by omega) z).congr (fun j hj => ?_)), Lib.hid (HBr.out.setCell (p := ⟨W.heap.size, k, none⟩) (Nat.le_refl _) _)⟩
          by_cases ej : j = k
          · subst ej
            rw [if_pos rfl, if_pos (by omega), HPK.out]
          · rw [if_neg ej]
            by_cases e' : j < k
            · rw [if_pos e', if_pos (by omega)]
            · rw [if_neg e', if_neg (by omega)]
        case measure => simp [intOf]; omega
      · obtain rfl : k = e := by omega
        obtain ⟨p, cp, rfl, hp1, hp2, -⟩ := own_form HR.out
        have HBw : Hid (Below w.heap.size w wr) := Lib.hid (HB.out.trans (HBr.out.mono hsW))
        have hsr := HBr.out.size
        have hkl : w.heap.size < wr.heap.size := by omega
        have HVr : Hid (Boxed wr w.heap.size 28 (.slice p (wp l pre).length cp)) := Lib.hid ((HBr.out.block _ (by omega)).trans HV.out)
        have hc0 := HVr.out.cell
        have hf0 := HVr.out.frozen
        have HRr : Hid (wr.ownsRow (N + 2) 23 1 (.slice p (wp l pre).length cp) (wp l pre).length (gvs (wp l pre))) := Lib.hid (own_below HR.out HBr.out)
        have hwl : (wp l pre).length ≤ 100000 := by
          have : (wp l pre).length = pre.length := by simp [wp]
          rw [this]
          unfold nw at hpl
          omega
        have hN2 : N + 2 ≤ wr.heap.size := by have := hs0; omega
        obtain ⟨t0, t1, t2, t3, t4, t5, t6, t7⟩ := (hT.below HBw.out).allB
        obtain ⟨f, HAf, HJ⟩ : ∃ f : Nat → Int, PB wr W.heap.size f ∧ Hid (∀ X, Calls Tryd.prog 31 #[.agg aB, .agg (pArr f)] X fun e w' => e = .returned (.int .u64 (num (piece l i))) ∧ Below X.heap.size X w') := ⟨_, HA.out, Lib.hid (fun X => by
          have := join_B (fun j => if j < k then ((piece l i).getD j 0).toNat else 0) X (fun j hj => by
            show 0 ≤ (if j < k then (((piece l i).getD j 0).toNat : Int) else 0) ∧ (if j < k then (((piece l i).getD j 0).toNat : Int) else 0) < 256
            split
            · have := ((piece l i).getD j 0).toNat_lt; omega
            · omega)
          rwa [J_bytes (piece l i) k HLe.out (by omega)] at this)⟩
        obtain ⟨a0, a1, a2, a3, a4, a5, a6, a7⟩ := HAf.all
        obtain ⟨xn, hxn⟩ : ∃ xn, num (piece l i) = xn := ⟨_, rfl⟩
        have hx0 : 0 ≤ xn := by rw [← hxn]; exact num_nonneg _
        rw [hxn] at HJ
        have HXN := Lib.hid hxn
        clear HAf HA hxn
        have hm2 : 1 ≤ m - 1 - 1 := by omega
        gi_wp2_with fail
        refine wpIn_region_any (by kernel_rfl) ?_
        change wpAnyIn _ _ _ _ _ _ _ _ _ (World.drew _)
        refine wpAnyIn_ready (rs := [0, 1, 2]) (by kernel_rfl) (by simp) ?_
        refine AllReadyIn.cons rfl (fun K hK => ?_) (AllReadyIn.cons rfl (fun K hK => ?_) (AllReadyIn.cons rfl (fun K hK => ?_) AllReadyIn.nil))
        · go_simp
          refine hK _ _ ?_
          clear hK K
          refine wpAnyIn_ready (rs := [1, 2]) (by kernel_rfl) (by simp) ?_
          refine AllReadyIn.cons rfl (fun K hK => ?_) (AllReadyIn.cons rfl (fun K hK => ?_) AllReadyIn.nil)
          · go_simp
            refine hK _ _ ?_
            clear hK K
            refine wpAnyIn_ready (rs := [2]) (by kernel_rfl) (by simp) ?_
            refine AllReadyIn.cons rfl (fun K hK => ?_) AllReadyIn.nil
            go_simp
            refine hK _ _ ?_
            clear hK K
            refine wpAnyIn_ready (rs := [3]) (by kernel_rfl) (by simp) ?_
            refine AllReadyIn.cons rfl (fun K hK => ?_) AllReadyIn.nil
            go_simp
            gi_wp2_with (refine ⟨trivial, ?_⟩; gi_at_call 31; refine (CallsIn.inRound r (callsIn_wide.2 (HJ.out _))).mono ?_; rintro e w2 ⟨rfl, hb2⟩)
            have HB2 : Hid (Below wr.heap.size wr w2) := Lib.hid ((Below.refl wr.heap.size wr).drew.trans hb2)
            have HV2 : Hid (Boxed w2 w.heap.size 28 (.slice p (wp l pre).length cp)) := Lib.hid ((HB2.out.block _ hkl).trans HVr.out)
            have HR2 : Hid (w2.ownsRow (N + 2) 23 1 (.slice p (wp l pre).length cp) (wp l pre).length (gvs (wp l pre))) := Lib.hid (own_below HRr.out HB2.out)
            have hc2 := HV2.out.cell
            have hs2 := HB2.out.size
            clear hb2
            refine wpAnyIn_ready (rs := [4]) (by kernel_rfl) (by simp) ?_
            refine AllReadyIn.cons rfl (fun K hK => ?_) AllReadyIn.nil
            go_simp
            refine hK _ _ ?_
            clear hK K
            have hc2a := (HV2.out.alloc (.cells #[.int .u64 xn] 23)).cell
            refine wpAnyIn_ready (rs := [5]) (by kernel_rfl) (by simp) ?_
            refine AllReadyIn.cons rfl (fun K hK => ?_) AllReadyIn.nil
            refine stepIn_own rfl (.tmp 24) (.tmp 28) 28 rfl (N + 2) 23 i0 (.int .u64 0) 8 Tryd.underlying28 hi hz0 hz1 hz2 rfl _ (wp l pre).length (gvs (wp l pre)) rfl (HR2.out.alloc _) ⟨w2.heap.size, 0, none⟩ 1 1 [.int .u64 xn] rfl rfl (cell_one_new _ _ _) (by simp [Value.oneCell']) (by unfold maxLen; omega) (by omega) (by simp; omega) ?_
            intro v' w3 hown' hgrow
            obtain ⟨g', cap', rfl⟩ := ownsRow_succ hown'
            obtain ⟨hv3, hv4, hr4, hk4, hb4⟩ := HV2.out.appended (by decide) (HR2.out.mono (show w.heap.size ≤ N + 2 by omega)) (by omega) (Nat.le_refl _) (hown'.mono (by omega)) hgrow
            have hc3 := hv3.cell
            have hf3 := hv3.frozen
            have HG := Lib.hid hgrow
            have HO := Lib.hid hown'
            have H4 := Lib.hid (And.intro hv4 (And.intro hk4 hb4))
            clear hv3 hv4 hr4 hk4 hb4 hgrow hown'
            refine hK _ _ ?_
            clear hK K
            refine wpAnyIn_ready (rs := [6]) (by kernel_rfl) (by simp) ?_
            refine AllReadyIn.cons rfl (fun K hK => ?_) AllReadyIn.nil
            go_simp
            refine hK _ _ ?_
            clear hK K
            refine wpAnyIn_done (by kernel_rfl) ?_ _
            gi_wp2
            exact words_round (by omega) (by omega) hs0 (HBr.out.trans (HB2.out.mono (by omega))) HV2.out HR2.out HG.out HO.out H4.out HB.out HCB.out HX1.out HX2.out HXN.out
          · go_simp
            refine hK _ _ ?_
            clear hK K
            refine wpAnyIn_ready (rs := [1]) (by kernel_rfl) (by simp) ?_
            refine AllReadyIn.cons rfl (fun K hK => ?_) AllReadyIn.nil
            go_simp
            refine hK _ _ ?_
            clear hK K
            refine wpAnyIn_ready (rs := [3]) (by kernel_rfl) (by simp) ?_
            refine AllReadyIn.cons rfl (fun K hK => ?_) AllReadyIn.nil
            go_simp
            gi_wp2_with (refine ⟨trivial, ?_⟩; gi_at_call 31; refine (CallsIn.inRound r (callsIn_wide.2 (HJ.out _))).mono ?_; rintro e w2 ⟨rfl, hb2⟩)
            have HB2 : Hid (Below wr.heap.size wr w2) := Lib.hid ((Below.refl wr.heap.size wr).drew.trans hb2)
            have HV2 : Hid (Boxed w2 w.heap.size 28 (.slice p (wp l pre).length cp)) := Lib.hid ((HB2.out.block _ hkl).trans HVr.out)
            have HR2 : Hid (w2.ownsRow (N + 2) 23 1 (.slice p (wp l pre).length cp) (wp l pre).length (gvs (wp l pre))) := Lib.hid (own_below HRr.out HB2.out)
            have hc2 := HV2.out.cell
            have hs2 := HB2.out.size
            clear hb2
            refine wpAnyIn_ready (rs := [4]) (by kernel_rfl) (by simp) ?_
            refine AllReadyIn.cons rfl (fun K hK => ?_) AllReadyIn.nil
            go_simp
            refine hK _ _ ?_
            clear hK K
            have hc2a := (HV2.out.alloc (.cells #[.int .u64 xn] 23)).cell
            refine wpAnyIn_ready (rs := [5]) (by kernel_rfl) (by simp) ?_
            refine AllReadyIn.cons rfl (fun K hK => ?_) AllReadyIn.nil
            refine stepIn_own rfl (.tmp 24) (.tmp 28) 28 rfl (N + 2) 23 i0 (.int .u64 0) 8 Tryd.underlying28 hi hz0 hz1 hz2 rfl _ (wp l pre).length (gvs (wp l pre)) rfl (HR2.out.alloc _) ⟨w2.heap.size, 0, none⟩ 1 1 [.int .u64 xn] rfl rfl (cell_one_new _ _ _) (by simp [Value.oneCell']) (by unfold maxLen; omega) (by omega) (by simp; omega) ?_
            intro v' w3 hown' hgrow
            obtain ⟨g', cap', rfl⟩ := ownsRow_succ hown'
            obtain ⟨hv3, hv4, hr4, hk4, hb4⟩ := HV2.out.appended (by decide) (HR2.out.mono (show w.heap.size ≤ N + 2 by omega)) (by omega) (Nat.le_refl _) (hown'.mono (by omega)) hgrow
            have hc3 := hv3.cell
            have hf3 := hv3.frozen
            have HG := Lib.hid hgrow
            have HO := Lib.hid hown'
            have H4 := Lib.hid (And.intro hv4 (And.intro hk4 hb4))
            clear hv3 hv4 hr4 hk4 hb4 hgrow hown'
            refine hK _ _ ?_
            clear hK K
            refine wpAnyIn_ready (rs := [6]) (by kernel_rfl) (by simp) ?_
            refine AllReadyIn.cons rfl (fun K hK => ?_) AllReadyIn.nil
            go_simp
            refine hK _ _ ?_
            clear hK K
            refine wpAnyIn_done (by kernel_rfl) ?_ _
            gi_wp2
            exact words_round (by omega) (by omega) hs0 (HBr.out.trans (HB2.out.mono (by omega))) HV2.out HR2.out HG.out HO.out H4.out HB.out HCB.out HX1.out HX2.out HXN.out
        · go_simp
          refine hK _ _ ?_
          clear hK K
          refine wpAnyIn_ready (rs := [0, 2]) (by kernel_rfl) (by simp) ?_
          refine AllReadyIn.cons rfl (fun K hK => ?_) (AllReadyIn.cons rfl (fun K hK => ?_) AllReadyIn.nil)
          · go_simp
            refine hK _ _ ?_
            clear hK K
            refine wpAnyIn_ready (rs := [2]) (by kernel_rfl) (by simp) ?_
            refine AllReadyIn.cons rfl (fun K hK => ?_) AllReadyIn.nil
            go_simp
            refine hK _ _ ?_
            clear hK K
            refine wpAnyIn_ready (rs := [3]) (by kernel_rfl) (by simp) ?_
            refine AllReadyIn.cons rfl (fun K hK => ?_) AllReadyIn.nil
            go_simp
            gi_wp2_with (refine ⟨trivial, ?_⟩; gi_at_call 31; refine (CallsIn.inRound r (callsIn_wide.2 (HJ.out _))).mono ?_; rintro e w2 ⟨rfl, hb2⟩)
            have HB2 : Hid (Below wr.heap.size wr w2) := Lib.hid ((Below.refl wr.heap.size wr).drew.trans hb2)
            have HV2 : Hid (Boxed w2 w.heap.size 28 (.slice p (wp l pre).length cp)) := Lib.hid ((HB2.out.block _ hkl).trans HVr.out)
            have HR2 : Hid (w2.ownsRow (N + 2) 23 1 (.slice p (wp l pre).length cp) (wp l pre).length (gvs (wp l pre))) := Lib.hid (own_below HRr.out HB2.out)
            have hc2 := HV2.out.cell
            have hs2 := HB2.out.size
            clear hb2
            refine wpAnyIn_ready (rs := [4]) (by kernel_rfl) (by simp) ?_
            refine AllReadyIn.cons rfl (fun K hK => ?_) AllReadyIn.nil
            go_simp
            refine hK _ _ ?_
            clear hK K
            have hc2a := (HV2.out.alloc (.cells #[.int .u64 xn] 23)).cell
            refine wpAnyIn_ready (rs := [5]) (by kernel_rfl) (by simp) ?_
            refine AllReadyIn.cons rfl (fun K hK => ?_) AllReadyIn.nil
            refine stepIn_own rfl (.tmp 24) (.tmp 28) 28 rfl (N + 2) 23 i0 (.int .u64 0) 8 Tryd.underlying28 hi hz0 hz1 hz2 rfl _ (wp l pre).length (gvs (wp l pre)) rfl (HR2.out.alloc _) ⟨w2.heap.size, 0, none⟩ 1 1 [.int .u64 xn] rfl rfl (cell_one_new _ _ _) (by simp [Value.oneCell']) (by unfold maxLen; omega) (by omega) (by simp; omega) ?_
            intro v' w3 hown' hgrow
            obtain ⟨g', cap', rfl⟩ := ownsRow_succ hown'
            obtain ⟨hv3, hv4, hr4, hk4, hb4⟩ := HV2.out.appended (by decide) (HR2.out.mono (show w.heap.size ≤ N + 2 by omega)) (by omega) (Nat.le_refl _) (hown'.mono (by omega)) hgrow
            have hc3 := hv3.cell
            have hf3 := hv3.frozen
            have HG := Lib.hid hgrow
            have HO := Lib.hid hown'
            have H4 := Lib.hid (And.intro hv4 (And.intro hk4 hb4))
            clear hv3 hv4 hr4 hk4 hb4 hgrow hown'
            refine hK _ _ ?_
            clear hK K
            refine wpAnyIn_ready (rs := [6]) (by kernel_rfl) (by simp) ?_
            refine AllReadyIn.cons rfl (fun K hK => ?_) AllReadyIn.nil
            go_simp
            refine hK _ _ ?_
            clear hK K
            refine wpAnyIn_done (by kernel_rfl) ?_ _
            gi_wp2
            exact words_round (by omega) (by omega) hs0 (HBr.out.trans (HB2.out.mono (by omega))) HV2.out HR2.out HG.out HO.out H4.out HB.out HCB.out HX1.out HX2.out HXN.out
          · go_simp
            refine hK _ _ ?_
            clear hK K
            refine wpAnyIn_ready (rs := [0, 3]) (by kernel_rfl) (by simp) ?_
            refine AllReadyIn.cons rfl (fun K hK => ?_) (AllReadyIn.cons rfl (fun K hK => ?_) AllReadyIn.nil)
            · go_simp
              refine hK _ _ ?_
              clear hK K
              refine wpAnyIn_ready (rs := [3]) (by kernel_rfl) (by simp) ?_
              refine AllReadyIn.cons rfl (fun K hK => ?_) AllReadyIn.nil
              go_simp
              gi_wp2_with (refine ⟨trivial, ?_⟩; gi_at_call 31; refine (CallsIn.inRound r (callsIn_wide.2 (HJ.out _))).mono ?_; rintro e w2 ⟨rfl, hb2⟩)
              have HB2 : Hid (Below wr.heap.size wr w2) := Lib.hid ((Below.refl wr.heap.size wr).drew.trans hb2)
              have HV2 : Hid (Boxed w2 w.heap.size 28 (.slice p (wp l pre).length cp)) := Lib.hid ((HB2.out.block _ hkl).trans HVr.out)
              have HR2 : Hid (w2.ownsRow (N + 2) 23 1 (.slice p (wp l pre).length cp) (wp l pre).length (gvs (wp l pre))) := Lib.hid (own_below HRr.out HB2.out)
              have hc2 := HV2.out.cell
              have hs2 := HB2.out.size
              clear hb2
              refine wpAnyIn_ready (rs := [4]) (by kernel_rfl) (by simp) ?_
              refine AllReadyIn.cons rfl (fun K hK => ?_) AllReadyIn.nil
              go_simp
              refine hK _ _ ?_
              clear hK K
              have hc2a := (HV2.out.alloc (.cells #[.int .u64 xn] 23)).cell
              refine wpAnyIn_ready (rs := [5]) (by kernel_rfl) (by simp) ?_
              refine AllReadyIn.cons rfl (fun K hK => ?_) AllReadyIn.nil
              refine stepIn_own rfl (.tmp 24) (.tmp 28) 28 rfl (N + 2) 23 i0 (.int .u64 0) 8 Tryd.underlying28 hi hz0 hz1 hz2 rfl _ (wp l pre).length (gvs (wp l pre)) rfl (HR2.out.alloc _) ⟨w2.heap.size, 0, none⟩ 1 1 [.int .u64 xn] rfl rfl (cell_one_new _ _ _) (by simp [Value.oneCell']) (by unfold maxLen; omega) (by omega) (by simp; omega) ?_
              intro v' w3 hown' hgrow
              obtain ⟨g', cap', rfl⟩ := ownsRow_succ hown'
              obtain ⟨hv3, hv4, hr4, hk4, hb4⟩ := HV2.out.appended (by decide) (HR2.out.mono (show w.heap.size ≤ N + 2 by omega)) (by omega) (Nat.le_refl _) (hown'.mono (by omega)) hgrow
              have hc3 := hv3.cell
              have hf3 := hv3.frozen
              have HG := Lib.hid hgrow
              have HO := Lib.hid hown'
              have H4 := Lib.hid (And.intro hv4 (And.intro hk4 hb4))
              clear hv3 hv4 hr4 hk4 hb4 hgrow hown'
              refine hK _ _ ?_
              clear hK K
              refine wpAnyIn_ready (rs := [6]) (by kernel_rfl) (by simp) ?_
              refine AllReadyIn.cons rfl (fun K hK => ?_) AllReadyIn.nil
              go_simp
              refine hK _ _ ?_
              clear hK K
              refine wpAnyIn_done (by kernel_rfl) ?_ _
              gi_wp2
              exact words_round (by omega) (by omega) hs0 (HBr.out.trans (HB2.out.mono (by omega))) HV2.out HR2.out HG.out HO.out H4.out HB.out HCB.out HX1.out HX2.out HXN.out
            · go_simp
              gi_wp2_with (refine ⟨trivial, ?_⟩; gi_at_call 31; refine (CallsIn.inRound r (callsIn_wide.2 (HJ.out _))).mono ?_; rintro e w2 ⟨rfl, hb2⟩)
              have HB2 : Hid (Below wr.heap.size wr w2) := Lib.hid ((Below.refl wr.heap.size wr).drew.trans hb2)
              have HV2 : Hid (Boxed w2 w.heap.size 28 (.slice p (wp l pre).length cp)) := Lib.hid ((HB2.out.block _ hkl).trans HVr.out)
              have HR2 : Hid (w2.ownsRow (N + 2) 23 1 (.slice p (wp l pre).length cp) (wp l pre).length (gvs (wp l pre))) := Lib.hid (own_below HRr.out HB2.out)
              have hc2 := HV2.out.cell
              have hs2 := HB2.out.size
              clear hb2
              refine wpAnyIn_ready (rs := [0, 4]) (by kernel_rfl) (by simp) ?_
              refine AllReadyIn.cons rfl (fun K hK => ?_) (AllReadyIn.cons rfl (fun K hK => ?_) AllReadyIn.nil)
              · go_simp
                refine hK _ _ ?_
                clear hK K
                refine wpAnyIn_ready (rs := [4]) (by kernel_rfl) (by simp) ?_
                refine AllReadyIn.cons rfl (fun K hK => ?_) AllReadyIn.nil
                go_simp
                refine hK _ _ ?_
                clear hK K
                have hc2a := (HV2.out.alloc (.cells #[.int .u64 xn] 23)).cell
                refine wpAnyIn_ready (rs := [5]) (by kernel_rfl) (by simp) ?_
                refine AllReadyIn.cons rfl (fun K hK => ?_) AllReadyIn.nil
                refine stepIn_own rfl (.tmp 24) (.tmp 28) 28 rfl (N + 2) 23 i0 (.int .u64 0) 8 Tryd.underlying28 hi hz0 hz1 hz2 rfl _ (wp l pre).length (gvs (wp l pre)) rfl (HR2.out.alloc _) ⟨w2.heap.size, 0, none⟩ 1 1 [.int .u64 xn] rfl rfl (cell_one_new _ _ _) (by simp [Value.oneCell']) (by unfold maxLen; omega) (by omega) (by simp; omega) ?_
                intro v' w3 hown' hgrow
                obtain ⟨g', cap', rfl⟩ := ownsRow_succ hown'
                obtain ⟨hv3, hv4, hr4, hk4, hb4⟩ := HV2.out.appended (by decide) (HR2.out.mono (show w.heap.size ≤ N + 2 by omega)) (by omega) (Nat.le_refl _) (hown'.mono (by omega)) hgrow
                have hc3 := hv3.cell
                have hf3 := hv3.frozen
                have HG := Lib.hid hgrow
                have HO := Lib.hid hown'
                have H4 := Lib.hid (And.intro hv4 (And.intro hk4 hb4))
                clear hv3 hv4 hr4 hk4 hb4 hgrow hown'
                refine hK _ _ ?_
                clear hK K
                refine wpAnyIn_ready (rs := [6]) (by kernel_rfl) (by simp) ?_
                refine AllReadyIn.cons rfl (fun K hK => ?_) AllReadyIn.nil
                go_simp
                refine hK _ _ ?_
                clear hK K
                refine wpAnyIn_done (by kernel_rfl) ?_ _
                gi_wp2
                exact words_round (by omega) (by omega) hs0 (HBr.out.trans (HB2.out.mono (by omega))) HV2.out HR2.out HG.out HO.out H4.out HB.out HCB.out HX1.out HX2.out HXN.out
              · go_simp
                refine hK _ _ ?_
                clear hK K
                have hc2a := (HV2.out.alloc (.cells #[.int .u64 xn] 23)).cell
                refine wpAnyIn_ready (rs := [0]) (by kernel_rfl) (by simp) ?_
                refine AllReadyIn.cons rfl (fun K hK => ?_) AllReadyIn.nil
                go_simp
                refine hK _ _ ?_
                clear hK K
                refine wpAnyIn_ready (rs := [5]) (by kernel_rfl) (by simp) ?_
                refine AllReadyIn.cons rfl (fun K hK => ?_) AllReadyIn.nil
                refine stepIn_own rfl (.tmp 24) (.tmp 28) 28 rfl (N + 2) 23 i0 (.int .u64 0) 8 Tryd.underlying28 hi hz0 hz1 hz2 rfl _ (wp l pre).length (gvs (wp l pre)) rfl (HR2.out.alloc _) ⟨w2.heap.size, 0, none⟩ 1 1 [.int .u64 xn] rfl rfl (cell_one_new _ _ _) (by simp [Value.oneCell']) (by unfold maxLen; omega) (by omega) (by simp; omega) ?_
                intro v' w3 hown' hgrow
                obtain ⟨g', cap', rfl⟩ := ownsRow_succ hown'
                obtain ⟨hv3, hv4, hr4, hk4, hb4⟩ := HV2.out.appended (by decide) (HR2.out.mono (show w.heap.size ≤ N + 2 by omega)) (by omega) (Nat.le_refl _) (hown'.mono (by omega)) hgrow
                have hc3 := hv3.cell
                have hf3 := hv3.frozen
                have HG := Lib.hid hgrow
                have HO := Lib.hid hown'
                have H4 := Lib.hid (And.intro hv4 (And.intro hk4 hb4))
                clear hv3 hv4 hr4 hk4 hb4 hgrow hown'
                refine hK _ _ ?_
                clear hK K
                refine wpAnyIn_ready (rs := [6]) (by kernel_rfl) (by simp) ?_
                refine AllReadyIn.cons rfl (fun K hK => ?_) AllReadyIn.nil
                go_simp
                refine hK _ _ ?_
                clear hK K
                refine wpAnyIn_done (by kernel_rfl) ?_ _
                gi_wp2
                exact words_round (by omega) (by omega) hs0 (HBr.out.trans (HB2.out.mono (by omega))) HV2.out HR2.out HG.out HO.out H4.out HB.out HCB.out HX1.out HX2.out HXN.out
        · go_simp
          refine hK _ _ ?_
          clear hK K
          refine wpAnyIn_ready (rs := [0, 1]) (by kernel_rfl) (by simp) ?_
          refine AllReadyIn.cons rfl (fun K hK => ?_) (AllReadyIn.cons rfl (fun K hK => ?_) AllReadyIn.nil)
          · go_simp
            refine hK _ _ ?_
            clear hK K
            refine wpAnyIn_ready (rs := [1]) (by kernel_rfl) (by simp) ?_
            refine AllReadyIn.cons rfl (fun K hK => ?_) AllReadyIn.nil
            go_simp
            refine hK _ _ ?_
            clear hK K
            refine wpAnyIn_ready (rs := [3]) (by kernel_rfl) (by simp) ?_
            refine AllReadyIn.cons rfl (fun K hK => ?_) AllReadyIn.nil
            go_simp
            gi_wp2_with (refine ⟨trivial, ?_⟩; gi_at_call 31; refine (CallsIn.inRound r (callsIn_wide.2 (HJ.out _))).mono ?_; rintro e w2 ⟨rfl, hb2⟩)
            have HB2 : Hid (Below wr.heap.size wr w2) := Lib.hid ((Below.refl wr.heap.size wr).drew.trans hb2)
            have HV2 : Hid (Boxed w2 w.heap.size 28 (.slice p (wp l pre).length cp)) := Lib.hid ((HB2.out.block _ hkl).trans HVr.out)
            have HR2 : Hid (w2.ownsRow (N + 2) 23 1 (.slice p (wp l pre).length cp) (wp l pre).length (gvs (wp l pre))) := Lib.hid (own_below HRr.out HB2.out)
            have hc2 := HV2.out.cell
            have hs2 := HB2.out.size
            clear hb2
            refine wpAnyIn_ready (rs := [4]) (by kernel_rfl) (by simp) ?_
            refine AllReadyIn.cons rfl (fun K hK => ?_) AllReadyIn.nil
            go_simp
            refine hK _ _ ?_
            clear hK K
            have hc2a := (HV2.out.alloc (.cells #[.int .u64 xn] 23)).cell
            refine wpAnyIn_ready (rs := [5]) (by kernel_rfl) (by simp) ?_
            refine AllReadyIn.cons rfl (fun K hK => ?_) AllReadyIn.nil
            refine stepIn_own rfl (.tmp 24) (.tmp 28) 28 rfl (N + 2) 23 i0 (.int .u64 0) 8 Tryd.underlying28 hi hz0 hz1 hz2 rfl _ (wp l pre).length (gvs (wp l pre)) rfl (HR2.out.alloc _) ⟨w2.heap.size, 0, none⟩ 1 1 [.int .u64 xn] rfl rfl (cell_one_new _ _ _) (by simp [Value.oneCell']) (by unfold maxLen; omega) (by omega) (by simp; omega) ?_
            intro v' w3 hown' hgrow
            obtain ⟨g', cap', rfl⟩ := ownsRow_succ hown'
            obtain ⟨hv3, hv4, hr4, hk4, hb4⟩ := HV2.out.appended (by decide) (HR2.out.mono (show w.heap.size ≤ N + 2 by omega)) (by omega) (Nat.le_refl _) (hown'.mono (by omega)) hgrow
            have hc3 := hv3.cell
            have hf3 := hv3.frozen
            have HG := Lib.hid hgrow
            have HO := Lib.hid hown'
            have H4 := Lib.hid (And.intro hv4 (And.intro hk4 hb4))
            clear hv3 hv4 hr4 hk4 hb4 hgrow hown'
            refine hK _ _ ?_
            clear hK K
            refine wpAnyIn_ready (rs := [6]) (by kernel_rfl) (by simp) ?_
            refine AllReadyIn.cons rfl (fun K hK => ?_) AllReadyIn.nil
            go_simp
            refine hK _ _ ?_
            clear hK K
            refine wpAnyIn_done (by kernel_rfl) ?_ _
            gi_wp2
            exact words_round (by omega) (by omega) hs0 (HBr.out.trans (HB2.out.mono (by omega))) HV2.out HR2.out HG.out HO.out H4.out HB.out HCB.out HX1.out HX2.out HXN.out
          · go_simp
            refine hK _ _ ?_
            clear hK K
            refine wpAnyIn_ready (rs := [0, 3]) (by kernel_rfl) (by simp) ?_
            refine AllReadyIn.cons rfl (fun K hK => ?_) (AllReadyIn.cons rfl (fun K hK => ?_) AllReadyIn.nil)
            · go_simp
              refine hK _ _ ?_
              clear hK K
              refine wpAnyIn_ready (rs := [3]) (by kernel_rfl) (by simp) ?_
              refine AllReadyIn.cons rfl (fun K hK => ?_) AllReadyIn.nil
              go_simp
              gi_wp2_with (refine ⟨trivial, ?_⟩; gi_at_call 31; refine (CallsIn.inRound r (callsIn_wide.2 (HJ.out _))).mono ?_; rintro e w2 ⟨rfl, hb2⟩)
              have HB2 : Hid (Below wr.heap.size wr w2) := Lib.hid ((Below.refl wr.heap.size wr).drew.trans hb2)
              have HV2 : Hid (Boxed w2 w.heap.size 28 (.slice p (wp l pre).length cp)) := Lib.hid ((HB2.out.block _ hkl).trans HVr.out)
              have HR2 : Hid (w2.ownsRow (N + 2) 23 1 (.slice p (wp l pre).length cp) (wp l pre).length (gvs (wp l pre))) := Lib.hid (own_below HRr.out HB2.out)
              have hc2 := HV2.out.cell
              have hs2 := HB2.out.size
              clear hb2
              refine wpAnyIn_ready (rs := [4]) (by kernel_rfl) (by simp) ?_
              refine AllReadyIn.cons rfl (fun K hK => ?_) AllReadyIn.nil
              go_simp
              refine hK _ _ ?_
              clear hK K
              have hc2a := (HV2.out.alloc (.cells #[.int .u64 xn] 23)).cell
              refine wpAnyIn_ready (rs := [5]) (by kernel_rfl) (by simp) ?_
              refine AllReadyIn.cons rfl (fun K hK => ?_) AllReadyIn.nil
              refine stepIn_own rfl (.tmp 24) (.tmp 28) 28 rfl (N + 2) 23 i0 (.int .u64 0) 8 Tryd.underlying28 hi hz0 hz1 hz2 rfl _ (wp l pre).length (gvs (wp l pre)) rfl (HR2.out.alloc _) ⟨w2.heap.size, 0, none⟩ 1 1 [.int .u64 xn] rfl rfl (cell_one_new _ _ _) (by simp [Value.oneCell']) (by unfold maxLen; omega) (by omega) (by simp; omega) ?_
              intro v' w3 hown' hgrow
              obtain ⟨g', cap', rfl⟩ := ownsRow_succ hown'
              obtain ⟨hv3, hv4, hr4, hk4, hb4⟩ := HV2.out.appended (by decide) (HR2.out.mono (show w.heap.size ≤ N + 2 by omega)) (by omega) (Nat.le_refl _) (hown'.mono (by omega)) hgrow
              have hc3 := hv3.cell
              have hf3 := hv3.frozen
              have HG := Lib.hid hgrow
              have HO := Lib.hid hown'
              have H4 := Lib.hid (And.intro hv4 (And.intro hk4 hb4))
              clear hv3 hv4 hr4 hk4 hb4 hgrow hown'
              refine hK _ _ ?_
              clear hK K
              refine wpAnyIn_ready (rs := [6]) (by kernel_rfl) (by simp) ?_
              refine AllReadyIn.cons rfl (fun K hK => ?_) AllReadyIn.nil
              go_simp
              refine hK _ _ ?_
              clear hK K
              refine wpAnyIn_done (by kernel_rfl) ?_ _
              gi_wp2
              exact words_round (by omega) (by omega) hs0 (HBr.out.trans (HB2.out.mono (by omega))) HV2.out HR2.out HG.out HO.out H4.out HB.out HCB.out HX1.out HX2.out HXN.out
            · go_simp
              gi_wp2_with (refine ⟨trivial, ?_⟩; gi_at_call 31; refine (CallsIn.inRound r (callsIn_wide.2 (HJ.out _))).mono ?_; rintro e w2 ⟨rfl, hb2⟩)
              have HB2 : Hid (Below wr.heap.size wr w2) := Lib.hid ((Below.refl wr.heap.size wr).drew.trans hb2)
              have HV2 : Hid (Boxed w2 w.heap.size 28 (.slice p (wp l pre).length cp)) := Lib.hid ((HB2.out.block _ hkl).trans HVr.out)
              have HR2 : Hid (w2.ownsRow (N + 2) 23 1 (.slice p (wp l pre).length cp) (wp l pre).length (gvs (wp l pre))) := Lib.hid (own_below HRr.out HB2.out)
              have hc2 := HV2.out.cell
              have hs2 := HB2.out.size
              clear hb2
              refine wpAnyIn_ready (rs := [0, 4]) (by kernel_rfl) (by simp) ?_
              refine AllReadyIn.cons rfl (fun K hK => ?_) (AllReadyIn.cons rfl (fun K hK => ?_) AllReadyIn.nil)
              · go_simp
                refine hK _ _ ?_
                clear hK K
                refine wpAnyIn_ready (rs := [4]) (by kernel_rfl) (by simp) ?_
                refine AllReadyIn.cons rfl (fun K hK => ?_) AllReadyIn.nil
                go_simp
                refine hK _ _ ?_
                clear hK K
                have hc2a := (HV2.out.alloc (.cells #[.int .u64 xn] 23)).cell
                refine wpAnyIn_ready (rs := [5]) (by kernel_rfl) (by simp) ?_
                refine AllReadyIn.cons rfl (fun K hK => ?_) AllReadyIn.nil
                refine stepIn_own rfl (.tmp 24) (.tmp 28) 28 rfl (N + 2) 23 i0 (.int .u64 0) 8 Tryd.underlying28 hi hz0 hz1 hz2 rfl _ (wp l pre).length (gvs (wp l pre)) rfl (HR2.out.alloc _) ⟨w2.heap.size, 0, none⟩ 1 1 [.int .u64 xn] rfl rfl (cell_one_new _ _ _) (by simp [Value.oneCell']) (by unfold maxLen; omega) (by omega) (by simp; omega) ?_
                intro v' w3 hown' hgrow
                obtain ⟨g', cap', rfl⟩ := ownsRow_succ hown'
                obtain ⟨hv3, hv4, hr4, hk4, hb4⟩ := HV2.out.appended (by decide) (HR2.out.mono (show w.heap.size ≤ N + 2 by omega)) (by omega) (Nat.le_refl _) (hown'.mono (by omega)) hgrow
                have hc3 := hv3.cell
                have hf3 := hv3.frozen
                have HG := Lib.hid hgrow
                have HO := Lib.hid hown'
                have H4 := Lib.hid (And.intro hv4 (And.intro hk4 hb4))
                clear hv3 hv4 hr4 hk4 hb4 hgrow hown'
                refine hK _ _ ?_
                clear hK K
                refine wpAnyIn_ready (rs := [6]) (by kernel_rfl) (by simp) ?_
                refine AllReadyIn.cons rfl (fun K hK => ?_) AllReadyIn.nil
                go_simp
                refine hK _ _ ?_
                clear hK K
                refine wpAnyIn_done (by kernel_rfl) ?_ _
                gi_wp2
                exact words_round (by omega) (by omega) hs0 (HBr.out.trans (HB2.out.mono (by omega))) HV2.out HR2.out HG.out HO.out H4.out HB.out HCB.out HX1.out HX2.out HXN.out
              · go_simp
                refine hK _ _ ?_
                clear hK K
                have hc2a := (HV2.out.alloc (.cells #[.int .u64 xn] 23)).cell
                refine wpAnyIn_ready (rs := [0]) (by kernel_rfl) (by simp) ?_
                refine AllReadyIn.cons rfl (fun K hK => ?_) AllReadyIn.nil
                go_simp
                refine hK _ _ ?_
                clear hK K
                refine wpAnyIn_ready (rs := [5]) (by kernel_rfl) (by simp) ?_
                refine AllReadyIn.cons rfl (fun K hK => ?_) AllReadyIn.nil
                refine stepIn_own rfl (.tmp 24) (.tmp 28) 28 rfl (N + 2) 23 i0 (.int .u64 0) 8 Tryd.underlying28 hi hz0 hz1 hz2 rfl _ (wp l pre).length (gvs (wp l pre)) rfl (HR2.out.alloc _) ⟨w2.heap.size, 0, none⟩ 1 1 [.int .u64 xn] rfl rfl (cell_one_new _ _ _) (by simp [Value.oneCell']) (by unfold maxLen; omega) (by omega) (by simp; omega) ?_
                intro v' w3 hown' hgrow
                obtain ⟨g', cap', rfl⟩ := ownsRow_succ hown'
                obtain ⟨hv3, hv4, hr4, hk4, hb4⟩ := HV2.out.appended (by decide) (HR2.out.mono (show w.heap.size ≤ N + 2 by omega)) (by omega) (Nat.le_refl _) (hown'.mono (by omega)) hgrow
                have hc3 := hv3.cell
                have hf3 := hv3.frozen
                have HG := Lib.hid hgrow
                have HO := Lib.hid hown'
                have H4 := Lib.hid (And.intro hv4 (And.intro hk4 hb4))
                clear hv3 hv4 hr4 hk4 hb4 hgrow hown'
                refine hK _ _ ?_
                clear hK K
                refine wpAnyIn_ready (rs := [6]) (by kernel_rfl) (by simp) ?_
                refine AllReadyIn.cons rfl (fun K hK => ?_) AllReadyIn.nil
                go_simp
                refine hK _ _ ?_
                clear hK K
                refine wpAnyIn_done (by kernel_rfl) ?_ _
                gi_wp2
                exact words_round (by omega) (by omega) hs0 (HBr.out.trans (HB2.out.mono (by omega))) HV2.out HR2.out HG.out HO.out H4.out HB.out HCB.out HX1.out HX2.out HXN.out
  case done =>
    rintro D ys W hD hys ⟨⟨⟨v, hv, hrow, _⟩, -⟩, hB⟩ hK
    have hc := hv.cell
    rw [HSZ.out] at hD
    gi_wp2
    refine ⟨by simp, .inl ⟨_, _, rfl, run_takeDeferred hK, ?_⟩⟩
    refine ⟨_, results_tmp rfl _ _ _, v, rfl, ?_, hB.trans (belowK_b (w := w) (Nat.le_refl _) W D _ _ (by omega) hK rfl rfl)⟩
    have := ownsRow_putObj (hrow.mono (show w.heap.size ≤ N + 2 by omega)) (.deferred none) hK rfl
    rw [wp_all hys, wds_length] at this
    rw [HLL.out]
    exact this
  case stop =>
    rintro D c pre W _ _ h _
    exact h.elim
/-- A list of just these words is handed back in new memory. -/
def GivesU (l : List Int) (w : World) (e : Ending) (w' : World) : Prop := ∃ v, e = .returned v ∧ w'.ownsRow w.heap.size 23 1 v l.length (gvs l) ∧ Below w.heap.size w w'
theorem words_any (x : Wd) (w : World) (hs : x.length ≤ 100000) (hT : BT w) : Calls Tryd.prog 16 #[.string (str x)] w (GivesU (wds x) w) := by
  refine (callsIn_wide.1 (words_in 3 (Nat.le_refl _) (str x) (by rw [str_size]; exact hs) w hT)).mono ?_
  rintro e w' ⟨v, rfl, h1, h2⟩
  exact ⟨v, rfl, by rw [wds_length]; exact h1, h2⟩
end Go.Proofs.YthfeonmaajiajaaDoor
