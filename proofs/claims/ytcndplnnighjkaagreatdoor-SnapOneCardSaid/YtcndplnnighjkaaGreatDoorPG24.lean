/-
  What of package word's bytes the iterators ask.
-/
import Derived.Test.YtcndplnnighjkaaGreatDoorPG01
import Derived.Test.YtcndplnnighjkaaGreatDoorRows
import Derived.WalkKit
import Derived.ProofKit
import Derived.OpenShut
import Derived.IntWalk
import Derived.Lib.Hide
import Derived.RangeFuncNested
import Derived.RangeFuncBound
import Derived.RangeFuncCalls
import Derived.RangeFuncLeaves
import Derived.RangeFuncBox
import Derived.Shelf.Abstract
import Derived.OwnWalkIn
import Derived.TacticsInMore
import Derived.LoopNIn
import Derived.LoopIn
import Derived.Maps.OwnIn
import Derived.Maps.AppendAt
import Derived.Laws.IdiomStrings
import Derived.Laws.OwnMore
namespace Go.Proofs.YtcndplnnighjkaaGreatDoor
open Go.ChangeShapes Go.WideShapes Go.ChangeAt Go.RowKit
set_option linter.unusedVariables false
set_option maxHeartbeats 400000 in
theorem isBlank_any (c : Int) (w : World) (h0 : 0 <= c) (h1 : c <= 255) :
 Calls Tryz.prog 197 #[.int .u8 c] w fun e w' => e = .returned (.bool (bl c)) /\ w = w' := by
 go_enter Tryz.func197, Tryz.ntmps197
 go_wp2
 all_goals
  go_ret
  exact ⟨ret_bool (by simp [bl]; simp_all), rfl⟩
end Go.Proofs.YtcndplnnighjkaaGreatDoor
namespace Go.Proofs.YtcndplnnighjkaaGreatDoor.Wx
open Go.RowKit
open Go.PlainAid (bt)
set_option linter.unusedVariables false
attribute [local go_sem] Oper.semAt_some
def Kp (Bn : Nat) (W W' : World) : Prop := W'.cell? ⟨Bn, 0, none⟩ = W.cell? ⟨Bn, 0, none⟩
set_option maxRecDepth 100000 in
set_option maxHeartbeats 1000000 in
theorem words1_in (n : Nat) (hn : 1 <= n) (l Bn : Nat) (s : ByteArray) (hs : s.size <= 100000) (J Jx : List Wd -> World -> Prop)
 (hY : ∀ pre x W, J pre W -> pre.length < (ws s).length -> x.length <= 100000 -> YieldAt Fence.wide (n - 1) Tryz.prog l #[.string (str x)] W fun e W' =>
   (e = .returned (.bool true) /\ J (pre ++ [x]) W' /\ Kp Bn W W') \/ (e = .returned (.bool false) /\ Jx (pre ++ [x]) W'))
 (W : World) (hB : W.cell? ⟨Bn, 0, none⟩ = some (.string s)) (h0 : J [] W) :
 CallsIn Fence.wide n Tryz.prog 196 #[.func (.yield l) #[] #[], .pointer (some ⟨Bn, 0, none⟩)] W fun e W' => (∃ v, e = .returned v) /\
  ((∃ ys, ys = ws s /\ J ys W') \/ (∃ pre, pre <+: ws s /\ Jx pre W')) := by
 refine callsIn_of_wp Tryz.func196 rfl trivial ?_ rfl
 simp only [Tryz.ntmps196, List.size_toArray, List.length_cons, List.length_nil, Nat.reduceAdd, Nat.reduceSub, Array.replicate_succ, Array.replicate_zero, List.push_toArray, List.append_toArray, List.nil_append, List.cons_append]
 have hF : Fence.wide.fn 197 := trivial
 gi_wp2
 gi_loopw [3, 7] (fun b k wr => ∃ (pre : List Wd) (x y : Nat), b = .int .i64 x /\ k = .int .i64 y /\ x <= y /\ y <= s.size /\ ws s = pre ++ split (cu s x y) (rs s y) /\ wr.cell? ⟨Bn, 0, none⟩ = some (.string s) /\ J pre wr)
  (fun _ k _ => s.size - (intOf k).toNat)
 case atStart =>
  exact ⟨[], 0, 0, rfl, rfl, Nat.le_refl _, Nat.zero_le _, rs_zero s, hB, h0⟩
 case round =>
  obtain ⟨pre, x, y, rfl, rfl, hxy, hy, hw, hc, hJ⟩ := hrel
  have hbt := PlainAid.get_bt s
  have HW := Lib.hid hw
  clear hw
  by_cases hlt : y < s.size
  · have h1 := PlainAid.bt_nonneg s y
    have h2 := PlainAid.bt_le s y
    have HC := fun W => callsIn_wide (n := n - 1).2 (isBlank_any (bt s y) W h1 h2)
    rcases Bool.eq_false_or_eq_true (bl (bt s y)) with hb | hb
    · rcases Nat.lt_or_ge x y with hx | hx
      · obtain ⟨fn, tmps, assign, body, hy', hR⟩ := hY pre (cu s x y) wr hJ (by rw [HW.out, step_b1 s hx hlt hb]; simp) (by rw [cu_length s hxy hy]; omega)
        rw [cu_str] at hy'
        gi_wp2_with (gi_at_call 197; refine (HC _).mono ?_; rintro e w' ⟨rfl, rfl⟩)
        refine hR.mono ?_
        rintro e W3 (⟨rfl, hJ3, hk3⟩ | ⟨rfl, hJx3⟩)
        · have hc3 : W3.cell? ⟨Bn, 0, none⟩ = some (.string s) := hk3.trans hc
          gi_wp2
          go_roundw
          case rel => exact ⟨pre ++ [cu s x y], y + 1, y + 1, by go_num, by go_num, Nat.le_refl _, by omega, by rw [HW.out, step_b1 s hx hlt hb]; simp, hc3, hJ3⟩
          case measure => simp [intOf]; omega
        · gi_wp2
          refine bodyPost_ret (results_none rfl _ _ _) rfl ?_
          exact ⟨⟨_, rfl⟩, .inr ⟨pre ++ [cu s x y], ⟨split (cu s (y + 1) (y + 1)) (rs s (y + 1)), by rw [HW.out, step_b1 s hx hlt hb]; simp⟩, hJx3⟩⟩
      · obtain rfl : x = y := by omega
        gi_wp2_with (gi_at_call 197; refine (HC _).mono ?_; rintro e w' ⟨rfl, rfl⟩)
        refine ⟨fun _ h => (by cases h), ?_⟩
        gi_wp2
        go_roundw
        case rel => exact ⟨pre, x + 1, x + 1, by go_num, by go_num, Nat.le_refl _, by omega, by rw [HW.out, step_b0 s hlt hb], hc, hJ⟩
        case measure => simp [intOf]; omega
    · gi_wp2_with (gi_at_call 197; refine (HC _).mono ?_; rintro e w' ⟨rfl, rfl⟩)
      go_roundw
      case rel => exact ⟨pre, x, y + 1, rfl, by go_num, by omega, by omega, by rw [HW.out, step_nb s hxy hlt hb], hc, hJ⟩
      case measure => simp [intOf]; omega
  · obtain rfl : y = s.size := by omega
    rcases Nat.lt_or_ge x s.size with hx | hx
    · obtain ⟨fn, tmps, assign, body, hy', hR⟩ := hY pre (cu s x s.size) wr hJ (by rw [HW.out, step_end s hx]; simp) (by rw [cu_length s hxy hy]; omega)
      rw [cu_str] at hy'
      gi_wp2
      refine hR.mono ?_
      rintro e W3 (⟨rfl, hJ3, hk3⟩ | ⟨rfl, hJx3⟩)
      · gi_wp2
        go_end0
        exact ⟨⟨_, rfl⟩, .inl ⟨pre ++ [cu s x s.size], by rw [HW.out, step_end s hx], hJ3⟩⟩
      · gi_wp2
        go_end0
        exact ⟨⟨_, rfl⟩, .inr ⟨pre ++ [cu s x s.size], by rw [HW.out, step_end s hx]; exact List.prefix_refl _, hJx3⟩⟩
    · obtain rfl : x = s.size := by omega
      gi_wp2
      go_end0
      exact ⟨⟨_, rfl⟩, .inl ⟨pre, by rw [HW.out, step_none s]; simp, hJ⟩⟩
set_option maxHeartbeats 400000 in
theorem words_in (n : Nat) (s : ByteArray) (w : World) :
 CallsIn Fence.wide n Tryz.prog 195 #[.string s] w fun e w' => e = .returned (.func (.func 196) #[] #[.pointer (some ⟨w.heap.size, 0, none⟩)]) /\ w' = w.alloc (.cells #[.string s] 9) := by
 refine callsIn_of_wp Tryz.func195 rfl trivial ?_ rfl
 simp only [Tryz.ntmps195, List.size_toArray, List.length_cons, List.length_nil, Nat.reduceAdd, Nat.reduceSub, Array.replicate_succ, Array.replicate_zero, List.push_toArray, List.append_toArray, List.nil_append, List.cons_append]
 gi_wp2
 go_ret
 exact ⟨rfl, rfl⟩
theorem words_stops (n : Nat) (hn : 1 <= n) (Bn : Nat) (s : ByteArray) (hs : s.size <= 100000) (w : World) (hBn : Bn < w.heap.size) (hc : w.cell? ⟨Bn, 0, none⟩ = some (.string s)) :
 SeqStopsK Fence.wide n Tryz.prog 196 #[.pointer (some ⟨Bn, 0, none⟩)] (fun x : Wd => #[Value.string (str x)]) (Kp Bn) (fun ys => ys = ws s) (fun pre => pre <+: ws s) (ws s).length w := fun l J Jx W hW _ _ hY h0 =>
 words1_in n hn l Bn s hs J Jx (fun pre x W h1 h2 _ => hY pre x W h1 h2) W ((hW.cell (p := ⟨Bn, 0, none⟩) hBn).trans hc) h0
end Go.Proofs.YtcndplnnighjkaaGreatDoor.Wx
namespace Go.Proofs.YtcndplnnighjkaaGreatDoor.Wx
open Go.RowKit
open Go.PlainAid (bt)
set_option linter.unusedVariables false
attribute [local go_sem] Oper.semAt_some
theorem kp_t {Bn : Nat} {A B C : World} (h : Kp Bn A B) (k : Kp Bn B C) : Kp Bn A C := k.trans h
theorem kp_b {Bn : Nat} {w : World} (hn : Bn < w.heap.size) (W : World) (l : Nat) (o o' : Obj) (hl : w.heap.size <= l) (_ : W.heap[l]? = some o) (_ : o.isCells = false) (_ : o.isWalk = false) : Kp Bn W (W.putObj l o') :=
 World.cell?_of_block (World.putObj_heap_other (by show Bn ≠ l; omega))
set_option maxRecDepth 100000 in
set_option maxHeartbeats 2000000 in
theorem has_in (n : Nat) (hn : 3 <= n) (s t : ByteArray) (hs : s.size <= 100000) (w : World) :
 CallsIn Fence.wide n Tryz.prog 186 #[.string s, .string t] w fun e W' => e = .returned (.bool (decide (t.data.toList ∈ ws s))) /\ Below w.heap.size w W' := by
 have h1 : 1 <= n := by omega
 have hF : Fence.wide.fn 195 := trivial
 refine callsIn_of_wp_marks Tryz.func186 rfl trivial ?_ rfl
 simp only [Tryz.ntmps186, List.size_toArray, List.length_cons, List.length_nil, Nat.reduceAdd, Nat.reduceSub, Array.replicate_succ, Array.replicate_zero, List.push_toArray, List.append_toArray, List.nil_append, List.cons_append]
 gi_wp2_with (gi_at_call 195; refine (words_in (n - 1) _ _).mono ?_; rintro e w' ⟨rfl, rfl⟩)
 have b0 := Boxed.new w 9 (.string t)
 have b1 := Boxed.new (w.alloc (.cells #[.string t] 9)) 4 (.bool false)
 have b2 := Boxed.new ((w.alloc (.cells #[.string t] 9)).alloc (.cells #[.bool false] 4)) 9 (.string s)
 simp only [World.size_alloc] at b1 b2
 have hB0 : Below w.heap.size w (((w.alloc (.cells #[.string t] 9)).alloc (.cells #[.bool false] 4)).alloc (.cells #[.string s] 9)) := (((Below.refl _ w).alloc (Nat.le_refl _) _).alloc (by simp) _).alloc (by simp; omega) _
 refine wpIn_rangeFunc_ownG rfl h1 (gf := 196) (lb := #[.pointer (some ⟨w.heap.size + 1 + 1, 0, none⟩)]) rfl trivial (enters_of Tryz.func196 (by kernel_rfl) rfl)
  (words_stops (n - 1) (by omega) (w.heap.size + 1 + 1) s hs _ (by simp) b2.cell) kp_t (kp_b (by simp)) (Below.refl _ _) (fun _ => rfl)
  (fun pre W => ((∀ y ∈ pre, y ≠ t.data.toList) /\ W.cell? ⟨w.heap.size, 0, none⟩ = some (.string t) /\ W.cell? ⟨w.heap.size + 1, 0, none⟩ = some (.bool false) /\ W.frozen? ⟨w.heap.size + 1, 0, none⟩ = false) /\ Below w.heap.size w W)
  (fun c pre W => (c = .ret /\ t.data.toList ∈ pre /\ W.cell? ⟨w.heap.size + 1, 0, none⟩ = some (.bool true)) /\ Below w.heap.size w W)
  (OwnFrom.and (Own.from (fun s A B row hs hg hr => ⟨hs.1, cell_kept hs.2.1 hg hr, cell_kept hs.2.2.1 hg hr, (frozen_kept hs.2.2.1 hg hr).trans hs.2.2.2⟩) _) (ownFrom_below (Nat.le_refl _) (by simp; omega)))
  (fun c => OwnFrom.and (Own.from (fun s A B row hs hg hr => ⟨hs.1, hs.2.1, cell_kept hs.2.2 hg hr⟩) _) (ownFrom_below (Nat.le_refl _) (by simp; omega)))
  ⟨⟨by simp, ((b0.alloc _).alloc _).cell, (b1.alloc _).cell, (b1.alloc _).frozen⟩, hB0⟩
  (fun x => { tmps := #[.string s, .string t, undef, .pointer (some ⟨w.heap.size, 0, none⟩), .pointer (some ⟨w.heap.size + 1, 0, none⟩), .string (str x), .string s, .func (.func 196) #[] #[.pointer (some ⟨w.heap.size + 1 + 1, 0, none⟩)], .string (str x), undef, undef, undef], defers := [] }) ?assign ?body ?done ?stop
 case assign =>
  intro l x W K hK
  gi_wp2
  exact hK
 case body =>
  rintro l pre x W ⟨⟨hp, hcw, hcr, hfr⟩, hB⟩ _
  gi_wp2
  · rename_i hx
    have hx' : x = t.data.toList := by rw [str_toList, Lib.toList_data] at hx; exact eq_of_beq hx
    exact ⟨(KeepsOthers.setCell _ _ _).from _, ⟨rfl, List.mem_append.2 (.inr (by simp [hx'])), World.cell?_setCell_same' _ _ _ (by rw [hcr]; rfl)⟩, hB.setCell (p := ⟨w.heap.size + 1, 0, none⟩) (by simp) _⟩
  · rename_i hx
    have hx' : x ≠ t.data.toList := by
     intro e
     rw [str_toList, Lib.toList_data, e] at hx
     simp at hx
    exact ⟨KeepsFrom.refl _ _, rfl, ⟨fun y hy => (List.mem_append.1 hy).elim (hp y) (fun e => by simp at e; subst e; exact hx'), hcw, hcr, hfr⟩, hB⟩
 case done =>
  rintro D ys W hD rfl ⟨⟨hne, _, hcr, hfr⟩, hB⟩ hK
  gi_wp2
  have hK' := (KeepsOthers.setCell W ⟨w.heap.size + 1, 0, none⟩ (.bool false)).same D _ hK rfl
  refine ⟨by simp, .inl ⟨_, _, rfl, run_takeDeferred hK', ?_⟩⟩
  have hc5 := cell_kept (World.cell?_setCell_same' W ⟨w.heap.size + 1, 0, none⟩ (.bool false) (by rw [hcr]; rfl)) (grownBy_putObj' _ D (.deferred none)) (fun r e => by cases e; exact ⟨_, hK', rfl⟩)
  refine ⟨.bool false, ?_, by rw [decide_eq_false (fun h => hne _ h rfl)], (hB.setCell (p := ⟨w.heap.size + 1, 0, none⟩) (by simp) _).trans (belowK_b (w := w) (Nat.le_refl _) _ D _ _ (by simp at hD; omega) hK' rfl rfl)⟩
  simp [results, Tryz.f186, go_sem, hc5]
 case stop =>
  rintro D c pre W hD hpre ⟨⟨rfl, hin, hcr⟩, hB⟩ hK
  gi_wp2
  refine ⟨by simp, .inl ⟨_, _, rfl, run_takeDeferred hK, ?_⟩⟩
  have hc5 := cell_kept hcr (grownBy_putObj' _ D (.deferred none)) (fun r e => by cases e; exact ⟨_, hK, rfl⟩)
  refine ⟨.bool true, ?_, by rw [decide_eq_true (hpre.subset hin)], hB.trans (belowK_b (w := w) (Nat.le_refl _) W D _ _ (by simp at hD; omega) hK rfl rfl)⟩
  simp [results, Tryz.f186, go_sem, hc5]
theorem has_any (s t : ByteArray) (w : World) (hs : s.size <= 100000) :
 Calls Tryz.prog 186 #[.string s, .string t] w fun e w' => e = .returned (.bool (decide (t.data.toList ∈ ws s))) /\ Below w.heap.size w w' :=
 callsIn_wide.1 (has_in 3 (Nat.le_refl _) s t hs w)
end Go.Proofs.YtcndplnnighjkaaGreatDoor.Wx
namespace Go.Proofs.YtcndplnnighjkaaGreatDoor.Wx
open Go.ChangeShapes Go.WideShapes Go.ChangeAt Go.RowKit
open Go.PlainAid (bt)
set_option linter.unusedVariables false
def fc (c : UInt8) : UInt8 := if cap (c.toNat : Int) = true then c + 32 else c
def fi (c : Int) : Int := if cap c = true then c + 32 else c
theorem fc_fi (c : UInt8) : ((fc c).toNat : Int) = fi (c.toNat : Int) := by
 unfold fc fi
 by_cases h : cap (c.toNat : Int) = true
 · rw [if_pos h, if_pos h]
   simp [cap] at h
   rw [UInt8.toNat_add]
   have : (32 : UInt8).toNat = 32 := rfl
   rw [this]
   omega
 · rw [if_neg h, if_neg h]
def fd (s : ByteArray) : ByteArray := str (s.data.toList.map fc)
def Byts (W : World) (g n : Nat) (f : Nat -> Int) : Prop := ∀ j, j < n -> W.cell? ⟨g, j, none⟩ = some (.int .u8 (f j)) /\ W.frozen? ⟨g, j, none⟩ = false
theorem Byts.set {W : World} {g n : Nat} {f : Nat -> Int} (h : Byts W g n f) {k : Nat} (hk : k < n) (v : Int) : Byts (W.setCell ⟨g, k, none⟩ (.int .u8 v)) g n (fun j => if j = k then v else f j) := by
 intro j hj
 rw [World.frozen?_setCell]
 refine ⟨?_, (h j hj).2⟩
 by_cases e : j = k
 · subst e
   show _ = some (Value.int .u8 (if j = j then v else f j))
   rw [if_pos rfl]
   exact World.cell?_setCell_same' _ _ _ (by rw [(h j hj).1]; rfl)
 · show _ = some (Value.int .u8 (if j = k then v else f j))
   rw [if_neg e, World.cell?_setCell_other W ⟨g, k, none⟩ ⟨g, j, none⟩ _ (fun e' => by cases e'; exact e rfl)]
   exact (h j hj).1
theorem Byts.congr {W : World} {g n : Nat} {f f' : Nat -> Int} (h : Byts W g n f) (e : ∀ j, j < n -> f j = f' j) : Byts W g n f' := fun j hj => by rw [<- e j hj]; exact h j hj
theorem row_at {W : World} {g j n : Nat} {C : Array Value} {e : TypeId} {v : Value} (h : W.heap[g]? = some (.cells C e (n, n + 1))) (hc : C[j]? = some v) (hj : j < n) : W.cell? ⟨g, j, none⟩ = some v /\ W.frozen? ⟨g, j, none⟩ = false := by
 constructor
 · simp [World.cell?, h, hc]
 · simp [World.frozen?, h]
   omega
theorem conv_bytes (s : ByteArray) (w : World) (hs : s.size <= 100000) : ∃ (cap : Nat) (W : World), Sem.run Tryz.prog (convert 9 91 (.string s)) w = .ok (.slice (some ⟨w.heap.size, 0, none⟩) s.size cap) W /\ Byts W w.heap.size s.size (bt s) /\ Below w.heap.size w W := by
 refine ⟨_, _, run_bytes_of_string w 9 91 5 s Tryz.underlying9 Tryz.underlying91 Tryz.underlying5, ?_, ?_⟩
 · intro j hj
   have hz : s.size <= (bytesRow s (grownCap w s.size 0 5)).size := by
    unfold bytesRow
    rw [Array.size_append, Array.size_map]
    exact Nat.le_add_right _ _
   have hb := bytesRow_at s (grownCap w s.size 0 5) j hj
   have hb' : ((s.data[j]'hj).toNat : Int) = bt s j := by rw [<- PlainAid.get_bt s j hj]; rfl
   rw [hb'] at hb
   exact row_at (World.alloc_heap_new w.drew _) hb (by omega)
 · have hd : Below w.heap.size w w.drew := ⟨rfl, rfl, rfl, Nat.le_refl _, fun _ _ => rfl⟩
   exact hd.alloc (Nat.le_refl _) _
theorem conv_back (W : World) (g : Nat) (s : ByteArray) (cap : Nat) (h : Byts W g s.size (fun j => fi (bt s j))) : Sem.run Tryz.prog (convert 91 9 (.slice (some ⟨g, 0, none⟩) s.size cap)) W = .ok (.string (fd s)) W := by
 have hl : (s.data.toList.map fc).length = s.size := by rw [List.length_map, Lib.size_eq]
 have := run_convert_bytes_back (P := Tryz.prog) W 91 9 5 ⟨g, 0, none⟩ cap (s.data.toList.map fc) Tryz.underlying91 Tryz.underlying5 Tryz.underlying9 (by
  intro j hj
  have hj' : j < s.size := by omega
  have e : (⟨g, 0, none⟩ : Addr).add j = ⟨g, j, none⟩ := by unfold Addr.add; split <;> simp_all
  rw [e, (h j hj').1, List.getElem_map, fc_fi, bt_get])
 rw [hl] at this
 exact this
def mid (s : ByteArray) (k : Nat) (j : Nat) : Int := if j < k then fi (bt s j) else bt s j
set_option maxHeartbeats 1000000 in
theorem fold_any (s : ByteArray) (w : World) (hs : s.size <= 100000) :
 Calls Tryz.prog 181 #[.string s] w fun e w' => e = .returned (.string (fd s)) /\ Below w.heap.size w w' := by
 obtain ⟨cp, W, hconv, hby, hbe⟩ := conv_bytes s w hs
 have HBY := Lib.hid hby
 have HBE := Lib.hid hbe
 clear hby hbe
 go_enter Tryz.func181, Tryz.ntmps181
 go_wp2
 go_loopw [10] (fun i wr => ∃ k : Nat, k <= s.size /\ i = .int .i64 k /\ Hid (Byts wr w.heap.size s.size (mid s k)) /\ Hid (Below w.heap.size w wr)) (fun i _ => s.size - (intOf i).toNat)
 case atStart => exact ⟨0, Nat.zero_le _, rfl, Lib.hid (HBY.out.congr (fun j _ => by unfold mid; rw [if_neg (by omega)])), HBE⟩
 case round =>
  obtain ⟨k, hk, rfl, HB, HE⟩ := hrel
  have g1 := PlainAid.bt_nonneg s k
  have g2 := PlainAid.bt_le s k
  by_cases hlt : k < s.size
  · have hc := (HB.out k hlt).1
    have hf := (HB.out k hlt).2
    have hm : mid s k k = bt s k := by unfold mid; rw [if_neg (by omega)]
    rw [hm] at hc
    clear hm
    rcases Bool.eq_false_or_eq_true (cap (bt s k)) with hb | hb
    · have hb2 := hb
      simp [cap] at hb2
      obtain ⟨hb3, hb4⟩ := hb2
      go_wp2_with fail
      refine (isCapital_any _ _ g1 g2).mono ?_
      rintro e w' ⟨rfl, rfl⟩
      go_wp2
      go_roundw
      case rel =>
       refine ⟨k + 1, by omega, by go_num, Lib.hid ?_, Lib.hid (HE.out.setCell (p := ⟨w.heap.size, k, none⟩) (Nat.le_refl _) _)⟩
       refine (HB.out.set hlt (bt s k + 32)).congr ?_
       intro j hj
       show (if j = k then bt s k + 32 else mid s k j) = mid s (k + 1) j
       unfold mid
       by_cases e : j = k
       · subst e; rw [if_pos rfl, if_pos (by omega)]; unfold fi; rw [if_pos hb]
       · rw [if_neg e]
         by_cases e' : j < k
         · rw [if_pos e', if_pos (by omega)]
         · rw [if_neg e', if_neg (by omega)]
      case measure => simp [intOf] <;> omega
    · go_wp2_with fail
      refine (isCapital_any _ _ g1 g2).mono ?_
      rintro e w' ⟨rfl, rfl⟩
      go_wp2
      go_roundw
      case rel =>
       refine ⟨k + 1, by omega, by go_num, Lib.hid (HB.out.congr ?_), HE⟩
       intro j hj
       unfold mid
       by_cases e : j = k
       · subst e; rw [if_neg (by omega), if_pos (by omega)]; unfold fi; rw [if_neg (by simp [hb])]
       · by_cases e' : j < k
         · rw [if_pos e', if_pos (by omega)]
         · rw [if_neg e', if_neg (by omega)]
      case measure => simp [intOf] <;> omega
  · have hback := conv_back wr w.heap.size s cp (HB.out.congr (fun j hj => by unfold mid; rw [if_pos (by omega)]))
    go_wp2
    go_ret
    exact ⟨rfl, HE.out⟩
end Go.Proofs.YtcndplnnighjkaaGreatDoor.Wx
