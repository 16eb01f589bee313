/-
  The pieces of a text, as an iterator tells them.
-/
import Derived.Test.YthfeonmaajiajaaDoorRecF
import Derived.Laws.IdiomStrings
import Derived.RangeFuncNested
import Derived.RangeFuncBound
import Derived.RangeFuncCalls
import Derived.RangeFuncLeaves
import Derived.Shelf.Abstract
import Derived.Shelf.RegionOpen
import Derived.OwnWalkIn
import Derived.TacticsInMore
import Derived.LoopNIn
import Derived.LoopIn
namespace Go.Proofs.YthfeonmaajiajaaDoor
open Go.ChangeShapes Go.WideShapes Go.ChangeAt Go.RowKit
open Rm
set_option linter.unusedVariables false
set_option linter.unusedSimpArgs false
attribute [local go_sem] Oper.semAt_some

/-- Block g holds these bytes. -/
def CB (w : World) (g : Nat) (l : Wd) : Prop := ∀ (j : Nat) (x : UInt8), l[j]? = some x → w.cell? ⟨g, j, none⟩ = some (.int .u8 (x.toNat : Int))
theorem CB.below {w w' : World} {g B : Nat} {l : Wd} (h : CB w g l) (hb : Below B w w') (hg : g < B) : CB w' g l := fun j x hx => bcell hb hg (h j x hx)
theorem cell_of {w : World} {k j : Nat} {cs : Array Value} {t : TypeId} {f : Nat × Nat} {v : Value} (h : w.heap[k]? = some (.cells cs t f)) (hj : cs[j]? = some v) : w.cell? ⟨k, j, none⟩ = some v := by
  simp [World.cell?, h, hj]
theorem conv_bytes (s : ByteArray) (w : World) : ∃ (cap : Nat) (W : World), Sem.run Tryd.prog (convert 9 61 (.string s)) w = .ok (.slice (some ⟨w.heap.size, 0, none⟩) s.size cap) W ∧ CB W w.heap.size s.data.toList ∧ Below w.heap.size w W ∧ s.size ≤ cap ∧ w.heap.size < W.heap.size := by
  refine ⟨_, _, run_bytes_of_string w 9 61 5 s Tryd.underlying9 Tryd.underlying61 Tryd.underlying5, ?_, ?_, ?_, ?_⟩
  · intro j x hx
    obtain ⟨hj, e⟩ := List.getElem?_eq_some_iff.1 hx
    have hj' : j < s.data.size := by simpa using hj
    have hb := bytesRow_at s (grownCap w s.size 0 5) j hj'
    have hn := World.alloc_heap_new w.drew (.cells (bytesRow s (grownCap w s.size 0 5)) 5 ((bytesRow s (grownCap w s.size 0 5)).size, (bytesRow s (grownCap w s.size 0 5)).size + 1))
    have hx' : s.data[j] = x := by rw [← e]; simp
    rw [hx'] at hb
    exact cell_of hn hb
  · have hd : Below w.heap.size w w.drew := ⟨rfl, rfl, rfl, Nat.le_refl _, fun _ _ => rfl⟩
    exact hd.alloc (Nat.le_refl _) _
  · exact grownCap_ge _ _ _ _
  · show w.heap.size < (w.heap.push _).size
    simp

/-- The pieces' places. -/
abbrev Pc (n : Nat) := { i : Nat // 8 * i < n }
/-- The piece at i of n bytes in block g. -/
def pcv (g n : Nat) (i : Nat) : Value := .slice (some ⟨g, 8 * i, none⟩) (min 8 (n - 8 * i)) (min 8 (n - 8 * i))
/-- What a round keeps: the two boxes. -/
def Kb (B1 B2 : Nat) (W W' : World) : Prop := W'.cell? ⟨B1, 0, none⟩ = W.cell? ⟨B1, 0, none⟩ ∧ W'.cell? ⟨B2, 0, none⟩ = W.cell? ⟨B2, 0, none⟩
theorem nw_lt {n k : Nat} : k < nw n ↔ 8 * k < n := by unfold nw; omega

set_option maxRecDepth 100000 in
set_option maxHeartbeats 2000000 in
theorem chunk1_in (m : Nat) (hm : 1 ≤ m) (l B1 B2 g n cap : Nat) (hn : n ≤ 100000) (hcap : n ≤ cap) (J Jx : List (Pc n) → World → Prop)
    (hY : ∀ pre x W, J pre W → pre.length < nw n → YieldAt Fence.wide (m - 1) Tryd.prog l #[pcv g n x.1] W fun e W' =>
      (e = .returned (.bool true) ∧ J (pre ++ [x]) W' ∧ Kb B1 B2 W W') ∨ (e = .returned (.bool false) ∧ Jx (pre ++ [x]) W'))
    (W : World) (hB1 : W.cell? ⟨B1, 0, none⟩ = some (.slice (some ⟨g, 0, none⟩) n cap)) (hB2 : W.cell? ⟨B2, 0, none⟩ = some (.int .i64 8)) (h0 : J [] W) (hJd : ∀ pre W, J pre W → J pre W.drew) :
    CallsIn Fence.wide m Tryd.prog 40 #[.func (.yield l) #[] #[], .pointer (some ⟨B1, 0, none⟩), .pointer (some ⟨B2, 0, none⟩)] W fun e W' => (∃ v, e = .returned v) ∧
      ((∃ ys : List (Pc n), ys.map (·.1) = List.range (nw n) ∧ J ys W') ∨ (∃ pre : List (Pc n), pre.map (·.1) <+: List.range (nw n) ∧ Jx pre W')) := by
  refine callsIn_of_wp Tryd.func40 rfl trivial ?_ rfl
  simp only [Tryd.ntmps40, List.size_toArray, List.length_cons, List.length_nil, Nat.reduceAdd, Nat.reduceSub, Array.replicate_succ, Array.replicate_zero, List.push_toArray, List.append_toArray, List.nil_append, List.cons_append]
  gi_wp2
  gi_loopw [4] (fun i wr => ∃ (k : Nat) (pre : List (Pc n)), i = .int .i64 ((8 * k : Nat) : Int) ∧ k ≤ nw n ∧ Hid (pre.map (·.1) = List.range k) ∧ wr.cell? ⟨B1, 0, none⟩ = some (.slice (some ⟨g, 0, none⟩) n cap) ∧ wr.cell? ⟨B2, 0, none⟩ = some (.int .i64 8) ∧ Hid (J pre wr))
    (fun i _ => n + 8 - (intOf i).toNat)
  case atStart => exact ⟨0, [], rfl, Nat.zero_le _, Lib.hid rfl, hB1, hB2, Lib.hid h0⟩
  case round =>
    obtain ⟨k, pre, rfl, hk, HP, hc1, hc2, HJ⟩ := hrel
    by_cases hlt : 8 * k < n
    · have hkn := nw_lt.2 hlt
      have hk8 : 8 * k + 8 ≤ n + 8 := by omega
      have hne : ¬ cap = 8 * k := by omega
      have hlen : pre.length = k := by have := congrArg List.length HP.out; simpa using this
      obtain ⟨fn, tmps, assign, body, hy, hR⟩ := hY pre ⟨k, hlt⟩ wr.drew (hJd _ _ HJ.out) (by omega)
      dsimp only [pcv] at hy
      have hy2 := Lib.hid hy
      obtain ⟨e, he⟩ : ∃ e : Nat, min 8 (n - 8 * k) = e := ⟨_, rfl⟩
      have hmin : (if ((n - 8 * k : Nat) : Int) < 8 then ((n - 8 * k : Nat) : Int) else 8) = (e : Int) := by split <;> omega
      rw [he] at hy
      have e1 : 1 ≤ e := by omega
      have e8 : e ≤ 8 := by omega
      have e9 : 8 * k + e ≤ n := by omega
      have hne2 : ¬ 8 * k + e = 8 * k := by omega
      clear he hlen
      gi_wp2_with fail
      gi_region
      clear hmin
      gi_wp2
      refine hR.mono ?_
      rintro e' W3 (⟨rfl, hJ3, hk3⟩ | ⟨rfl, hJx3⟩)
      · have hc13 : W3.cell? ⟨B1, 0, none⟩ = some (.slice (some ⟨g, 0, none⟩) n cap) := hk3.1.trans hc1
        have hc23 : W3.cell? ⟨B2, 0, none⟩ = some (.int .i64 8) := hk3.2.trans hc2
        have HJ3 := Lib.hid hJ3
        clear hJ3 hk3
        gi_wp2
        go_roundw
        case rel => exact ⟨k + 1, pre ++ [⟨k, hlt⟩], by go_num, by omega, Lib.hid (by rw [List.map_append, HP.out, List.range_succ]; rfl), hc13, hc23, HJ3⟩
        case measure => simp [intOf]; omega
      · have HJx3 := Lib.hid hJx3
        clear hJx3
        gi_wp2
        refine bodyPost_ret (results_none rfl _ _ _) rfl ?_
        refine ⟨⟨_, rfl⟩, .inr ⟨pre ++ [⟨k, hlt⟩], ?_, HJx3.out⟩⟩
        rw [List.map_append, HP.out]
        show List.range k ++ [k] <+: List.range (nw n)
        rw [← List.range_succ]
        have e5 : List.range (nw n) = List.range (k + 1) ++ (List.range (nw n)).drop (k + 1) := by
          have := (List.take_append_drop (k + 1) (List.range (nw n))).symm
          rwa [List.take_range, Nat.min_eq_left (by omega)] at this
        rw [e5]
        exact List.prefix_append _ _
    · have hkn : ¬ k < nw n := fun h => hlt (nw_lt.1 h)
      obtain rfl : k = nw n := by omega
      gi_wp2
      go_end0
      exact ⟨⟨_, rfl⟩, .inl ⟨pre, HP.out, HJ.out⟩⟩
theorem chunk_stops (m : Nat) (hm : 1 ≤ m) (B1 B2 g n cap : Nat) (hn : n ≤ 100000) (hcap : n ≤ cap) (w : World) (h1 : B1 < w.heap.size) (h2 : B2 < w.heap.size) (hB1 : w.cell? ⟨B1, 0, none⟩ = some (.slice (some ⟨g, 0, none⟩) n cap)) (hB2 : w.cell? ⟨B2, 0, none⟩ = some (.int .i64 8)) :
    SeqStopsK Fence.wide m Tryd.prog 40 #[.pointer (some ⟨B1, 0, none⟩), .pointer (some ⟨B2, 0, none⟩)] (fun x : Pc n => #[pcv g n x.1]) (Kb B1 B2) (fun ys => ys.map (·.1) = List.range (nw n)) (fun pre => pre.map (·.1) <+: List.range (nw n)) (nw n) w := fun l J Jx W hW hJ _ hY h0 =>
  chunk1_in m hm l B1 B2 g n cap hn hcap J Jx hY W (bcell hW h1 hB1) (bcell hW h2 hB2) h0 (fun pre W1 h => hJ pre W1 W1.drew none h ⟨rfl, rfl, rfl, Nat.le_refl _, fun _ _ _ => rfl⟩ (fun r e => by cases e))
set_option maxHeartbeats 400000 in
theorem chunk_in (m : Nat) (g n cap : Nat) (w : World) :
    CallsIn Fence.wide m Tryd.prog 30 #[.slice (some ⟨g, 0, none⟩) n cap, .int .i64 8] w fun e w' => e = .returned (.func (.func 40) #[] #[.pointer (some ⟨w.heap.size, 0, none⟩), .pointer (some ⟨w.heap.size + 1, 0, none⟩)]) ∧ w' = (w.alloc (.cells #[.slice (some ⟨g, 0, none⟩) n cap] 61)).alloc (.cells #[.int .i64 8] 3) := by
  refine callsIn_of_wp Tryd.func30 rfl trivial ?_ rfl
  simp only [Tryd.ntmps30, List.size_toArray, List.length_cons, List.length_nil, Nat.reduceAdd, Nat.reduceSub, Array.replicate_succ, Array.replicate_zero, List.push_toArray, List.append_toArray, List.nil_append, List.cons_append]
  gi_wp2
  go_ret
  exact ⟨rfl, rfl⟩
end Go.Proofs.YthfeonmaajiajaaDoor
