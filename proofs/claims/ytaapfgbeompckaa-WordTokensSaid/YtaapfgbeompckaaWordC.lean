/-
  The iterator over the words of a text, and the function that makes it: what it tells any loop.
-/
import Derived.Test.YtaapfgbeompckaaWordA
import Derived.RangeFuncNested
import Derived.RangeFuncBound
import Derived.RangeFuncCalls
import Derived.RangeFuncLeaves
import Derived.RangeFuncBox
import Derived.Shelf.Abstract
import Derived.OwnWalkIn
import Derived.TacticsInMore
import Derived.LoopNIn
import Derived.LoopIn
import Derived.Maps.OwnIn
import Derived.Maps.AppendAt
namespace Go.Proofs.Ytaapfgbeompckaa
open Go.RowKit
open Go.PlainAid (bt)
set_option linter.unusedVariables false
attribute [local go_sem] Oper.semAt_some

/-- What a round keeps: the text that is gone through. -/
def Kp (Bn : Nat) (W W' : World) : Prop := W'.cell? ⟨Bn, 0, none⟩ = W.cell? ⟨Bn, 0, none⟩

set_option maxRecDepth 100000 in
set_option maxHeartbeats 1000000 in
theorem words1_in (n : Nat) (hn : 1 ≤ n) (l Bn : Nat) (s : ByteArray) (hs : s.size ≤ 100000) (J Jx : List Wd → World → Prop)
    (hY : ∀ pre x W, J pre W → pre.length < (ws s).length → x.length ≤ 100000 → YieldAt Fence.wide (n - 1) Try.prog l #[.string (str x)] W fun e W' =>
      (e = .returned (.bool true) ∧ J (pre ++ [x]) W' ∧ Kp Bn W W') ∨ (e = .returned (.bool false) ∧ Jx (pre ++ [x]) W'))
    (W : World) (hB : W.cell? ⟨Bn, 0, none⟩ = some (.string s)) (h0 : J [] W) :
    CallsIn Fence.wide n Try.prog 28 #[.func (.yield l) #[] #[], .pointer (some ⟨Bn, 0, none⟩)] W fun e W' => (∃ v, e = .returned v) ∧
      ((∃ ys, ys = ws s ∧ J ys W') ∨ (∃ pre, pre <+: ws s ∧ Jx pre W')) := by
  refine callsIn_of_wp Try.func28 rfl trivial ?_ rfl
  simp only [Try.ntmps28, List.size_toArray, List.length_cons, List.length_nil, Nat.reduceAdd, Nat.reduceSub, Array.replicate_succ, Array.replicate_zero, List.push_toArray, List.append_toArray, List.nil_append, List.cons_append]
  have hF : Fence.wide.fn 29 := trivial
  gi_wp2
  gi_loopw [3, 7] (fun b k wr => ∃ (pre : List Wd) (x y : Nat), b = .int .i64 x ∧ k = .int .i64 y ∧ x ≤ y ∧ y ≤ s.size ∧ ws s = pre ++ split (cu s x y) (rs s y) ∧ wr.cell? ⟨Bn, 0, none⟩ = some (.string s) ∧ J pre wr)
    (fun _ k _ => s.size - (intOf k).toNat)
  case atStart =>
    exact ⟨[], 0, 0, rfl, rfl, Nat.le_refl _, Nat.zero_le _, rs_zero s, hB, h0⟩
  case round =>
    obtain ⟨pre, x, y, rfl, rfl, hxy, hy, hw, hc, hJ⟩ := hrel
    have hbt := PlainAid.get_bt s
    have HW := Lib.hid hw
    clear hw
    by_cases hlt : y < s.size
    · have h1 := PlainAid.bt_nonneg s y
      have h2 := PlainAid.bt_le s y
      have HC := fun W => callsIn_wide (n := n - 1).2 (isBlank_any (bt s y) W h1 h2)
      rcases Bool.eq_false_or_eq_true (bl (bt s y)) with hb | hb
      · rcases Nat.lt_or_ge x y with hx | hx
        · obtain ⟨fn, tmps, assign, body, hy', hR⟩ := hY pre (cu s x y) wr hJ (by rw [HW.out, step_b1 s hx hlt hb]; simp) (by rw [cu_length s hxy hy]; omega)
          rw [cu_str] at hy'
          gi_wp2_with (gi_at_call 29; refine (HC _).mono ?_; rintro e w' ⟨rfl, rfl⟩)
          refine hR.mono ?_
          rintro e W3 (⟨rfl, hJ3, hk3⟩ | ⟨rfl, hJx3⟩)
          · have hc3 : W3.cell? ⟨Bn, 0, none⟩ = some (.string s) := hk3.trans hc
            gi_wp2
            go_roundw
            case rel => exact ⟨pre ++ [cu s x y], y + 1, y + 1, by go_num, by go_num, Nat.le_refl _, by omega, by rw [HW.out, step_b1 s hx hlt hb]; simp, hc3, hJ3⟩
            case measure => simp [intOf]; omega
          · gi_wp2
            refine bodyPost_ret (results_none rfl _ _ _) rfl ?_
            exact ⟨⟨_, rfl⟩, .inr ⟨pre ++ [cu s x y], ⟨split (cu s (y + 1) (y + 1)) (rs s (y + 1)), by rw [HW.out, step_b1 s hx hlt hb]; simp⟩, hJx3⟩⟩
        · obtain rfl : x = y := by omega
          gi_wp2_with (gi_at_call 29; refine (HC _).mono ?_; rintro e w' ⟨rfl, rfl⟩)
          refine ⟨fun _ h => (by cases h), ?_⟩
          gi_wp2
          go_roundw
          case rel => exact ⟨pre, x + 1, x + 1, by go_num, by go_num, Nat.le_refl _, by omega, by rw [HW.out, step_b0 s hlt hb], hc, hJ⟩
          case measure => simp [intOf]; omega
      · gi_wp2_with (gi_at_call 29; refine (HC _).mono ?_; rintro e w' ⟨rfl, rfl⟩)
        go_roundw
        case rel => exact ⟨pre, x, y + 1, rfl, by go_num, by omega, by omega, by rw [HW.out, step_nb s hxy hlt hb], hc, hJ⟩
        case measure => simp [intOf]; omega
    · obtain rfl : y = s.size := by omega
      rcases Nat.lt_or_ge x s.size with hx | hx
      · obtain ⟨fn, tmps, assign, body, hy', hR⟩ := hY pre (cu s x s.size) wr hJ (by rw [HW.out, step_end s hx]; simp) (by rw [cu_length s hxy hy]; omega)
        rw [cu_str] at hy'
        gi_wp2
        refine hR.mono ?_
        rintro e W3 (⟨rfl, hJ3, hk3⟩ | ⟨rfl, hJx3⟩)
        · gi_wp2
          go_end0
          exact ⟨⟨_, rfl⟩, .inl ⟨pre ++ [cu s x s.size], by rw [HW.out, step_end s hx], hJ3⟩⟩
        · gi_wp2
          go_end0
          exact ⟨⟨_, rfl⟩, .inr ⟨pre ++ [cu s x s.size], by rw [HW.out, step_end s hx]; exact List.prefix_refl _, hJx3⟩⟩
      · obtain rfl : x = s.size := by omega
        gi_wp2
        go_end0
        exact ⟨⟨_, rfl⟩, .inl ⟨pre, by rw [HW.out, step_none s]; simp, hJ⟩⟩

set_option maxHeartbeats 400000 in
/-- words(s): the text is boxed; the function value captures the box. -/
theorem words_in (n : Nat) (s : ByteArray) (w : World) :
    CallsIn Fence.wide n Try.prog 24 #[.string s] w fun e w' => e = .returned (.func (.func 28) #[] #[.pointer (some ⟨w.heap.size, 0, none⟩)]) ∧ w' = w.alloc (.cells #[.string s] 9) := by
  refine callsIn_of_wp Try.func24 rfl trivial ?_ rfl
  simp only [Try.ntmps24, List.size_toArray, List.length_cons, List.length_nil, Nat.reduceAdd, Nat.reduceSub, Array.replicate_succ, Array.replicate_zero, List.push_toArray, List.append_toArray, List.nil_append, List.cons_append]
  gi_wp2
  go_ret
  exact ⟨rfl, rfl⟩

theorem words_stops (n : Nat) (hn : 1 ≤ n) (Bn : Nat) (s : ByteArray) (hs : s.size ≤ 100000) (w : World) (hBn : Bn < w.heap.size) (hc : w.cell? ⟨Bn, 0, none⟩ = some (.string s)) :
    SeqStopsK Fence.wide n Try.prog 28 #[.pointer (some ⟨Bn, 0, none⟩)] (fun x : Wd => #[Value.string (str x)]) (Kp Bn) (fun ys => ys = ws s) (fun pre => pre <+: ws s) (ws s).length w := fun l J Jx W hW _ _ hY h0 =>
  words1_in n hn l Bn s hs J Jx (fun pre x W h1 h2 _ => hY pre x W h1 h2) W ((hW.cell (p := ⟨Bn, 0, none⟩) hBn).trans hc) h0

/-- A word that is not too long. -/
abbrev Wq := { x : Wd // x.length ≤ 100000 }
theorem words_stopsQ (n : Nat) (hn : 1 ≤ n) (Bn : Nat) (s : ByteArray) (hs : s.size ≤ 100000) (w : World) (hBn : Bn < w.heap.size) (hc : w.cell? ⟨Bn, 0, none⟩ = some (.string s)) :
    SeqStopsK Fence.wide n Try.prog 28 #[.pointer (some ⟨Bn, 0, none⟩)] (fun x : Wq => #[Value.string (str x.1)]) (Kp Bn) (fun ys => ys.map (·.1) = ws s) (fun pre => pre.map (·.1) <+: ws s) (ws s).length w := by
  intro l J Jx W hW _ _ hY h0
  refine (words1_in n hn l Bn s hs (fun p W => ∃ q : List Wq, q.map (·.1) = p ∧ J q W) (fun p W => ∃ q : List Wq, q.map (·.1) = p ∧ Jx q W) ?_ W ((hW.cell (p := ⟨Bn, 0, none⟩) hBn).trans hc) ⟨[], rfl, h0⟩).mono ?_
  · rintro pre x W ⟨q, rfl, hJ⟩ hlen hx
    obtain ⟨fn, tmps, assign, body, hy, hR⟩ := hY q ⟨x, hx⟩ W hJ (by simpa using hlen)
    refine ⟨fn, tmps, assign, body, hy, hR.mono ?_⟩
    rintro e W3 (⟨rfl, hJ3, hk3⟩ | ⟨rfl, hJx3⟩)
    · exact .inl ⟨rfl, ⟨q ++ [⟨x, hx⟩], by simp, hJ3⟩, hk3⟩
    · exact .inr ⟨rfl, ⟨q ++ [⟨x, hx⟩], by simp, hJx3⟩⟩
  · rintro e W3 ⟨hv, (⟨ys, rfl, q, hq, hJ⟩ | ⟨pre, hp, q, hq, hJ⟩)⟩
    · exact ⟨hv, .inl ⟨q, hq, hJ⟩⟩
    · exact ⟨hv, .inr ⟨q, by show q.map (·.1) <+: ws s; rw [hq]; exact hp, hJ⟩⟩
end Go.Proofs.Ytaapfgbeompckaa
