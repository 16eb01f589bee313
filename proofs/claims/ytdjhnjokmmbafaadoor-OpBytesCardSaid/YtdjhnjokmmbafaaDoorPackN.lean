/-
  Bytes, and the document's own Bytes, come to one string: how many bytes are needed, and these, the lowest first.
-/
import Derived.Test.YtdjhnjokmmbafaaDoorPackD
import Derived.Test.YtdjhnjokmmbafaaDoorPackM
namespace Go.Proofs.YtdjhnjokmmbafaaDoor
open Go.ChangeShapes Go.WideShapes Go.ChangeAt Go.RowKit
set_option linter.unusedVariables false

theorem low0 (u : Int) : low u 0 = [] := rfl
theorem low1 (u : Int) (h0 : 0 ≤ u) (h1 : u < 256) : low u 1 = [u] := by
  have h : u % 256 = u := by omega
  simp [low, p8, h]
theorem low2 (u : Int) (h0 : 0 ≤ u) (h1 : u < 65536) : low u 2 = [u % 256, u / 256] := by
  have h : u / 256 % 256 = u / 256 := by omega
  simp [low, p8, h]
theorem low3 (u : Int) (h0 : 0 ≤ u) (h1 : u < 16777216) : low u 3 = [u % 256, u / 256 % 256, u / 65536] := by
  have h : u / 65536 % 256 = u / 65536 := by omega
  simp [low, p8, h]
theorem low4 (u : Int) (h0 : 0 ≤ u) (h1 : u < 4294967296) : low u 4 = [u % 256, u / 256 % 256, u / 65536 % 256, u / 16777216] := by
  have h : u / 16777216 % 256 = u / 16777216 := by omega
  simp [low, p8, h]
theorem low5 (u : Int) (h0 : 0 ≤ u) (h1 : u < 1099511627776) : low u 5 = [u % 256, u / 256 % 256, u / 65536 % 256, u / 16777216 % 256, u / 4294967296] := by
  have h : u / 4294967296 % 256 = u / 4294967296 := by omega
  simp [low, p8, h]
theorem low6 (u : Int) (h0 : 0 ≤ u) (h1 : u < 281474976710656) : low u 6 = [u % 256, u / 256 % 256, u / 65536 % 256, u / 16777216 % 256, u / 4294967296 % 256, u / 1099511627776] := by
  have h : u / 1099511627776 % 256 = u / 1099511627776 := by omega
  simp [low, p8, h]
theorem low7 (u : Int) (h0 : 0 ≤ u) (h1 : u < 72057594037927936) : low u 7 = [u % 256, u / 256 % 256, u / 65536 % 256, u / 16777216 % 256, u / 4294967296 % 256, u / 1099511627776 % 256, u / 281474976710656] := by
  have h : u / 281474976710656 % 256 = u / 281474976710656 := by omega
  simp [low, p8, h]
theorem low8 (u : Int) (h0 : 0 ≤ u) (h1 : u < 18446744073709551616) : low u 8 = [u % 256, u / 256 % 256, u / 65536 % 256, u / 16777216 % 256, u / 4294967296 % 256, u / 1099511627776 % 256, u / 281474976710656 % 256, u / 72057594037927936] := by
  have h : u / 72057594037927936 % 256 = u / 72057594037927936 := by omega
  simp [low, p8, h]

theorem bytes_need (u : Int) (K : Nat) (w : World) (h : Need u K) (hu : u ≤ 18446744073709551615) :
    Calls Tryd.prog 35 #[.int .u64 u] w fun e w' => e = .returned (.string (told u K)) ∧ Below w.heap.size w w' := by
  have hK := need_le h hu
  have hc : K = 0 ∨ K = 1 ∨ K = 2 ∨ K = 3 ∨ K = 4 ∨ K = 5 ∨ K = 6 ∨ K = 7 ∨ K = 8 := by omega
  clear hK
  rcases hc with rfl | rfl | rfl | rfl | rfl | rfl | rfl | rfl | rfl
  · obtain rfl : u = 0 := by
      obtain ⟨a, b, c⟩ := h
      rw [p8_zero] at b
      omega
    exact (bytes0 w).mono fun _ _ h => ⟨h.1, h.2.2⟩
  · have h1 : u < 256 := h.2.1
    have h2 : 1 ≤ u := by rcases h.2.2 with h2 | h2 <;> first | omega | exact h2
    unfold told
    rw [low1 u h.1 h1]
    exact (bytes1 u w h2 (by omega)).mono fun _ _ h => ⟨h.1, h.2.2⟩
  · have h1 : u < 65536 := h.2.1
    have h2 : 256 ≤ u := by rcases h.2.2 with h2 | h2 <;> first | omega | exact h2
    unfold told
    rw [low2 u h.1 h1]
    exact (bytes2 u w h2 (by omega)).mono fun _ _ h => ⟨h.1, h.2.2⟩
  · have h1 : u < 16777216 := h.2.1
    have h2 : 65536 ≤ u := by rcases h.2.2 with h2 | h2 <;> first | omega | exact h2
    unfold told
    rw [low3 u h.1 h1]
    exact (bytes3 u w h2 (by omega)).mono fun _ _ h => ⟨h.1, h.2.2⟩
  · have h1 : u < 4294967296 := h.2.1
    have h2 : 16777216 ≤ u := by rcases h.2.2 with h2 | h2 <;> first | omega | exact h2
    unfold told
    rw [low4 u h.1 h1]
    exact (bytes4 u w h2 (by omega)).mono fun _ _ h => ⟨h.1, h.2.2⟩
  · have h1 : u < 1099511627776 := h.2.1
    have h2 : 4294967296 ≤ u := by rcases h.2.2 with h2 | h2 <;> first | omega | exact h2
    unfold told
    rw [low5 u h.1 h1]
    exact (bytes5 u w h2 (by omega)).mono fun _ _ h => ⟨h.1, h.2.2⟩
  · have h1 : u < 281474976710656 := h.2.1
    have h2 : 1099511627776 ≤ u := by rcases h.2.2 with h2 | h2 <;> first | omega | exact h2
    unfold told
    rw [low6 u h.1 h1]
    exact (bytes6 u w h2 (by omega)).mono fun _ _ h => ⟨h.1, h.2.2⟩
  · have h1 : u < 72057594037927936 := h.2.1
    have h2 : 281474976710656 ≤ u := by rcases h.2.2 with h2 | h2 <;> first | omega | exact h2
    unfold told
    rw [low7 u h.1 h1]
    exact (bytes7 u w h2 (by omega)).mono fun _ _ h => ⟨h.1, h.2.2⟩
  · have h1 : u < 18446744073709551616 := h.2.1
    have h2 : 72057594037927936 ≤ u := by rcases h.2.2 with h2 | h2 <;> first | omega | exact h2
    unfold told
    rw [low8 u h.1 h1]
    exact (bytes8 u w h2 (by omega)).mono fun _ _ h => ⟨h.1, h.2.2⟩

theorem Tryd.info5 : (Tryd.prog.info? 5).map (fun i => (i.zero, i.size, i.bytes)) = some (some (.int .u8 0), 1, 1) := by kernel_rfl

/-- What holds when k bytes have been laid: the row, how many they are ahead. -/
def Laid (w : World) (u : Int) (k : Nat) (v : Value) (wr : World) : Prop :=
  wr.ownsRow w.heap.size 5 1 v (k + 1) (((k : Int) :: low u k).map (Value.int .u8)) ∧ Below w.heap.size w wr
theorem laid_start (w : World) (u : Int) : Laid w u 0 (.slice (some ⟨w.heap.size, 0, none⟩) 1 1) (w.alloc (.cells #[.int .u8 0] 5)) :=
  ⟨World.ownsRow_lit w #[.int .u8 0] 1 (Nat.le_refl _) (by decide) rfl, (Below.refl _ _).alloc (Nat.le_refl _) _⟩
theorem laid_parts {w : World} {u : Int} {k : Nat} {v : Value} {wr : World} (h : wr.ownsRow w.heap.size 5 1 v (k + 1 + 1) (((k : Int) :: low u k).map (Value.int .u8) ++ [.int .u8 (u / p8 k % 256)])) :
    ∃ g cap : Nat, v = .slice (some ⟨g, 0, none⟩) (k + 1 + 1) cap ∧ w.heap.size ≤ g ∧ wr.cell? ⟨g, 0, none⟩ = some (.int .u8 k) ∧ wr.frozen? ⟨g, 0, none⟩ = false ∧
      (wr.setCell ⟨g, 0, none⟩ (.int .u8 ((k : Int) + 1))).ownsRow w.heap.size 5 1 v (k + 1 + 1) ((((k + 1 : Nat) : Int) :: low u (k + 1)).map (Value.int .u8)) := by
  have h2 := h.2
  rcases h2 with ⟨_, hn⟩ | ⟨g, cap, cur, rfl, hg, hh, r⟩
  · omega
  · refine ⟨g, cap, rfl, hg, ?_, h.frozenAt 0, ?_⟩
    · rw [h.cellAt 0 (by omega)]; rfl
    · have hs := h.stored 0 (.int .u8 ((k : Int) + 1))
      simpa [low] using hs.1
theorem laid_next {w wr w1 : World} {u : Int} {k : Nat} {v : Value} {o : Obj} {g : Nat} {z : Value} (h : Laid w u k v wr) (hg : (wr.alloc o).grownBy w1 v.ownBlock) (hb : w.heap.size ≤ g) : Below w.heap.size w (w1.setCell ⟨g, 0, none⟩ z) := by
  have hs := h.2.size
  exact ((h.2.alloc hs o).grown hg (by simp; omega) (fun k hk => (h.1.lt k hk).1)).setCell hb z
theorem laid_text {w wr : World} {u : Int} {k : Nat} {v : Value} (h : Laid w u k v wr) :
    ∃ g cap : Nat, v = .slice (some ⟨g, 0, none⟩) (k + 1) cap ∧ Sem.run Tryd.prog (convert 52 9 (.slice (some ⟨g, 0, none⟩) (k + 1) cap)) wr = .ok (.string (told u k)) wr := by
  have h1 := h.1
  rcases h1.2 with ⟨_, hn⟩ | ⟨g, cap, cur, rfl, hg, hh, r⟩
  · omega
  · refine ⟨g, cap, rfl, ?_⟩
    refine run_convert_bytes_arg _ 52 5 Tryd.underlying52 Tryd.underlying5 _ _ _ _ ((k : Int) :: low u k) (by simp [low_length]) ?_ _ Tryd.underlying9
    intro i hi
    rw [Nat.zero_add, h1.cellAt i (by omega), List.getElem?_map, getD_of_lt _ i 0 (by simp [low_length]; omega)]
    rfl

set_option maxHeartbeats 400000 in
theorem refbytes_need (u : Int) (K : Nat) (w : World) (h : Need u K) (hu : u ≤ 18446744073709551615) :
    Calls Tryd.prog 54 #[.int .u64 u] w fun e w' => e = .returned (.string (told u K)) ∧ Below w.heap.size w w' := by
  have hK := need_le h hu
  obtain ⟨i0, hi, hz0, hz1, hz2⟩ := info_parts Tryd.info5
  go_enter Tryd.func54, Tryd.ntmps54
  go_wp2_with fail
  go_loopw [0, 3] (fun x v wr => ∃ k : Nat, k ≤ K ∧ x = .int .u64 (u / p8 k) ∧ Laid w u k v wr) (fun x _ _ => (intOf x).toNat)
  case atStart => exact ⟨0, Nat.zero_le _, by rw [p8_zero]; simp, laid_start w u⟩
  case round =>
    obtain ⟨k, hk, rfl, hL⟩ := hrel
    by_cases hlt : k < K
    · have hx := need_more h hlt
      have hx2 : u / p8 k ≤ 18446744073709551615 := by
        have := Int.ediv_le_self (p8 k) h.1
        omega
      have Hs := Lib.hid (div_p8_succ u k)
      have HL := Lib.hid hL
      clear hL
      have hwr : w.heap.size ≤ wr.heap.size := HL.out.2.size
      generalize hX : u / p8 k = x at *
      have HX := Lib.hid hX
      clear hX h
      go_wp2_with (first
        | (at_builtin; refine wpList_append_own _ rfl _ _ 52 rfl w.heap.size 5 i0 (.int .u8 0) 1 1 Tryd.underlying52 hi hz0 hz1 hz2 rfl (by decide) _ _ _ rfl (HL.out.1.alloc _) ⟨wr.heap.size, 0, none⟩ 1 1 [.int .u8 (x % 256)] rfl rfl ?c1 ?c2 ?c3 ?c4 ?c5 ?_)
        | fail)
      case c1 =>
        intro j z hj
        match j, hj with
        | 0, hj => simp at hj; subst hj; simp [Addr.add]
      case c2 => intro z hz; simp at hz; subst hz; rfl
      case c3 => unfold maxLen; omega
      case c4 => omega
      case c5 => simp; omega
      · intro v' w1 hown' hgrow _
        rw [← HX.out] at hown'
        obtain ⟨g, cap, rfl, hg, hc, hf, ho⟩ := laid_parts hown'
        have hb := laid_next (z := .int .u8 ((k : Int) + 1)) HL.out hgrow hg
        have Ho := Lib.hid ho
        have Hb := Lib.hid hb
        clear ho hb hown' hgrow
        have hk8 : (k : Int) ≤ 8 := by omega
        go_wp2_with fail
        go_roundw
        case rel => exact ⟨k + 1, by omega, by rw [Hs.out], Ho.out, Hb.out⟩
        case measure => simp [intOf]; omega
    · obtain rfl : k = K := by omega
      have hx := need_end h
      obtain ⟨g, cap, rfl, hr⟩ := laid_text hL
      have Hr := Lib.hid hr
      have Hb := Lib.hid hL.2
      clear hr hL
      rw [hx]
      clear hx h
      go_wp2_with fail
      rw [Hr.out]
      go_wp2
      go_ret
      exact ⟨rfl, Hb.out⟩
end Go.Proofs.YtdjhnjokmmbafaaDoor
