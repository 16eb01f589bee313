/-
  The reference's bytes of a number and of a text.
-/
import Derived.Test.YtdjhnjokmmbafaaDoorOpRc
namespace Go.Proofs.YtdjhnjokmmbafaaDoor
open Go.ChangeShapes Go.WideShapes Go.ChangeAt Go.RowKit
set_option linter.unusedVariables false
set_option linter.unusedSimpArgs false

set_option maxHeartbeats 1000000 in
theorem number_any (n : Int) (w : World) (hn : I64 n) : Calls Tryd.prog 47 #[.int .i64 n] w (GivesV (.string (ba (nb n))) w) := by
  obtain ⟨z0, z1⟩ := zig_bounds n hn.1 hn.2
  have HZ := Lib.hid (fun V => refzig_any n V hn.1 hn.2)
  have HB := Lib.hid (fun V => refbytes_need (zig n) (kOf (zig n)) V (kOf_need z0 z1) z1)
  obtain ⟨T, hT⟩ : ∃ T, T = told (zig n) (kOf (zig n)) := ⟨_, rfl⟩
  have HT : Hid (ba (nb n) = T) := Lib.hid (by rw [hT]; rfl)
  rw [HT.out]
  rw [← hT] at HB
  clear hT HT
  generalize zig n = u at *
  go_enter Tryd.func47, Tryd.ntmps47
  go_wp2_with fail
  refine (HZ.out _).mono ?_
  rintro e w' ⟨rfl, hw⟩
  obtain rfl := hw
  go_wp2_with fail
  refine (HB.out _).mono ?_
  rintro e w1 ⟨rfl, hb⟩
  have HB1 := Lib.hid hb
  clear hb
  go_wp2
  go_ret
  exact ⟨rfl, HB1.out⟩
theorem conv1 (c : Int) (w : World) : Sem.run Tryd.prog (convert 52 9 (.slice (some ⟨w.heap.size, 0, none⟩) 1 1)) (w.alloc (Obj.cells #[.int .u8 c] 5)) = .ok (.string (strOfNums [c])) (w.alloc (Obj.cells #[.int .u8 c] 5)) := by
  refine run_convert_bytes_arg _ 52 5 Tryd.underlying52 Tryd.underlying5 _ _ _ _ [c] rfl ?_ _ Tryd.underlying9
  intro i hi
  obtain rfl : i = 0 := by simp at hi; omega
  rw [World.cell?_alloc_mark]
  rfl
theorem one_byte (c : Nat) : strOfNums [(c : Int)] = ba [UInt8.ofNat c] := by
  simp [strOfNums, ba]
set_option maxHeartbeats 1000000 in
theorem text_any (s : ByteArray) (w : World) (hs : s.size ≤ 255) : Calls Tryd.prog 48 #[.string s] w (GivesV (.string (ba (tx s))) w) := by
  have hs' : (s.size : Int) ≤ 255 := by omega
  have hc := conv1 (s.size : Int) w
  obtain ⟨B, hB⟩ : ∃ B, B = strOfNums [(s.size : Int)] := ⟨_, rfl⟩
  have hBs : B.size = 1 := by rw [hB, one_byte]; rfl
  have HE : Hid (ba (tx s) = B ++ s) := Lib.hid (by
    rw [hB, one_byte]
    apply ByteArray.ext
    simp [ba, ByteArray.data_append, tx])
  rw [← hB] at hc
  rw [HE.out]
  have hA : ∀ W, (Op.stringOp .add B s).run Tryd.prog W = .ok (.string (B ++ s)) W := fun W => run_string_add_sum W _ _ (by omega)
  clear hB HE hBs
  go_enter Tryd.func48, Tryd.ntmps48
  go_wp2
  go_ret
  exact ⟨rfl, (Below.refl _ _).alloc (Nat.le_refl _) _⟩
end Go.Proofs.YtdjhnjokmmbafaaDoor
