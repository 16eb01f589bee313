/-
  Fold, and the document's own Fold, at any text.
-/
import Derived.Test.YtaapfgbeompckaaWordA
import Derived.Laws.IdiomStrings
import Derived.Laws.OwnMore
import Derived.Maps.AppendAt
import Derived.RangeFuncBox
namespace Go.Proofs.Ytaapfgbeompckaa
open Go.ChangeShapes Go.WideShapes Go.ChangeAt Go.RowKit
open Go.PlainAid (bt)
set_option linter.unusedVariables false

/-- A byte folded. -/
def fc (c : UInt8) : UInt8 := if cap (c.toNat : Int) = true then c + 32 else c
def fi (c : Int) : Int := if cap c = true then c + 32 else c
theorem fc_fi (c : UInt8) : ((fc c).toNat : Int) = fi (c.toNat : Int) := by
  unfold fc fi
  by_cases h : cap (c.toNat : Int) = true
  · rw [if_pos h, if_pos h]
    simp [cap] at h
    rw [UInt8.toNat_add]
    have : (32 : UInt8).toNat = 32 := rfl
    rw [this]
    omega
  · rw [if_neg h, if_neg h]
theorem fi_idem (c : Int) : fi (fi c) = fi c := by
  unfold fi
  by_cases h : cap c = true
  · have : cap (c + 32) = false := by simp [cap] at h ⊢; omega
    simp [h, this]
  · simp [h]
theorem fc_idem (c : UInt8) : fc (fc c) = fc c := by
  apply UInt8.toNat_inj.1
  have := fi_idem (c.toNat : Int)
  rw [← fc_fi, ← fc_fi] at this
  omega
/-- A text folded. -/
def fd (s : ByteArray) : ByteArray := str (s.data.toList.map fc)
theorem fd_size (s : ByteArray) : (fd s).size = s.size := by rw [fd, str_size, List.length_map, Lib.size_eq]
theorem fd_idem (s : ByteArray) : fd (fd s) = fd s := by
  unfold fd
  rw [str_data, List.map_map]
  congr 1
  apply List.map_congr_left
  intro c _
  exact fc_idem c
theorem fd_bt (s : ByteArray) (k : Nat) (h : k < s.size) : bt (fd s) k = fi (bt s k) := by
  have hl : k < s.data.toList.length := by rw [← Lib.size_eq]; exact h
  rw [fd, bt_str _ k (by rw [List.length_map]; exact hl), List.getElem_map, fc_fi, bt_get]
theorem fi_let (c : Int) : let_ (fi c) = let_ c := by
  unfold fi
  by_cases h : cap c = true
  · rw [if_pos h]; simp [cap] at h; rw [Bool.eq_iff_iff]; simp [let_]; omega
  · rw [if_neg h]
theorem fi_nb (c : Int) : nb (fi c) = nb c := by
  unfold fi
  by_cases h : cap c = true
  · rw [if_pos h]; simp [cap] at h; rw [Bool.eq_iff_iff]; simp [nb]; omega
  · rw [if_neg h]
theorem fd_nm (s : ByteArray) : nm (fd s) = nm s := by
  unfold nm
  refine decide_eq_decide.2 ?_
  unfold Nm
  rw [fd_size]
  constructor
  · rintro ⟨h1, h2, h3, h4⟩
    refine ⟨h1, h2, by rw [← fi_let, ← fd_bt s 0 (by omega)]; exact h3, fun k hk => by rw [← fi_nb, ← fd_bt s k hk]; exact h4 k hk⟩
  · rintro ⟨h1, h2, h3, h4⟩
    refine ⟨h1, h2, by rw [fd_bt s 0 (by omega), fi_let]; exact h3, fun k hk => by rw [fd_bt s k hk, fi_nb]; exact h4 k hk⟩

/-- Block g holds the bytes f, n of them. -/
def Byts (W : World) (g n : Nat) (f : Nat → Int) : Prop := ∀ j, j < n → W.cell? ⟨g, j, none⟩ = some (.int .u8 (f j)) ∧ W.frozen? ⟨g, j, none⟩ = false
theorem Byts.set {W : World} {g n : Nat} {f : Nat → Int} (h : Byts W g n f) {k : Nat} (hk : k < n) (v : Int) : Byts (W.setCell ⟨g, k, none⟩ (.int .u8 v)) g n (fun j => if j = k then v else f j) := by
  intro j hj
  rw [World.frozen?_setCell]
  refine ⟨?_, (h j hj).2⟩
  by_cases e : j = k
  · subst e
    show _ = some (Value.int .u8 (if j = j then v else f j))
    rw [if_pos rfl]
    exact World.cell?_setCell_same' _ _ _ (by rw [(h j hj).1]; rfl)
  · show _ = some (Value.int .u8 (if j = k then v else f j))
    rw [if_neg e, World.cell?_setCell_other W ⟨g, k, none⟩ ⟨g, j, none⟩ _ (fun e' => by cases e'; exact e rfl)]
    exact (h j hj).1
theorem Byts.congr {W : World} {g n : Nat} {f f' : Nat → Int} (h : Byts W g n f) (e : ∀ j, j < n → f j = f' j) : Byts W g n f' := fun j hj => by rw [← e j hj]; exact h j hj
theorem row_at {W : World} {g j n : Nat} {C : Array Value} {e : TypeId} {v : Value} (h : W.heap[g]? = some (.cells C e (n, n + 1))) (hc : C[j]? = some v) (hj : j < n) : W.cell? ⟨g, j, none⟩ = some v ∧ W.frozen? ⟨g, j, none⟩ = false := by
  constructor
  · simp [World.cell?, h, hc]
  · simp [World.frozen?, h]
    omega
theorem conv_bytes (s : ByteArray) (w : World) (hs : s.size ≤ 100000) : ∃ (cap : Nat) (W : World), Sem.run Try.prog (convert 9 29 (.string s)) w = .ok (.slice (some ⟨w.heap.size, 0, none⟩) s.size cap) W ∧ Byts W w.heap.size s.size (bt s) ∧ Below w.heap.size w W := by
  refine ⟨_, _, run_bytes_of_string w 9 29 5 s Try.underlying9 Try.underlying29 Try.underlying5, ?_, ?_⟩
  · intro j hj
    have hz : s.size ≤ (bytesRow s (grownCap w s.size 0 5)).size := by
      unfold bytesRow
      rw [Array.size_append, Array.size_map]
      exact Nat.le_add_right _ _
    have hb := bytesRow_at s (grownCap w s.size 0 5) j hj
    have hb' : ((s.data[j]'hj).toNat : Int) = bt s j := by rw [← PlainAid.get_bt s j hj]; rfl
    rw [hb'] at hb
    exact row_at (World.alloc_heap_new w.drew _) hb (by omega)
  · have hd : Below w.heap.size w w.drew := ⟨rfl, rfl, rfl, Nat.le_refl _, fun _ _ => rfl⟩
    exact hd.alloc (Nat.le_refl _) _
theorem conv_back (W : World) (g : Nat) (s : ByteArray) (cap : Nat) (h : Byts W g s.size (fun j => fi (bt s j))) : Sem.run Try.prog (convert 29 9 (.slice (some ⟨g, 0, none⟩) s.size cap)) W = .ok (.string (fd s)) W := by
  have hl : (s.data.toList.map fc).length = s.size := by rw [List.length_map, Lib.size_eq]
  have := run_convert_bytes_back (P := Try.prog) W 29 9 5 ⟨g, 0, none⟩ cap (s.data.toList.map fc) Try.underlying29 Try.underlying5 Try.underlying9 (by
    intro j hj
    have hj' : j < s.size := by omega
    have e : (⟨g, 0, none⟩ : Addr).add j = ⟨g, j, none⟩ := by unfold Addr.add; split <;> simp_all
    rw [e, (h j hj').1, List.getElem_map, fc_fi, bt_get])
  rw [hl] at this
  exact this

def mid (s : ByteArray) (k : Nat) (j : Nat) : Int := if j < k then fi (bt s j) else bt s j

set_option maxHeartbeats 1000000 in
theorem fold_any (s : ByteArray) (w : World) (hs : s.size ≤ 100000) :
    Calls Try.prog 19 #[.string s] w fun e w' => e = .returned (.string (fd s)) ∧ Below w.heap.size w w' := by
  obtain ⟨cp, W, hconv, hby, hbe⟩ := conv_bytes s w hs
  have HBY := Lib.hid hby
  have HBE := Lib.hid hbe
  clear hby hbe
  go_enter Try.func19, Try.ntmps19
  go_wp2
  go_loopw [10] (fun i wr => ∃ k : Nat, k ≤ s.size ∧ i = .int .i64 k ∧ Hid (Byts wr w.heap.size s.size (mid s k)) ∧ Hid (Below w.heap.size w wr)) (fun i _ => s.size - (intOf i).toNat)
  case atStart => exact ⟨0, Nat.zero_le _, rfl, Lib.hid (HBY.out.congr (fun j _ => by unfold mid; rw [if_neg (by omega)])), HBE⟩
  case round =>
    obtain ⟨k, hk, rfl, HB, HE⟩ := hrel
    have g1 := PlainAid.bt_nonneg s k
    have g2 := PlainAid.bt_le s k
    by_cases hlt : k < s.size
    · have hc := (HB.out k hlt).1
      have hf := (HB.out k hlt).2
      have hm : mid s k k = bt s k := by unfold mid; rw [if_neg (by omega)]
      rw [hm] at hc
      clear hm
      rcases Bool.eq_false_or_eq_true (cap (bt s k)) with hb | hb
      · have hb2 := hb
        simp [cap] at hb2
        obtain ⟨hb3, hb4⟩ := hb2
        go_wp2_with fail
        refine (isCapital_any _ _ g1 g2).mono ?_
        rintro e w' ⟨rfl, rfl⟩
        go_wp2
        go_roundw
        case rel =>
          refine ⟨k + 1, by omega, by go_num, Lib.hid ?_, Lib.hid (HE.out.setCell (p := ⟨w.heap.size, k, none⟩) (Nat.le_refl _) _)⟩
          refine (HB.out.set hlt (bt s k + 32)).congr ?_
          intro j hj
          show (if j = k then bt s k + 32 else mid s k j) = mid s (k + 1) j
          unfold mid
          by_cases e : j = k
          · subst e; rw [if_pos rfl, if_pos (by omega)]; unfold fi; rw [if_pos hb]
          · rw [if_neg e]
            by_cases e' : j < k
            · rw [if_pos e', if_pos (by omega)]
            · rw [if_neg e', if_neg (by omega)]
        case measure => simp [intOf] <;> omega
      · go_wp2_with fail
        refine (isCapital_any _ _ g1 g2).mono ?_
        rintro e w' ⟨rfl, rfl⟩
        go_wp2
        go_roundw
        case rel =>
          refine ⟨k + 1, by omega, by go_num, Lib.hid (HB.out.congr ?_), HE⟩
          intro j hj
          unfold mid
          by_cases e : j = k
          · subst e; rw [if_neg (by omega), if_pos (by omega)]; unfold fi; rw [if_neg (by simp [hb])]
          · by_cases e' : j < k
            · rw [if_pos e', if_pos (by omega)]
            · rw [if_neg e', if_neg (by omega)]
        case measure => simp [intOf] <;> omega
    · have hback := conv_back wr w.heap.size s cp (HB.out.congr (fun j hj => by unfold mid; rw [if_pos (by omega)]))
      go_wp2
      go_ret
      exact ⟨rfl, HE.out⟩
end Go.Proofs.Ytaapfgbeompckaa
