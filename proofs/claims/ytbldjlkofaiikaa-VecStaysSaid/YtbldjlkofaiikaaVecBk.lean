/-
  The law VecBack.
-/
import Derived.Test.YtbldjlkofaiikaaVecGa
import Derived.Test.YtbldjlkofaiikaaVecXb
namespace Go.Proofs.Ytbldjlkofaiikaa
open Go.ChangeShapes Go.WideShapes Go.ChangeAt Go.RowKit
set_option linter.unusedVariables false
set_option linter.unusedSimpArgs false

set_option maxHeartbeats 1000000 in
theorem handles_eq (v : Value) (A : Option Addr) (cap : Nat) (l : List Int) (b : Nat) (w : World) (h : w.ownsRow b 41 1 v l.length (gvs l)) (h' : RL w A l) (hl : l.length ≤ 1000) :
    Calls Try.prog 20 #[v, .slice A l.length cap] w (GivesV (.bool true) w) := by
  obtain ⟨p, c, rfl, _, _, _⟩ := own_form h
  have HO := Lib.hid h
  have HO' := Lib.hid h'
  clear h h'
  obtain ⟨n, hn⟩ : ∃ n, l.length = n := ⟨_, rfl⟩
  rw [hn] at HO hl ⊢
  have HN := Lib.hid hn
  clear hn
  go_enter Try.func20, Try.ntmps20
  go_wp2
  go_loopw [5] (fun i wr => ∃ k : Nat, k ≤ n ∧ i = .int .i64 k ∧ Hid (∃ d, wr = w.drewN d)) (fun i _ => n - (intOf i).toNat)
  case atStart => exact ⟨0, Nat.zero_le _, rfl, Lib.hid ⟨0, rfl⟩⟩
  case round =>
    obtain ⟨k, hk, rfl, hd⟩ := hrel
    obtain ⟨d, rfl⟩ := hd.out
    by_cases hlt : k < n
    · have k0 : (0 : Int) ≤ (k : Int) := by omega
      have k1 : (k : Int) < (n : Int) := by omega
      obtain ⟨g, rfl, _, _⟩ := own_some HO.out (by omega)
      have hkl : k < l.length := by rw [HN.out]; exact hlt
      obtain ⟨g', off, rfl, _, hc⟩ := HO'.out (by omega)
      have c0 := own_at_gen HO.out hlt
      have c1 := RL.at_ hc hkl
      clear hc
      generalize l.getD k 0 = x at *
      go_wp2
      go_quiet (fail)
      go_wp2
      go_roundw
      case rel => exact ⟨k + 1, by omega, by go_num, Lib.hid ⟨d + nq, by simp⟩⟩
      case measure => simp [intOf] <;> omega
    · go_wp2
      go_ret
      exact ⟨rfl, below_drewN (Below.refl _ _) d⟩

/-- What a change comes to where there is room. -/
theorem step_wf {n : Nat} {G : Int} {p : Pl} {v : Vc} {l items : List Int} {old : List (List Int)} (hP : PK n G p) (hG : G ≤ 1099511627775) (hv : WF p v l old) (hi : items.length ≤ 200) (hU : U64 items) (hf : 68 ≤ p.st.free.length) :
    ∃ T : Told, p.change v items = T ∧ T.e = 0 ∧ T.v.size = items.length ∧ PK n G T.p ∧ Ext p T.p ∧ (∃ rows, WF T.p T.v items rows) ∧ p.st.free.length ≤ T.p.st.free.length + 68 := by
  have h68 := need_68 items.length (by omega)
  obtain ⟨q, rows, h, h2⟩ := raise_room (L := lvs items.length) (p := p) (old := old) (below := items) (by omega)
  obtain ⟨a, b, c, d⟩ := change_wf hP hG hv hi hU h
  exact ⟨_, a, rfl, rfl, b, c, ⟨rows, d⟩, by show p.st.free.length ≤ q.st.free.length + 68; omega⟩
/-- A pool told is laid into the variable of the one ahead. -/
theorem lay_step {w0 V w2 : World} {k b : Nat} {a1 a2 a3 a4 : Value} {p0 p1 : Pl} {vg vu vf vc : Value} (hX : PX V k a1 a2 a3 a4 p0) (hb : Below V.heap.size V w2) (hpa : PA w2 b vg vu vf vc p1) (h0 : Below w0.heap.size w0 V) (hk : w0.heap.size ≤ k) :
    ∃ S, S = (((w2.setCell ⟨k, 0, none⟩ vg).setCell ⟨k, 1, none⟩ vu).setCell ⟨k, 2, none⟩ vf).setCell ⟨k, 3, none⟩ vc ∧ PX S k vg vu vf vc p1 ∧ Below w0.heap.size w0 S ∧ S.heap.size = w2.heap.size ∧ (∀ j, j ≠ k → S.heap[j]? = w2.heap[j]?) := by
  have hX' := hX.below hb
  exact ⟨_, rfl, ⟨heap_s4 hX'.blk _ _ _ _, (hpa.drop (Nat.zero_le _)).set4t hX'.blk _ _ _ _⟩, below_set4 (h0.trans (hb.mono h0.size)) hk _ _ _ _, by simp, fun j hj => set4_other _ _ _ _ _ hj⟩
/-- .. and a vec of its own beside it. -/
theorem lay_vec {w0 S : World} {k : Nat} {vg vu vf vc : Value} {p : Pl} (hX : PX S k vg vu vf vc p) (h0 : Below w0.heap.size w0 S) (rt : Int) (sz : Nat) :
    ∃ V, V = S.alloc (.cells #[.int .u64 rt, .int .i64 sz] 43) ∧ PX V k vg vu vf vc p ∧ VX V S.heap.size ⟨rt, sz⟩ ∧ Below w0.heap.size w0 V ∧ Below S.heap.size S V :=
  ⟨_, rfl, hX.below ((Below.refl _ _).alloc (Nat.le_refl _) _), heap_alloc_new _ _, h0.alloc h0.size _, (Below.refl _ _).alloc (Nat.le_refl _) _⟩

end Go.Proofs.Ytbldjlkofaiikaa
